/-
  The walks of List and Set, the program's and the reference's. Condition: the list takes no more memory than the form's reach.
-/
import Derived.Test.YtlcipcgeanipfaaFpBytes
namespace Go.Proofs.Ytlcipcgeanipfaa
open Go.RowKit

def LsRel (l : List Nat) (u i : Value) : Prop :=
  ∃ k : Nat, k ≤ l.length ∧ i = .int .i64 (k : Int) ∧ u = .int .u64 ((jns l.length (l.take k) : Nat) : Int)
theorem lsRel_start (l : List Nat) : LsRel l (.int .u64 (l.length : Int)) (.int .i64 0) := ⟨0, Nat.zero_le _, rfl, rfl⟩
theorem lsRel_step {l : List Nat} {k : Nat} {u i : Int} (hl : k < l.length) (hi : i = ((k + 1 : Nat) : Int)) (hu : u = ((jn (jns l.length (l.take k)) l[k] : Nat) : Int)) : LsRel l (.int .u64 u) (.int .i64 i) :=
  ⟨k + 1, hl, by rw [hi], by rw [hu, take_step hl, jns_snoc]⟩
theorem ls_returned {l : List Nat} {k : Nat} (h : k = l.length) : Ending.returned (.int .u64 ((jns l.length (l.take k) : Nat) : Int)) = .returned (.int .u64 ((flist l : Nat) : Int)) := by
  subst h
  rw [List.take_length]
  rfl
def StRel (l : List Nat) (u i : Value) : Prop :=
  ∃ k : Nat, k ≤ l.length ∧ i = .int .i64 (k : Int) ∧ u = .int .u64 ((fsum 0 (l.take k) : Nat) : Int)
theorem stRel_start (l : List Nat) : StRel l (.int .u64 0) (.int .i64 0) := ⟨0, Nat.zero_le _, rfl, rfl⟩
theorem stRel_step {l : List Nat} {k : Nat} {u i : Int} (hl : k < l.length) (hi : i = ((k + 1 : Nat) : Int)) (hu : u = (((fsum 0 (l.take k) + fel l[k]) % 18446744073709551616 : Nat) : Int)) : StRel l (.int .u64 u) (.int .i64 i) :=
  ⟨k + 1, hl, by rw [hi], by rw [hu, take_step hl, fsum_snoc]⟩
theorem st_returned {l : List Nat} {k : Nat} (h : k = l.length) : Ending.returned (.int .u64 ((jn l.length (fsum 0 (l.take k)) : Nat) : Int)) = .returned (.int .u64 ((fset l : Nat) : Int)) := by
  subst h
  rw [List.take_length]
  rfl
theorem elI (x : Nat) : IntKind.u64.wrap ((x : Int) + 11400714819323198485) = (((x + 11400714819323198485) % 18446744073709551616 : Nat) : Int) := by
  rw [show (11400714819323198485 : Int) = ((11400714819323198485 : Nat) : Int) from rfl, addI]
set_option maxRecDepth 10000 in
set_option maxHeartbeats 800000 in
theorem list_any (A : Option Addr) (l : List Nat) (m c : Nat) (w : World) (hm : l.length = m) (hr : Rd w A (l.map uv)) (hl : ∀ x ∈ l, x < 18446744073709551616) (hreach : m ≤ 140737488351232) :
    Calls Try.prog 15 #[.slice A m c] w fun f w' => f = .returned (.int .u64 ((flist l : Nat) : Int)) ∧ w = w' := by
  subst hm
  go_enter Try.func15, Try.ntmps15
  go_wp2_with fail
  go_loop [3, 11] (fun u i => LsRel l u i) (fun _ i => l.length - (intOf i).toNat)
  case atStart => exact lsRel_start l
  case round =>
    obtain ⟨k, hk, rfl, rfl⟩ := hrel
    have hcl : jns l.length (l.take k) < 18446744073709551616 := jns_lt (by omega)
    by_cases hlt : k < l.length
    · have Hs := Lib.hid (fun u i hi hu => lsRel_step (u := u) (i := i) hlt hi hu)
      obtain ⟨ad, rfl, hc⟩ := hr.at_ (k := k) (by simp; omega)
      simp only [List.getElem_map] at hc
      have hx : l[k] < 18446744073709551616 := hl _ (List.getElem_mem _)
      generalize l[k] = x at *
      generalize jns l.length (l.take k) = h0 at *
      unfold uv at hc
      have Hr := Lib.hid hr; clear hr
      have Hl := Lib.hid hl; clear hl
      go_wp2_with fail
      refine (join_any _ _ _ _ _ rfl rfl).mono ?_
      rintro e w1 ⟨rfl, rfl⟩
      go_wp2_with fail
      go_round
      case rel => exact Hs.out _ _ (by go_num) rfl
      case measure => simp [intOf]; omega
    · have hkl : k = l.length := by omega
      have Hk := Lib.hid hkl; clear hkl
      go_wp2_with fail
      go_ret
      exact ⟨ls_returned Hk.out, rfl⟩
set_option maxRecDepth 10000 in
set_option maxHeartbeats 800000 in
theorem refList_any (A : Option Addr) (l : List Nat) (m c : Nat) (w : World) (hm : l.length = m) (hr : Rd w A (l.map uv)) (hl : ∀ x ∈ l, x < 18446744073709551616) (hreach : m ≤ 140737488351232) :
    Calls Try.prog 16 #[.slice A m c] w fun f w' => f = .returned (.int .u64 ((flist l : Nat) : Int)) ∧ w = w' := by
  subst hm
  go_enter Try.func16, Try.ntmps16
  go_wp2_with fail
  go_loop [3, 4] (fun u i => LsRel l u i) (fun _ i => l.length - (intOf i).toNat)
  case atStart => exact lsRel_start l
  case round =>
    obtain ⟨k, hk, rfl, rfl⟩ := hrel
    have hcl : jns l.length (l.take k) < 18446744073709551616 := jns_lt (by omega)
    by_cases hlt : k < l.length
    · have Hs := Lib.hid (fun u i hi hu => lsRel_step (u := u) (i := i) hlt hi hu)
      obtain ⟨ad, rfl, hc⟩ := hr.at_ (k := k) (by simp; omega)
      simp only [List.getElem_map] at hc
      have hx : l[k] < 18446744073709551616 := hl _ (List.getElem_mem _)
      generalize l[k] = x at *
      generalize jns l.length (l.take k) = h0 at *
      unfold uv at hc
      have Hr := Lib.hid hr; clear hr
      have Hl := Lib.hid hl; clear hl
      go_wp2_with fail
      refine (refJoin_any _ _ _ _ _ rfl rfl).mono ?_
      rintro e w1 ⟨rfl, rfl⟩
      go_wp2_with fail
      go_round
      case rel => exact Hs.out _ _ (by go_num) rfl
      case measure => simp [intOf]; omega
    · have hkl : k = l.length := by omega
      have Hk := Lib.hid hkl; clear hkl
      go_wp2_with fail
      go_ret
      exact ⟨ls_returned Hk.out, rfl⟩
set_option maxRecDepth 10000 in
set_option maxHeartbeats 800000 in
theorem set_any (A : Option Addr) (l : List Nat) (m c : Nat) (w : World) (hm : l.length = m) (hr : Rd w A (l.map uv)) (hl : ∀ x ∈ l, x < 18446744073709551616) (hreach : m ≤ 140737488351232) :
    Calls Try.prog 17 #[.slice A m c] w fun f w' => f = .returned (.int .u64 ((fset l : Nat) : Int)) ∧ w = w' := by
  subst hm
  go_enter Try.func17, Try.ntmps17
  go_wp2_with fail
  go_loop [3, 8] (fun u i => StRel l u i) (fun _ i => l.length - (intOf i).toNat)
  case atStart => exact stRel_start l
  case round =>
    obtain ⟨k, hk, rfl, rfl⟩ := hrel
    have hcl : fsum 0 (l.take k) < 18446744073709551616 := fsum_lt (by decide)
    by_cases hlt : k < l.length
    · have Hs := Lib.hid (fun u i hi hu => stRel_step (u := u) (i := i) hlt hi hu)
      obtain ⟨ad, rfl, hc⟩ := hr.at_ (k := k) (by simp; omega)
      simp only [List.getElem_map] at hc
      have hx : l[k] < 18446744073709551616 := hl _ (List.getElem_mem _)
      generalize l[k] = x at *
      generalize fsum 0 (l.take k) = h0 at *
      unfold uv at hc
      have Hr := Lib.hid hr; clear hr
      have Hl := Lib.hid hl; clear hl
      go_wp2_with fail
      refine (scramble_any _ _ _ (elI x) (Nat.mod_lt _ (by decide))).mono ?_
      rintro e w1 ⟨rfl, rfl⟩
      go_wp2_with fail
      go_round
      case rel => exact Hs.out _ _ (by go_num) (addI h0 _)
      case measure => simp [intOf]; omega
    · have hkl : k = l.length := by omega
      have Hk := Lib.hid hkl; clear hkl
      go_wp2_with fail
      refine (join_any _ _ _ _ _ rfl rfl).mono ?_
      rintro e w1 ⟨rfl, rfl⟩
      go_wp2_with fail
      go_ret
      exact ⟨st_returned Hk.out, rfl⟩
set_option maxRecDepth 10000 in
set_option maxHeartbeats 800000 in
theorem refSet_any (A : Option Addr) (l : List Nat) (m c : Nat) (w : World) (hm : l.length = m) (hr : Rd w A (l.map uv)) (hl : ∀ x ∈ l, x < 18446744073709551616) (hreach : m ≤ 140737488351232) :
    Calls Try.prog 18 #[.slice A m c] w fun f w' => f = .returned (.int .u64 ((fset l : Nat) : Int)) ∧ w = w' := by
  subst hm
  go_enter Try.func18, Try.ntmps18
  go_wp2_with fail
  go_loop [3, 4] (fun u i => StRel l u i) (fun _ i => l.length - (intOf i).toNat)
  case atStart => exact stRel_start l
  case round =>
    obtain ⟨k, hk, rfl, rfl⟩ := hrel
    have hcl : fsum 0 (l.take k) < 18446744073709551616 := fsum_lt (by decide)
    by_cases hlt : k < l.length
    · have Hs := Lib.hid (fun u i hi hu => stRel_step (u := u) (i := i) hlt hi hu)
      obtain ⟨ad, rfl, hc⟩ := hr.at_ (k := k) (by simp; omega)
      simp only [List.getElem_map] at hc
      have hx : l[k] < 18446744073709551616 := hl _ (List.getElem_mem _)
      generalize l[k] = x at *
      generalize fsum 0 (l.take k) = h0 at *
      unfold uv at hc
      have Hr := Lib.hid hr; clear hr
      have Hl := Lib.hid hl; clear hl
      go_wp2_with fail
      refine (refScramble_any _ _ _ (elI x) (Nat.mod_lt _ (by decide))).mono ?_
      rintro e w1 ⟨rfl, rfl⟩
      go_wp2_with fail
      go_round
      case rel => exact Hs.out _ _ (by go_num) (addI h0 _)
      case measure => simp [intOf]; omega
    · have hkl : k = l.length := by omega
      have Hk := Lib.hid hkl; clear hkl
      go_wp2_with fail
      refine (refJoin_any _ _ _ _ _ rfl rfl).mono ?_
      rintro e w1 ⟨rfl, rfl⟩
      go_wp2_with fail
      go_ret
      exact ⟨st_returned Hk.out, rfl⟩
end Go.Proofs.Ytlcipcgeanipfaa
