/-
  The walks of Bytes and Text, the program's and the reference's. Condition: the bytes take no more memory than the form's reach.
-/
import Derived.Test.YtlcipcgeanipfaaFpScr
import Derived.Test.YtlcipcgeanipfaaBase
import Derived.Test.YtlcipcgeanipfaaWords
namespace Go.Proofs.Ytlcipcgeanipfaa
open Go.RowKit

theorem fnvI (h x : Nat) (hh : h < 18446744073709551616) (hx : x < 256) : IntKind.u64.wrap (bits .xor .u64 (h : Int) (x : Int) * 1099511628211) = ((fnv h x : Nat) : Int) := by
  rw [bits_xor_u64_nat h x hh (by omega), show (1099511628211 : Int) = ((1099511628211 : Nat) : Int) from rfl, mulI]
  rfl
theorem fnvs_take {l : List Nat} {k : Nat} (hl : k < l.length) : fnvs 14695981039346656037 (l.take (k + 1)) = fnv (fnvs 14695981039346656037 (l.take k)) l[k] := by
  rw [take_step hl, fnvs_snoc]
def FbRel (l : List Nat) (u i : Value) : Prop :=
  ∃ k : Nat, k ≤ l.length ∧ i = .int .i64 (k : Int) ∧ u = .int .u64 ((fnvs 14695981039346656037 (l.take k) : Nat) : Int)
theorem fbRel_start (l : List Nat) : FbRel l (.int .u64 14695981039346656037) (.int .i64 0) := ⟨0, Nat.zero_le _, rfl, rfl⟩
theorem fbRel_step {l : List Nat} {k : Nat} {u i : Int} (hl : k < l.length) (hi : i = ((k + 1 : Nat) : Int)) (hu : u = ((fnv (fnvs 14695981039346656037 (l.take k)) l[k] : Nat) : Int)) : FbRel l (.int .u64 u) (.int .i64 i) :=
  ⟨k + 1, hl, by rw [hi], by rw [hu, fnvs_take hl]⟩
theorem fb_returned {l : List Nat} {k : Nat} (h : k = l.length) : Ending.returned (.int .u64 ((scr (fnvs 14695981039346656037 (l.take k)) : Nat) : Int)) = .returned (.int .u64 ((fbytes l : Nat) : Int)) := by
  subst h
  rw [List.take_length]
  rfl
set_option maxRecDepth 10000 in
set_option maxHeartbeats 800000 in
theorem bytes_any (A : Option Addr) (l : List Nat) (m c : Nat) (w : World) (hm : l.length = m) (hr : Rd w A (l.map bv)) (hl : ∀ x ∈ l, x < 256) (hreach : m ≤ 140737488351232) :
    Calls Try.prog 11 #[.slice A m c] w fun f w' => f = .returned (.int .u64 ((fbytes l : Nat) : Int)) ∧ w = w' := by
  subst hm
  go_enter Try.func11, Try.ntmps11
  go_wp2_with fail
  go_loop [3, 8] (fun u i => FbRel l u i) (fun _ i => l.length - (intOf i).toNat)
  case atStart => exact fbRel_start l
  case round =>
    obtain ⟨k, hk, rfl, rfl⟩ := hrel
    have hcl : fnvs 14695981039346656037 (l.take k) < 18446744073709551616 := fnvs_lt (by decide)
    by_cases hlt : k < l.length
    · have Hs := Lib.hid (fun u i hi hu => fbRel_step (u := u) (i := i) hlt hi hu)
      obtain ⟨ad, rfl, hc⟩ := hr.at_ (k := k) (by simp; omega)
      simp only [List.getElem_map] at hc
      have hx : l[k] < 256 := hl _ (List.getElem_mem _)
      generalize l[k] = x at *
      generalize fnvs 14695981039346656037 (l.take k) = h0 at *
      have Hf := Lib.hid (fnvI h0 x hcl hx)
      unfold bv at hc
      have Hr := Lib.hid hr; clear hr
      have Hl := Lib.hid hl; clear hl
      go_wp2_with fail
      go_round
      case rel => exact Hs.out _ _ (by go_num) Hf.out
      case measure => simp [intOf]; omega
    · have hkl : k = l.length := by omega
      have Hk := Lib.hid hkl; clear hkl
      go_wp2_with fail
      refine (scramble_any _ _ _ rfl hcl).mono ?_
      rintro e w1 ⟨rfl, rfl⟩
      go_wp2_with fail
      go_ret
      exact ⟨fb_returned Hk.out, rfl⟩
set_option maxRecDepth 10000 in
set_option maxHeartbeats 800000 in
theorem refBytes_any (A : Option Addr) (l : List Nat) (m c : Nat) (w : World) (hm : l.length = m) (hr : Rd w A (l.map bv)) (hl : ∀ x ∈ l, x < 256) (hreach : m ≤ 140737488351232) :
    Calls Try.prog 12 #[.slice A m c] w fun f w' => f = .returned (.int .u64 ((fbytes l : Nat) : Int)) ∧ w = w' := by
  subst hm
  go_enter Try.func12, Try.ntmps12
  go_wp2_with fail
  go_loop [3, 4] (fun u i => FbRel l u i) (fun _ i => l.length - (intOf i).toNat)
  case atStart => exact fbRel_start l
  case round =>
    obtain ⟨k, hk, rfl, rfl⟩ := hrel
    have hcl : fnvs 14695981039346656037 (l.take k) < 18446744073709551616 := fnvs_lt (by decide)
    by_cases hlt : k < l.length
    · have Hs := Lib.hid (fun u i hi hu => fbRel_step (u := u) (i := i) hlt hi hu)
      obtain ⟨ad, rfl, hc⟩ := hr.at_ (k := k) (by simp; omega)
      simp only [List.getElem_map] at hc
      have hx : l[k] < 256 := hl _ (List.getElem_mem _)
      generalize l[k] = x at *
      generalize fnvs 14695981039346656037 (l.take k) = h0 at *
      have Hf := Lib.hid (fnvI h0 x hcl hx)
      unfold bv at hc
      have Hr := Lib.hid hr; clear hr
      have Hl := Lib.hid hl; clear hl
      go_wp2_with fail
      go_round
      case rel => exact Hs.out _ _ (by go_num) Hf.out
      case measure => simp [intOf]; omega
    · have hkl : k = l.length := by omega
      have Hk := Lib.hid hkl; clear hkl
      go_wp2_with fail
      refine (refScramble_any _ _ _ rfl hcl).mono ?_
      rintro e w1 ⟨rfl, rfl⟩
      go_wp2_with fail
      go_ret
      exact ⟨fb_returned Hk.out, rfl⟩
end Go.Proofs.Ytlcipcgeanipfaa
