/-
  The walks of the reference's PutUint, PutInt, Uint, Int and Equal. Condition: the slices are not longer than the form's reach.
-/
import Derived.Test.YthgfbfocccekfaaDoorBack
import Derived.Deep.QuietTactic
import Derived.BigQuiet
namespace Go.Proofs.YthgfbfocccekfaaDoor
open Go.RowKit

theorem wrap_div128 (m : Nat) (h : m < 18446744073709551616) : IntKind.u64.wrap ((m : Int) / 128) = (m : Int) / 128 := by
  rw [IntKind.wrap_u64]
  omega
theorem zig_pos2 (i : Nat) : (2 * (i : Int)) = ((zig i : Nat) : Int) := by
  unfold zig
  rw [if_pos (by omega)]
  omega
theorem zig_neg2 (i : Int) (h : i < 0) : (2 * -(i + 1) + 1) = ((zig i : Nat) : Int) := by
  unfold zig
  rw [if_neg (by omega)]
  omega
set_option maxRecDepth 10000 in
set_option maxHeartbeats 400000 in
theorem refPutUint_any (A : Option Addr) (xs : List Value) (k c : Nat) (n : Nat) (w : World) (hk : xs.length = k) (hr : Rd w A xs) (h1 : ∀ u ∈ xs, u.oneCell' = true) (hn : n < 18446744073709551616) (hreach : k ≤ 140737488351232) :
    Calls Tryd.prog 11 #[.slice A k c, .int .u64 n] w fun e w' => ∃ v, e = .returned v ∧ Sl w' w.heap.size 5 v (xs ++ (enc n).map bv) ∧ Below w.heap.size w w' := by
  subst hk
  have Hn := Lib.hid hn; clear hn
  have Hr := Lib.hid hr; clear hr
  have H1 := Lib.hid h1; clear h1
  have hx : xs.length ≤ 140737488351232 := hreach
  go_enter Tryd.func11, Tryd.ntmps11
  go_wp2_with (at_builtin; refine Pause.out ?_)
  refine Pause.of (wpList_appendB _ rfl _ _ rfl w.heap.size _ _ rfl Sl.nil_ A _ c _ rfl rfl Hr.out H1.out (by simp; omega) (Nat.le_refl _) ?_)
  intro v1 w1 hs1 hb1
  have Hs1 := Lib.hid hs1; clear hs1
  have Hb1 := Lib.hid hb1; clear hb1
  go_wp2_with fail
  go_loopw [5, 1] (fun v u wr => PuRel w.heap.size xs n w v u wr) (fun _ u _ => (intOf u).toNat)
  case atStart => exact ⟨10, n, [], rfl, by have := Hn.out; omega, by omega, Hn.out, rfl, rfl, by simpa using Hs1.out, Hb1.out⟩
  case round =>
    obtain ⟨f, m, ys, rfl, hm1, hf, hm2, hys, hl, hs, hb⟩ := hrel
    have hlen : ys.length ≤ 9 := by omega
    have H := Lib.hid hys; clear hys
    have Hl := Lib.hid hl; clear hl
    have Hm2 := Lib.hid hm2; clear hm2
    have Hm1 := Lib.hid hm1; clear hm1
    have hbs : w.heap.size ≤ wr.heap.size := hb.size
    have Hs := Lib.hid hs; clear hs
    have Hb := Lib.hid hb; clear hb
    by_cases hge : 128 ≤ m
    · go_wp2_with (at_builtin; refine Pause.out ?_)
      refine Pause.of (wpList_appendB _ rfl _ _ rfl w.heap.size _ _ rfl (Hs.out.alloc _) (some ⟨wr.heap.size, 0, none⟩) 1 1 [.int .u8 ((m : Int) % 128 + 128)] rfl rfl (Rd.of_cells (cell_one_new _ _ _)) (one_cell_u8 _) (by simp; omega) (by simp; omega) ?_)
      intro v2 w2 hs2 hb2
      have Hs2 := Lib.hid hs2; clear hs2
      have Hb2 := Lib.hid hb2; clear hb2
      go_wp2_with fail
      rw [wrap_div128 m Hm2.out]
      exact ⟨putUint_step Hm1.out Hm2.out H.out Hl.out hge Hb.out hbs (by omega) Hs2.out Hb2.out, by simp [intOf]; omega⟩
    · have hlt : m < 128 := by omega
      go_wp2_with (at_builtin; refine Pause.out ?_)
      refine Pause.of (wpList_appendB _ rfl _ _ rfl w.heap.size _ _ rfl (Hs.out.alloc _) (some ⟨wr.heap.size, 0, none⟩) 1 1 [.int .u8 (m : Int)] rfl rfl (Rd.of_cells (cell_one_new _ _ _)) (one_cell_u8 _) (by simp; omega) (by simp; omega) ?_)
      intro v2 w2 hs2 hb2
      have Hs2 := Lib.hid hs2; clear hs2
      have Hb2 := Lib.hid hb2; clear hb2
      go_wp2_with fail
      go_ret
      exact ⟨_, rfl, putUint_last hf H.out hlt Hb.out hbs Hs2.out Hb2.out⟩

set_option maxRecDepth 10000 in
theorem refPutInt_pos (A : Option Addr) (xs : List Value) (k c : Nat) (i : Nat) (w : World) (hi : i ≤ 9223372036854775807) (hk : xs.length = k) (hr : Rd w A xs) (h1 : ∀ u ∈ xs, u.oneCell' = true) (hreach : k ≤ 140737488351232) :
    Calls Tryd.prog 13 #[.slice A k c, .int .i64 (i : Int)] w fun e w' => ∃ v, e = .returned v ∧ Sl w' w.heap.size 5 v (xs ++ (enc (zig i)).map bv) ∧ Below w.heap.size w w' := by
  have C := refPutUint_any A xs k c (zig i) w hk hr h1 (zig_lt i (by omega) (by omega)) hreach
  have H := Lib.hid C; clear C hk h1
  go_enter Tryd.func13, Tryd.ntmps13
  go_wp2_with fail
  rw [zig_pos2 i]
  refine H.out.mono ?_
  rintro e w1 ⟨v, rfl, h2, h3⟩
  have H2 := Lib.hid h2; clear h2
  have H3 := Lib.hid h3; clear h3
  go_wp2_with fail
  go_ret
  exact ⟨v, rfl, H2.out, H3.out⟩
set_option maxRecDepth 10000 in
theorem refPutInt_neg (A : Option Addr) (xs : List Value) (k c : Nat) (i : Int) (w : World) (hi : -9223372036854775808 ≤ i) (h0 : i < 0) (hk : xs.length = k) (hr : Rd w A xs) (h1 : ∀ u ∈ xs, u.oneCell' = true) (hreach : k ≤ 140737488351232) :
    Calls Tryd.prog 13 #[.slice A k c, .int .i64 i] w fun e w' => ∃ v, e = .returned v ∧ Sl w' w.heap.size 5 v (xs ++ (enc (zig i)).map bv) ∧ Below w.heap.size w w' := by
  have C := refPutUint_any A xs k c (zig i) w hk hr h1 (zig_lt i (by omega) (by omega)) hreach
  have H := Lib.hid C; clear C hk h1
  go_enter Tryd.func13, Tryd.ntmps13
  go_wp2_with fail
  rw [zig_neg2 i h0]
  refine H.out.mono ?_
  rintro e w1 ⟨v, rfl, h2, h3⟩
  have H2 := Lib.hid h2; clear h2
  have H3 := Lib.hid h3; clear h3
  go_wp2_with fail
  go_ret
  exact ⟨v, rfl, H2.out, H3.out⟩
theorem refPutInt_any (A : Option Addr) (xs : List Value) (k c : Nat) (i : Int) (w : World) (hi : -9223372036854775808 ≤ i) (hi' : i ≤ 9223372036854775807) (hk : xs.length = k) (hr : Rd w A xs) (h1 : ∀ u ∈ xs, u.oneCell' = true) (hreach : k ≤ 140737488351232) :
    Calls Tryd.prog 13 #[.slice A k c, .int .i64 i] w fun e w' => ∃ v, e = .returned v ∧ Sl w' w.heap.size 5 v (xs ++ (enc (zig i)).map bv) ∧ Below w.heap.size w w' := by
  rcases Int.lt_or_le i 0 with h0 | h0
  · exact refPutInt_neg A xs k c i w hi h0 hk hr h1 hreach
  · obtain ⟨q, rfl⟩ := Int.eq_ofNat_of_zero_le h0
    exact refPutInt_pos A xs k c q w (by omega) hk hr h1 hreach
/-- Equal's relation: so far the bytes are the same. -/
def EqRel (l : List Nat) (w : World) (i : Value) (wr : World) : Prop := ∃ (k n : Nat), k ≤ l.length ∧ i = .int .i64 (k : Int) ∧ wr = w.drewN n
set_option maxRecDepth 10000 in
theorem equal_same (A B : Option Addr) (l : List Nat) (m c d : Nat) (w : World) (hm : l.length = m) (ha : Rd w A (l.map bv)) (hb : Rd w B (l.map bv)) (hreach : m ≤ 140737488351232) :
    Calls Tryd.prog 9 #[.slice A m c, .slice B m d] w fun e w' => e = .returned (.bool true) ∧ Below w.heap.size w w' := by
  subst hm
  go_enter Tryd.func9, Tryd.ntmps9
  go_wp2_with fail
  go_loopw [5] (fun i wr => EqRel l w i wr) (fun i _ => l.length - (intOf i).toNat)
  case atStart => exact ⟨0, 0, by omega, rfl, rfl⟩
  case round =>
    obtain ⟨k, n, hk, rfl, rfl⟩ := hrel
    by_cases hkl : k < l.length
    · obtain ⟨ad, rfl, hca⟩ := ha.at_ (k := k) (by simp; omega)
      obtain ⟨bd, rfl, hcb⟩ := hb.at_ (k := k) (by simp; omega)
      simp only [List.getElem_map] at hca hcb
      unfold bv at hca hcb
      generalize l[k] = x at *
      have Ha := Lib.hid ha; clear ha
      have Hb := Lib.hid hb; clear hb
      go_wp2_with fail
      go_quiet (fail)
      go_wp2_with fail
      exact ⟨⟨k + 1, n + nq, by omega, by simp, rfl⟩, by simp [intOf]; omega⟩
    · go_wp2_with fail
      go_ret
      exact ⟨rfl, ⟨rfl, rfl, rfl, Nat.le_refl _, fun _ _ => rfl⟩⟩
end Go.Proofs.YthgfbfocccekfaaDoor
