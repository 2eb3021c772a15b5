/-
  The walk of EvaluateOperations, but for the example of its chapter. Condition: that example runs.
-/
import Derived.Test.YtjmbllbnlnjanaaEvOp
namespace Go.Proofs.Ytjmbllbnlnjanaa
open Go.RowKit

theorem wrap64_mod (x : Int) : wrap64 x % 18446744073709551616 = x % 18446744073709551616 := by unfold wrap64; omega
theorem wrap64_eq {x a : Int} (h : x % 18446744073709551616 = a % 18446744073709551616) (h1 : -9223372036854775808 ≤ a) (h2 : a ≤ 9223372036854775807) : wrap64 x = a := by unfold wrap64; omega
theorem div_back (a b : Int) (h1 : -9223372036854775808 ≤ a) (h2 : a ≤ 9223372036854775807) : wrap64 (wrap64 (wrap64 (a.tdiv b) * b) + a.tmod b) = a := by
  refine wrap64_eq ?_ h1 h2
  have e : a.tdiv b * b + a.tmod b = a := by
    have := Int.mul_tdiv_add_tmod a b
    rw [Int.mul_comm b] at this
    exact this
  rw [Int.add_emod, wrap64_mod, Int.mul_emod, wrap64_mod, ← Int.mul_emod, ← Int.add_emod, e]
/-- The law's last line: the quotient times b and the remainder are a. -/
theorem apP_back {a b : Int} (h1 : -9223372036854775808 ≤ a) (h2 : a ≤ 9223372036854775807) (hb : ¬ b = 0) : apP 6 a b = (wrap64 (a.tdiv b), true) ∧ apP 7 a b = (a.tmod b, true) ∧ wrap64 (wrap64 ((apP 6 a b).1 * b) + (apP 7 a b).1) = a := by
  have e6 : apP 6 a b = (wrap64 (a.tdiv b), true) := by simp [apP, hb]
  have e7 : apP 7 a b = (a.tmod b, true) := by simp [apP, hb]
  refine ⟨e6, e7, ?_⟩
  rw [e6, e7]
  exact div_back a b h1 h2
theorem apP_zero (a : Int) : apP 6 a 0 = (0, false) ∧ apP 7 a 0 = (0, false) := by
  constructor <;> simp [apP]
end Go.Proofs.Ytjmbllbnlnjanaa
namespace Go.Proofs.Ytjmbllbnlnjanaa
open Go.RowKit

def AwakeC : Prop := ∀ w : World, Calls Try.prog 5 #[] w fun e w' => e = .returned (.bool true) ∧ Below w.heap.size w w'
theorem below_dz {B : Nat} {w w' : World} (h : Below B w w') (n : Nat) : Below B w (w'.drewN n) := ⟨h.os, h.tape, h.output, h.size, h.block⟩
theorem bnez {b : Int} (h : ¬ b = 0) : (b != 0) = true := by simp [h]
set_option maxRecDepth 10000 in
set_option maxHeartbeats 1000000 in
theorem ops_any (hA : AwakeC) (op a b k : Int) (w : World) (h1 : -9223372036854775808 ≤ a) (h2 : a ≤ 9223372036854775807) (hk : 0 ≤ k) (hk2 : k < 256) :
    Calls Try.prog 3 #[.int .i64 op, .int .i64 a, .int .i64 b, .int .u8 k] w fun e w' => e = .returned (.bool true) ∧ Below w.heap.size w w' := by
  have HA := Lib.hid hA
  clear hA
  go_enter Try.func3, Try.ntmps3
  go_wp2_with fail
  refine (HA.out _).mono ?_
  rintro e w1 ⟨rfl, hb1⟩
  have HB1 := Lib.hid hb1
  clear hb1
  go_wp2_with fail
  obtain ⟨W, hW⟩ : ∃ W, W = w1.alloc (.cells #[.int .i64 op, .int .i64 (k % 14)] 3) := ⟨_, rfl⟩
  have hrow : W.heap[w1.heap.size]? = some (.cells #[.int .i64 op, .int .i64 (k % 14)] 3 (0, 0)) := by rw [hW]; exact heap_alloc_new w1 _
  have HB : Hid (Below w.heap.size w W) := Lib.hid (by rw [hW]; exact HB1.out.trans (((Below.refl _ w1).alloc (Nat.le_refl _) _).mono HB1.out.size))
  rw [← hW]
  clear hW HB1
  have Hrow := Lib.hid hrow
  have hlt := (Array.getElem?_eq_some_iff.1 hrow).1
  clear hrow
  go_loopw [27] (fun v wr => ∃ j : Nat, j ≤ 2 ∧ v = .int .i64 (j : Int) ∧ Hid (Below W.heap.size W wr)) (fun v _ => 2 - (intOf v).toNat)
  case atStart => exact ⟨0, Nat.zero_le _, rfl, Lib.hid (Below.refl _ _)⟩
  case round =>
    obtain ⟨j, hj, rfl, HBr⟩ := hrel
    by_cases hlt2 : j < 2
    · obtain ⟨o, ho⟩ : ∃ o : Int, wr.cell? ⟨w1.heap.size, j, none⟩ = some (.int .i64 o) := by
        have h := (HBr.out.block _ hlt).trans Hrow.out
        rcases (show j = 0 ∨ j = 1 by omega) with rfl | rfl
        · exact ⟨_, cell_of_row _ _ 0 _ _ _ h⟩
        · exact ⟨_, cell_of_row _ _ 1 _ _ _ h⟩
      go_wp2_with fail
      refine (apply_e o a b _).mono ?_
      rintro e w2 ⟨rfl, n2, rfl⟩
      go_wp2_with fail
      refine (apply_7 o a b _).mono ?_
      rintro e w3 ⟨rfl, n3, rfl⟩
      generalize apP o a b = q
      obtain ⟨q1, q2⟩ := q
      dsimp only
      go_wp2_with fail
      refine (unary_e o a _).mono ?_
      rintro e w4 ⟨rfl, rfl⟩
      go_wp2_with fail
      refine (unary_7 o a _).mono ?_
      rintro e w5 ⟨rfl, rfl⟩
      have HB5 : Hid (Below W.heap.size W (wr.drewN (n2 + n3))) := Lib.hid (below_dz HBr.out _)
      go_wp2_with fail
      exact ⟨⟨j + 1, by omega, by simp, HB5⟩, by simp [intOf]; omega⟩
    · have hj2 : j = 2 := by omega
      subst hj2
      go_wp2_with fail
      refine (apply_e 6 a b _).mono ?_
      rintro e w2 ⟨rfl, n2, rfl⟩
      go_wp2_with fail
      refine (apply_e 7 a b _).mono ?_
      rintro e w3 ⟨rfl, n3, rfl⟩
      have HB5 : Hid (Below w.heap.size w (wr.drewN (n2 + n3))) := Lib.hid (below_dz (HB.out.trans (HBr.out.mono HB.out.size)) _)
      by_cases hb : b = 0
      · subst hb
        rw [(apP_zero a).1, (apP_zero a).2]
        go_wp2_with fail
        go_ret
        exact ⟨rfl, HB5.out⟩
      · obtain ⟨e6, e7, e8⟩ := apP_back h1 h2 hb
        rw [e6, e7] at e8
        rw [e6, e7]
        have hbz := bnez hb
        dsimp only at e8
        clear e6 e7
        go_wp2_with fail
        go_ret
        exact ⟨rfl, HB5.out⟩
end Go.Proofs.Ytjmbllbnlnjanaa
