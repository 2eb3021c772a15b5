/-
  The walks of the reference's writer for expressions. Condition: the text has at most 2^40 bytes.
-/
import Derived.Test.YtifabkoomojklaaGreatDoorTree
import Derived.Outline
namespace Go.Proofs.YtifabkoomojklaaGreatDoor
open Go.RowKit

theorem hold {w w' : World} {p : Addr} {v : Value} (hb : Below w.heap.size w w') (h : w.cell? p = some v) : w'.cell? p = some v := (hb.cell (World.block_lt_of_cell? _ _ h)).trans h
theorem ExV.low {F : Nat → Prop} {w w' : World} (hb : Below w.heap.size w w') : ∀ (d : Nat) (x : Ex) (v : Value), ExV F w d x v → ExV (fun k => k < w'.heap.size) w' d x v
  | 0, _, _, h => h
  | d + 1, .mk k o a l s xs, v, ⟨A, c, hv, hc, h⟩ => ⟨A, c, hv, hc, fun i x hi => by
      obtain ⟨g, off, c0, c1, c2, c3, c4, c5, hA, hF, h0, h1, h2, h3, h4, h5, hx⟩ := h i x hi
      have hlt := World.block_lt_of_cell? _ _ h0
      exact ⟨g, off, c0, c1, c2, c3, c4, c5, hA, Nat.lt_of_lt_of_le hlt hb.size, hold hb h0, hold hb h1, hold hb h2, hold hb h3, hold hb h4, hold hb h5, ExV.low hb d x _ hx⟩⟩
set_option maxRecDepth 10000 in
set_option maxHeartbeats 2000000 in
theorem sign_5 (o : Int) (w : World) (h0 : 0 ≤ o) (h1 : o ≤ 11) : Calls Tryz.prog 69 #[.int .i64 o] w (RetStr (signL o) w) := by
  have h : o = 0 ∨ o = 1 ∨ o = 2 ∨ o = 3 ∨ o = 4 ∨ o = 5 ∨ o = 6 ∨ o = 7 ∨ o = 8 ∨ o = 9 ∨ o = 10 ∨ o = 11 := by omega
  clear h0 h1
  rcases h with rfl | rfl | rfl | rfl | rfl | rfl | rfl | rfl | rfl | rfl | rfl | rfl
  all_goals
    go_enter Tryz.func69, Tryz.ntmps69
    go_wp2_with fail
    go_ret
    exact retStr (by decide) ((Below.refl _ w).alloc (Nat.le_refl _) _)
theorem compound_5 (k : Int) (c1 c2 c3 c4 c5 : Value) (w : World) : Calls Tryz.prog 82 #[.agg #[.int .i64 k, c1, c2, c3, c4, c5]] w (RetG (compK k) w) := by
  have hb := (Below.refl _ w).alloc (Nat.le_refl _) (.cells #[.int .i64 k, c1, c2, c3, c4, c5] 90)
  have H := Lib.hid hb
  clear hb
  have hk : k = 5 ∨ k = 6 ∨ k = 7 ∨ k = 8 ∨ (k ≠ 5 ∧ k ≠ 6 ∧ k ≠ 7 ∧ k ≠ 8) := by omega
  rcases hk with rfl | rfl | rfl | rfl | ⟨h5, h6, h7, h8⟩
  · go_enter Tryz.func82, Tryz.ntmps82
    go_wp2_with fail
    go_ret
    exact ⟨rfl, H.out⟩
  · go_enter Tryz.func82, Tryz.ntmps82
    go_wp2_with fail
    go_ret
    exact ⟨rfl, H.out⟩
  · go_enter Tryz.func82, Tryz.ntmps82
    go_wp2_with fail
    go_ret
    exact ⟨rfl, H.out⟩
  · go_enter Tryz.func82, Tryz.ntmps82
    go_wp2_with fail
    go_ret
    exact ⟨rfl, H.out⟩
  · have e : Hid (compK k = false) := Lib.hid (by simp [compK, h5, h6, h7, h8])
    have e5 : (k == 5) = false := by simpa using h5
    have e6 : (k == 6) = false := by simpa using h6
    have e7 : (k == 7) = false := by simpa using h7
    have e8 : (k == 8) = false := by simpa using h8
    clear h5 h6 h7 h8
    go_enter Tryz.func82, Tryz.ntmps82
    go_wp2_with fail
    go_ret
    exact ⟨by rw [e.out]; rfl, H.out⟩
/-- What the writer's contract says at a depth. -/
def ExprC (d : Nat) : Prop := ∀ (F : Nat → Prop) (x : Ex) (v : Value) (w : World), ExV F w d x v → ShE d x → (fmtE d x).length ≤ 1099511627776 → Calls Tryz.prog 54 #[v] w (RetStr (fmtE d x) w)
def OperC (d : Nat) : Prop := ∀ (F : Nat → Prop) (x : Ex) (v : Value) (w : World), ExV F w d x v → ShE d x → (opd d x).length ≤ 1099511627776 → Calls Tryz.prog 70 #[v] w (RetStr (opd d x) w)
def ListC (d : Nat) : Prop := ∀ (F : Nat → Prop) (xs : List Ex) (A : Option Addr) (c : Nat) (w : World), RowE F w d xs A c → (∀ x ∈ xs, ShE d x) → xs.length ≤ 1000 → (lst d xs).length ≤ 1099511627776 → Calls Tryz.prog 71 #[.slice A xs.length c] w (RetStr (lst d xs) w)
set_option maxRecDepth 10000 in
theorem operand_5 (d : Nat) (ih : ExprC d) : OperC d := by
  intro F x v w hx hs hl
  cases d with
  | zero => exact hx.elim
  | succ d =>
  match x, hx with
  | .mk k o a l s xs, ⟨A, c, hv, hr⟩ =>
    subst hv
    have h1 : ∀ w', Below w.heap.size w w' → Calls Tryz.prog 54 #[.agg #[.int .i64 k, .int .i64 o, .int .i64 a, .int .i64 l, .string s, .slice A xs.length c]] w' (RetStr (fmtE (d + 1) (.mk k o a l s xs)) w') := fun w' hb => ih _ _ _ w' (ExV.low hb (d + 1) _ _ ⟨A, c, rfl, hr⟩) hs (by
      refine Nat.le_trans ?_ hl
      unfold opd
      split
      · simp; omega
      · exact Nat.le_refl _)
    have hl2 : (fmtE (d + 1) (.mk k o a l s xs)).length ≤ 1099511627776 := by
      refine Nat.le_trans ?_ hl
      unfold opd
      split
      · simp; omega
      · exact Nat.le_refl _
    have H1 := Lib.hid h1
    have hb0 := (Below.refl _ w).alloc (Nat.le_refl _) (.cells #[.int .i64 k, .int .i64 o, .int .i64 a, .int .i64 l, .string s, .slice A xs.length c] 90)
    have Hb0 := Lib.hid hb0
    generalize hL : fmtE (d + 1) (.mk k o a l s xs) = L at *
    have HO : Hid (opd (d + 1) (.mk k o a l s xs) = if compK k then 40 :: (L ++ [41]) else L) := Lib.hid (by rw [opd, hL]; rfl)
    clear h1 hb0 hr hs hl ih hL
    generalize opd (d + 1) (.mk k o a l s xs) = O at *
    by_cases hc : compK k = true
    · have HO2 : Hid (O = 40 :: (L ++ [41])) := Lib.hid (by rw [HO.out, if_pos hc])
      clear HO
      go_enter Tryz.func70, Tryz.ntmps70
      go_wp2_with fail
      refine (compound_5 _ _ _ _ _ _ _).mono ?_
      rintro e w1 ⟨rfl, hb1⟩
      have hd : ∀ j v, (#[.int .i64 k, .int .i64 o, .int .i64 a, .int .i64 l, .string s, .slice A xs.length c] : Array Value)[j]? = some v → w1.cell? ⟨w.heap.size, j, none⟩ = some v := fun j v hv => hold hb1 (by rw [cell_of_row _ _ _ _ _ _ (heap_alloc_new w _)]; exact hv)
      have d0 := hd 0 _ rfl
      have d1 := hd 1 _ rfl
      have d2 := hd 2 _ rfl
      have d3 := hd 3 _ rfl
      have d4 := hd 4 _ rfl
      have d5 := hd 5 _ rfl
      have hb2 := below_next Hb0.out hb1
      have Hb2 := Lib.hid hb2
      clear hb1 hb2 hd
      go_wp2_with fail
      refine (H1.out w1 Hb2.out).mono ?_
      rintro e w2 ⟨t, rfl, ht, hb3⟩
      have Hb3 := Lib.hid (below_next Hb2.out hb3)
      have hsz : t.size ≤ 1099511627776 := by rw [size_of ht.out]; exact hl2
      clear hb3 hl2
      go_wp2_with fail
      go_ret
      exact retStr (by rw [HO2.out, ← ht.out]; simp) Hb3.out
    · have hc : compK k = false := by simpa using hc
      have HO2 : Hid (O = L) := Lib.hid (by rw [HO.out, hc]; rfl)
      clear HO
      go_enter Tryz.func70, Tryz.ntmps70
      go_wp2_with fail
      refine (compound_5 _ _ _ _ _ _ _).mono ?_
      rintro e w1 ⟨rfl, hb1⟩
      have hd : ∀ j v, (#[.int .i64 k, .int .i64 o, .int .i64 a, .int .i64 l, .string s, .slice A xs.length c] : Array Value)[j]? = some v → w1.cell? ⟨w.heap.size, j, none⟩ = some v := fun j v hv => hold hb1 (by rw [cell_of_row _ _ _ _ _ _ (heap_alloc_new w _)]; exact hv)
      have d0 := hd 0 _ rfl
      have d1 := hd 1 _ rfl
      have d2 := hd 2 _ rfl
      have d3 := hd 3 _ rfl
      have d4 := hd 4 _ rfl
      have d5 := hd 5 _ rfl
      have hb2 := below_next Hb0.out hb1
      have Hb2 := Lib.hid hb2
      clear hb1 hb2 hd
      go_wp2_with fail
      refine (H1.out w1 Hb2.out).mono ?_
      rintro e w2 ⟨t, rfl, ht, hb3⟩
      have Hb3 := Lib.hid (below_next Hb2.out hb3)
      clear hb3 hl2
      go_wp2_with fail
      go_ret
      exact retStr (by rw [HO2.out, ← ht.out]) Hb3.out
end Go.Proofs.YtifabkoomojklaaGreatDoor
