/-
  The maker of sources: node, and an expression given a call. Condition: at most a million codes.
-/
import Derived.Test.YtifabkoomojklaaGreatDoorGen2
namespace Go.Proofs.YtifabkoomojklaaGreatDoor
open Go.RowKit

/-- A node handed back. -/
def NodeG (v : Value) (w : World) (e : Ending) (w' : World) : Prop := e = .returned v ∧ Below w.heap.size w w'
set_option maxRecDepth 100000 in
set_option maxHeartbeats 2000000 in
theorem node_any (k o : Int) (A : Option Addr) (n c : Nat) (w : World) : Calls Tryz.prog 74 #[.int .i64 k, .int .i64 o, .slice A n c] w (NodeG (.agg #[.int .i64 k, .int .i64 o, .int .i64 0, .int .i64 0, .string ⟨#[]⟩, .slice A n c]) w) := by
  have hb := (Below.refl _ w).alloc (Nat.le_refl _) (.cells #[.int .i64 0, .int .i64 0, .int .i64 0, .int .i64 0, .string { data := #[] }, .slice none 0 0] 90)
  have hr := heap_alloc_new w (.cells #[.int .i64 0, .int .i64 0, .int .i64 0, .int .i64 0, .string { data := #[] }, .slice none 0 0] 90)
  have HB := Lib.hid hb
  have HR := Lib.hid hr
  clear hb hr
  go_enter Tryz.func74, Tryz.ntmps74
  go_wp2_with (with_reducible refine wpList_pause_store ?_)
  refine Pause.of (wpList_store_new _ rfl _ _ _ rfl w.heap.size _ rfl (by rfl) _ _ HR.out (by kernel_rfl) (by rfl) (by simp [Value.oneCell']) ?_)
  intro w9 hrow hg9
  have k0 := cell_of_row _ _ 0 _ _ _ hrow
  have k1 := cell_of_row _ _ 1 _ _ _ hrow
  have k2 := cell_of_row _ _ 2 _ _ _ hrow
  have k3 := cell_of_row _ _ 3 _ _ _ hrow
  have k4 := cell_of_row _ _ 4 _ _ _ hrow
  have k5 := cell_of_row _ _ 5 _ _ _ hrow
  have HH := Lib.hid (HB.out.trans (grown_any hg9 (fun k hk => by injection hk with hk; omega) (by simp) : Below w.heap.size _ w9))
  clear hrow hg9
  go_wp2_with fail
  exact bodyPost_ret (v := .agg #[.int .i64 k, .int .i64 o, .int .i64 0, .int .i64 0, .string ⟨#[]⟩, .slice A n c]) (by simp [results, Tryz.results74, go_sem, k0, k1, k2, k3, k4, k5]) rfl ⟨rfl, HH.out⟩
theorem exV_agg {F : Nat → Prop} {w : World} {d : Nat} {x : Ex} {v : Value} (h : ExV F w d x v) : ∃ k o a l s A n c, v = .agg #[.int .i64 k, .int .i64 o, .int .i64 a, .int .i64 l, .string s, .slice A n c] ∧ (∀ k', v = .agg #[.int .i64 k', .int .i64 o, .int .i64 a, .int .i64 l, .string s, .slice A n c] → x.kind = k') := by
  cases d with
  | zero => exact h.elim
  | succ d =>
    match x, h with
    | .mk k o a l s xs, ⟨A, c, hv, _⟩ => exact ⟨k, o, a, l, s, A, xs.length, c, hv, fun k' hk => by rw [hv] at hk; injection hk with hk; injection hk with hk; injection hk with hk _; injection hk with _ hk⟩
/-- A row of one operand. -/
theorem row_one {F G : Nat → Prop} {w w' : World} {d : Nat} {x : Ex} {c0 c1 c2 c3 c4 c5 : Value} {b : Nat} {t : TypeId} (hx : ExV F w d x (.agg #[c0, c1, c2, c3, c4, c5])) (hFG : ∀ k, F k → G k) (hk : ∀ k, F k → w'.heap[k]? = w.heap[k]?) (hb : G b) (h : w'.heap[b]? = some (.cells #[c0, c1, c2, c3, c4, c5] t (0, 0))) :
    RowE G w' d [x] (some ⟨b, 0, none⟩) 1 := by
  refine ⟨Nat.le_refl _, fun i y hi => ?_⟩
  match i, hi with
  | 0, hi =>
    injection hi with hi
    subst hi
    exact ⟨b, 0, c0, c1, c2, c3, c4, c5, rfl, hb, cell_of_row _ _ 0 _ _ _ h, cell_of_row _ _ 1 _ _ _ h, cell_of_row _ _ 2 _ _ _ h, cell_of_row _ _ 3 _ _ _ h, cell_of_row _ _ 4 _ _ _ h, cell_of_row _ _ 5 _ _ _ h, hx.keep hFG hk⟩
  | i + 1, hi => simp at hi
/-- A row of two operands. -/
theorem row_two {G : Nat → Prop} {w' : World} {d : Nat} {x y : Ex} {c0 c1 c2 c3 c4 c5 e0 e1 e2 e3 e4 e5 : Value} {b : Nat} {t : TypeId} (hx : ExV G w' d x (.agg #[c0, c1, c2, c3, c4, c5])) (hy : ExV G w' d y (.agg #[e0, e1, e2, e3, e4, e5])) (hb : G b) (h : w'.heap[b]? = some (.cells #[c0, c1, c2, c3, c4, c5, e0, e1, e2, e3, e4, e5] t (0, 0))) :
    RowE G w' d [x, y] (some ⟨b, 0, none⟩) 2 := by
  refine ⟨Nat.le_refl _, fun i z hi => ?_⟩
  match i, hi with
  | 0, hi =>
    injection hi with hi
    subst hi
    exact ⟨b, 0, c0, c1, c2, c3, c4, c5, rfl, hb, cell_of_row _ _ 0 _ _ _ h, cell_of_row _ _ 1 _ _ _ h, cell_of_row _ _ 2 _ _ _ h, cell_of_row _ _ 3 _ _ _ h, cell_of_row _ _ 4 _ _ _ h, cell_of_row _ _ 5 _ _ _ h, hx⟩
  | 1, hi =>
    injection hi with hi
    subst hi
    exact ⟨b, 0, e0, e1, e2, e3, e4, e5, rfl, hb, cell_of_row _ _ 6 _ _ _ h, cell_of_row _ _ 7 _ _ _ h, cell_of_row _ _ 8 _ _ _ h, cell_of_row _ _ 9 _ _ _ h, cell_of_row _ _ 10 _ _ _ h, cell_of_row _ _ 11 _ _ _ h, hy⟩
  | i + 2, hi => simp at hi
end Go.Proofs.YtifabkoomojklaaGreatDoor
