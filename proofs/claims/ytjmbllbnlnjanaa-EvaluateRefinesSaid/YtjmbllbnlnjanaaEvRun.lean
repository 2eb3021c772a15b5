/-
  A run in memory: step, applied. Conditions: fewer than 2^62 steps.
-/
import Derived.Test.YtjmbllbnlnjanaaEvOp
import Derived.Test.YtjmbllbnlnjanaaRpMath
import Derived.RegionTactic
import Derived.ChangeAlike
import Derived.BigRegion
import Derived.Test.YtjmbllbnlnjanaaRpNow
namespace Go.Proofs.Ytjmbllbnlnjanaa
open Go.RowKit

/-- A run in its block: limits, steps and depth, and the rest. -/
structure Rn where
  sz : Value
  fn : Value
  ls : Int
  ld : Int
  st : Int
  dp : Int
  inp : Value
  ov : Value
  gv : Value
  lv : Value
def RnP (p : Nat) (r : Rn) (w : World) : Prop := w.heap[p]? = some (.cells #[r.sz, r.fn, .int .i64 r.ls, .int .i64 r.ld, .int .i64 r.st, .int .i64 r.dp, r.inp, r.ov, r.gv, r.lv] 84 (0, 0))
theorem RnP.below {p : Nat} {r : Rn} {w w' : World} (h : RnP p r w) (hb : Below w.heap.size w w') : RnP p r w' := (hb.block _ (Array.getElem?_eq_some_iff.1 h).1).trans h
/-- A step: what it hands back, and the steps behind it. -/
def stepP (ls st : Int) : Int × Int := if ls ≤ st then (3, st) else (0, st + 1)
/-- An end is handed back, and the run stands at r. -/
def EndG (p : Nat) (k t : Int) (r : Rn) (w : World) (e : Ending) (w' : World) : Prop := e = .returned (.agg #[.int .i64 k, .int .i64 t]) ∧ RnP p r w' ∧ w.grownBy w' (some p)
theorem re_pause {P : Program} {w : World} {ops : Array Oper} {rest : List Oper} {d : Option Tmp} {ty : TypeId} {x y : Operand} {pos : String} {af : Array Edge} {gd : Option (Nat × Bool)} {a : Act} {Q : Exit → Act → World → Prop}
    (h : Pause (wpList P ops Q ({ dst := d, op := .store 86 x y, type := ty, pos := pos, after := af, guard := gd } :: rest) a w)) : wpList P ops Q ({ dst := d, op := .store 86 x y, type := ty, pos := pos, after := af, guard := gd } :: rest) a w := h
theorem below_dn2 {B : Nat} {a w : World} (h : Below B a w) (n : Nat) : Below B a (w.drewN n) := ⟨h.os, h.tape, h.output, h.size, h.block⟩
set_option maxRecDepth 10000 in
set_option maxHeartbeats 1000000 in
theorem step_e {p : Nat} {r : Rn} (w : World) (h : RnP p r w) (hst : 0 ≤ r.st) (hst2 : r.st < 4611686018427387904) : Calls Try.prog 70 #[.pointer (some ⟨p, 0, none⟩)] w (EndG p (stepP r.ls r.st).1 0 { r with st := (stepP r.ls r.st).2 } w) := by
  have hb := (Below.refl _ w).alloc (Nat.le_refl _) (.cells #[.int .i64 0, .int .i64 0] 86)
  have h1 : RnP p r (w.alloc (.cells #[.int .i64 0, .int .i64 0] 86)) := h.below hb
  have hz := heap_alloc_new w (.cells #[.int .i64 0, .int .i64 0] 86)
  have plt := (Array.getElem?_eq_some_iff.1 h).1
  obtain ⟨sz, fn, ls, ld, st, dp, inp, ov, gv, lv⟩ := r
  dsimp only at hst hst2
  have c2 := cell_of_row _ _ 2 _ _ _ h1
  have c4 := cell_of_row _ _ 4 _ _ _ h1
  have f4 := rp_fz h1 4
  have H1 := Lib.hid h1
  have HB := Lib.hid hb
  have HZ := Lib.hid hz
  clear h h1 hb hz
  by_cases hle : ls ≤ st
  · have HP : Hid (stepP ls st = (3, st)) := Lib.hid (if_pos hle)
    go_enter Try.func70, Try.ntmps70
    go_wp2_with fail
    go_quiet (fail)
    have HB2 := Lib.hid (below_dn2 HB.out nq)
    have HZ2 : Hid (((w.alloc (.cells #[.int .i64 0, .int .i64 0] 86)).drewN nq).heap[w.heap.size]? = some (.cells #[.int .i64 0, .int .i64 0] 86 (0, 0))) := Lib.hid HZ.out
    clear c2 c4 f4 HB HZ
    go_wp2_with (with_reducible refine re_pause ?_)
    refine Pause.of (wpList_store_new _ rfl _ _ _ rfl w.heap.size _ rfl (by rfl) _ _ HZ2.out (by kernel_rfl) (by rfl) (by simp [Value.oneCell']) ?_)
    intro w9 hrow9 hg9
    have j0 := cell_of_row _ _ 0 _ _ _ hrow9
    have j1 := cell_of_row _ _ 1 _ _ _ hrow9
    have HE : Hid (EndG p (stepP ls st).1 0 ⟨sz, fn, ls, ld, (stepP ls st).2, dp, inp, ov, gv, lv⟩ w (.returned (.agg #[.int .i64 3, .int .i64 0])) w9) := Lib.hid (by
      rw [HP.out]
      exact ⟨rfl, blk_keep hg9 (by omega) H1.out, grown_new ((grown_of_below HB2.out (some p))) hg9 (Nat.le_refl _)⟩)
    clear hrow9 hg9
    go_wp2_with fail
    exact bodyPost_ret (by simp [results, Try.results70, go_sem, j0, j1]) rfl HE.out
  · have HP : Hid (stepP ls st = (0, st + 1)) := Lib.hid (if_neg hle)
    go_enter Try.func70, Try.ntmps70
    go_wp2_with fail
    go_quiet (fail)
    have HB2 := Lib.hid (below_dn2 HB.out nq)
    have hg3 : ((w.alloc (.cells #[.int .i64 0, .int .i64 0] 86)).drewN nq).grownBy (((w.alloc (.cells #[.int .i64 0, .int .i64 0] 86)).drewN nq).setCell ⟨p, 4, none⟩ (.int .i64 (st + 1))) (some p) := set_grown _ ⟨p, 4, none⟩ _
    have HR3 : Hid (RnP p ⟨sz, fn, ls, ld, st + 1, dp, inp, ov, gv, lv⟩ (((w.alloc (.cells #[.int .i64 0, .int .i64 0] 86)).drewN nq).setCell ⟨p, 4, none⟩ (.int .i64 (st + 1)))) := Lib.hid (row_set (i := 4) _ H1.out)
    have HZ3 := Lib.hid (blk_keep hg3 (by omega) (show ((w.alloc (.cells #[.int .i64 0, .int .i64 0] 86)).drewN nq).heap[w.heap.size]? = some (.cells #[.int .i64 0, .int .i64 0] 86 (0, 0)) from HZ.out))
    have HG3 := Lib.hid ((grown_of_below HB2.out (some p)).trans hg3)
    clear HB HZ hg3
    go_wp2_with (with_reducible refine re_pause ?_)
    refine Pause.of (wpList_store_new _ rfl _ _ _ rfl w.heap.size _ rfl (by rfl) _ _ HZ3.out (by kernel_rfl) (by rfl) (by simp [Value.oneCell']) ?_)
    intro w9 hrow9 hg9
    have j0 := cell_of_row _ _ 0 _ _ _ hrow9
    have j1 := cell_of_row _ _ 1 _ _ _ hrow9
    have HE : Hid (EndG p (stepP ls st).1 0 ⟨sz, fn, ls, ld, (stepP ls st).2, dp, inp, ov, gv, lv⟩ w (.returned (.agg #[.int .i64 0, .int .i64 0])) w9) := Lib.hid (by
      rw [HP.out]
      exact ⟨rfl, blk_keep hg9 (by omega) HR3.out, grown_new HG3.out hg9 (Nat.le_refl _)⟩)
    clear hrow9 hg9
    go_wp2_with fail
    exact bodyPost_ret (by simp [results, Try.results70, go_sem, j0, j1]) rfl HE.out
/-- A value and an end are handed back; memory has grown at most. -/
def ValE (z k t : Int) (w : World) (e : Ending) (w' : World) : Prop := e = .returned (.tuple #[.int .i64 z, .agg #[.int .i64 k, .int .i64 t]]) ∧ Below w.heap.size w w'
/-- An operation's value, or the trap. -/
def appP (op a b : Int) : Int × Int × Int := if (apP op a b).2 then ((apP op a b).1, 0, 0) else (0, 2, 1)
set_option maxRecDepth 10000 in
set_option maxHeartbeats 1000000 in
theorem applied_e (op a b : Int) (w : World) : Calls Try.prog 85 #[.int .i64 op, .int .i64 a, .int .i64 b] w (ValE (appP op a b).1 (appP op a b).2.1 (appP op a b).2.2 w) := by
  have hb := (Below.refl _ w).alloc (Nat.le_refl _) (.cells #[.int .i64 0, .int .i64 0] 86)
  have HZ := Lib.hid (heap_alloc_new w (.cells #[.int .i64 0, .int .i64 0] 86))
  have HB := Lib.hid hb
  have HA := Lib.hid (apply_e op a b (w.alloc (.cells #[.int .i64 0, .int .i64 0] 86)))
  have HV : Hid (appP op a b = if (apP op a b).2 then ((apP op a b).1, 0, 0) else (0, 2, 1)) := Lib.hid rfl
  generalize apP op a b = x at HA HV
  obtain ⟨z, ok⟩ := x
  clear hb
  cases ok with
  | true =>
    go_enter Try.func85, Try.ntmps85
    go_wp2_with fail
    refine HA.out.mono ?_
    rintro e w1 ⟨rfl, q, rfl⟩
    have HB1 := Lib.hid (below_dn2 HB.out q)
    have HZ1 : Hid (((w.alloc (.cells #[.int .i64 0, .int .i64 0] 86)).drewN q).heap[w.heap.size]? = some (.cells #[.int .i64 0, .int .i64 0] 86 (0, 0))) := Lib.hid HZ.out
    clear HB HZ HA
    go_wp2_with (with_reducible refine re_pause ?_)
    refine Pause.of (wpList_store_new _ rfl _ _ _ rfl w.heap.size _ rfl (by rfl) _ _ HZ1.out (by kernel_rfl) (by rfl) (by simp [Value.oneCell']) ?_)
    intro w9 hrow9 hg9
    have j0 := cell_of_row _ _ 0 _ _ _ hrow9
    have j1 := cell_of_row _ _ 1 _ _ _ hrow9
    have HE : Hid (ValE (appP op a b).1 (appP op a b).2.1 (appP op a b).2.2 w (.returned (.tuple #[.int .i64 z, .agg #[.int .i64 0, .int .i64 0]])) w9) := Lib.hid (by
      rw [HV.out]
      exact ⟨rfl, HB1.out.trans (grown_any hg9 (fun k hk => by injection hk with hk; omega) (by have := HB1.out.size; omega))⟩)
    clear hrow9 hg9
    go_wp2_with fail
    exact bodyPost_ret (by simp [results, Try.results85, go_sem, j0, j1]) rfl HE.out
  | false =>
    go_enter Try.func85, Try.ntmps85
    go_wp2_with fail
    refine HA.out.mono ?_
    rintro e w1 ⟨rfl, q, rfl⟩
    have HB1 := Lib.hid (below_dn2 HB.out q)
    have HZ1 : Hid (((w.alloc (.cells #[.int .i64 0, .int .i64 0] 86)).drewN q).heap[w.heap.size]? = some (.cells #[.int .i64 0, .int .i64 0] 86 (0, 0))) := Lib.hid HZ.out
    clear HB HZ HA
    go_wp2_with (with_reducible refine re_pause ?_)
    refine Pause.of (wpList_store_new _ rfl _ _ _ rfl w.heap.size _ rfl (by rfl) _ _ HZ1.out (by kernel_rfl) (by rfl) (by simp [Value.oneCell']) ?_)
    intro w9 hrow9 hg9
    have j0 := cell_of_row _ _ 0 _ _ _ hrow9
    have j1 := cell_of_row _ _ 1 _ _ _ hrow9
    have HE : Hid (ValE (appP op a b).1 (appP op a b).2.1 (appP op a b).2.2 w (.returned (.tuple #[.int .i64 0, .agg #[.int .i64 2, .int .i64 1]])) w9) := Lib.hid (by
      rw [HV.out]
      exact ⟨rfl, HB1.out.trans (grown_any hg9 (fun k hk => by injection hk with hk; omega) (by have := HB1.out.size; omega))⟩)
    clear hrow9 hg9
    go_wp2_with fail
    exact bodyPost_ret (by simp [results, Try.results85, go_sem, j0, j1]) rfl HE.out
end Go.Proofs.Ytjmbllbnlnjanaa
