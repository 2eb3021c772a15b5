/-
  The walk of machine's reader of fields. Condition: the bytes can be read; the table reads as the program's text lays it.
-/
import Derived.Test.YtebmmdafmgphdaaDoorMacU
namespace Go.Proofs.YtebmmdafmgphdaaDoor
open Go.RowKit

/-- An instruction's cells. -/
def cRow (y : Cd) (v : Value) : Array Value := kRow y.op y.ari y.dst y.a y.b y.val y.wide v
/-- A number is set by its letter. -/
def setC (c : Nat) (x : Int) (y : Cd) : Cd := if c = 100 then { y with dst := x } else if c = 97 then { y with a := x } else if c = 98 then { y with b := x } else if c = 111 then { y with ari := x } else { y with val := x }
theorem setC_row (c : Nat) (x : Int) (y : Cd) (v : Value) : (cRow y v).setIfInBounds (fldN c) (.int .i64 x) = cRow (setC c x y) v := by
  unfold fldN setC
  split
  · rfl
  · split
    · rfl
    · split
      · rfl
      · split <;> rfl
theorem setC_kept (c : Nat) (x : Int) (y : Cd) : (setC c x y).op = y.op ∧ (setC c x y).wide = y.wide ∧ (setC c x y).args = y.args := by
  unfold setC
  split
  · exact ⟨rfl, rfl, rfl⟩
  · split
    · exact ⟨rfl, rfl, rfl⟩
    · split
      · exact ⟨rfl, rfl, rfl⟩
      · split <;> exact ⟨rfl, rfl, rfl⟩
/-- What a field's bytes mean. -/
def fvalC (n : Nat) (wide : Bool) (c x : Nat) : Int := if c = 118 ∧ grtN n = -1 then sgnC (wdN n wide 118).toNat x else (x : Int)
theorem wid_is (n : Nat) (wide : Bool) (hn : n < 19) (h1 : 1 ≤ n) (hw : wide = true → isJ (n : Int) = true) : ∀ f ∈ rowC (n : Int), (widC wide f : Int) = wdN n wide (fdN f) := by
  rcases in_18 hn h1 with rfl | rfl | rfl | rfl | rfl | rfl | rfl | rfl | rfl | rfl | rfl | rfl | rfl | rfl | rfl | rfl | rfl | rfl <;> cases wide <;> simp [isJ] at hw <;> simp [rowC, rowsC, fdN, widC, wdN, isJ, sizeN]
theorem decF_is (n : Nat) (y : Cd) (l : List Nat) (hn : n < 19) (h1 : 1 ≤ n) (hw : y.wide = true → isJ (n : Int) = true) (f : Fd) (hf : f ∈ rowC (n : Int)) (hfn : fdN f ≠ 108) :
    decF y l f = if l.length < (wdN n y.wide (fdN f)).toNat then none else some (setC (fdN f) (fvalC n y.wide (fdN f) (leN (l.take (wdN n y.wide (fdN f)).toNat))) y, l.drop (wdN n y.wide (fdN f)).toNat) := by
  have hw1 := wid_is n y.wide hn h1 hw f hf
  have hw2 : widC y.wide f = (wdN n y.wide (fdN f)).toNat := by omega
  have hne : f ≠ .n := by
    rintro rfl
    exact hfn rfl
  unfold decF
  rw [← hw2, if_neg hne]
  by_cases hlt : l.length < widC y.wide f
  · rw [if_pos hlt, if_pos hlt]
  · rw [if_neg hlt, if_neg hlt]
    have : ∀ x : Nat, setF y y.wide x f = setC (fdN f) (fvalC n y.wide (fdN f) x) y := by
      intro x
      clear hw1 hw2 hlt
      obtain ⟨op, ari, dst, a, b, val, wide, args⟩ := y
      dsimp only at hw ⊢
      revert f
      rcases in_18 hn h1 with rfl | rfl | rfl | rfl | rfl | rfl | rfl | rfl | rfl | rfl | rfl | rfl | rfl | rfl | rfl | rfl | rfl | rfl <;> cases wide <;> simp [isJ] at hw <;> simp [rowC, rowsC, fdN, setF, setC, fvalC, wdN, isJ, sizeN, grtN]
    rw [this]
/-- The instruction under way and its reader. -/
structure FS (w0 : World) (p q base ib : Nat) (io : Obj) (y : Cd) (v : Value) (m : Nat) (xs : List Nat) (A : Option Addr) (l : List Nat) (rn rc : Nat) (sh : Bool) (w : World) : Prop where
  row : w.heap[p]? = some (.cells (cRow y v) 26 (0, 0))
  args : y.args = xs.map Int.ofNat
  own : w.ownsRow base 3 1 v m (xs.map nv)
  rdr : Rdr q A rn rc sh w
  rd : Rd w0 A (l.map bv)
  byte : ∀ x ∈ l, x < 256
  len : l.length = rn ∧ rn ≤ rc ∧ xs.length = m
  bel : Below w0.heap.size w0 w
  it : w.heap[ib]? = some io ∧ ib ≠ p ∧ ib ≠ q ∧ ib < base
  lo : w0.heap.size ≤ p ∧ w0.heap.size ≤ q ∧ p ≠ q ∧ p < base ∧ q < base ∧ base ≤ w.heap.size
section
variable {w0 w w' : World} {p q base ib : Nat} {io : Obj} {m : Nat} {y : Cd} {v : Value} {xs : List Nat} {A : Option Addr} {l : List Nat} {rn rc : Nat} {sh : Bool}
theorem FS.low (h : FS w0 p q base ib io y v m xs A l rn rc sh w) (hb : Below w.heap.size w w') : FS w0 p q base ib io y v m xs A l rn rc sh w' :=
  ⟨(hb.block _ (Array.getElem?_eq_some_iff.1 h.row).1).trans h.row, h.args, h.own.kept (row := none) ⟨hb.os, hb.tape, hb.output, hb.size, fun k hk _ => hb.block k hk⟩ (by cases hv : v.ownBlock <;> simp), (hb.block _ (Array.getElem?_eq_some_iff.1 h.rdr).1).trans h.rdr, h.rd, h.byte, h.len, below_next h.bel hb, ⟨(hb.block _ (Array.getElem?_eq_some_iff.1 h.it.1).1).trans h.it.1, h.it.2⟩, h.lo.1, h.lo.2.1, h.lo.2.2.1, h.lo.2.2.2.1, h.lo.2.2.2.2.1, Nat.le_trans h.lo.2.2.2.2.2 hb.size⟩
theorem set_only (w : World) (g i : Nat) (u : Value) : w.grownBy (w.setCell ⟨g, i, none⟩ u) (some g) := ⟨rfl, rfl, rfl, by simp, fun k _ hne => Below.heap_setCell w _ _ k (fun e => hne (by rw [e]))⟩
theorem own_ne {w : World} {base n size g : Nat} {T : TypeId} {v : Value} {xs : List Value} (h : w.ownsRow base T size v n xs) (hg : g < base) : v.ownBlock = none ∨ v.ownBlock ≠ some g := by
  refine .inr ?_
  intro e
  have := own_lo h _ e
  omega
theorem FS.setp (h : FS w0 p q base ib io y v m xs A l rn rc sh w) (c : Nat) (x : Int) : FS w0 p q base ib io (setC c x y) v m xs A l rn rc sh (w.setCell ⟨p, fldN c, none⟩ (.int .i64 x)) := by
  refine ⟨?_, (setC_kept c x y).2.2.trans h.args, h.own.kept (set_only w p _ _) (own_ne h.own h.lo.2.2.2.1), ?_, h.rd, h.byte, h.len, h.bel.setCell h.lo.1 _, ⟨(Below.heap_setCell w _ _ ib (fun e => h.it.2.1 e)).trans h.it.1, h.it.2⟩, by simpa using h.lo⟩
  · have := heap_setCell_same w p (fldN c) _ _ (.int .i64 x) h.row
    rw [setC_row] at this
    exact this
  · exact (Below.heap_setCell w _ _ q (fun e => h.lo.2.2.1 e.symm)).trans h.rdr
theorem FS.short (h : FS w0 p q base ib io y v m xs A l rn rc sh w) : FS w0 p q base ib io y v m xs A l rn rc true (w.setCell ⟨q, 1, none⟩ (.bool true)) := by
  refine ⟨(Below.heap_setCell w _ _ p (fun e => h.lo.2.2.1 e)).trans h.row, h.args, h.own.kept (set_only w q _ _) (own_ne h.own h.lo.2.2.2.2.1), ?_, h.rd, h.byte, h.len, h.bel.setCell h.lo.2.1 _, ⟨(Below.heap_setCell w _ _ ib (fun e => h.it.2.2.1 e)).trans h.it.1, h.it.2⟩, by simpa using h.lo⟩
  exact heap_setCell_same w q 1 _ _ (.bool true) h.rdr
theorem FS.moved (h : FS w0 p q base ib io y v m xs A l rn rc sh w) (size : Nat) (hs : size ≤ rn) : FS w0 p q base ib io y v m xs (if rc = size then A else A.map (·.add size)) (l.drop size) (rn - size) (rc - size) sh (w.setCell ⟨q, 0, none⟩ (.slice (if rc = size then A else A.map (·.add size)) (rn - size) (rc - size))) := by
  refine ⟨(Below.heap_setCell w _ _ p (fun e => h.lo.2.2.1 e)).trans h.row, h.args, h.own.kept (set_only w q _ _) (own_ne h.own h.lo.2.2.2.2.1), ?_, ?_, fun x hx => h.byte x (List.mem_of_mem_drop hx), ⟨by rw [List.length_drop, h.len.1], by have := h.len.2.1; omega, h.len.2.2⟩, h.bel.setCell h.lo.2.1 _, ⟨(Below.heap_setCell w _ _ ib (fun e => h.it.2.2.1 e)).trans h.it.1, h.it.2⟩, by simpa using h.lo⟩
  · exact heap_setCell_same w q 0 _ _ _ h.rdr
  · have := h.rd.cut (k := size) (c := rc) (by rw [List.length_map, h.len.1]; exact h.len.2.1)
    rwa [← List.map_drop] at this
end
end Go.Proofs.YtebmmdafmgphdaaDoor
