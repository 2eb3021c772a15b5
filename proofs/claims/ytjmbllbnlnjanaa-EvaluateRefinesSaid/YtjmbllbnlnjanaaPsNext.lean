/-
  The walks of the parser's small methods: next, refuse. No condition.
-/
import Derived.Test.YtjmbllbnlnjanaaPsWalk
namespace Go.Proofs.Ytjmbllbnlnjanaa
open Go.RowKit

def tokV (t : Tok) : Value := .agg #[.int .i64 (t.kind : Int), .int .i64 (t.line : Int), .int .i64 (t.value : Int), .string (nmB t.text)]
/-- A token is handed back, and the parser stands at s'. -/
def NextG (p tb : Nat) (t : Tok) (s' : PS) (w : World) (e : Ending) (w' : World) : Prop := e = .returned (tokV t) ∧ PA w' p tb s' ∧ w.grownBy w' (some p)
theorem PR.keep {w w' : World} {p tb off c n : Nat} {s : PS} (h : PR w p tb off c n s) (hp : w'.heap[p]? = w.heap[p]?) (ht : w'.heap[tb]? = w.heap[tb]?) : PR w' p tb off c n s := by
  obtain ⟨T, hr⟩ := h.row
  exact ⟨h.wf, h.ne, h.len, h.cap, h.sm, ⟨T, hp.trans hr⟩, fun k t hk => (h.tok k t hk).keep ht⟩
theorem PR.low {w w' : World} {p tb off c n B : Nat} {s : PS} (h : PR w p tb off c n s) (hb : Below B w w') (h1 : p < B) (h2 : tb < B) : PR w' p tb off c n s := h.keep (hb.block _ h1) (hb.block _ h2)
theorem set4g (w' : World) (b : Nat) (v0 v1 v2 v3 : Value) : w'.grownBy ((((w'.setCell ⟨b, 0, none⟩ v0).setCell ⟨b, 1, none⟩ v1).setCell ⟨b, 2, none⟩ v2).setCell ⟨b, 3, none⟩ v3) (some b) := (((set_grown w' ⟨b, 0, none⟩ v0).trans (set_grown _ ⟨b, 1, none⟩ v1)).trans (set_grown _ ⟨b, 2, none⟩ v2)).trans (set_grown _ ⟨b, 3, none⟩ v3)
theorem alloc2_new (w : World) (a o : Obj) : ((w.alloc a).alloc o).heap[w.heap.size + 1]? = some o := by
  have := heap_alloc_new (w.alloc a) o
  simpa using this
theorem alloc2_old (w : World) (a o : Obj) : ((w.alloc a).alloc o).heap[w.heap.size]? = some a := by
  have h1 := heap_alloc_new w a
  have h2 := ((Below.refl _ (w.alloc a)).alloc (Nat.le_refl _) o).block w.heap.size (by simp)
  exact h2.trans h1
/-- A store of a token that stands still. -/
theorem pause_tok {P : Program} {w : World} {ops : Array Oper} {rest : List Oper} {d : Option Tmp} {ty : TypeId} {x y : Operand} {pos : String} {af : Array Edge} {gd : Option (Nat × Bool)} {a : Act} {Q : Exit → Act → World → Prop}
    (h : Pause (wpList P ops Q ({ dst := d, op := .store 90 x y, type := ty, pos := pos, after := af, guard := gd } :: rest) a w)) : wpList P ops Q ({ dst := d, op := .store 90 x y, type := ty, pos := pos, after := af, guard := gd } :: rest) a w := h
theorem PR.slice {w : World} {p tb off c n off' c' n' : Nat} {s : PS} (h : PR w p tb off c n s) : ∃ T, (w.setCell ⟨p, 0, none⟩ (.slice (some ⟨tb, off', none⟩) n' c')).heap[p]? = some (.cells #[.slice (some ⟨tb, off', none⟩) n' c', .int .i64 (s.ref : Int), .int .i64 (s.out : Int)] T (0, 0)) := by
  obtain ⟨T, hr⟩ := h.row
  exact ⟨T, row_set _ hr⟩
end Go.Proofs.Ytjmbllbnlnjanaa
