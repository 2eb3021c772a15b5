/-
  A map of strings to bools that the call makes: what a key is there for; and the two tables of words and signs. No condition.
-/
import Derived.Test.YtjmbllbnlnjanaaRows
import Derived.Test.YtjmbllbnlnjanaaTokMath
import Derived.Test.YtjmbllbnlnjanaaWords
import Derived.Maps.OwnSet
import Derived.StringKeys
import Derived.KernelRfl
import Derived.Lib.Hide
namespace Go.Proofs.Ytjmbllbnlnjanaa
open Go.RowKit Go.WideMaps

theorem plain_bool {H : Type} {P : Program} {e : TypeId} {v : Value} {x : Bool} {ps : List MemPlace} (he : P.underlying e = some .bool) (h : plainElem (H := H) P e v = some (.lit (.bool x), ps)) : v = .bool x := by
  unfold plainElem at h
  rw [he] at h
  cases v <;> simp at h
  rw [h.1]
theorem wpList_look {P : Program} (w : World) {ops : Array Oper} {rest : List Oper} {o : Oper} {a : Act} {Q : Exit → Act → World → Prop} (hg : o.guard = none) (m x : Operand) (t : TypeId) (hop : o.op = Op.lookup t m x false) (vm vx v : Value)
    (hm : a.eval m = vm) (hx : a.eval x = vx) (hrun : (Instr.lookup t vm vx false).run P w = .ok v w) (hK : wpList P ops Q rest (a.put o.dst v) w) : wpList P ops Q (o :: rest) a w := by
  refine wpList_plain hg fun K' hK' => ?_
  unfold Oper.wp
  simp [execOp, hop, hm, hx, hrun, Result.andThen]
  exact hK' _ _ hK
theorem wpList_ins {P : Program} (w : World) {ops : Array Oper} {rest : List Oper} {o : Oper} {a : Act} {Q : Exit → Act → World → Prop} (hg : o.guard = none) (m x v : Operand) (t : TypeId) (hop : o.op = Op.insert t m x v) (vm vx vv : Value)
    (hm : a.eval m = vm) (hx : a.eval x = vx) (hv : a.eval v = vv) (w' : World) (hrun : (Instr.mapUpdate t vm vx vv).run P w = .ok () w') (hK : wpList P ops Q rest (a.put o.dst undef) w') : wpList P ops Q (o :: rest) a w := by
  refine wpList_plain hg fun K' hK' => ?_
  unfold Oper.wp
  simp [execOp, hop, hm, hx, hv, hrun, Result.andThen]
  exact hK' _ _ hK
theorem zeroB (w : World) : (zeroValue 4).run Try.prog w = .ok (.bool false) w := by kernel_rfl
theorem keyedS : Maps.Keyed Try.prog 9 := Maps.string_keyed Try.underlying9
/-- Block b is a map of at most n entries that says f of each string. -/
def MapB (w : World) (b n : Nat) (f : Bytes → Bool) : Prop :=
  ∃ D, w.ownsMap (H := Unit) Try.prog 9 (plainElem Try.prog 4) b n D ∧ Maps.IsMap D ∧ ∀ l : Bytes, D.atKey (.string l) (.lit (.bool false)) = .lit (.bool (f l))
section
variable {w w' : World} {b n : Nat} {f : Bytes → Bool}
theorem MapB.new (w : World) : MapB (w.alloc (.map #[] 0)) w.heap.size 0 (fun _ => false) := ⟨_, World.ownsMap_made _ _ _ _, Maps.isMap_empty, fun _ => rfl⟩
theorem MapB.lt (h : MapB w b n f) : b < w.heap.size := by obtain ⟨D, h, _⟩ := h; exact h.lt
theorem MapB.below (h : MapB w b n f) {B : Nat} (hB : b < B) (hb : Below B w w') : MapB w' b n f := by
  obtain ⟨D, ⟨es, clock, h0, F, hs, hD⟩, h2, h3⟩ := h
  exact ⟨D, ⟨es, clock, (hb.block b hB).trans h0, F, hs, hD⟩, h2, h3⟩
theorem MapB.alloc (h : MapB w b n f) (o : Obj) : MapB (w.alloc o) b n f := by
  obtain ⟨D, h1, h2, h3⟩ := h
  exact ⟨D, h1.alloc o, h2, h3⟩
theorem MapB.drew (h : MapB w b n f) : MapB w.drew b n f := h
theorem MapB.grown (h : MapB w b n f) {row : Option Nat} (hg : w.grownBy w' row) (hne : some b ≠ row) : MapB w' b n f := by
  obtain ⟨D, h1, h2, h3⟩ := h
  exact ⟨D, h1.kept hg hne, h2, h3⟩
end
/-- A table under way: the map in block b says f, and nothing below it has changed. -/
def Tab (w : World) (b n : Nat) (f : Bytes → Bool) (w' : World) : Prop := MapB w' b n f ∧ Below b w w'
theorem MapB.of {w : World} {b n : Nat} {f g : Bytes → Bool} (h : MapB w b n f) (e : ∀ l, f l = g l) : MapB w b n g := by
  obtain rfl : f = g := funext e
  exact h
/-- A new table is handed back. -/
def TabPost (f : Bytes → Bool) (w : World) (e : Ending) (w' : World) : Prop := ∃ b n, e = .returned (.map (some b)) ∧ w.heap.size ≤ b ∧ MapB w' b n f ∧ Below w.heap.size w w'
end Go.Proofs.Ytjmbllbnlnjanaa
