/-
  The walks of the parser's small methods: sees, next, refuse, accepts, demand, ended. No condition.
-/
import Derived.Test.YtjmbllbnlnjanaaPsMath
namespace Go.Proofs.Ytjmbllbnlnjanaa
open Go.RowKit

/-- A row of strings. -/
def TRow (w : World) (g : Nat) (l : List Bytes) : Prop := ∀ i x, l[i]? = some x → w.cell? ⟨g, i, none⟩ = some (.string (nmB x))
theorem nmB_ne {a b : Bytes} (h : a ≠ b) : ((nmB a).toList == (nmB b).toList) = false := by
  rw [beq_eq_false_iff_ne]
  intro e
  rw [Lib.toList_data, Lib.toList_data] at e
  exact h e
def RetIx (b : Bool) (w : World) (e : Ending) (w' : World) : Prop := ∃ i : Int, e = .returned (.int .i64 i) ∧ w = w' ∧ decide (0 ≤ i) = b
end Go.Proofs.Ytjmbllbnlnjanaa
