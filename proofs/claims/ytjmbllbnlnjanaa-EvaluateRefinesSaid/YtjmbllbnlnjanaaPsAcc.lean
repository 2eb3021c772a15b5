/-
  The walks of the parser's small methods: refuse, accepts, demand, expect, name, ended. No condition.
-/
import Derived.Test.YtjmbllbnlnjanaaPsNext
import Derived.RegionTactic
import Derived.ChangeAlike
import Derived.BigRegion
namespace Go.Proofs.Ytjmbllbnlnjanaa
open Go.RowKit

/-- Nothing is handed back, and the parser stands at s'. -/
def VoidG (p tb : Nat) (s' : PS) (w : World) (e : Ending) (w' : World) : Prop := (∃ v, e = .returned v) ∧ PA w' p tb s' ∧ w.grownBy w' (some p)
theorem PR.setref {w : World} {p tb off c n : Nat} {s : PS} (r : Nat) (h : PR w p tb off c n s) : PR (w.setCell ⟨p, 1, none⟩ (.int .i64 (r : Int))) p tb off c n { s with ref := r } := by
  obtain ⟨T, hr⟩ := h.row
  exact ⟨h.wf, h.ne, h.len, h.cap, h.sm, ⟨T, row_set _ hr⟩, fun k t hk => (h.tok k t hk).keep ((set_grown w ⟨p, 1, none⟩ _).block tb h.tlt (fun e => by injection e with e; exact h.ne e))⟩
theorem refuse_end {w : World} {p tb off c n : Nat} {s : PS} (h : PR w p tb off c n { s with ref := (refuseP s).ref }) : PA (w.setCell ⟨p, 0, none⟩ (.slice (some ⟨tb, off + n * 4, none⟩) 1 (c - n))) p tb (refuseP s) := by
  have hl : s.rest.length = n + 1 := h.len
  have e : refuseP { s with ref := (refuseP s).ref } = refuseP s := by
    by_cases h0 : s.ref = 0 <;> simp [refuseP, hdT, h0]
  have h2 := h.refuse (r := (refuseP s).ref) (w' := w.setCell ⟨p, 0, none⟩ (.slice (some ⟨tb, off + n * 4, none⟩) 1 (c - n))) (by rw [e]) (h.slice (off' := off + n * 4) (n' := 1) (c' := c - n)) ((set_grown w ⟨p, 0, none⟩ _).block tb h.tlt (fun e => by injection e with e; exact h.ne e))
  rw [e] at h2
  exact ⟨_, _, _, h2⟩
theorem PA.drew {w : World} {p tb : Nat} {s : PS} (h : PA w p tb s) : PA w.drew p tb s := h.keep rfl rfl
theorem grown_drew {w w' : World} {row : Option Nat} (h : w.grownBy w' row) : w.grownBy w'.drew row := ⟨h.os, h.tape, h.output, h.size, h.block⟩
/-- Whether a text came next, and the parser stands at s'. -/
def AccG (p tb : Nat) (b : Bool) (s' : PS) (w : World) (e : Ending) (w' : World) : Prop := e = .returned (.bool b) ∧ PA w' p tb s' ∧ w.grownBy w' (some p)
theorem trow_one (w : World) (x : Bytes) (t : TypeId) : TRow (w.alloc (.cells #[.string (nmB x)] t)) w.heap.size [x] := fun i y hi => by
  match i, hi with
  | 0, hi =>
    injection hi with hi
    subst hi
    exact cell_of_row _ _ 0 _ _ _ (heap_alloc_new w _)
  | i + 1, hi => simp at hi
theorem kindB (k j : Nat) : ((k : Int) == (j : Int)) = decide (k = j) := by
  rw [Bool.eq_iff_iff]
  simp
  omega
/-- A name is handed back, and the parser stands at s'. -/
def NameG (p tb : Nat) (t : Bytes) (s' : PS) (w : World) (e : Ending) (w' : World) : Prop := e = .returned (.string (nmB t)) ∧ PA w' p tb s' ∧ w.grownBy w' (some p)
theorem expect_len (k : Nat) (s : PS) (h : 0 < s.rest.length) : (expectP k s).2.rest.length ≤ s.rest.length := by
  unfold expectP
  split
  · simp only [pop_len]; omega
  · simp only [refuse_len s h]; omega
end Go.Proofs.Ytjmbllbnlnjanaa
