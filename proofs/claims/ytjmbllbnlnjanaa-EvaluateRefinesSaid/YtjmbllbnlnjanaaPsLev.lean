/-
  The walks of the parser's levels: operands with signs between them, given the walk of the operands. No condition.
-/
import Derived.Test.YtjmbllbnlnjanaaPsBin
namespace Go.Proofs.Ytjmbllbnlnjanaa
open Go.RowKit

/-- A tree is handed back, and the parser stands at s'. -/
def ExG (p tb : Nat) (x : Ex) (s s' : PS) (w : World) (e : Ending) (w' : World) : Prop := ∃ b, e = .returned (.pointer (some ⟨b, 0, none⟩)) ∧ XAt w.heap.size w' b x ∧ PA w' p tb s' ∧ w.grownBy w' (some p) ∧ s'.rest.length ≤ s.rest.length
/-- A method does on memory what the plain parser does. -/
def SubCt (f : FuncId) (P : P1) : Prop := ∀ (p tb : Nat) (s s' : PS) (x : Ex) (w : World), PA w p tb s → P s = some (x, s') → Calls Try.prog f #[.pointer (some ⟨p, 0, none⟩)] w (ExG p tb x s s' w)
/-- How many tokens are left, as memory says it. -/
def restLen (w : World) (p : Nat) : Nat := match w.cell? ⟨p, 0, none⟩ with | some (.slice _ n _) => n | _ => 0
theorem PA.rest {w : World} {p tb : Nat} {s : PS} (h : PA w p tb s) : restLen w p = s.rest.length := by
  obtain ⟨off, c, n, h⟩ := h
  simp [restLen, h.cells.1, h.len]
theorem trow_new (w : World) (l : List Bytes) (t : TypeId) : TRow (w.alloc (.cells (l.map fun x => Value.string (nmB x)).toArray t)) w.heap.size l := fun i x hi => by
  rw [cell_of_row _ _ i _ _ _ (heap_alloc_new w _)]
  simp [hi]
theorem sees_mem {l m : List Bytes} {s : PS} (h : seesP l s = true) (hl : ∀ x ∈ l, x ∈ m) : (hdT s).text ∈ m := by
  simp only [seesP, List.contains_iff_mem] at h
  exact hl _ h
theorem loop_yes {P : P1} {l : List Bytes} {n : Nat} {x xr : Ex} {s sr : PS} (h : loopP P l n x s = some (xr, sr)) (hs : seesP l s = true) : ∃ m y s2, n = m + 1 ∧ P (popP s) = some (y, s2) ∧ loopP P l m (binP (hdT s) x y) s2 = some (xr, sr) := by
  cases n with
  | zero => cases h
  | succ m =>
    simp only [loopP, hs, if_true] at h
    cases hp : P (popP s) with
    | none => rw [hp] at h; cases h
    | some q => rw [hp] at h; exact ⟨m, q.1, q.2, rfl, rfl, h⟩
theorem loop_no {P : P1} {l : List Bytes} {n : Nat} {x xr : Ex} {s sr : PS} (h : loopP P l n x s = some (xr, sr)) (hs : seesP l s = false) : xr = x ∧ sr = s := by
  cases n with
  | zero => cases h
  | succ m =>
    simp only [loopP, hs] at h
    injection h with h
    injection h with h1 h2
    exact ⟨h1.symm, h2.symm⟩
theorem level_start {P : P1} {l : List Bytes} {xr : Ex} {s sr : PS} (h : levelP P l s = some (xr, sr)) : ∃ x1 s1 n, P s = some (x1, s1) ∧ loopP P l n x1 s1 = some (xr, sr) := by
  unfold levelP at h
  cases hp : P s with
  | none => rw [hp] at h; cases h
  | some q => rw [hp] at h; exact ⟨q.1, q.2, _, rfl, h⟩
/-- What a loop of a level carries. -/
def LevRel (P : P1) (l : List Bytes) (p tb : Nat) (x : Ex) (s s' : PS) (w : World) (v : Value) (wr : World) : Prop :=
  ∃ b n xx ss, v = .pointer (some ⟨b, 0, none⟩) ∧ loopP P l n xx ss = some (x, s') ∧ XAt w.heap.size wr b xx ∧ PA wr p tb ss ∧ w.grownBy wr (some p) ∧ ss.rest.length ≤ s.rest.length
theorem XAt.lo {lo lo' : Nat} {w : World} {b : Nat} {x : Ex} (h : XAt lo w b x) (hl : lo' ≤ lo) : XAt lo' w b x := h.keep hl (Nat.le_refl _) (fun _ _ _ => rfl)
theorem once_no {P : P1} {l : List Bytes} {xr : Ex} {s sr : PS} (h : onceP P l s = some (xr, sr)) : ∃ x1 s1, P s = some (x1, s1) ∧ ((seesP l s1 = true ∧ ∃ y s2, P (popP s1) = some (y, s2) ∧ xr = binP (hdT s1) x1 y ∧ sr = s2) ∨ (seesP l s1 = false ∧ xr = x1 ∧ sr = s1)) := by
  unfold onceP at h
  cases hp : P s with
  | none => rw [hp] at h; cases h
  | some q =>
    obtain ⟨x1, s1⟩ := q
    rw [hp] at h
    refine ⟨x1, s1, rfl, ?_⟩
    cases hs : seesP l s1 with
    | true =>
      simp only [hs, if_true] at h
      cases hq : P (popP s1) with
      | none => rw [hq] at h; cases h
      | some r =>
        rw [hq] at h
        injection h with h
        injection h with h1 h2
        exact .inl ⟨rfl, r.1, r.2, rfl, h1.symm, h2.symm⟩
    | false =>
      simp only [hs] at h
      injection h with h
      injection h with h1 h2
      exact .inr ⟨rfl, h1.symm, h2.symm⟩
end Go.Proofs.Ytjmbllbnlnjanaa
