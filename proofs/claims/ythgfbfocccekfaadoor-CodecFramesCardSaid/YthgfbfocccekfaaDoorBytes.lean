/-
  Slices of bytes that the call made: what they read as, in one word for the contracts. No condition.
-/
import Derived.Test.YthgfbfocccekfaaDoorAwake
namespace Go.Proofs.YthgfbfocccekfaaDoor
open Go.RowKit

theorem Sl.bytes {w : World} {base : Nat} {e : TypeId} {v : Value} {xs : List Value} {l : List Nat} (h : Sl w base e v xs) (hx : xs = l.map bv) : ∃ A c, v = .slice A l.length c ∧ Rd w A (l.map bv) ∧ l.length ≤ c := by
  subst hx
  obtain ⟨A, c, rfl, hr, hc⟩ := h.form
  exact ⟨A, c, by simp, hr, by simpa using hc⟩
theorem Sl.bytesN {w : World} {base : Nat} {e : TypeId} {v : Value} {xs : List Value} {l : List Nat} {n : Nat} (h : Sl w base e v xs) (hx : xs = l.map bv) (hn : l.length = n) : ∃ A c, v = .slice A n c ∧ Rd w A (l.map bv) ∧ n ≤ c := by
  subst hn
  exact h.bytes hx
end Go.Proofs.YthgfbfocccekfaaDoor
