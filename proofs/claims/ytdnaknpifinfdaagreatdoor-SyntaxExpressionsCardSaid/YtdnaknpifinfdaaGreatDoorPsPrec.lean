/-
  SyntaxPrecedence on the plain parser: how any two operators group, for all pairs of them. No condition.
-/
import Derived.Test.YtdnaknpifinfdaaGreatDoorPsEq
import Derived.Test.YtdnaknpifinfdaaGreatDoorScanF
import Derived.KernelRfl
namespace Go.Proofs.YtdnaknpifinfdaaGreatDoor
open Go.RowKit

def sg (i : Nat) : Bytes := signsE.getD i []
def lv (i : Nat) : Nat := [0, 1, 2, 2, 2, 2, 3, 3, 4, 4, 4].getD i 0
def tx0 (i k : Nat) : Bytes := [49, 32] ++ sg i ++ [32, 50, 32] ++ sg k ++ [32, 51]
def tx1 (i k : Nat) : Bytes := [40, 49, 32] ++ sg i ++ [32, 50, 41, 32] ++ sg k ++ [32, 51]
def tx2 (i k : Nat) : Bytes := [49, 32] ++ sg i ++ [32, 40, 50, 32] ++ sg k ++ [32, 51, 41]
/-- The tree of a text, if all of it is one. -/
def resF (l : Bytes) : Option Ex :=
  match scanF (l.length + 1) 1 l with
  | .error _ => none
  | .ok ts =>
    match exprP 3 ⟨ts, 0, 0⟩ with
    | none => none
    | some (x, s) => if (hdT s).kind = 0 ∧ s.ref = 0 ∧ s.out = 0 then some x else none
/-- Where a text is refused. -/
def badF (l : Bytes) : Nat :=
  match scanF (l.length + 1) 1 l with
  | .error _ => 0
  | .ok ts =>
    match exprP 3 ⟨ts, 0, 0⟩ with
    | none => 0
    | some (_, s) => (endP s).ref
/-- At most three levels, and few operands. -/
def smB : Nat → List Ex → Bool
  | 0, xs => decide (xs.length = 0)
  | d + 1, xs => decide (xs.length ≤ 1000) && xs.all fun x => smB d x.args
def chkP (i k : Nat) : Bool :=
  match resF (tx1 i k), resF (tx2 i k) with
  | some l, some r =>
    smB 4 [l] && smB 4 [r] && !(eqX false 4 [l] [r]) &&
      (if lv i = 2 ∧ lv k = 2 then decide (0 < badF (tx0 i k)) else
        match resF (tx0 i k) with
        | some x => smB 4 [x] && eqX false 4 [x] [if lv i < lv k then r else l]
        | none => false)
  | _, _ => false
set_option maxRecDepth 100000 in
theorem chkP_all : ((List.range 11).all fun i => (List.range 11).all fun k => chkP i k) = true := by kernel_rfl
theorem chkP_at {i k : Nat} (hi : i < 11) (hk : k < 11) : chkP i k = true := by
  have h := List.all_eq_true.1 chkP_all i (List.mem_range.2 hi)
  exact List.all_eq_true.1 h k (List.mem_range.2 hk)
/-- All of a text is one tree. -/
def Good (l : Bytes) (x : Ex) : Prop := ∃ ts s, scan 1 l = .ok ts ∧ exprP 3 ⟨ts, 0, 0⟩ = some (x, s) ∧ (hdT s).kind = 0 ∧ s.ref = 0 ∧ s.out = 0
def Bad (l : Bytes) (N : Nat) : Prop := ∃ ts x s, scan 1 l = .ok ts ∧ exprP 3 ⟨ts, 0, 0⟩ = some (x, s) ∧ (endP s).ref = N ∧ 0 < N
theorem resF_good {l : Bytes} {x : Ex} (h : resF l = some x) : Good l x := by
  unfold resF at h
  cases hs : scanF (l.length + 1) 1 l with
  | error e => rw [hs] at h; cases h
  | ok ts =>
    rw [hs] at h
    simp only [] at h
    cases hp : exprP 3 ⟨ts, 0, 0⟩ with
    | none => rw [hp] at h; cases h
    | some q =>
      obtain ⟨y, s⟩ := q
      rw [hp] at h
      simp only [] at h
      split at h
      · rename_i hc
        injection h with h
        subst h
        exact ⟨ts, s, by rw [← scanF_eq (l.length + 1) 1 l (by omega)]; exact hs, hp, hc.1, hc.2.1, hc.2.2⟩
      · cases h
theorem badF_bad {l : Bytes} (h : 0 < badF l) : Bad l (badF l) := by
  obtain ⟨N, hN⟩ : ∃ N, badF l = N := ⟨_, rfl⟩
  rw [hN] at h ⊢
  unfold badF at hN
  cases hs : scanF (l.length + 1) 1 l with
  | error e => rw [hs] at hN; simp only [] at hN; omega
  | ok ts =>
    rw [hs] at hN
    simp only [] at hN
    cases hp : exprP 3 ⟨ts, 0, 0⟩ with
    | none => rw [hp] at hN; simp only [] at hN; omega
    | some q =>
      obtain ⟨y, s⟩ := q
      rw [hp] at hN
      exact ⟨ts, y, s, by rw [← scanF_eq (l.length + 1) 1 l (by omega)]; exact hs, hp, hN, h⟩
theorem eqX_more {ln : Bool} : ∀ (d n : Nat) (xs ys : List Ex), smB d xs = true → eqX ln (d + n) xs ys = eqX ln d xs ys
  | 0, n, xs, ys, h => by
    have hx : xs = [] := by
      simp only [smB, decide_eq_true_eq] at h
      exact List.eq_nil_of_length_eq_zero h
    subst hx
    cases n with
    | zero => rfl
    | succ n => simp [eqX]
  | d + 1, n, xs, ys, h => by
    have e : d + 1 + n = (d + n) + 1 := by omega
    rw [e]
    simp only [eqX]
    congr 1
    simp only [smB, Bool.and_eq_true, List.all_eq_true] at h
    rw [Bool.eq_iff_iff, List.all_eq_true, List.all_eq_true]
    have key : ∀ p ∈ xs.zip ys, eq1 ln (eqX ln (d + n)) p.1 p.2 = eq1 ln (eqX ln d) p.1 p.2 := by
      rintro ⟨x, y⟩ hm
      have hx := h.2 x (List.of_mem_zip hm).1
      match x, y, hx with
      | .mk k o a l s us, .mk k' o' a' l' s' vs, hx =>
        simp only [eq1]
        rw [eqX_more d n us vs hx]
    exact ⟨fun hh p hp => by rw [← key p hp]; exact hh p hp, fun hh p hp => by rw [key p hp]; exact hh p hp⟩
theorem lenOk_more : ∀ (d n : Nat) (xs : List Ex), smB d xs = true → LenOk (d + n) xs
  | 0, n, xs, h => by
    have hx : xs = [] := by
      simp only [smB, decide_eq_true_eq] at h
      exact List.eq_nil_of_length_eq_zero h
    subst hx
    cases n with
    | zero => simp [LenOk]
    | succ n => simp [LenOk]
  | d + 1, n, xs, h => by
    have e : d + 1 + n = (d + n) + 1 := by omega
    rw [e]
    simp only [smB, Bool.and_eq_true, List.all_eq_true, decide_eq_true_eq] at h
    exact ⟨by omega, fun x hx => lenOk_more d n x.args (h.2 x hx)⟩
/-- What holds of a pair of operators. -/
theorem prec_at {i k : Nat} (hi : i < 11) (hk : k < 11) : ∃ l r, Good (tx1 i k) l ∧ Good (tx2 i k) r ∧ smB 4 [l] = true ∧ smB 4 [r] = true ∧ eqX false 4 [l] [r] = false ∧
    ((lv i = 2 ∧ lv k = 2 ∧ ∃ N, Bad (tx0 i k) N) ∨ (¬(lv i = 2 ∧ lv k = 2) ∧ ∃ x, Good (tx0 i k) x ∧ smB 4 [x] = true ∧ eqX false 4 [x] [if lv i < lv k then r else l] = true)) := by
  have h := chkP_at hi hk
  unfold chkP at h
  cases h1 : resF (tx1 i k) with
  | none => rw [h1] at h; cases h
  | some l =>
    cases h2 : resF (tx2 i k) with
    | none => rw [h1, h2] at h; cases h
    | some r =>
      rw [h1, h2] at h
      simp only [Bool.and_eq_true, Bool.not_eq_true'] at h
      obtain ⟨⟨⟨hl, hr⟩, hne⟩, hc⟩ := h
      refine ⟨l, r, resF_good h1, resF_good h2, hl, hr, hne, ?_⟩
      split at hc
      · rename_i h22
        exact .inl ⟨h22.1, h22.2, _, badF_bad (by simpa using hc)⟩
      · rename_i h22
        cases h0 : resF (tx0 i k) with
        | none => rw [h0] at hc; cases hc
        | some x =>
          rw [h0] at hc
          simp only [Bool.and_eq_true] at hc
          exact .inr ⟨h22, x, resF_good h0, hc.1, hc.2⟩
end Go.Proofs.YtdnaknpifinfdaaGreatDoor
