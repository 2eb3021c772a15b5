/-
  Tables of counters from 0 to 3 that predict branches: plain mathematics. No condition.
-/
import Derived.Test.YtanjggfcahjkfaaLru
namespace Go.Proofs.Ytanjggfcahjkfaa

/-- A counter after a branch. -/
def upN (n : Nat) (b : Bool) : Nat := if b then min (n + 1) 3 else n - 1
/-- The counter of an address. -/
def ctr (t : List Nat) (a : Nat) : Nat := t.getD (a % t.length) 0
/-- The prediction. -/
def prN (t : List Nat) (a : Nat) : Bool := decide (2 ≤ ctr t a)
/-- The table after a branch. -/
def upT (t : List Nat) (a : Nat) (b : Bool) : List Nat := t.set (a % t.length) (upN (ctr t a) b)
/-- A fetch: its address and its kind. -/
abbrev Ft := Nat × Nat
def isBr (f : Ft) : Bool := f.2 == 1 || f.2 == 2
/-- The table after a fetch. -/
def stT (t : List Nat) (f : Ft) : List Nat := if isBr f then upT t f.1 (f.2 == 1) else t
/-- Whether a fetch is predicted wrong. -/
def wrT (t : List Nat) (f : Ft) : Bool := isBr f && (prN t f.1 != (f.2 == 1))
def runT (t : List Nat) (l : List Ft) : List Nat := l.foldl stT t
def eachT : List Nat → List Ft → List Bool
  | _, [] => []
  | t, f :: l => wrT t f :: eachT (stT t f) l
def nWrong (t : List Nat) (l : List Ft) : Nat := (eachT t l).countP id
def nBr (l : List Ft) : Nat := l.countP isBr

theorem upT_len (t : List Nat) (a : Nat) (b : Bool) : (upT t a b).length = t.length := by simp [upT]
theorem stT_len (t : List Nat) (f : Ft) : (stT t f).length = t.length := by
  unfold stT
  split
  · exact upT_len _ _ _
  · rfl
theorem runT_len : ∀ (l : List Ft) (t : List Nat), (runT t l).length = t.length
  | [], _ => rfl
  | f :: l, t => (runT_len l (stT t f)).trans (stT_len t f)
theorem runT_snoc (t : List Nat) (l : List Ft) (f : Ft) : runT t (l ++ [f]) = stT (runT t l) f := by simp [runT]
theorem eachT_len : ∀ (l : List Ft) (t : List Nat), (eachT t l).length = l.length
  | [], _ => rfl
  | f :: l, t => by simp [eachT, eachT_len l]
theorem eachT_snoc : ∀ (l : List Ft) (t : List Nat) (f : Ft), eachT t (l ++ [f]) = eachT t l ++ [wrT (runT t l) f]
  | [], _, _ => rfl
  | g :: l, t, f => by simp [eachT, eachT_snoc l, runT]
theorem nWrong_cons (t : List Nat) (f : Ft) (l : List Ft) : nWrong t (f :: l) = (if wrT t f then 1 else 0) + nWrong (stT t f) l := by
  unfold nWrong
  rw [eachT, List.countP_cons, id_eq]
  omega
theorem nWrong_snoc (t : List Nat) (l : List Ft) (f : Ft) : nWrong t (l ++ [f]) = nWrong t l + if wrT (runT t l) f then 1 else 0 := by
  unfold nWrong
  rw [eachT_snoc, List.countP_append, List.countP_singleton]
  rfl
theorem nBr_snoc (l : List Ft) (f : Ft) : nBr (l ++ [f]) = nBr l + if isBr f then 1 else 0 := by
  unfold nBr
  rw [List.countP_append, List.countP_singleton]
theorem wrong_le_br : ∀ (l : List Ft) (t : List Nat), nWrong t l ≤ nBr l
  | [], _ => Nat.le_refl _
  | f :: l, t => by
    have h1 := wrong_le_br l (stT t f)
    have h2 : nBr (f :: l) = nBr l + if isBr f then 1 else 0 := List.countP_cons
    have h3 : wrT t f = true → isBr f = true := fun h => by unfold wrT at h; rw [Bool.and_eq_true] at h; exact h.1
    rw [nWrong_cons, h2]
    by_cases e : wrT t f = true
    · rw [if_pos e, if_pos (h3 e)]
      omega
    · rw [if_neg e]
      omega
theorem upN_le {n : Nat} (h : n ≤ 3) (b : Bool) : upN n b ≤ 3 := by
  unfold upN
  split <;> omega
/-- All counters are from 0 to 3. -/
def Ctrs (t : List Nat) : Prop := ∀ x ∈ t, x ≤ 3
theorem Ctrs.ctr {t : List Nat} (h : Ctrs t) (a : Nat) : ctr t a ≤ 3 := by
  unfold Go.Proofs.Ytanjggfcahjkfaa.ctr
  rw [List.getD_eq_getElem?_getD]
  cases e : t[a % t.length]? with
  | none => simp
  | some x => exact h x (List.mem_of_getElem? e)
theorem Ctrs.up {t : List Nat} (h : Ctrs t) (a : Nat) (b : Bool) : Ctrs (upT t a b) := fun x hx => by
  rcases List.mem_or_eq_of_mem_set hx with h1 | rfl
  · exact h x h1
  · exact upN_le (h.ctr a) b
theorem Ctrs.step {t : List Nat} (h : Ctrs t) (f : Ft) : Ctrs (stT t f) := by
  unfold stT
  split
  · exact h.up _ _
  · exact h
theorem Ctrs.run {t : List Nat} (h : Ctrs t) : ∀ l : List Ft, Ctrs (runT t l) := fun l => by
  induction l generalizing t with
  | nil => exact h
  | cons f l ih => exact ih (h.step f)
theorem ctrs_new (n : Nat) : Ctrs (List.replicate n 1) := fun x hx => by
  have := List.eq_of_mem_replicate hx
  omega

/-- Branches whose addresses belong to other counters do not matter. -/
theorem wrong_same {k : Nat} : ∀ (l : List Ft) (t u : List Nat), t.length = u.length → t.getD k 0 = u.getD k 0 → k < t.length → (∀ f ∈ l, f.1 % t.length = k) → nWrong t l = nWrong u l
  | [], _, _, _, _, _, _ => rfl
  | f :: l, t, u, hl, hk, hlt, ha => by
    have h1 := ha f List.mem_cons_self
    have hc : ctr t f.1 = ctr u f.1 := by
      unfold ctr
      rw [← hl, h1, hk]
    have hw : wrT t f = wrT u f := by
      unfold wrT prN
      rw [hc]
    rw [nWrong_cons, nWrong_cons, hw]
    have hd : (stT t f).getD k 0 = (stT u f).getD k 0 := by
      unfold stT
      split
      · unfold upT
        rw [hc, ← hl, h1, List.getD_eq_getElem?_getD, List.getD_eq_getElem?_getD, List.getElem?_set_self hlt, List.getElem?_set_self (by omega)]
      · exact hk
    rw [wrong_same l (stT t f) (stT u f) (by rw [stT_len, stT_len, hl]) hd (by rw [stT_len]; exact hlt) (fun g hg => by rw [stT_len]; exact ha g (List.mem_cons_of_mem _ hg))]
def partT (n k : Nat) (l : List Ft) : List Ft := l.filter (fun f => f.1 % n == k)
theorem wrong_apart {n : Nat} (hn : 1 ≤ n) : ∀ (l : List Ft) (t : List Nat), t.length = n → nWrong t l = sumTo (fun k => nWrong t (partT n k l)) n
  | [], t, _ => by
    simp only [partT, List.filter_nil]
    have : nWrong t [] = 0 := rfl
    rw [this, sumTo_zero]
  | f :: l, t, h => by
    have hk : f.1 % n < n := Nat.mod_lt _ hn
    rw [nWrong_cons, wrong_apart hn l (stT t f) (by rw [stT_len, h]), Nat.add_comm]
    rw [sumTo_one (f := fun k => nWrong t (partT n k (f :: l))) (g := fun k => nWrong (stT t f) (partT n k l)) (j := f.1 % n) (d := if wrT t f then 1 else 0) n hk]
    · simp only [partT, List.filter_cons, beq_self_eq_true, if_true, nWrong_cons]
      omega
    · intro k hk2 hne
      have hf : (f.1 % n == k) = false := by simp; exact fun e => hne e.symm
      simp only [partT, List.filter_cons, hf, if_false, Bool.false_eq_true]
      refine wrong_same (k := k) _ _ _ (stT_len t f).symm ?_ (by omega) (fun g hg => ?_)
      · unfold stT
        split
        · unfold upT
          rw [h, List.getD_eq_getElem?_getD, List.getD_eq_getElem?_getD, List.getElem?_set_ne (fun e => hne e.symm)]
        · rfl
      · rw [List.mem_filter] at hg
        rw [h]
        simpa using hg.2

/-- How often a branch that always goes one way is predicted wrong, from a counter on. -/
def steadyN (b : Bool) (c : Nat) : Nat := if b then 2 - c else c - 1
theorem prN_steady {t : List Nat} {a : Nat} (h : Ctrs t) (ht : 1 ≤ t.length) (b : Bool) : (if prN t a != b then 1 else 0) + steadyN b (ctr (upT t a b) a) = steadyN b (ctr t a) := by
  have h3 := h.ctr a
  have hlt : a % t.length < t.length := Nat.mod_lt _ ht
  have hc : ctr (upT t a b) a = upN (ctr t a) b := by
    have : ctr (upT t a b) a = (upT t a b).getD (a % t.length) 0 := by unfold ctr; rw [upT_len]
    rw [this]
    unfold upT
    rw [List.getD_eq_getElem?_getD, List.getElem?_set_self hlt]
    rfl
  rw [hc]
  unfold prN
  generalize ctr t a = c at *
  match c, h3 with
  | 0, _ => cases b <;> rfl
  | 1, _ => cases b <;> rfl
  | 2, _ => cases b <;> rfl
  | 3, _ => cases b <;> rfl
theorem steadyN_le {b : Bool} {c : Nat} (h : c ≤ 3) : steadyN b c ≤ 2 := by
  unfold steadyN
  split <;> omega
/-- Taken, not taken, taken ..: all wrong, from a new table on. -/
def turns (n : Nat) : List Ft := (List.range n).map (fun k => (0, 1 + k % 2))
theorem turns_snoc (n : Nat) : turns (n + 1) = turns n ++ [(0, 1 + n % 2)] := by simp [turns, List.range_succ]
theorem turns_all : ∀ n : Nat, nWrong [1, 1, 1, 1] (turns n) = n ∧ runT [1, 1, 1, 1] (turns n) = [1 + n % 2, 1, 1, 1]
  | 0 => ⟨rfl, rfl⟩
  | n + 1 => by
    obtain ⟨h1, h2⟩ := turns_all n
    rw [turns_snoc, nWrong_snoc, runT_snoc, h1, h2]
    rcases Nat.mod_two_eq_zero_or_one n with e | e
    · have e2 : (n + 1) % 2 = 1 := by omega
      rw [e, e2]
      exact ⟨rfl, rfl⟩
    · have e2 : (n + 1) % 2 = 0 := by omega
      rw [e, e2]
      exact ⟨rfl, rfl⟩
end Go.Proofs.Ytanjggfcahjkfaa
