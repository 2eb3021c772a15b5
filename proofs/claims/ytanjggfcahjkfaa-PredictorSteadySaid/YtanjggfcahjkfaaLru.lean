/-
  Lists of numbers, the one used last first, cut to some places: plain mathematics of caches and pages (what is there with fewer places is there with more; distances). No condition.
-/
import Derived.WalkKit
namespace Go.Proofs.Ytanjggfcahjkfaa

/-- x comes to the front, and the first w stay. -/
def fstW (w x : Nat) (l : List Nat) : List Nat := (x :: l.filter (· != x)).take w
/-- The same with room for all. -/
def fstU (x : Nat) (l : List Nat) : List Nat := x :: l.filter (· != x)

theorem filter_ne {x : Nat} {l : List Nat} (h : x ∉ l) : l.filter (· != x) = l :=
  List.filter_eq_self.2 (fun a ha => by simp only [bne_iff_ne, ne_eq]; rintro rfl; exact h ha)
theorem take_filter (x : Nat) : ∀ (l : List Nat) (w : Nat), l.Nodup → ((l.take (w + 1)).filter (· != x)).take w = (l.filter (· != x)).take w
  | [], w, _ => by simp
  | y :: l, w, h => by
    rw [List.nodup_cons] at h
    rw [List.take_succ_cons]
    by_cases hy : y = x
    · subst hy
      have hn2 : y ∉ l.take w := fun ha => h.1 (List.mem_of_mem_take ha)
      simp [filter_ne h.1, filter_ne hn2, List.take_take]
    · cases w with
      | zero => simp
      | succ v =>
        have := take_filter x l v h.2
        simp [hy, this]
theorem fstW_take {w x : Nat} {l : List Nat} (h : l.Nodup) : fstW w x (l.take w) = (fstU x l).take w := by
  unfold fstW fstU
  cases w with
  | zero => simp
  | succ v => rw [List.take_succ_cons, List.take_succ_cons, take_filter x l v h]
theorem fstU_nodup {x : Nat} {l : List Nat} (h : l.Nodup) : (fstU x l).Nodup := by
  unfold fstU
  rw [List.nodup_cons]
  exact ⟨by simp, h.filter _⟩
theorem mem_fstU {x y : Nat} {l : List Nat} : y ∈ fstU x l ↔ y = x ∨ y ∈ l := by
  unfold fstU
  simp only [List.mem_cons, List.mem_filter, bne_iff_ne, ne_eq]
  constructor
  · rintro (h | h)
    · exact .inl h
    · exact .inr h.1
  · rintro (h | h)
    · exact .inl h
    · by_cases e : y = x
      · exact .inl e
      · exact .inr ⟨h, e⟩
theorem fstW_nodup {w x : Nat} {l : List Nat} (h : l.Nodup) : (fstW w x l).Nodup := (fstU_nodup (x := x) h).sublist (List.take_sublist _ _)
theorem fstW_len (w x : Nat) (l : List Nat) : (fstW w x l).length ≤ w := List.length_take_le _ _
theorem mem_fstW {w x y : Nat} {l : List Nat} (h : y ∈ fstW w x l) : y = x ∨ y ∈ l := mem_fstU.1 (List.mem_of_mem_take h)
theorem fstW_head {w x : Nat} {l : List Nat} (h : 1 ≤ w) : (fstW w x l)[0]? = some x := by
  unfold fstW
  cases w with
  | zero => omega
  | succ v => simp
theorem fstW_pos {w x : Nat} {l : List Nat} (h : 1 ≤ w) : 1 ≤ (fstW w x l).length := by
  unfold fstW
  simp only [List.length_take, List.length_cons]
  omega

/-- The set to which a line belongs. -/
def setOf (st : List (List Nat)) (x : Nat) : List Nat := st.getD (x % st.length) []
/-- A cache after an access. -/
def accC (w : Nat) (st : List (List Nat)) (x : Nat) : List (List Nat) := st.set (x % st.length) (fstW w x (setOf st x))
/-- Whether a line is there. -/
def thC (st : List (List Nat)) (x : Nat) : Bool := (setOf st x).contains x
/-- A cache after accesses. -/
def runC (w : Nat) (st : List (List Nat)) (ts : List Nat) : List (List Nat) := ts.foldl (accC w) st
/-- How many accesses miss. -/
def missC (w : Nat) : List (List Nat) → List Nat → Nat
  | _, [] => 0
  | st, x :: ts => (if thC st x then 0 else 1) + missC w (accC w st x) ts
/-- How many accesses of each group miss. -/
def eachC (w : Nat) : List (List Nat) → List (List Nat) → List Nat
  | _, [] => []
  | st, t :: fs => missC w st t :: eachC w (runC w st t) fs

theorem accC_len (w : Nat) (st : List (List Nat)) (x : Nat) : (accC w st x).length = st.length := by simp [accC]
theorem runC_snoc (w : Nat) (st : List (List Nat)) (ts : List Nat) (x : Nat) : runC w st (ts ++ [x]) = accC w (runC w st ts) x := by simp [runC]
theorem runC_append (w : Nat) (st : List (List Nat)) (ts us : List Nat) : runC w st (ts ++ us) = runC w (runC w st ts) us := by simp [runC]
theorem runC_len (w : Nat) : ∀ (ts : List Nat) (st : List (List Nat)), (runC w st ts).length = st.length
  | [], _ => rfl
  | x :: ts, st => (runC_len w ts (accC w st x)).trans (accC_len w st x)
theorem missC_append (w : Nat) : ∀ (ts : List Nat) (st : List (List Nat)) (us : List Nat), missC w st (ts ++ us) = missC w st ts + missC w (runC w st ts) us
  | [], st, us => by simp [missC, runC]
  | x :: ts, st, us => by
    simp only [List.cons_append, missC, missC_append w ts]
    have : runC w st (x :: ts) = runC w (accC w st x) ts := rfl
    rw [this]
    omega
theorem missC_snoc (w : Nat) (st : List (List Nat)) (ts : List Nat) (x : Nat) : missC w st (ts ++ [x]) = missC w st ts + if thC (runC w st ts) x then 0 else 1 := by
  rw [missC_append]
  simp [missC]
theorem missC_le (w : Nat) : ∀ (ts : List Nat) (st : List (List Nat)), missC w st ts ≤ ts.length
  | [], _ => Nat.le_refl _
  | x :: ts, st => by
    have := missC_le w ts (accC w st x)
    simp only [missC, List.length_cons]
    split <;> omega
theorem eachC_len (w : Nat) : ∀ (fs : List (List Nat)) (st : List (List Nat)), (eachC w st fs).length = fs.length
  | [], _ => rfl
  | t :: fs, st => by simp [eachC, eachC_len w fs]
theorem eachC_snoc (w : Nat) : ∀ (fs : List (List Nat)) (st : List (List Nat)) (t : List Nat), eachC w st (fs ++ [t]) = eachC w st fs ++ [missC w (runC w st fs.flatten) t]
  | [], st, t => by simp [eachC, runC]
  | u :: fs, st, t => by
    simp only [List.cons_append, eachC, eachC_snoc w fs, List.flatten_cons, runC_append]
theorem eachC_sum (w : Nat) : ∀ (fs : List (List Nat)) (st : List (List Nat)), (eachC w st fs).sum = missC w st fs.flatten
  | [], _ => rfl
  | t :: fs, st => by simp [eachC, eachC_sum w fs, missC_append]

/-- All lines ever used, per set, the last one first: a cache keeps its first ways. -/
structure Stk (w s : Nat) (S : Nat → List Nat) (st : List (List Nat)) : Prop where
  len : st.length = s
  row : ∀ i, i < s → st[i]? = some ((S i).take w)
  nd : ∀ i, (S i).Nodup
def stepS (s : Nat) (S : Nat → List Nat) (x : Nat) : Nat → List Nat := fun i => if i = x % s then fstU x (S i) else S i
theorem stk_new (w s : Nat) : Stk w s (fun _ => []) (List.replicate s []) := ⟨by simp, fun i hi => by simp [hi], fun _ => List.nodup_nil⟩
theorem Stk.set {w s : Nat} {S : Nat → List Nat} {st : List (List Nat)} (h : Stk w s S st) (hs : 1 ≤ s) (x : Nat) : setOf st x = (S (x % s)).take w := by
  have := h.row (x % s) (Nat.mod_lt _ hs)
  simp [setOf, h.len, List.getD_eq_getElem?_getD, this]
theorem Stk.step {w s : Nat} {S : Nat → List Nat} {st : List (List Nat)} (h : Stk w s S st) (hs : 1 ≤ s) (x : Nat) : Stk w s (stepS s S x) (accC w st x) := by
  refine ⟨by rw [accC_len, h.len], fun i hi => ?_, fun i => ?_⟩
  · unfold accC stepS
    rw [h.set hs x, h.len]
    by_cases e : i = x % s
    · subst e
      rw [if_pos rfl, List.getElem?_set_self (by rw [h.len]; exact hi), fstW_take (h.nd _)]
    · rw [if_neg e, List.getElem?_set_ne (fun he => e he.symm)]
      exact h.row i hi
  · unfold stepS
    split
    · exact fstU_nodup (h.nd i)
    · exact h.nd i
theorem Stk.there {w s : Nat} {S : Nat → List Nat} {st : List (List Nat)} (h : Stk w s S st) (hs : 1 ≤ s) (x : Nat) : thC st x = ((S (x % s)).take w).contains x := by rw [thC, h.set hs x]
theorem there_wide {S : List Nat} {w v x : Nat} (hw : w ≤ v) (h : (S.take w).contains x = true) : (S.take v).contains x = true := by
  rw [List.contains_iff_mem] at h ⊢
  exact (List.take_subset_take_left S hw) h
/-- With more ways no more lines are missed. -/
theorem miss_wide {w v s : Nat} (hs : 1 ≤ s) (hw : w ≤ v) : ∀ (ts : List Nat) (S : Nat → List Nat) (a b : List (List Nat)), Stk w s S a → Stk v s S b →
    missC v b ts ≤ missC w a ts ∧ ∃ S', Stk w s S' (runC w a ts) ∧ Stk v s S' (runC v b ts)
  | [], S, a, b, ha, hb => ⟨Nat.le_refl _, S, ha, hb⟩
  | x :: ts, S, a, b, ha, hb => by
    obtain ⟨h1, h2⟩ := miss_wide hs hw ts _ _ _ (ha.step hs x) (hb.step hs x)
    refine ⟨?_, h2⟩
    have h3 := there_wide (S := S (x % s)) (x := x) hw
    rw [← ha.there hs, ← hb.there hs] at h3
    simp only [missC]
    by_cases e : thC a x = true
    · rw [if_pos e, if_pos (h3 e)]
      omega
    · rw [if_neg e]
      split <;> omega
theorem each_wide {w v s : Nat} (hs : 1 ≤ s) (hw : w ≤ v) : ∀ (fs : List (List Nat)) (S : Nat → List Nat) (a b : List (List Nat)), Stk w s S a → Stk v s S b →
    ∀ i, (eachC v b fs).getD i 0 ≤ (eachC w a fs).getD i 0
  | [], _, _, _, _, _ => fun i => by simp [eachC]
  | t :: fs, S, a, b, ha, hb => fun i => by
    obtain ⟨h1, S', h2, h3⟩ := miss_wide hs hw t S a b ha hb
    cases i with
    | zero => simpa [eachC] using h1
    | succ i => simpa [eachC] using each_wide hs hw fs S' _ _ h2 h3 i

/-- How many numbers are new, where some were seen. -/
def newC : List Nat → List Nat → Nat
  | _, [] => 0
  | p, x :: ts => (if p.contains x then 0 else 1) + newC (x :: p) ts
theorem newC_snoc : ∀ (ts p : List Nat) (x : Nat), newC p (ts ++ [x]) = newC p ts + if (p ++ ts).contains x then 0 else 1
  | [], p, x => by simp [newC]
  | y :: ts, p, x => by
    have h : (y :: (p ++ ts)).contains x = (p ++ y :: ts).contains x := by
      rw [Bool.eq_iff_iff, List.contains_iff_mem, List.contains_iff_mem]
      simp only [List.mem_cons, List.mem_append]
      constructor
      · rintro (h | h | h)
        · exact .inr (.inl h)
        · exact .inl h
        · exact .inr (.inr h)
      · rintro (h | h | h)
        · exact .inr (.inl h)
        · exact .inl h
        · exact .inr (.inr h)
    simp only [List.cons_append, newC, newC_snoc ts, h]
    omega
theorem newC_le_miss {w s : Nat} (hs : 1 ≤ s) : ∀ (ts p : List Nat) (S : Nat → List Nat) (st : List (List Nat)), Stk w s S st → (∀ i x, x ∈ S i → x ∈ p) → newC p ts ≤ missC w st ts
  | [], _, _, _, _, _ => Nat.le_refl _
  | x :: ts, p, S, st, h, hp => by
    have ih := newC_le_miss hs ts (x :: p) _ _ (h.step hs x) (fun i y hy => by
      unfold stepS at hy
      split at hy
      · rcases mem_fstU.1 hy with rfl | h2
        · exact List.mem_cons_self
        · exact List.mem_cons_of_mem _ (hp _ _ h2)
      · exact List.mem_cons_of_mem _ (hp _ _ hy))
    simp only [newC, missC]
    by_cases e : thC st x = true
    · have hm : x ∈ p := by
        rw [h.there hs, List.contains_iff_mem] at e
        exact hp _ _ (List.mem_of_mem_take e)
      rw [if_pos e, if_pos (List.contains_iff_mem.2 hm)]
      omega
    · rw [if_neg e]
      split <;> omega
theorem nodup_len : ∀ (K : Nat) (l : List Nat), l.Nodup → (∀ x ∈ l, x < K) → l.length ≤ K
  | 0, l, _, h => by
    cases l with
    | nil => simp
    | cons x l => exact absurd (h x List.mem_cons_self) (by omega)
  | K + 1, l, hn, h => by
    have h2 := nodup_len K (l.filter (· != K)) (hn.filter _) (fun x hx => by
      rw [List.mem_filter] at hx
      have h3 := h x hx.1
      have h4 : x ≠ K := by simpa using hx.2
      omega)
    have h5 : l.length ≤ (l.filter (· != K)).length + 1 := by
      clear h2 h
      induction l with
      | nil => simp
      | cons x l ih =>
        rw [List.nodup_cons] at hn
        by_cases e : x = K
        · subst e
          simp [filter_ne hn.1]
        · have := ih hn.2
          simp [e]
          omega
    omega
theorem miss_enough {w s K : Nat} (hs : 1 ≤ s) (hK : K ≤ w) : ∀ (ts p : List Nat) (S : Nat → List Nat) (st : List (List Nat)), Stk w s S st → (∀ i x, x ∈ S i → x < K) → (∀ x, x ∈ p ↔ x ∈ S (x % s)) → (∀ x ∈ ts, x < K) → missC w st ts = newC p ts
  | [], _, _, _, _, _, _, _ => rfl
  | x :: ts, p, S, st, h, hb, hp, ht => by
    have ih := miss_enough hs hK ts (x :: p) _ _ (h.step hs x) (fun i y hy => by
      unfold stepS at hy
      split at hy
      · rcases mem_fstU.1 hy with rfl | h2
        · exact ht _ List.mem_cons_self
        · exact hb _ _ h2
      · exact hb _ _ hy) (fun y => by
      unfold stepS
      by_cases e : y % s = x % s
      · rw [if_pos e, mem_fstU, List.mem_cons, hp y]
      · rw [if_neg e, List.mem_cons, hp y]
        constructor
        · rintro (rfl | h2)
          · exact absurd rfl e
          · exact h2
        · exact .inr) (fun y hy => ht y (List.mem_cons_of_mem _ hy))
    have hl : (S (x % s)).take w = S (x % s) := List.take_of_length_le (by have := nodup_len K _ (h.nd (x % s)) (hb _); omega)
    have e : thC st x = p.contains x := by
      rw [h.there hs, hl, Bool.eq_iff_iff, List.contains_iff_mem, List.contains_iff_mem, hp x]
    simp only [newC, missC, e, ih]
theorem stk_mem_new {s x : Nat} : x ∈ ([] : List Nat) ↔ x ∈ (fun _ : Nat => ([] : List Nat)) (x % s) := Iff.rfl

/-- Sets do not disturb each other. -/
def oneC (w k s : Nat) (st : List (List Nat)) (ts : List Nat) : Nat := missC w [st.getD k []] (ts.filter (fun x => x % s == k))
theorem thC_one (u : List Nat) (x : Nat) : thC [u] x = u.contains x := by simp [thC, setOf, Nat.mod_one]
theorem accC_one (w : Nat) (u : List Nat) (x : Nat) : accC w [u] x = [fstW w x u] := by simp [accC, setOf, Nat.mod_one]
def sumTo (f : Nat → Nat) : Nat → Nat
  | 0 => 0
  | k + 1 => sumTo f k + f k
theorem sumTo_same {f g : Nat → Nat} : ∀ n, (∀ k, k < n → f k = g k) → sumTo f n = sumTo g n
  | 0, _ => rfl
  | n + 1, h => by
    simp only [sumTo]
    rw [sumTo_same n (fun k hk => h k (by omega)), h n (by omega)]
theorem sumTo_one {f g : Nat → Nat} {j d : Nat} : ∀ n, j < n → f j = g j + d → (∀ k, k < n → k ≠ j → f k = g k) → sumTo f n = sumTo g n + d
  | 0, h, _, _ => absurd h (by omega)
  | n + 1, h, hj, ho => by
    simp only [sumTo]
    by_cases e : j = n
    · subst e
      rw [sumTo_same j (fun k hk => ho k (by omega) (by omega)), hj]
      omega
    · rw [sumTo_one n (by omega) hj (fun k hk hne => ho k (by omega) hne), ho n (by omega) (fun h2 => e h2.symm)]
      omega
theorem sumTo_zero : ∀ n, sumTo (fun _ => 0) n = 0
  | 0 => rfl
  | n + 1 => by simp [sumTo, sumTo_zero n]
theorem miss_sets {w s : Nat} (hs : 1 ≤ s) : ∀ (ts : List Nat) (st : List (List Nat)), st.length = s → missC w st ts = sumTo (fun k => oneC w k s st ts) s
  | [], st, _ => by
    simp only [oneC, List.filter_nil, missC]
    rw [sumTo_zero]
  | x :: ts, st, h => by
    have hk : x % s < s := Nat.mod_lt _ hs
    rw [missC, miss_sets hs ts _ (by rw [accC_len, h])]
    rw [Nat.add_comm, sumTo_one (f := fun k => oneC w k s st (x :: ts)) (g := fun k => oneC w k s (accC w st x) ts) (j := x % s) (d := if thC st x then 0 else 1) s hk]
    · simp only [oneC, List.filter_cons, beq_self_eq_true, if_true, missC, thC_one, accC_one]
      have h1 : (accC w st x).getD (x % s) [] = fstW w x (setOf st x) := by
        unfold accC
        rw [h, List.getD_eq_getElem?_getD, List.getElem?_set_self (by rw [h]; exact hk)]
        rfl
      have h2 : st.getD (x % s) [] = setOf st x := by unfold setOf; rw [h]
      have h3 : thC st x = (setOf st x).contains x := rfl
      rw [h1, h2, h3]
      omega
    · intro k hk2 hne
      have hf : (x % s == k) = false := by simp; exact fun e => hne e.symm
      simp only [oneC, List.filter_cons, hf, if_false, Bool.false_eq_true]
      have h1 : (accC w st x).getD k [] = st.getD k [] := by
        unfold accC
        rw [h, List.getD_eq_getElem?_getD, List.getElem?_set_ne (fun e => hne e.symm), List.getD_eq_getElem?_getD]
      rw [h1]

/-- The distance of each touch: its place among what was used last, from 1 on; 0 if it was not used. -/
def placeC (x : Nat) (l : List Nat) : Nat := if l.contains x then l.idxOf x + 1 else 0
def distC : List Nat → List Nat → List Nat
  | _, [] => []
  | l, x :: ts => placeC x l :: distC (fstU x l) ts
def stkU (l ts : List Nat) : List Nat := ts.foldl (fun l x => fstU x l) l
theorem distC_snoc : ∀ (ts l : List Nat) (x : Nat), distC l (ts ++ [x]) = distC l ts ++ [placeC x (stkU l ts)]
  | [], l, x => rfl
  | y :: ts, l, x => by simp [distC, distC_snoc ts, stkU]
theorem distC_len : ∀ (ts l : List Nat), (distC l ts).length = ts.length
  | [], _ => rfl
  | x :: ts, l => by simp [distC, distC_len ts]
theorem stkU_snoc (ts l : List Nat) (x : Nat) : stkU l (ts ++ [x]) = fstU x (stkU l ts) := by simp [stkU]
theorem stkU_nodup : ∀ (ts l : List Nat), l.Nodup → (stkU l ts).Nodup
  | [], _, h => h
  | x :: ts, l, h => stkU_nodup ts (fstU x l) (fstU_nodup h)
theorem mem_stkU {y : Nat} : ∀ (ts l : List Nat), y ∈ stkU l ts ↔ y ∈ l ∨ y ∈ ts
  | [], l => by simp [stkU]
  | x :: ts, l => by
    have h := mem_stkU (y := y) ts (fstU x l)
    have e : stkU l (x :: ts) = stkU (fstU x l) ts := rfl
    rw [e, h, mem_fstU, List.mem_cons]
    constructor
    · rintro ((h | h) | h)
      · exact .inr (.inl h)
      · exact .inl h
      · exact .inr (.inr h)
    · rintro (h | h | h)
      · exact .inl (.inr h)
      · exact .inl (.inl h)
      · exact .inr h
theorem mem_take_idx {x r : Nat} : ∀ l : List Nat, x ∈ l.take r ↔ (x ∈ l ∧ l.idxOf x < r)
  | [] => by simp
  | y :: l => by
    cases r with
    | zero => simp
    | succ r =>
      rw [List.take_succ_cons, List.mem_cons, List.mem_cons, mem_take_idx l, List.idxOf_cons]
      by_cases e : y = x
      · subst e
        simp
      · have e2 : ¬ x = y := fun h => e h.symm
        have e3 : (y == x) = false := by simp [e]
        simp only [e2, false_or, e3, cond_false]
        constructor
        · rintro ⟨h1, h2⟩
          exact ⟨h1, by omega⟩
        · rintro ⟨h1, h2⟩
          exact ⟨h1, by omega⟩
/-- How many distances are those of faults, with so many places. -/
def farC (r : Nat) (ds : List Nat) : Nat := ds.countP (fun d => d == 0 || decide (r < d))
theorem far_place {x r : Nat} {l : List Nat} : (placeC x l == 0 || decide (r < placeC x l)) = !((l.take r).contains x) := by
  unfold placeC
  by_cases h : l.contains x = true
  · rw [if_pos h]
    have hm := List.contains_iff_mem.1 h
    have h2 : ((l.take r).contains x = true) ↔ l.idxOf x < r := by
      rw [List.contains_iff_mem, mem_take_idx]
      exact ⟨fun h => h.2, fun h => ⟨hm, h⟩⟩
    by_cases h3 : l.idxOf x < r
    · rw [h2.2 h3]
      simp
      omega
    · have h4 : (l.take r).contains x = false := by
        rw [← Bool.not_eq_true, h2]
        exact h3
      rw [h4]
      simp
      omega
  · rw [if_neg h]
    have h4 : (l.take r).contains x = false := by
      rw [← Bool.not_eq_true, List.contains_iff_mem]
      exact fun hm => h (List.contains_iff_mem.2 (List.mem_of_mem_take hm))
    rw [h4]
    simp
theorem far_faults {r : Nat} : ∀ (ts S : List Nat), S.Nodup → farC r (distC S ts) = missC r [S.take r] ts
  | [], _, _ => rfl
  | x :: ts, S, h => by
    have ih := far_faults (r := r) ts (fstU x S) (fstU_nodup h)
    unfold farC at ih ⊢
    rw [distC, List.countP_cons, ih, far_place, missC, thC_one, accC_one, fstW_take h]
    cases (S.take r).contains x <;> simp <;> omega
end Go.Proofs.Ytanjggfcahjkfaa
