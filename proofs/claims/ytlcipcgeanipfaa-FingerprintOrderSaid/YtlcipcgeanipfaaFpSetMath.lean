/-
  A sorted list whose runs of equal elements are cut to one element, and a list's first occurrences, are permutations of each other. No condition.
-/
import Derived.Test.YtlcipcgeanipfaaFpOnce
import Derived.Lib.SlicesCompact
import Derived.Sort.AssemblyPlain
namespace Go.Proofs.Ytlcipcgeanipfaa
open Go.RowKit Go.Sort Go.Lib

theorem onceStep_mem (acc : List Nat) (x a : Nat) : a ∈ onceStep acc x ↔ a ∈ acc ∨ a = x := by
  unfold onceStep
  split
  · rename_i h
    unfold seenB at h
    rw [List.contains_iff_mem] at h
    exact ⟨fun h1 => .inl h1, fun h1 => h1.elim id (fun e => e ▸ h)⟩
  · simp
theorem onceStep_nodup {acc : List Nat} (x : Nat) (h : acc.Nodup) : (onceStep acc x).Nodup := by
  unfold onceStep
  split
  · exact h
  · rename_i hn
    unfold seenB at hn
    rw [List.contains_iff_mem] at hn
    rw [List.nodup_append]
    refine ⟨h, by simp, ?_⟩
    intro a ha b hb e
    simp at hb
    subst hb
    exact hn (e ▸ ha)
theorem onces_mem (l : List Nat) : ∀ (acc : List Nat) (a : Nat), a ∈ onces acc l ↔ a ∈ acc ∨ a ∈ l := by
  induction l with
  | nil => intro acc a; simp [onces]
  | cons x r ih =>
    intro acc a
    show a ∈ onces (onceStep acc x) r ↔ _
    rw [ih, onceStep_mem, List.mem_cons, or_assoc]
theorem onces_nodup (l : List Nat) : ∀ (acc : List Nat), acc.Nodup → (onces acc l).Nodup := by
  induction l with
  | nil => intro acc h; exact h
  | cons x r ih => intro acc h; exact ih _ (onceStep_nodup x h)

/-- What the compacted beginning of a sorted row holds. -/
structure Cmp (d : Array Int) (m : Nat) : Prop where
  from_ : ∀ x ∈ compactUpTo d m, ∃ i, i < m ∧ x = d[i]!
  all_ : ∀ i, i < m → d[i]! ∈ compactUpTo d m
  asc : (compactUpTo d m).Pairwise (· < ·)
theorem cmp_of_sorted {d : Array Int} {n : Nat} (h : SortedIn ltInt 0 n d) : ∀ m, m ≤ n → Cmp d m := by
  have hle : ∀ i j, i ≤ j → j < n → d[i]! ≤ d[j]! := fun i j hij hj => by
    rcases Nat.eq_or_lt_of_le hij with e | hlt
    · rw [e]; exact Int.le_refl _
    · have := h i j (Nat.zero_le _) hlt hj
      unfold ltInt at this
      simp at this
      exact this
  intro m
  induction m with
  | zero => intro _; exact ⟨fun x hx => by simp [compactUpTo] at hx, fun i hi => absurd hi (Nat.not_lt_zero _), by simp [compactUpTo]⟩
  | succ m ih =>
    intro hm
    obtain ⟨f, a, s⟩ := ih (by omega)
    cases hk : keeps d m
    · have e : compactUpTo d (m + 1) = compactUpTo d m := by rw [compactUpTo_succ, hk]; simp
      have hk' : ¬ (m = 0 ∨ d[m]! ≠ d[m - 1]!) := by simpa [keeps] using hk
      have hm0 : m ≠ 0 := fun h0 => hk' (.inl h0)
      have heq : d[m]! = d[m - 1]! := Decidable.byContradiction fun h0 => hk' (.inr h0)
      refine ⟨?_, ?_, by rw [e]; exact s⟩
      · intro x hx
        rw [e] at hx
        obtain ⟨i, hi, rfl⟩ := f x hx
        exact ⟨i, by omega, rfl⟩
      · intro i hi
        rw [e]
        rcases Nat.lt_or_ge i m with hlt | hge
        · exact a i hlt
        · obtain rfl : i = m := by omega
          rw [heq]
          exact a _ (by omega)
    · have e : compactUpTo d (m + 1) = compactUpTo d m ++ [d[m]!] := by rw [compactUpTo_succ, hk, if_pos rfl]
      have hk' : m = 0 ∨ d[m]! ≠ d[m - 1]! := by simpa [keeps] using hk
      refine ⟨?_, ?_, ?_⟩
      · intro x hx
        rw [e, List.mem_append] at hx
        rcases hx with hx | hx
        · obtain ⟨i, hi, rfl⟩ := f x hx
          exact ⟨i, by omega, rfl⟩
        · simp at hx
          exact ⟨m, by omega, hx⟩
      · intro i hi
        rw [e, List.mem_append]
        rcases Nat.lt_or_ge i m with hlt | hge
        · exact .inl (a i hlt)
        · obtain rfl : i = m := by omega
          exact .inr (by simp)
      · rw [e, List.pairwise_append]
        refine ⟨s, by simp, ?_⟩
        intro x hx y hy
        simp at hy
        subst hy
        obtain ⟨i, hi, rfl⟩ := f x hx
        rcases hk' with h0 | hne
        · omega
        · have h1 := hle i (m - 1) (by omega) (by omega)
          have h2 := hle (m - 1) m (by omega) (by omega)
          omega

/-- Numbers of a row, as natural numbers. -/
def ints (l : List Nat) : List Int := l.map Int.ofNat
theorem ints_nat {xs : List Int} (h : ∀ x ∈ xs, 0 ≤ x) : xs = ints (xs.map Int.toNat) := by
  unfold ints
  rw [List.map_map]
  conv => lhs; rw [← List.map_id xs]
  refine List.map_congr_left fun x hx => ?_
  have := h x hx
  simp only [Function.comp, id]
  exact (Int.toNat_of_nonneg this).symm
theorem mem_array {R : Array Int} {x : Int} : x ∈ R.toList ↔ ∃ i, i < R.size ∧ x = R[i]! := by
  constructor
  · intro h
    obtain ⟨i, hi, e⟩ := List.mem_iff_getElem.1 h
    simp at hi e
    exact ⟨i, hi, by rw [getElem!_pos R i hi]; exact e.symm⟩
  · rintro ⟨i, hi, rfl⟩
    rw [getElem!_pos R i hi]
    exact List.mem_of_getElem (l := R.toList) (i := i) (h := by simpa using hi) (by simp)
theorem compact_once {l : List Nat} {R : Array Int} (hp : PermIn 0 l.length (ints l).toArray R) (hs : SortedIn ltInt 0 l.length R) :
    ∃ l' : List Nat, compactUpTo R R.size = ints l' ∧ l'.Perm (onces [] l) := by
  have hsz : R.size = l.length := by rw [hp.1]; simp [ints]
  have hperm : R.toList.Perm (ints l) := by
    have h := hp.2.2
    rw [Array.extract_eq_self_of_le (by omega), Array.extract_eq_self_of_le (by simp [ints])] at h
    simpa using h
  have C := cmp_of_sorted hs R.size (by omega)
  have hmem : ∀ x, x ∈ compactUpTo R R.size ↔ x ∈ ints l := fun x =>
    Iff.trans ⟨fun h => C.from_ x h, fun ⟨i, hi, e⟩ => e ▸ C.all_ i hi⟩ (mem_array.symm.trans hperm.mem_iff)
  have hnn : ∀ x ∈ compactUpTo R R.size, 0 ≤ x := fun x hx => by
    obtain ⟨n, _, rfl⟩ := List.mem_map.1 ((hmem x).1 hx)
    exact Int.natCast_nonneg n
  refine ⟨_, ints_nat hnn, ?_⟩
  have hnd : ((compactUpTo R R.size).map Int.toNat).Nodup := by
    rw [List.nodup_iff_pairwise_ne, List.pairwise_map]
    refine C.asc.imp_of_mem ?_
    intro a b ha hb hab he
    have h1 := hnn a ha
    have h2 := hnn b hb
    omega
  rw [List.perm_ext_iff_of_nodup hnd (onces_nodup l [] List.nodup_nil)]
  intro a
  rw [onces_mem]
  constructor
  · intro h
    obtain ⟨x, hx, rfl⟩ := List.mem_map.1 h
    obtain ⟨n, hn, rfl⟩ := List.mem_map.1 ((hmem x).1 hx)
    exact .inr (by simpa using hn)
  · rintro (h | h)
    · cases h
    · exact List.mem_map.2 ⟨Int.ofNat a, (hmem _).2 (List.mem_map.2 ⟨a, h, rfl⟩), by simp⟩
theorem fset_once {l l' : List Nat} (h : l'.Perm (onces [] l)) : fset l' = fset (onces [] l) := fset_perm h
end Go.Proofs.Ytlcipcgeanipfaa
