/-
  What both parsers of expressions read of every text, on plain tokens and in memory: they agree. Condition: the library's two errors lie where they were laid.
-/
import Derived.Test.YtmpnkbhlagalkaaGreatDoorRpMath
import Derived.Test.YtmpnkbhlagalkaaGreatDoorPsEnd
import Derived.Test.YtmpnkbhlagalkaaGreatDoorRpDone
namespace Go.Proofs.YtmpnkbhlagalkaaGreatDoor
open Go.RowKit

/-- Both stand at the same token, or both have refused the same line. -/
def RelPR (s : PS) (r : RS) : Prop :=
  WFt s.rest ∧ (∀ t ∈ s.rest, 1 ≤ t.line) ∧ (s.out = 0 ∧ r.wrong = 0) ∧
  ((r.bad = false ∧ s.ref = 0 ∧ s.rest = r.rest ∧ ∀ t ∈ s.rest, t.kind ≠ 0 → TokOk t) ∨ (r.bad = true ∧ 0 < s.ref ∧ s.ref = (hdR r).line ∧ s.rest.length = 1))
/-- The one does what the other does, where at most N tokens are left. -/
def AgrPR (P : P1) (R : R1) (N : Nat) : Prop := ∀ s r, RelPR s r → s.rest.length ≤ N → ∃ x s' y r', P s = some (x, s') ∧ R r = some (y, r') ∧ RelPR s' r' ∧ (r'.bad = false → x = y) ∧ s'.rest.length ≤ s.rest.length
/-- With one token left no sign is seen. -/
theorem sees_end {s : PS} (h : WFt s.rest) (h1 : s.rest.length = 1) (l : List Bytes) (hl : [] ∉ l) : seesP l s = false := by
  obtain ⟨r, e, hr, he, _⟩ := h
  have hr0 : r = [] := by
    rw [hr] at h1
    simpa using h1
  subst hr0
  have hd : hdT s = e := by simp [hdT, hr]
  unfold seesP
  rw [hd, he.2]
  simpa using hl
theorem RelPR.hd {s : PS} {r : RS} (h : RelPR s r) (hb : r.bad = false) : hdT s = hdR r ∧ s.rest = r.rest := by
  obtain ⟨_, _, _, h | h⟩ := h
  · exact ⟨by unfold hdT hdR; rw [h.2.2.1], h.2.2.1⟩
  · rw [hb] at h
    cases h.1
theorem RelPR.end_ {s : PS} {r : RS} (h : RelPR s r) (hb : r.bad = true) : s.rest.length = 1 := by
  obtain ⟨_, _, _, h | h⟩ := h
  · rw [hb] at h
    cases h.1
  · exact h.2.2.2
theorem RelPR.pop {s : PS} {r : RS} (h : RelPR s r) (hb : r.bad = false) (h2 : 2 ≤ s.rest.length) : RelPR (popP s) (popR r) := by
  obtain ⟨h0, h1, h3, h | h⟩ := h
  · exact ⟨h0.tail h2, fun t ht => h1 t (List.mem_of_mem_tail ht), h3, .inl ⟨h.1, h.2.1, by show s.rest.tail = r.rest.tail; rw [h.2.2.1], fun t ht => h.2.2.2 t (List.mem_of_mem_tail ht)⟩⟩
  · rw [hb] at h
    cases h.1
/-- What is refused: both say its line. -/
theorem RelPR.refuse {s : PS} {r : RS} (h : RelPR s r) (hb : r.bad = false) : RelPR (refuseP s) (badR r) := by
  have hh := h.hd hb
  obtain ⟨h0, h1, h3, h | h⟩ := h
  · have hm : hdT s ∈ s.rest := by
      have := h0.pos
      cases hq : s.rest with
      | nil => rw [hq] at this; simp at this
      | cons a l => simp [hdT, hq]
    have hl := h1 _ hm
    have hp := h0.pos
    refine ⟨h0.last, fun t ht => h1 t (List.mem_of_mem_drop ht), h3, .inr ⟨rfl, ?_, ?_, ?_⟩⟩
    · show 0 < (if s.ref = 0 then (hdT s).line else s.ref)
      rw [if_pos h.2.1]
      exact hl
    · show (if s.ref = 0 then (hdT s).line else s.ref) = (hdR (badR r)).line
      rw [if_pos h.2.1, hh.1]
      rfl
    · show (s.rest.drop (s.rest.length - 1)).length = 1
      rw [List.length_drop]
      omega
  · rw [hb] at h
    cases h.1
/-- What has been refused is refused again, and nothing changes. -/
theorem RelPR.again {s : PS} {r : RS} (h : RelPR s r) (hb : r.bad = true) : RelPR (refuseP s) r ∧ RelPR (refuseP s) (badR r) := by
  obtain ⟨h0, h1, h3, h | h⟩ := h
  · rw [hb] at h
    cases h.1
  · have hp := h0.pos
    have hd : (s.rest.drop (s.rest.length - 1)).length = 1 := by
      rw [List.length_drop]
      omega
    have hrf : (if s.ref = 0 then (hdT s).line else s.ref) = s.ref := if_neg (by omega)
    exact ⟨⟨h0.last, fun t ht => h1 t (List.mem_of_mem_drop ht), h3, .inr ⟨hb, by show 0 < (if s.ref = 0 then (hdT s).line else s.ref); rw [hrf]; exact h.2.1, by show (if s.ref = 0 then (hdT s).line else s.ref) = _; rw [hrf]; exact h.2.2.1, hd⟩⟩,
      ⟨h0.last, fun t ht => h1 t (List.mem_of_mem_drop ht), h3, .inr ⟨rfl, by show 0 < (if s.ref = 0 then (hdT s).line else s.ref); rw [hrf]; exact h.2.1, by show (if s.ref = 0 then (hdT s).line else s.ref) = _; rw [hrf]; exact h.2.2.1, hd⟩⟩⟩
theorem RelPR.mem {s : PS} {r : RS} (h : RelPR s r) : hdT s ∈ s.rest := by
  have := h.1.pos
  cases hq : s.rest with
  | nil => rw [hq] at this; simp at this
  | cons a l => simp [hdT, hq]
/-- What a sign's or a word's text says of the token. -/
theorem RelPR.kind {s : PS} {r : RS} (h : RelPR s r) (hb : r.bad = false) (ht : isS (hdT s).text = true ∨ isW (hdT s).text = true) : (hdT s).kind = 3 ∨ (hdT s).kind = 4 := by
  have hm := h.mem
  have h0 := h.1
  obtain ⟨_, _, _, h | h⟩ := h
  · have hk : (hdT s).kind ≠ 0 := by
      intro hk
      obtain ⟨l, e, hr, he, hl⟩ := h0
      rw [hr] at hm
      rcases List.mem_append.1 hm with hm | hm
      · exact (hl _ hm).1 hk
      · rw [List.mem_singleton] at hm
        rw [hm, he.2] at ht
        rcases ht with ht | ht <;> cases ht
    have ho := h.2.2.2 _ hm hk
    obtain ⟨c, l, htx, _⟩ := ho.head
    have hmean := ho.mean
    unfold pmean at hmean
    rw [htx] at hmean ht
    simp only [] at hmean
    by_cases hs : isS (c :: l) = true
    · rw [if_pos hs] at hmean
      injection hmean with hmean
      injection hmean with hmean _
      exact .inr hmean.symm
    · have hw : isW (c :: l) = true := by
        rcases ht with ht | ht
        · exact absurd ht hs
        · exact ht
      rw [if_neg hs, if_pos hw] at hmean
      injection hmean with hmean
      injection hmean with hmean _
      exact .inl hmean.symm
  · rw [hb] at h
    cases h.1
/-- Both see the same signs and words. -/
theorem RelPR.sees {s : PS} {r : RS} (h : RelPR s r) (hb : r.bad = false) (l : List Bytes) (hl : ∀ t ∈ l, isS t = true ∨ isW t = true) : seesR l r = seesP l s := by
  have hh := (h.hd hb).1
  cases hq : seesP l s with
  | true =>
    have hmem : (hdT s).text ∈ l := by simpa [seesP, List.contains_iff_mem] using hq
    have hk := h.kind hb (hl _ hmem)
    unfold seesR
    rw [List.any_eq_true]
    refine ⟨_, hmem, ?_⟩
    unfold isR
    rw [hb, ← hh]
    rcases hk with hk | hk <;> simp [hk]
  | false =>
    unfold seesR
    rw [List.any_eq_false]
    intro t ht he
    unfold isR at he
    simp only [Bool.and_eq_true, decide_eq_true_eq] at he
    have : seesP l s = true := by
      rw [seesP, List.contains_iff_mem, hh, he.2.2]
      exact ht
    rw [hq] at this
    cases this
theorem sees_bad {r : RS} (hb : r.bad = true) (l : List Bytes) : seesR l r = false := by
  unfold seesR
  rw [List.any_eq_false]
  intro t _ he
  unfold isR at he
  rw [hb] at he
  simp at he
/-- A loop of a level: both stop at the same place with the same tree. -/
theorem loop_agree {P : P1} {R : R1} {N : Nat} (hA : AgrPR P R N) (l : List Bytes) (hl : ∀ t ∈ l, isS t = true ∨ isW t = true) : ∀ (n m : Nat) (x y : Ex) (s : PS) (r : RS), RelPR s r → (r.bad = false → x = y) → s.rest.length ≤ N + 1 → s.rest.length < n + 1 → 0 < m → (r.bad = false → r.rest.length < m + 1) → 0 < n →
    ∃ x' s' y' r', loopP P l n x s = some (x', s') ∧ loopR R l m y r = some (y', r') ∧ RelPR s' r' ∧ (r'.bad = false → x' = y') ∧ s'.rest.length ≤ s.rest.length := by
  have hne : [] ∉ l := fun h => by rcases hl _ h with h | h <;> cases h
  intro n
  induction n with
  | zero => intro m x y s r _ _ _ _ _ _ h; omega
  | succ n ih =>
    intro m x y s r h hxy hN hn hm hr _
    obtain ⟨m, rfl⟩ : ∃ k, m = k + 1 := ⟨m - 1, by omega⟩
    cases hb : r.bad with
    | true =>
      have h1 := sees_end h.1 (h.end_ hb) l hne
      refine ⟨x, s, y, r, ?_, ?_, h, hxy, Nat.le_refl _⟩
      · simp [loopP, h1]
      · simp [loopR, sees_bad hb]
    | false =>
      have hse := h.sees hb l hl
      cases hs : seesP l s with
      | false =>
        rw [hs] at hse
        refine ⟨x, s, y, r, ?_, ?_, h, hxy, Nat.le_refl _⟩
        · simp [loopP, hs]
        · simp [loopR, hse]
      | true =>
        rw [hs] at hse
        have h2 := sees_two h.1 hne hs
        have hp := h.pop hb h2
        have hpl := pop_len s
        obtain ⟨z, s2, z2, r2, e1, e2, hR2, hz, hlen⟩ := hA _ _ hp (by omega)
        have hsr : s.rest.length = r.rest.length := by rw [(h.hd hb).2]
        have hr1 := hr hb
        have hp2 := hR2.1.pos
        have hrl : r2.bad = false → r2.rest.length < m + 1 := fun h0 => by
          rw [← (hR2.hd h0).2]
          omega
        obtain ⟨x', s', y', r', e3, e4, hR', hx', hl'⟩ := ih m (binP (hdT s) x z) (binP (hdR r) y z2) s2 r2 hR2 (fun h0 => by rw [hxy hb, hz h0, (h.hd hb).1]) (by omega) (by omega) (by omega) hrl (by omega)
        refine ⟨x', s', y', r', ?_, ?_, hR', hx', by omega⟩
        · simp [loopP, hs, e1, e3]
        · simp [loopR, hse, e2, e4]
theorem level_agree {P : P1} {R : R1} {N : Nat} (hA : AgrPR P R N) (l : List Bytes) (hl : ∀ t ∈ l, isS t = true ∨ isW t = true) : AgrPR (levelP P l) (levelR R l) N := by
  intro s r h hN
  obtain ⟨x, s1, y, r1, e1, e2, h1, hx, hlen⟩ := hA s r h hN
  have hp := h.1.pos
  obtain ⟨x', s', y', r', e3, e4, hR', hx', hl'⟩ := loop_agree hA l hl (s.rest.length + 1) (r1.rest.length + 1) x y s1 r1 h1 hx (by omega) (by omega) (by omega) (fun _ => by omega) (by omega)
  refine ⟨x', s', y', r', ?_, ?_, hR', hx', by omega⟩
  · simp [levelP, e1, e3]
  · simp [levelR, e2, e4]
/-- One comparison at most: both stop at the same place. -/
theorem once_agree {P : P1} {R : R1} {N : Nat} (hA : AgrPR P R N) (l : List Bytes) (hl : ∀ t ∈ l, isS t = true ∨ isW t = true) : AgrPR (onceP P l) (onceR R l) N := by
  have hne : [] ∉ l := fun h => by rcases hl _ h with h | h <;> cases h
  intro s r h hN
  obtain ⟨x, s1, y, r1, e1, e2, h1, hx, hlen⟩ := hA s r h hN
  cases hb : r1.bad with
  | true =>
    have h0 := sees_end h1.1 (h1.end_ hb) l hne
    exact ⟨x, s1, y, r1, by simp [onceP, e1, h0], by simp [onceR, e2, sees_bad hb], h1, hx, hlen⟩
  | false =>
    have hse := h1.sees hb l hl
    cases hs : seesP l s1 with
    | false =>
      rw [hs] at hse
      exact ⟨x, s1, y, r1, by simp [onceP, e1, hs], by simp [onceR, e2, hse], h1, hx, hlen⟩
    | true =>
      rw [hs] at hse
      have h2 := sees_two h1.1 hne hs
      have hp := h1.pop hb h2
      have hpl := pop_len s1
      obtain ⟨z, s2, z2, r2, e3, e4, hR2, hz, hl2⟩ := hA _ _ hp (by omega)
      exact ⟨binP (hdT s1) x z, s2, binP (hdR r1) y z2, r2, by simp [onceP, e1, hs, e3], by simp [onceR, e2, hse, e4], hR2, fun h0 => by rw [hx hb, hz h0, (h1.hd hb).1], by omega⟩
theorem isR_one (t : Bytes) (r : RS) : isR t r = seesR [t] r := by simp [seesR]
theorem RelPR.kind0 {s : PS} {r : RS} (h : RelPR s r) (hb : r.bad = true) : (hdT s).kind = 0 := by
  have h1 := h.end_ hb
  by_cases hk : (hdT s).kind = 0
  · exact hk
  · have := WFt.two h.1 (.inr hk)
    omega
theorem one_ne {t : Bytes} (ht : isS t = true ∨ isW t = true) : [] ∉ [t] := fun h => by
  rw [List.mem_singleton] at h
  subst h
  rcases ht with h | h <;> cases h
/-- A sign that must be there. -/
theorem demand_agree {s : PS} {r : RS} (h : RelPR s r) (t : Bytes) (ht : isS t = true ∨ isW t = true) : RelPR (demandP t s) (expectR t r) ∧ (demandP t s).rest.length ≤ s.rest.length ∧ ((expectR t r).bad = false → r.bad = false) := by
  have hp := h.1.pos
  cases hb : r.bad with
  | true =>
    have h0 := sees_end h.1 (h.end_ hb) [t] (one_ne ht)
    have h1 : isR t r = false := by rw [isR_one]; exact sees_bad hb _
    have e1 : demandP t s = refuseP s := by simp [demandP, h0]
    have e2 : expectR t r = badR r := by simp [expectR, h1]
    rw [e1, e2]
    exact ⟨(h.again hb).2, by rw [refuse_len s hp]; exact hp, fun h0 => by simp [badR] at h0⟩
  | false =>
    have hse := h.sees hb [t] (by simpa using ht)
    rw [← isR_one] at hse
    cases hs : seesP [t] s with
    | false =>
      rw [hs] at hse
      have e1 : demandP t s = refuseP s := by simp [demandP, hs]
      have e2 : expectR t r = badR r := by simp [expectR, hse]
      rw [e1, e2]
      exact ⟨h.refuse hb, by rw [refuse_len s hp]; exact hp, fun h0 => by simp [badR] at h0⟩
    | true =>
      rw [hs] at hse
      have e1 : demandP t s = popP s := by simp [demandP, hs]
      have e2 : expectR t r = popR r := by simp [expectR, hse]
      rw [e1, e2]
      exact ⟨h.pop hb (sees_two h.1 (one_ne ht) hs), by rw [pop_len]; omega, fun _ => rfl⟩
/-- A token of a kind that must be there. -/
theorem kind_agree {s : PS} {r : RS} (h : RelPR s r) (k : Nat) (hk : k ≠ 0) : RelPR (expectP k s).2 (kindR k r).2 ∧ (expectP k s).2.rest.length ≤ s.rest.length ∧ ((kindR k r).2.bad = false → (expectP k s).1 = (kindR k r).1) := by
  have hp := h.1.pos
  cases hb : r.bad with
  | true =>
    have h0 : ¬ (hdT s).kind = k := by rw [h.kind0 hb]; exact fun e => hk e.symm
    have e1 : expectP k s = (noT, refuseP s) := by simp [expectP, h0]
    have e2 : kindR k r = (noT, badR r) := by simp [kindR, hb]
    rw [e1, e2]
    exact ⟨(h.again hb).2, by rw [refuse_len s hp]; exact hp, fun h0 => by simp [badR] at h0⟩
  | false =>
    have hh := (h.hd hb).1
    by_cases hq : (hdT s).kind = k
    · have e1 : expectP k s = (hdT s, popP s) := by simp [expectP, hq]
      have e2 : kindR k r = (hdR r, popR r) := by simp [kindR, hb, ← hh, hq]
      rw [e1, e2]
      exact ⟨h.pop hb (WFt.two h.1 (.inr (by omega))), by rw [pop_len]; omega, fun _ => hh⟩
    · have e1 : expectP k s = (noT, refuseP s) := by simp [expectP, hq]
      have e2 : kindR k r = (noT, badR r) := by simp [kindR, ← hh, hq]
      rw [e1, e2]
      exact ⟨h.refuse hb, by rw [refuse_len s hp]; exact hp, fun h0 => by simp [badR] at h0⟩
/-- A reader that has refused reads on without a change. -/
def BadT (R : R1) : Prop := ∀ r, r.bad = true → ∃ y, R r = some (y, r)
theorem loop_bad (R : R1) (l : List Bytes) (n : Nat) (x : Ex) (r : RS) (hb : r.bad = true) : loopR R l (n + 1) x r = some (x, r) := by simp [loopR, sees_bad hb]
theorem level_bad {R : R1} (hR : BadT R) (l : List Bytes) : BadT (levelR R l) := fun r hb => by
  obtain ⟨y, hy⟩ := hR r hb
  exact ⟨y, by simp [levelR, hy, loop_bad _ _ _ _ _ hb]⟩
theorem once_bad {R : R1} (hR : BadT R) (l : List Bytes) : BadT (onceR R l) := fun r hb => by
  obtain ⟨y, hy⟩ := hR r hb
  exact ⟨y, by simp [onceR, hy, sees_bad hb]⟩
theorem called_bad (E : R1) : BadT (calledR E) := fun r hb => by
  have h1 : isR [40] r = false := by rw [isR_one]; exact sees_bad hb _
  exact ⟨noX, by simp [calledR, primaryR, hb, callsR, h1]⟩
theorem unary_bad (E : R1) : BadT (unaryRQ E) := fun r hb => by
  obtain ⟨y, hy⟩ := called_bad E r hb
  exact ⟨y, by simp [unaryRQ, unaryR, sees_bad hb, hy]⟩
theorem expr_bad (d : Nat) : BadT (exprR (d + 1)) := fun r hb => level_bad (level_bad (once_bad (level_bad (level_bad (unary_bad (exprR d)) _) _) _) _) _ r hb
/-- What an expression begins with. -/
theorem primary_agree {E : P1} {F : R1} {N : Nat} (hA : AgrPR E F N) (hB : BadT F) : AgrPR (primaryP E) (primaryR F) (N + 1) := by
  intro s r h hN
  have hp := h.1.pos
  have hrl : (refuseP s).rest.length ≤ s.rest.length := by rw [refuse_len s hp]; exact hp
  cases hb : r.bad with
  | true =>
    have h0 := h.kind0 hb
    have h1 := h.end_ hb
    have hs : ∀ t, isS t = true ∨ isW t = true → seesP [t] s = false := fun t ht => sees_end h.1 h1 _ (one_ne ht)
    have e1 : expectP 1 s = (noT, refuseP s) := by simp [expectP, h0]
    have hr := (h.again hb).1
    have h2 : seesP [[91]] (refuseP s) = false := sees_end hr.1 (hr.end_ hb) _ (by simp)
    refine ⟨.mk 13 0 0 ((hdT s).line : Int) (nmB noT.text) [], refuseP s, noX, r, ?_, ?_, hr, fun h => ?_, hrl⟩
    · simp [primaryP, h0, hs [38] (by decide), hs [114, 101, 97, 100] (by decide), hs [40] (by decide), e1, h2]
    · simp [primaryR, hb]
    · rw [hb] at h
      cases h
  | false =>
    have hh := (h.hd hb).1
    have hne : ∀ t, isS t = true ∨ isW t = true → ((hdT s).kind ≠ 3 ∧ (hdT s).kind ≠ 4) → seesP [t] s = false := by
      intro t ht hk
      cases hq : seesP [t] s with
      | false => rfl
      | true =>
        have ht2 : (hdT s).text = t := by simpa [seesP] using hq
        have := h.kind hb (by rw [ht2]; exact ht)
        omega
    by_cases k2 : (hdT s).kind = 2
    · have k2r : (hdR r).kind = 2 := by rw [← hh]; exact k2
      refine ⟨.mk 1 0 ((hdT s).value : Int) ((hdT s).line : Int) ⟨#[]⟩ [], popP s, .mk 1 0 ((hdR r).value : Int) ((hdR r).line : Int) ⟨#[]⟩ [], popR r, ?_, ?_, h.pop hb (WFt.two h.1 (.inr (by omega))), fun _ => by rw [hh], by rw [pop_len]; omega⟩
      · simp [primaryP, k2]
      · simp [primaryR, hb, k2r]
    by_cases k1 : (hdT s).kind = 1
    · have k1r : (hdR r).kind = 1 := by rw [← hh]; exact k1
      have h2 := WFt.two h.1 (.inr (by omega))
      have hp1 := h.pop hb h2
      have hpl := pop_len s
      have e1 : expectP 1 s = (hdT s, popP s) := by simp [expectP, k1]
      have hse := hp1.sees hb [[91]] (by decide)
      rw [← isR_one] at hse
      have hs : ∀ t, isS t = true ∨ isW t = true → seesP [t] s = false := fun t ht => hne t ht (by omega)
      cases hs1 : seesP [[91]] (popP s) with
      | false =>
        rw [hs1] at hse
        refine ⟨.mk 13 0 0 ((hdT s).line : Int) (nmB (hdT s).text) [], popP s, .mk 13 0 0 ((hdR r).line : Int) (nmB (hdR r).text) [], popR r, ?_, ?_, hp1, fun _ => by rw [hh], by omega⟩
        · simp [primaryP, k1, hs [38] (by decide), hs [114, 101, 97, 100] (by decide), hs [40] (by decide), e1, hs1]
        · simp [primaryR, hb, k1r, hse]
      | true =>
        rw [hs1] at hse
        have h3 := sees_two hp1.1 (by simp) hs1
        have hp2 := hp1.pop hb h3
        have hpl2 := pop_len (popP s)
        obtain ⟨x, s1, y, r1, q1, q2, hR, hx, hl⟩ := hA _ _ hp2 (by omega)
        obtain ⟨d1, d2, d3⟩ := demand_agree hR [93] (by decide)
        refine ⟨.mk 4 0 0 ((hdT s).line : Int) (nmB (hdT s).text) [x], demandP [93] s1, .mk 4 0 0 ((hdR r).line : Int) (nmB (hdR r).text) [y], expectR [93] r1, ?_, ?_, d1, fun h0 => by rw [hh, hx (d3 h0)], by omega⟩
        · simp [primaryP, k1, hs [38] (by decide), hs [114, 101, 97, 100] (by decide), hs [40] (by decide), e1, hs1, q1]
        · simp [primaryR, hb, k1r, hse, q2]
    have k2r : ¬ (hdR r).kind = 2 := by rw [← hh]; exact k2
    have k1r : ¬ (hdR r).kind = 1 := by rw [← hh]; exact k1
    have hs1 := h.sees hb [[38]] (by decide)
    have hs2 := h.sees hb [[114, 101, 97, 100]] (by decide)
    have hs3 := h.sees hb [[40]] (by decide)
    rw [← isR_one] at hs1 hs2 hs3
    cases q1 : seesP [[38]] s with
    | true =>
      rw [q1] at hs1
      have hp1 := h.pop hb (sees_two h.1 (by simp) q1)
      obtain ⟨d1, d2, d3⟩ := kind_agree hp1 1 (by decide)
      have hpl := pop_len s
      refine ⟨.mk 11 0 0 ((hdT s).line : Int) (nmB (expectP 1 (popP s)).1.text) [], (expectP 1 (popP s)).2, .mk 11 0 0 ((hdR r).line : Int) (nmB (kindR 1 (popR r)).1.text) [], (kindR 1 (popR r)).2, ?_, ?_, d1, fun h0 => by rw [hh, d3 h0], by omega⟩
      · simp [primaryP, k2, q1]
      · simp [primaryR, hb, k2r, k1r, hs1]
    | false =>
      rw [q1] at hs1
      cases q2 : seesP [[114, 101, 97, 100]] s with
      | true =>
        rw [q2] at hs2
        have hp1 := h.pop hb (sees_two h.1 (by simp) q2)
        have hpl := pop_len s
        refine ⟨.mk 12 0 0 ((hdT s).line : Int) ⟨#[]⟩ [], popP s, .mk 12 0 0 ((hdR r).line : Int) ⟨#[]⟩ [], popR r, ?_, ?_, hp1, fun _ => by rw [hh], by omega⟩
        · simp [primaryP, k2, q1, q2]
        · simp [primaryR, hb, k2r, k1r, hs1, hs2]
      | false =>
        rw [q2] at hs2
        cases q3 : seesP [[40]] s with
        | true =>
          rw [q3] at hs3
          have hp1 := h.pop hb (sees_two h.1 (by simp) q3)
          have hpl := pop_len s
          obtain ⟨x, s1, y, r1, w1, w2, hR, hx, hl⟩ := hA _ _ hp1 (by omega)
          obtain ⟨d1, d2, d3⟩ := demand_agree hR [41] (by decide)
          have e2 : expectR [40] r = popR r := by simp [expectR, hs3]
          refine ⟨x, demandP [41] s1, y, expectR [41] r1, ?_, ?_, d1, fun h0 => hx (d3 h0), by omega⟩
          · simp [primaryP, k2, q1, q2, q3, w1]
          · simp [primaryR, hb, k2r, k1r, hs1, hs2, e2, w2]
        | false =>
          rw [q3] at hs3
          have e1 : expectP 1 s = (noT, refuseP s) := by simp [expectP, k1]
          have e2 : expectR [40] r = badR r := by simp [expectR, hs3]
          obtain ⟨y, hy⟩ := hB (badR r) rfl
          have hr := h.refuse hb
          have h91 : seesP [[91]] (refuseP s) = false := sees_end hr.1 (hr.end_ rfl) _ (by simp)
          have e3 : expectR [41] (badR r) = badR r := by simp [expectR, isR, badR]
          refine ⟨.mk 13 0 0 ((hdT s).line : Int) (nmB noT.text) [], refuseP s, y, badR r, ?_, ?_, hr, fun h => by simp [badR] at h, hrl⟩
          · simp [primaryP, k2, q1, q2, q3, e1, h91]
          · simp [primaryR, hb, k2r, k1r, hs1, hs2, e2, hy, e3]
/-- Operands behind commas. -/
theorem more_agree {E : P1} {F : R1} {N : Nat} (hA : AgrPR E F N) (pre : List Ex) : ∀ (n m : Nat) (xs ys : List Ex) (s : PS) (r : RS), RelPR s r → (r.bad = false → xs = pre ++ ys) → s.rest.length ≤ N + 1 → s.rest.length < n → 0 < m → (r.bad = false → r.rest.length < m) →
    ∃ xs' s' ys' r', moreP E n xs s = some (xs', s') ∧ moreR F m ys r = some (ys', r') ∧ RelPR (demandP [41] s') r' ∧ (r'.bad = false → xs' = pre ++ ys') ∧ (demandP [41] s').rest.length ≤ s.rest.length := by
  intro n
  induction n with
  | zero => intro m xs ys s r _ _ _ h; omega
  | succ n ih =>
    intro m xs ys s r h hxy hN hn hm hr
    obtain ⟨m, rfl⟩ : ∃ k, m = k + 1 := ⟨m - 1, by omega⟩
    obtain ⟨d1, d2, d3⟩ := demand_agree h [41] (by decide)
    cases hb : r.bad with
    | true =>
      have h1 := sees_end h.1 (h.end_ hb) [[44]] (by simp)
      have h2 : isR [44] r = false := by rw [isR_one]; exact sees_bad hb _
      exact ⟨xs, s, ys, expectR [41] r, by simp [moreP, h1], by simp [moreR, h2], d1, fun h0 => hxy (d3 h0), d2⟩
    | false =>
      have hse := h.sees hb [[44]] (by decide)
      rw [← isR_one] at hse
      cases hs : seesP [[44]] s with
      | false =>
        rw [hs] at hse
        exact ⟨xs, s, ys, expectR [41] r, by simp [moreP, hs], by simp [moreR, hse], d1, fun h0 => hxy (d3 h0), d2⟩
      | true =>
        rw [hs] at hse
        have h2 := sees_two h.1 (by simp) hs
        have hp := h.pop hb h2
        have hpl := pop_len s
        obtain ⟨z, s2, z2, r2, e1, e2, hR2, hz, hlen⟩ := hA _ _ hp (by omega)
        have hsr : s.rest.length = r.rest.length := by rw [(h.hd hb).2]
        have hr1 := hr hb
        have hp2 := hR2.1.pos
        have hrl : r2.bad = false → r2.rest.length < m := fun h0 => by
          rw [← (hR2.hd h0).2]
          omega
        obtain ⟨x', s', y', r', e3, e4, hR', hx', hl'⟩ := ih m (xs ++ [z]) (ys ++ [z2]) s2 r2 hR2 (fun h0 => by rw [hxy hb, hz h0, List.append_assoc]) (by omega) (by omega) (by omega) hrl
        refine ⟨x', s', y', r', ?_, ?_, hR', hx', by omega⟩
        · simp [moreP, hs, e1, e3]
        · simp [moreR, hse, e2, e4]
theorem list_agree {E : P1} {F : R1} {N : Nat} (hA : AgrPR E F N) (pre : List Ex) (s : PS) (r : RS) (h : RelPR s r) (hb : r.bad = false) (hN : s.rest.length ≤ N) :
    ∃ xs s' ys r', listP E pre s = some (xs, s') ∧ argsR F r = some (ys, r') ∧ RelPR s' r' ∧ (r'.bad = false → xs = pre ++ ys) ∧ s'.rest.length ≤ s.rest.length := by
  have hse := h.sees hb [[41]] (by decide)
  rw [← isR_one] at hse
  cases hs : seesP [[41]] s with
  | true =>
    rw [hs] at hse
    exact ⟨pre, popP s, [], popR r, by simp [listP, hs], by simp [argsR, hse], h.pop hb (sees_two h.1 (by simp) hs), fun _ => by simp, by rw [pop_len]; omega⟩
  | false =>
    rw [hs] at hse
    obtain ⟨x, s1, y, r1, e1, e2, h1, hx, hlen⟩ := hA s r h hN
    obtain ⟨xs, s2, ys, r2, e3, e4, h2, hxs, hl2⟩ := more_agree hA pre (s.rest.length + 1) (r1.rest.length + 1) (pre ++ [x]) [y] s1 r1 h1 (fun h0 => by rw [hx h0]) (by omega) (by omega) (by omega) (fun _ => by omega)
    exact ⟨xs, demandP [41] s2, ys, r2, by simp [listP, hs, e1, e3], by simp [argsR, hse, e2, e4], h2, hxs, by omega⟩
/-- Calls one behind the other. -/
theorem calls_agree {E : P1} {F : R1} {N : Nat} (hA : AgrPR E F N) (bare : Bool) : ∀ (n m : Nat) (x y : Ex) (s : PS) (r : RS), RelPR s r → (r.bad = false → x = y) → s.rest.length ≤ N + 1 → s.rest.length < n → 0 < m → (r.bad = false → r.rest.length < m) →
    ∃ x' s' y' r', callsP E bare n x s = some (x', s') ∧ callsR F bare m y r = some (y', r') ∧ RelPR s' r' ∧ (r'.bad = false → x' = y') ∧ s'.rest.length ≤ s.rest.length := by
  intro n
  induction n with
  | zero => intro m x y s r _ _ _ h; omega
  | succ n ih =>
    intro m x y s r h hxy hN hn hm hr
    obtain ⟨m, rfl⟩ : ∃ k, m = k + 1 := ⟨m - 1, by omega⟩
    cases hb : r.bad with
    | true =>
      have h1 := sees_end h.1 (h.end_ hb) [[40]] (by simp)
      have h2 : isR [40] r = false := by rw [isR_one]; exact sees_bad hb _
      refine ⟨x, s, y, r, by simp [callsP, h1], by simp [callsR, h2], h, hxy, Nat.le_refl _⟩
    | false =>
      have hse := h.sees hb [[40]] (by decide)
      rw [← isR_one] at hse
      cases hs : seesP [[40]] s with
      | false =>
        rw [hs] at hse
        exact ⟨x, s, y, r, by simp [callsP, hs], by simp [callsR, hse], h, hxy, Nat.le_refl _⟩
      | true =>
        rw [hs] at hse
        obtain rfl := hxy hb
        have h2 := sees_two h.1 (by simp) hs
        have hp := h.pop hb h2
        have hpl := pop_len s
        obtain ⟨k, o, a, l, nm, az, rfl⟩ : ∃ k o a l nm az, x = .mk k o a l nm az := by
          cases x
          exact ⟨_, _, _, _, _, _, rfl⟩
        obtain ⟨named, hnm⟩ : ∃ q, q = (bare && k == 13) := ⟨_, rfl⟩
        obtain ⟨xs, s2, ys, r2, e1, e2, hR2, hx2, hlen⟩ := list_agree hA (if named then [] else [.mk k o a l nm az]) (popP s) (popR r) hp hb (by omega)
        have hsr : s.rest.length = r.rest.length := by rw [(h.hd hb).2]
        have hr1 := hr hb
        have hrl : r2.bad = false → r2.rest.length < m := fun h0 => by
          rw [← (hR2.hd h0).2]
          omega
        have hc : callP E (.mk k o a l nm az) named s = some (.mk (if named then 9 else 10) 0 0 ((hdT s).line : Int) (if named then nm else ⟨#[]⟩) xs, s2) := by
          simp only [callP]
          rw [e1]
        have hq : r2.bad = false → Ex.mk (if named then 9 else 10) 0 0 ((hdT s).line : Int) (if named then nm else ⟨#[]⟩) xs = callR bare (hdR r).line (.mk k o a l nm az) ys := fun h0 => by
          rw [hx2 h0, (h.hd hb).1]
          by_cases hk : k = 13 ∧ bare = true
          · have : named = true := by rw [hnm]; simp [hk.1, hk.2]
            subst this
            have hk' : (Ex.mk k o a l nm az).kind = 13 ∧ bare = true := hk
            rw [callR, if_pos hk']
            rfl
          · have : named = false := by
              rw [hnm]
              cases bare with
              | false => rfl
              | true => simpa using hk
            subst this
            have hk' : ¬ ((Ex.mk k o a l nm az).kind = 13 ∧ bare = true) := hk
            rw [callR, if_neg hk']
            rfl
        obtain ⟨x', s', y', r', e3, e4, hR', hx', hl'⟩ := ih m _ (callR bare (hdR r).line (.mk k o a l nm az) ys) s2 r2 hR2 hq (by omega) (by omega) (by have := hR2.1.pos; omega) hrl
        refine ⟨x', s', y', r', ?_, ?_, hR', hx', by omega⟩
        · rw [callsP, if_pos hs, ← hnm, hc]
          exact e3
        · rw [callsR, if_pos hse, e2]
          exact e4
theorem called_agree {E : P1} {F : R1} {N : Nat} (hA : AgrPR E F N) (hB : BadT F) : AgrPR (calledP E) (calledR F) (N + 1) := by
  intro s r h hN
  obtain ⟨x, s1, y, r1, e1, e2, h1, hx, hlen⟩ := primary_agree hA hB s r h hN
  have hp := h1.1.pos
  cases hb : r.bad with
  | true =>
    obtain ⟨z, hz⟩ := called_bad F r hb
    have hy : r1 = r := by
      rw [primaryR, if_pos hb] at e2
      injection e2 with e2
      injection e2 with _ e2
      exact e2.symm
    subst hy
    have hs := sees_end h1.1 (h1.end_ hb) [[40]] (by simp)
    refine ⟨x, s1, z, r1, ?_, hz, h1, fun h0 => ?_, hlen⟩
    · simp [calledP, e1, callsP, hs]
    · rw [hb] at h0
      cases h0
  | false =>
    have hk : ((hdT s).kind == 1) = decide ((hdR r).kind = 1) := by rw [(h.hd hb).1]; rfl
    obtain ⟨x', s', y', r', e3, e4, hR', hx', hl'⟩ := calls_agree hA (decide ((hdR r).kind = 1)) (s.rest.length + 1) (r1.rest.length + 1) x y s1 r1 h1 hx (by omega) (by omega) (by omega) (fun _ => by omega)
    refine ⟨x', s', y', r', ?_, ?_, hR', hx', by omega⟩
    · simp only [calledP]
      rw [e1]
      simp only []
      rw [hk]
      exact e3
    · simp only [calledR]
      rw [e2]
      exact e4
/-- Signs ahead of an operand. -/
theorem unary_agree {E : P1} {F : R1} {N : Nat} (hA : AgrPR E F N) (hB : BadT F) : ∀ (n m : Nat) (s : PS) (r : RS), RelPR s r → s.rest.length ≤ N + 1 → s.rest.length < n → 0 < m → (r.bad = false → r.rest.length < m) →
    ∃ x s' y r', unaryP E n s = some (x, s') ∧ unaryR F m r = some (y, r') ∧ RelPR s' r' ∧ (r'.bad = false → x = y) ∧ s'.rest.length ≤ s.rest.length := by
  intro n
  induction n with
  | zero => intro m s r _ _ h; omega
  | succ n ih =>
    intro m s r h hN hn hm hr
    obtain ⟨m, rfl⟩ : ∃ k, m = k + 1 := ⟨m - 1, by omega⟩
    obtain ⟨cx, cs, cy, cr, c1, c2, c3, c4, c5⟩ := called_agree hA hB s r h hN
    cases hb : r.bad with
    | true =>
      have h1 := sees_end h.1 (h.end_ hb) [[45]] (by simp)
      have h2 := sees_end h.1 (h.end_ hb) [[33]] (by simp)
      exact ⟨cx, cs, cy, cr, by simp [unaryP, h1, h2, c1], by simp [unaryR, sees_bad hb, c2], c3, c4, c5⟩
    | false =>
      have hh := (h.hd hb).1
      have hse := h.sees hb [[45], [33]] (by decide)
      have hsr : s.rest.length = r.rest.length := by rw [(h.hd hb).2]
      have hr1 := hr hb
      have hpl := pop_len s
      cases hs : seesP [[45], [33]] s with
      | false =>
        rw [hs] at hse
        have h1 : seesP [[45]] s = false := by
          simp only [seesP, List.contains_cons, List.contains_nil, Bool.or_eq_false_iff] at hs ⊢
          exact ⟨hs.1, trivial⟩
        have h2 : seesP [[33]] s = false := by
          simp only [seesP, List.contains_cons, List.contains_nil, Bool.or_eq_false_iff] at hs ⊢
          exact ⟨hs.2.1, trivial⟩
        exact ⟨cx, cs, cy, cr, by simp [unaryP, h1, h2, c1], by simp [unaryR, hse, c2], c3, c4, c5⟩
      | true =>
        rw [hs] at hse
        have h2 := sees_two h.1 (by simp) hs
        have hp := h.pop hb h2
        obtain ⟨z, s2, z2, r2, e1, e2, hR2, hz, hlen⟩ := ih m (popP s) (popR r) hp (by omega) (by omega) (by omega) (fun _ => by rw [popR_len]; omega)
        by_cases ht : (hdT s).text = [45]
        · have h1 : seesP [[45]] s = true := by simp [seesP, ht]
          have hu : unO (hdR r).text = 1 := by rw [← hh, ht]; rfl
          refine ⟨.mk 5 1 0 ((hdT s).line : Int) ⟨#[]⟩ [z], s2, .mk 5 (unO (hdR r).text) 0 ((hdR r).line : Int) ⟨#[]⟩ [z2], r2, ?_, ?_, hR2, fun h0 => by rw [hu, hh, hz h0], by omega⟩
          · simp [unaryP, h1, e1]
          · simp [unaryR, hse, e2]
        · have ht2 : (hdT s).text = [33] := by
            simp only [seesP, List.contains_iff_mem, List.mem_cons, List.not_mem_nil, or_false] at hs
            exact hs.resolve_left ht
          have h1 : seesP [[45]] s = false := by simp [seesP, ht2]
          have h3 : seesP [[33]] s = true := by simp [seesP, ht2]
          have hu : unO (hdR r).text = 2 := by rw [← hh, ht2]; rfl
          refine ⟨.mk 5 2 0 ((hdT s).line : Int) ⟨#[]⟩ [z], s2, .mk 5 (unO (hdR r).text) 0 ((hdR r).line : Int) ⟨#[]⟩ [z2], r2, ?_, ?_, hR2, fun h0 => by rw [hu, hh, hz h0], by omega⟩
          · simp [unaryP, h1, h3, e1]
          · simp [unaryR, hse, e2]
theorem unaryQ_agree {E : P1} {F : R1} {N : Nat} (hA : AgrPR E F N) (hB : BadT F) : AgrPR (unaryQ E) (unaryRQ F) (N + 1) := by
  intro s r h hN
  have hp := h.1.pos
  exact unary_agree hA hB (s.rest.length + 1) (r.rest.length + 1) s r h hN (by omega) (by omega) (fun _ => by omega)
/-- Expressions: both read the same tree, or both refuse the same line. -/
theorem expr_agree : ∀ d, AgrPR (exprP d) (exprR (d + 1)) d := by
  intro d
  induction d with
  | zero =>
    intro s r h hN
    have := h.1.pos
    omega
  | succ d ih =>
    intro s r h hN
    exact level_agree (level_agree (once_agree (level_agree (level_agree (unaryQ_agree ih (expr_bad d)) [[42], [47], [37]] (by decide)) [[43], [45]] (by decide)) [[60], [60, 61], [61, 61], [33, 61]] (by decide)) [[38, 38]] (by decide)) [[124, 124]] (by decide) s r h hN
/-- The lines of a text's tokens. -/
theorem scan_lines (n : Nat) : ∀ (l : Bytes) (line : Nat) (ts : List Tok), l.length ≤ n → 1 ≤ line → scan line l = .ok ts → ∀ t ∈ ts, 1 ≤ t.line := by
  induction n with
  | zero =>
    intro l line ts hl h1 h t ht
    have : l = [] := List.eq_nil_of_length_eq_zero (by omega)
    subst this
    rw [scan] at h
    injection h with h
    subst h
    rw [List.mem_singleton] at ht
    subst ht
    exact h1
  | succ n ih =>
    intro l line ts hl h1 h
    match l with
    | [] =>
      rw [scan] at h
      injection h with h
      subst h
      intro t ht
      rw [List.mem_singleton] at ht
      subst ht
      exact h1
    | c :: r =>
      simp only [List.length_cons] at hl
      rw [scan] at h
      split at h
      · exact ih _ _ _ (by omega) (by omega) h
      split at h
      · exact ih _ _ _ (by omega) h1 h
      split at h
      · refine ih _ _ _ ?_ h1 h
        have := List.Sublist.length_le (List.dropWhile_sublist (fun x : UInt8 => decide (x.toNat ≠ 10)) (l := r))
        omega
      split at h
      · cases h
      split at h
      · cases h
      rename_i us hus
      injection h with h
      subst h
      intro t ht
      rcases List.mem_cons.1 ht with rfl | ht
      · exact h1
      · exact ih _ _ _ (by simp; omega) h1 hus t ht
/-- Both begin alike. -/
theorem rel_start {l : Bytes} {ts : List Tok} (h : scan 1 l = .ok ts) : RelPR ⟨ts, 0, 0⟩ ⟨ts, false, 0⟩ := by
  refine ⟨wft_scan h, scan_lines l.length l 1 ts (Nat.le_refl _) (Nat.le_refl _) h, ⟨rfl, rfl⟩, .inl ⟨rfl, rfl, rfl, fun t ht hk => ?_⟩⟩
  obtain ⟨toks, e, rfl, hok⟩ := scan_form l.length l 1 ts (Nat.le_refl _) h
  rcases List.mem_append.1 ht with ht | ht
  · exact hok t ht
  · rw [List.mem_singleton] at ht
    subst ht
    exact absurd rfl hk
end Go.Proofs.YtmpnkbhlagalkaaGreatDoor
namespace Go.Proofs.YtmpnkbhlagalkaaGreatDoor
open Go.RowKit

def Small (x : Ex) : Prop := ∀ D, LenOk D [x]
theorem small_mk {k o a l : Int} {nm : ByteArray} {xs : List Ex} (h : xs.length ≤ 1000000) (hs : ∀ x ∈ xs, Small x) : Small (.mk k o a l nm xs) := by
  have hx : ∀ D, LenOk D xs := by
    intro D
    cases D with
    | zero => exact h
    | succ D => exact ⟨h, fun x hx => (hs x hx (D + 1)).2 x (by simp)⟩
  intro D
  cases D with
  | zero => show [Ex.mk k o a l nm xs].length ≤ 1000000; simp
  | succ D =>
    refine ⟨by simp, fun x hx' => ?_⟩
    rw [List.mem_singleton] at hx'
    subst hx'
    exact hx D
theorem small_leaf {k o a l : Int} {nm : ByteArray} : Small (.mk k o a l nm []) := small_mk (by simp) (fun x hx => by simp at hx)
/-- A parser hands back a small tree and no more tokens than there were. -/
def SmP (P : P1) : Prop := ∀ s x s', P s = some (x, s') → s.rest.length ≤ 100000 → Small x ∧ s'.rest.length ≤ s.rest.length
theorem refuse_le (s : PS) : (refuseP s).rest.length ≤ s.rest.length := by simp [refuseP]
theorem pop_le (s : PS) : (popP s).rest.length ≤ s.rest.length := by rw [pop_len]; omega
theorem demand_le (t : Bytes) (s : PS) : (demandP t s).rest.length ≤ s.rest.length := by
  unfold demandP
  split
  · exact pop_le s
  · exact refuse_le s
theorem expect_le (k : Nat) (s : PS) : (expectP k s).2.rest.length ≤ s.rest.length := by
  unfold expectP
  split
  · exact pop_le s
  · exact refuse_le s
theorem small_bin {t : Tok} {x y : Ex} (hx : Small x) (hy : Small y) : Small (binP t x y) := small_mk (by simp) (fun z hz => by
  simp only [List.mem_cons, List.not_mem_nil, or_false] at hz
  rcases hz with rfl | rfl
  · exact hx
  · exact hy)
theorem sm_loop {P : P1} (hP : SmP P) (l : List Bytes) : ∀ (n : Nat) (x : Ex) (s : PS) (y : Ex) (s' : PS), loopP P l n x s = some (y, s') → s.rest.length ≤ 100000 → Small x → Small y ∧ s'.rest.length ≤ s.rest.length := by
  intro n
  induction n with
  | zero => intro x s y s' h; cases h
  | succ n ih =>
    intro x s y s' h hs hx
    rw [loopP] at h
    split at h
    · split at h
      · cases h
      · rename_i z s2 hz
        have h0 := pop_le s
        obtain ⟨h1, h2⟩ := hP _ _ _ hz (by omega)
        obtain ⟨h3, h4⟩ := ih _ _ _ _ h (by omega) (small_bin hx h1)
        exact ⟨h3, by omega⟩
    · injection h with h
      injection h with e1 e2
      subst e1 e2
      exact ⟨hx, Nat.le_refl _⟩
theorem sm_level {P : P1} (hP : SmP P) (l : List Bytes) : SmP (levelP P l) := by
  intro s x s' h hs
  unfold levelP at h
  split at h
  · cases h
  · rename_i z s2 hz
    obtain ⟨h1, h2⟩ := hP _ _ _ hz hs
    obtain ⟨h3, h4⟩ := sm_loop hP l _ _ _ _ _ h (by omega) h1
    exact ⟨h3, by omega⟩
theorem sm_once {P : P1} (hP : SmP P) (l : List Bytes) : SmP (onceP P l) := by
  intro s x s' h hs
  unfold onceP at h
  split at h
  · cases h
  · rename_i z s2 hz
    obtain ⟨h1, h2⟩ := hP _ _ _ hz hs
    split at h
    · split at h
      · cases h
      · rename_i y s3 hy
        have h0 := pop_le s2
        obtain ⟨h3, h4⟩ := hP _ _ _ hy (by omega)
        injection h with h
        injection h with e1 e2
        subst e1 e2
        exact ⟨small_bin h1 h3, by omega⟩
    · injection h with h
      injection h with e1 e2
      subst e1 e2
      exact ⟨h1, h2⟩
theorem sm_primary {E : P1} (hE : SmP E) : SmP (primaryP E) := by
  intro s x s' h hs
  have h0 := pop_le s
  have hx := expect_le 1 s
  have hx1 := expect_le 1 (popP s)
  have hx2 := pop_le (expectP 1 s).2
  unfold primaryP at h
  split at h
  · injection h with h
    injection h with e1 e2
    subst e1 e2
    exact ⟨small_leaf, h0⟩
  split at h
  · injection h with h
    injection h with e1 e2
    subst e1 e2
    exact ⟨small_leaf, by omega⟩
  split at h
  · injection h with h
    injection h with e1 e2
    subst e1 e2
    exact ⟨small_leaf, h0⟩
  split at h
  · split at h
    · cases h
    · rename_i z s2 hz
      obtain ⟨h1, h2⟩ := hE _ _ _ hz (by omega)
      have hd := demand_le [41] s2
      injection h with h
      injection h with e1 e2
      subst e1 e2
      exact ⟨h1, by omega⟩
  split at h
  · split at h
    · cases h
    · rename_i z s2 hz
      obtain ⟨h1, h2⟩ := hE _ _ _ hz (by omega)
      have hd := demand_le [93] s2
      injection h with h
      injection h with e1 e2
      subst e1 e2
      exact ⟨small_mk (by simp) (fun y hy => by rw [List.mem_singleton] at hy; subst hy; exact h1), by omega⟩
  · injection h with h
    injection h with e1 e2
    subst e1 e2
    exact ⟨small_leaf, hx⟩
theorem sm_more {E : P1} (hE : SmP E) : ∀ (n : Nat) (xs : List Ex) (s : PS) (ys : List Ex) (s' : PS), moreP E n xs s = some (ys, s') → s.rest.length ≤ 100000 → (∀ x ∈ xs, Small x) → (∀ y ∈ ys, Small y) ∧ s'.rest.length ≤ s.rest.length ∧ ys.length ≤ xs.length + n := by
  intro n
  induction n with
  | zero => intro x s y s' h; cases h
  | succ n ih =>
    intro xs s ys s' h hs hx
    rw [moreP] at h
    split at h
    · split at h
      · cases h
      · rename_i z s2 hz
        have h0 := pop_le s
        obtain ⟨h1, h2⟩ := hE _ _ _ hz (by omega)
        obtain ⟨h3, h4, h5⟩ := ih _ _ _ _ h (by omega) (fun y hy => by
          rcases List.mem_append.1 hy with hy | hy
          · exact hx y hy
          · rw [List.mem_singleton] at hy
            subst hy
            exact h1)
        simp only [List.length_append, List.length_singleton] at h5
        exact ⟨h3, by omega, by omega⟩
    · injection h with h
      injection h with e1 e2
      subst e1 e2
      exact ⟨hx, Nat.le_refl _, by omega⟩
theorem sm_list {E : P1} (hE : SmP E) (xs : List Ex) (s : PS) (ys : List Ex) (s' : PS) (h : listP E xs s = some (ys, s')) (hs : s.rest.length ≤ 100000) (hx : ∀ x ∈ xs, Small x) : (∀ y ∈ ys, Small y) ∧ s'.rest.length ≤ s.rest.length ∧ ys.length ≤ xs.length + 100002 := by
  have h0 := pop_le s
  unfold listP at h
  split at h
  · injection h with h
    injection h with e1 e2
    subst e1 e2
    exact ⟨hx, h0, by omega⟩
  · split at h
    · cases h
    · rename_i z s2 hz
      obtain ⟨h1, h2⟩ := hE _ _ _ hz hs
      split at h
      · cases h
      · rename_i zs s3 hzs
        obtain ⟨h3, h4, h5⟩ := sm_more hE _ _ _ _ _ hzs (by omega) (fun y hy => by
          rcases List.mem_append.1 hy with hy | hy
          · exact hx y hy
          · rw [List.mem_singleton] at hy
            subst hy
            exact h1)
        have hd := demand_le [41] s3
        injection h with h
        injection h with e1 e2
        subst e1 e2
        simp only [List.length_append, List.length_singleton] at h5
        exact ⟨h3, by omega, by omega⟩
theorem sm_call {E : P1} (hE : SmP E) (x : Ex) (named : Bool) (s : PS) (y : Ex) (s' : PS) (h : callP E x named s = some (y, s')) (hs : s.rest.length ≤ 100000) (hx : Small x) : Small y ∧ s'.rest.length ≤ s.rest.length := by
  have h0 := pop_le s
  unfold callP at h
  split at h
  · cases h
  · rename_i ys s2 hys
    obtain ⟨h3, h4, h5⟩ := sm_list hE _ _ _ _ hys (by omega) (fun z hz => by
      cases named with
      | true => simp at hz
      | false =>
        simp only [Bool.false_eq_true, if_false, List.mem_singleton] at hz
        subst hz
        exact hx)
    have h6 : (if named = true then ([] : List Ex) else [x]).length ≤ 1 := by cases named <;> simp
    cases x
    injection h with h
    injection h with e1 e2
    subst e1 e2
    exact ⟨small_mk (by omega) h3, by omega⟩
theorem sm_calls {E : P1} (hE : SmP E) (bare : Bool) : ∀ (n : Nat) (x : Ex) (s : PS) (y : Ex) (s' : PS), callsP E bare n x s = some (y, s') → s.rest.length ≤ 100000 → Small x → Small y ∧ s'.rest.length ≤ s.rest.length := by
  intro n
  induction n with
  | zero => intro x s y s' h; cases h
  | succ n ih =>
    intro x s y s' h hs hx
    cases x
    rw [callsP] at h
    split at h
    · split at h
      · cases h
      · rename_i z s2 hz
        obtain ⟨h1, h2⟩ := sm_call hE _ _ _ _ _ hz hs hx
        obtain ⟨h3, h4⟩ := ih _ _ _ _ h (by omega) h1
        exact ⟨h3, by omega⟩
    · injection h with h
      injection h with e1 e2
      subst e1 e2
      exact ⟨hx, Nat.le_refl _⟩
theorem sm_called {E : P1} (hE : SmP E) : SmP (calledP E) := by
  intro s x s' h hs
  unfold calledP at h
  split at h
  · cases h
  · rename_i z s2 hz
    obtain ⟨h1, h2⟩ := sm_primary hE _ _ _ hz hs
    obtain ⟨h3, h4⟩ := sm_calls hE _ _ _ _ _ _ h (by omega) h1
    exact ⟨h3, by omega⟩
theorem sm_unary {E : P1} (hE : SmP E) : ∀ n, SmP (unaryP E n) := by
  intro n
  induction n with
  | zero => intro s x s' h; cases h
  | succ n ih =>
    intro s x s' h hs
    have h0 := pop_le s
    have one : ∀ {z : Ex} {k o a l : Int} {nm : ByteArray}, Small z → Small (.mk k o a l nm [z]) := fun hz => small_mk (by simp) (fun y hy => by rw [List.mem_singleton] at hy; subst hy; exact hz)
    rw [unaryP] at h
    split at h
    · split at h
      · cases h
      · rename_i z s2 hz
        obtain ⟨h1, h2⟩ := ih _ _ _ hz (by omega)
        injection h with h
        injection h with e1 e2
        subst e1 e2
        exact ⟨one h1, by omega⟩
    split at h
    · split at h
      · cases h
      · rename_i z s2 hz
        obtain ⟨h1, h2⟩ := ih _ _ _ hz (by omega)
        injection h with h
        injection h with e1 e2
        subst e1 e2
        exact ⟨one h1, by omega⟩
    · exact sm_called hE _ _ _ h hs
theorem sm_expr : ∀ d, SmP (exprP d) := by
  intro d
  induction d with
  | zero => intro s x s' h; cases h
  | succ d ih => exact fun s x s' h hs => sm_level (sm_level (sm_once (sm_level (sm_level (fun s => sm_unary ih (s.rest.length + 1) s) _) _) _) _) _ s x s' h hs
/-- What a text means as an expression. -/
def meanX (l : Bytes) : Except (Nat × Nat) Ex :=
  match scan 1 l with
  | .error n => .error (n, 6)
  | .ok ts =>
    match exprP ts.length ⟨ts, 0, 0⟩ with
    | none => .error (0, 0)
    | some (x, s) => if (endP s).ref = 0 then .ok x else .error ((endP s).ref, 7)
def treeX : Except (Nat × Nat) Ex → Ex
  | .ok x => x
  | .error _ => noX
def lnX : Except (Nat × Nat) Ex → Nat
  | .ok _ => 0
  | .error p => p.1
def cdX : Except (Nat × Nat) Ex → Nat
  | .ok _ => 0
  | .error p => p.2
/-- What both parsers read of a text that can be scanned. -/
theorem both_read {l : Bytes} {ts : List Tok} (h : scan 1 l = .ok ts) : ∃ x s y r, exprP ts.length ⟨ts, 0, 0⟩ = some (x, s) ∧ exprR (ts.length + 1) ⟨ts, false, 0⟩ = some (y, r) ∧ RelPR s r ∧ (r.bad = false → x = y) := by
  obtain ⟨x, s, y, r, h1, h2, h3, h4, _⟩ := expr_agree ts.length _ _ (rel_start h) (Nat.le_refl _)
  exact ⟨x, s, y, r, h1, h2, h3, h4⟩
theorem end_rel {s : PS} {r : RS} (h : RelPR s r) : ((endP s).ref = 0 ↔ (r.bad = false ∧ (hdR r).kind = 0)) ∧ ((endP s).ref ≠ 0 → (endP s).ref = (hdR r).line) ∧ ((endP s).ref = 0 → (hdT s).kind = 0 ∧ s.ref = 0 ∧ s.out = 0) := by
  obtain ⟨h0, h1, h3, h4⟩ := id h
  have hm := h.mem
  have hl := h1 _ hm
  rcases h4 with h4 | h4
  · have hh := (h.hd h4.1).1
    by_cases hk : (hdT s).kind = 0
    · have e : endP s = s := by simp [endP, hk]
      rw [e]
      refine ⟨⟨fun _ => ⟨h4.1, by rw [← hh]; exact hk⟩, fun _ => h4.2.1⟩, fun hn => absurd h4.2.1 hn, fun _ => ⟨hk, h4.2.1, h3.1⟩⟩
    · have e : endP s = refuseP s := by simp [endP, hk]
      have e2 : (refuseP s).ref = (hdT s).line := by simp [refuseP, h4.2.1]
      rw [e, e2]
      refine ⟨⟨fun h0 => by omega, fun ⟨_, h0⟩ => absurd (by rw [hh]; exact h0) hk⟩, fun _ => by rw [hh], fun h0 => by omega⟩
  · have hk := h.kind0 h4.1
    have e : endP s = s := by simp [endP, hk]
    rw [e]
    exact ⟨⟨fun h0 => by omega, fun h0 => by rw [h4.1] at h0; cases h0.1⟩, fun _ => h4.2.2.1, fun h0 => by omega⟩
theorem meanX_small {l : Bytes} (hl : l.length ≤ 65536) : Small (treeX (meanX l)) := by
  unfold meanX
  cases h : scan 1 l with
  | error n => exact small_leaf
  | ok ts =>
    obtain ⟨x, s, y, r, h1, h2, h3, h4⟩ := both_read h
    have hts := (scan_size _ _ _ _ (Nat.le_refl _) h).2
    simp only [h1]
    split
    · exact (sm_expr _ _ _ _ h1 (by show ts.length ≤ 100000; omega)).1
    · exact small_leaf
end Go.Proofs.YtmpnkbhlagalkaaGreatDoor
namespace Go.Proofs.YtmpnkbhlagalkaaGreatDoor
open Go.RowKit

/-- An answer of a parser of expressions: a tree (or nothing), a line, an error. -/
def AnsG (m : Except (Nat × Nat) Ex) (w : World) (e : Ending) (w' : World) : Prop := ∃ d k o a l nm A n c, e = .returned (.tuple #[.agg #[.int .i64 k, .int .i64 o, .int .i64 a, .int .i64 l, .string nm, .slice A n c], .int .i64 ((lnX m : Nat) : Int), .int .i64 ((cdX m : Nat) : Int)]) ∧ Hid (ExV (fun q => w.heap.size ≤ q ∧ q < w'.heap.size) w' d (treeX m) (.agg #[.int .i64 k, .int .i64 o, .int .i64 a, .int .i64 l, .string nm, .slice A n c])) ∧ Below w.heap.size w w'
theorem ans_err {m : Except (Nat × Nat) Ex} {n c : Nat} {w w' : World} (h : m = .error (n, c)) (hb : Below w.heap.size w w') : AnsG m w (.returned (.tuple #[.agg #[.int .i64 0, .int .i64 0, .int .i64 0, .int .i64 0, .string { data := #[] }, .slice none 0 0], .int .i64 (n : Int), .int .i64 (c : Int)])) w' := by
  subst h
  exact ⟨1, 0, 0, 0, 0, _, none, 0, 0, rfl, Lib.hid ⟨none, 0, rfl, Nat.le_refl _, fun i x h => by simp at h⟩, hb⟩
theorem ans_ok {m : Except (Nat × Nat) Ex} {x : Ex} {d : Nat} {k o a l : Int} {nm : ByteArray} {A : Option Addr} {n c : Nat} {w w' : World} (h : m = .ok x) (hx : ExV (fun q => w.heap.size ≤ q ∧ q < w'.heap.size) w' d x (.agg #[.int .i64 k, .int .i64 o, .int .i64 a, .int .i64 l, .string nm, .slice A n c])) (hb : Below w.heap.size w w') : AnsG m w (.returned (.tuple #[.agg #[.int .i64 k, .int .i64 o, .int .i64 a, .int .i64 l, .string nm, .slice A n c], .int .i64 0, .int .i64 0])) w' := by
  subst h
  exact ⟨d, k, o, a, l, nm, A, n, c, rfl, Lib.hid hx, hb⟩
set_option maxRecDepth 100000 in
set_option maxHeartbeats 4000000 in
theorem refexpr_any (s : ByteArray) (w : World) (hs : s.size ≤ 65536) : Calls Tryz.prog 10 #[.string s] w (AnsG (meanX s.data.toList) w) := by
  have HS := Lib.hid (rscan_any s (w.alloc (.cells #[.int .i64 0, .int .i64 0, .int .i64 0, .int .i64 0, .string { data := #[] }, .slice none 0 0] 30)) (by omega))
  have hb0 := (Below.refl _ w).alloc (Nat.le_refl _) (.cells #[.int .i64 0, .int .i64 0, .int .i64 0, .int .i64 0, .string { data := #[] }, .slice none 0 0] 30)
  have HB0 := Lib.hid hb0
  have HZ0 := Lib.hid (heap_alloc_new w (.cells #[.int .i64 0, .int .i64 0, .int .i64 0, .int .i64 0, .string { data := #[] }, .slice none 0 0] 30))
  have hl : s.data.toList.length = s.size := by simp
  cases hsc : scan 1 s.data.toList with
  | error n =>
    have HM : Hid (meanX s.data.toList = .error (n, 6)) := Lib.hid (by rw [meanX, hsc])
    have hsT : scanT s.data.toList = .error (n, 6) := by rw [scanT, if_neg (by omega), hsc]
    rw [hsT] at HS
    clear hb0 hsc hs hl hsT
    go_enter Tryz.func10, Tryz.ntmps10
    go_wp2_with fail
    refine HS.out.mono ?_
    rintro e w1 ⟨rfl, hb1⟩
    have HB1 := Lib.hid (HB0.out.trans (hb1.mono (by simp)))
    have HZ1 := Lib.hid ((hb1.block _ (by simp)).trans HZ0.out)
    clear hb1 HS
    go_wp2_with (with_reducible refine pause_ex ?_)
    refine Pause.of (wpList_store_new _ rfl _ _ _ rfl w.heap.size _ rfl (by rfl) _ _ HZ1.out (by kernel_rfl) (by rfl) (by simp [Value.oneCell']) ?_)
    intro w9 hrow9 hg9
    have j0 := cell_of_row _ _ 0 _ _ _ hrow9
    have j1 := cell_of_row _ _ 1 _ _ _ hrow9
    have j2 := cell_of_row _ _ 2 _ _ _ hrow9
    have j3 := cell_of_row _ _ 3 _ _ _ hrow9
    have j4 := cell_of_row _ _ 4 _ _ _ hrow9
    have j5 := cell_of_row _ _ 5 _ _ _ hrow9
    have HE := Lib.hid (ans_err HM.out (HB1.out.trans (grown_any hg9 (fun k hk => by injection hk with hk; omega) (by have := HB1.out.size; omega))))
    clear hrow9 hg9
    go_wp2_with fail
    exact bodyPost_ret (by simp [results, Tryz.results10, go_sem, j0, j1, j2, j3, j4, j5]) rfl HE.out
  | ok ts =>
    obtain ⟨x, sp, y, r, q1, q2, hR, hxy⟩ := both_read hsc
    have hsT : scanT s.data.toList = .ok ts := by rw [scanT, if_neg (by omega), hsc]
    rw [hsT] at HS
    obtain ⟨hwf, hlen⟩ := scanT_ok hsT
    obtain ⟨t1, t2, t3⟩ := end_rel hR
    have hwr := hR.2.2.1.2
    have HM : Hid (meanX s.data.toList = if (endP sp).ref = 0 then .ok x else .error ((endP sp).ref, 7)) := Lib.hid (by rw [meanX, hsc]; simp only [q1])
    have HD : Hid (doneR r = if (endP sp).ref = 0 then (0, 0) else ((endP sp).ref, 7)) := Lib.hid (by
      unfold doneR
      by_cases he : (endP sp).ref = 0
      · obtain ⟨u1, u2⟩ := t1.1 he
        rw [if_pos he, if_neg (fun h => by rcases h with h | h; rw [u1] at h; cases h; exact h u2), if_neg (by omega)]
      · rw [if_neg he, if_pos (by
          by_cases hb : r.bad = true
          · exact .inl hb
          · exact .inr (fun hk => he (t1.2 ⟨by simpa using hb, hk⟩))), t2 he])
    have HXY : Hid ((endP sp).ref = 0 → x = y) := Lib.hid (fun he => hxy (t1.1 he).1)
    have HWF := Lib.hid hwf
    have HQ := Lib.hid q2
    clear hb0 hsc hs hl hsT hwf hR hxy t1 t2 t3 q1 q2 hwr
    generalize (endP sp).ref = N at *
    go_enter Tryz.func10, Tryz.ntmps10
    go_wp2_with fail
    refine HS.out.mono ?_
    rintro e w1 ⟨v, rfl, hown, hb1⟩
    obtain ⟨tb, tc, rfl, htb, htl, hra⟩ := ra_start hown HWF.out hlen
    have hsz1 : w.heap.size + 1 ≤ w1.heap.size := by have := hb1.size; simpa using this
    have htb' : w.heap.size + 1 ≤ tb := by simpa using htb
    have hba := (Below.refl _ w1).alloc (Nat.le_refl _) (.cells #[.slice (some ⟨tb, 0, none⟩) ts.length tc, .int .i64 0, .bool false, .int .i64 0] 57)
    have HB1 := Lib.hid ((HB0.out.trans (hb1.mono (by simp))).trans (hba.mono (by omega)))
    have HZ1 := Lib.hid ((hba.block _ (by omega)).trans ((hb1.block _ (by simp)).trans HZ0.out))
    have HSC := Lib.hid (expr_allR (ts.length + 1) w1.heap.size tb ⟨ts, false, 0⟩ r y _ (hra 57) HQ.out)
    have hszp : w.heap.size < (w1.alloc (.cells #[.slice (some ⟨tb, 0, none⟩) ts.length tc, .int .i64 0, .bool false, .int .i64 0] 57)).heap.size := by simp; omega
    clear hown hb1 hra hba HS HZ0 HB0
    go_wp2_with fail
    refine HSC.out.mono ?_
    rintro e w2 ⟨d, k, o, a, l, nm, A, n, c, rfl, hx, hp2, hg2, hl2⟩
    have HZ2 := Lib.hid (blk_keep hg2 (by omega) HZ1.out)
    have HX2 := Lib.hid hx
    have HP2 := Lib.hid hp2
    have HB2 := Lib.hid (show Below w.heap.size w w2 from HB1.out.trans (grown_any hg2 (fun k hk => by injection hk with hk; omega) (by omega)))
    have hlw2 : w.heap.size < w2.heap.size := (Array.getElem?_eq_some_iff.1 HZ2.out).1
    have hszq := hg2.size
    clear hx hp2 hg2 hl2 HSC HZ1 HB1
    go_wp2_with (with_reducible refine pause_ex ?_)
    refine Pause.of (wpList_store_new _ rfl _ _ _ rfl w.heap.size _ rfl (by rfl) _ _ HZ2.out (by kernel_rfl) (by rfl) (by simp [Value.oneCell']) ?_)
    intro w3 hrow3 hg3
    dsimp only [Act.put]
    have hb3 : Below w.heap.size w w3 := HB2.out.trans (grown_any hg3 (fun k hk => by injection hk with hk; omega) (by omega))
    have HD3 := Lib.hid (done_r w3 (HP2.out.other hg3 (by omega) (by omega)))
    have HX3 := Lib.hid (HX2.out.keep (G := fun q => w.heap.size + 1 ≤ q ∧ q < w3.heap.size) (fun q hq => ⟨by omega, Nat.lt_of_lt_of_le hq.2 hg3.size⟩) (fun q hq => hg3.block q hq.2 (fun e => by injection e with e; omega)))
    have HB3 := Lib.hid hb3
    have HRow3 := Lib.hid hrow3
    clear hrow3 hg3 hb3 HX2 HB2 HZ2
    go_wp2_with fail
    refine HD3.out.mono ?_
    rintro e w4 ⟨rfl, hb4⟩
    have hrow4 := (hb4.block _ (Array.getElem?_eq_some_iff.1 HRow3.out).1).trans HRow3.out
    have HB4 := Lib.hid (below_next HB3.out hb4)
    have HX4 := Lib.hid (HX3.out.keep (G := fun q => w.heap.size + 1 ≤ q ∧ q < w4.heap.size) (fun q hq => ⟨hq.1, Nat.lt_of_lt_of_le hq.2 hb4.size⟩) (fun q hq => hb4.block q hq.2))
    have HRow4 := Lib.hid hrow4
    have c0 := cell_of_row _ _ 0 _ _ _ hrow4
    have c1 := cell_of_row _ _ 1 _ _ _ hrow4
    have c2 := cell_of_row _ _ 2 _ _ _ hrow4
    have c3 := cell_of_row _ _ 3 _ _ _ hrow4
    have c4 := cell_of_row _ _ 4 _ _ _ hrow4
    have c5 := cell_of_row _ _ 5 _ _ _ hrow4
    have hs4 := HB4.out.size
    clear hrow4 hb4 HD3 HX3 HB3 HRow3
    by_cases hN : N = 0
    · subst hN
      have hD := HD.out
      rw [if_pos rfl] at hD
      have hM := HM.out
      rw [if_pos rfl] at hM
      have HM2 := Lib.hid hM
      obtain rfl := HXY.out rfl
      rw [hD]
      clear hD hM HD HM HXY
      go_wp2_with (with_reducible refine pause_ex ?_)
      refine Pause.of (wpList_store_new _ rfl _ _ _ rfl w.heap.size _ rfl (by rfl) _ _ HRow4.out (by kernel_rfl) (by rfl) (by simp [Value.oneCell']) ?_)
      intro w9 hrow9 hg9
      have j0 := cell_of_row _ _ 0 _ _ _ hrow9
      have j1 := cell_of_row _ _ 1 _ _ _ hrow9
      have j2 := cell_of_row _ _ 2 _ _ _ hrow9
      have j3 := cell_of_row _ _ 3 _ _ _ hrow9
      have j4 := cell_of_row _ _ 4 _ _ _ hrow9
      have j5 := cell_of_row _ _ 5 _ _ _ hrow9
      have HE : Hid (AnsG (meanX s.data.toList) w (.returned (.tuple #[.agg #[.int .i64 k, .int .i64 o, .int .i64 a, .int .i64 l, .string nm, .slice A n c], .int .i64 0, .int .i64 0])) w9) := Lib.hid (ans_ok HM2.out (HX4.out.keep (fun q hq => ⟨by omega, Nat.lt_of_lt_of_le hq.2 hg9.size⟩) (fun q hq => hg9.block q hq.2 (fun e => by injection e with e; omega))) (HB4.out.trans (grown_any hg9 (fun k hk => by injection hk with hk; omega) (by omega))))
      clear hrow9 hg9 c0 c1 c2 c3 c4 c5
      go_wp2_with fail
      exact bodyPost_ret (by simp [results, Tryz.results10, go_sem, j0, j1, j2, j3, j4, j5]) rfl HE.out
    · have hD := HD.out
      rw [if_neg hN] at hD
      have hM := HM.out
      rw [if_neg hN] at hM
      have HM2 := Lib.hid hM
      rw [hD]
      clear hD hM HD HM HXY hN
      go_wp2_with (with_reducible refine pause_ex ?_)
      refine Pause.of (wpList_store_new _ rfl _ _ _ rfl w.heap.size _ rfl (by rfl) _ _ HRow4.out (by kernel_rfl) (by rfl) (by simp [Value.oneCell']) ?_)
      intro w9 hrow9 hg9
      have j0 := cell_of_row _ _ 0 _ _ _ hrow9
      have j1 := cell_of_row _ _ 1 _ _ _ hrow9
      have j2 := cell_of_row _ _ 2 _ _ _ hrow9
      have j3 := cell_of_row _ _ 3 _ _ _ hrow9
      have j4 := cell_of_row _ _ 4 _ _ _ hrow9
      have j5 := cell_of_row _ _ 5 _ _ _ hrow9
      have HE : Hid (AnsG (meanX s.data.toList) w (.returned (.tuple #[.agg #[.int .i64 0, .int .i64 0, .int .i64 0, .int .i64 0, .string { data := #[] }, .slice none 0 0], .int .i64 (N : Int), .int .i64 7])) w9) := Lib.hid (ans_err HM2.out (HB4.out.trans (grown_any hg9 (fun k hk => by injection hk with hk; omega) (by omega))))
      clear hrow9 hg9 c0 c1 c2 c3 c4 c5
      go_wp2_with fail
      exact bodyPost_ret (by simp [results, Tryz.results10, go_sem, j0, j1, j2, j3, j4, j5]) rfl HE.out
end Go.Proofs.YtmpnkbhlagalkaaGreatDoor
namespace Go.Proofs.YtmpnkbhlagalkaaGreatDoor
open Go.RowKit

/-- The ending of a text that can't be scanned. -/
def NoScanG (n : Nat) (w : World) (e : Ending) (w' : World) : Prop := e = .returned (.tuple #[.agg #[.int .i64 0, .int .i64 0, .int .i64 0, .int .i64 0, .string { data := #[] }, .slice none 0 0], .int .i64 (n : Int), .int .i64 6]) ∧ Below w.heap.size w w'
set_option maxRecDepth 100000 in
set_option maxHeartbeats 2000000 in
theorem whole_none (s : ByteArray) (w : World) (hs : s.size ≤ 65536) (he : Errs w) (N : Nat) (h1 : scan 1 s.data.toList = .error N) :
    Calls Tryz.prog 11 #[.string s, .func (.func 12) #[] #[]] w (NoScanG N w) := by
  have hb1 := (Below.refl _ w).alloc (Nat.le_refl _) (.cells #[.int .i64 0, .int .i64 0, .int .i64 0, .int .i64 0, .string { data := #[] }, .slice none 0 0] 30)
  have hz := heap_alloc_new w (.cells #[.int .i64 0, .int .i64 0, .int .i64 0, .int .i64 0, .string { data := #[] }, .slice none 0 0] 30)
  have hl : s.data.toList.length = s.size := by simp
  have hsc : scanT s.data.toList = .error (N, 6) := by rw [scanT, if_neg (by omega), h1]
  have HSC := Lib.hid (scan_any s _ hs (he.below hb1))
  rw [hsc] at HSC
  have HB1 := Lib.hid hb1
  have HZ := Lib.hid hz
  clear hb1 hz hl hsc h1 he
  go_enter Tryz.func11, Tryz.ntmps11
  go_wp2_with fail
  refine HSC.out.mono ?_
  rintro e w4 ⟨rfl, hb2⟩
  have hz4 := (hb2.block _ (by simp)).trans HZ.out
  have z0 := cell_of_row _ _ 0 _ _ _ hz4
  have z1 := cell_of_row _ _ 1 _ _ _ hz4
  have z2 := cell_of_row _ _ 2 _ _ _ hz4
  have z3 := cell_of_row _ _ 3 _ _ _ hz4
  have z4 := cell_of_row _ _ 4 _ _ _ hz4
  have z5 := cell_of_row _ _ 5 _ _ _ hz4
  have fz : ∀ i, w4.frozen? ⟨w.heap.size, i, none⟩ = false := codes_fz hz4
  have f0 := fz 0
  have f1 := fz 1
  have f2 := fz 2
  have f3 := fz 3
  have f4 := fz 4
  have f5 := fz 5
  have HB4 := Lib.hid (below_next HB1.out (hb2.mono (by simp)))
  have HZ4 := Lib.hid hz4
  clear HSC hb2 fz hz4
  go_wp2_with (with_reducible refine pause_ex ?_)
  refine Pause.of (wpList_store_new _ rfl _ _ _ rfl w.heap.size _ rfl (by rfl) _ _ HZ4.out (by kernel_rfl) (by rfl) (by simp [Value.oneCell']) ?_)
  intro w9 hrow9 hg9
  have j0 := cell_of_row _ _ 0 _ _ _ hrow9
  have j1 := cell_of_row _ _ 1 _ _ _ hrow9
  have j2 := cell_of_row _ _ 2 _ _ _ hrow9
  have j3 := cell_of_row _ _ 3 _ _ _ hrow9
  have j4 := cell_of_row _ _ 4 _ _ _ hrow9
  have j5 := cell_of_row _ _ 5 _ _ _ hrow9
  have HH : Hid (NoScanG N w (.returned (.tuple #[.agg #[.int .i64 0, .int .i64 0, .int .i64 0, .int .i64 0, .string { data := #[] }, .slice none 0 0], .int .i64 (N : Int), .int .i64 6])) w9) := Lib.hid ⟨rfl, HB4.out.trans (grown_any hg9 (fun k hk => by injection hk with hk; omega) (by have := HB4.out.size; omega))⟩
  clear hrow9 hg9 z0 z1 z2 z3 z4 z5 f0 f1 f2 f3 f4 f5
  go_wp2_with fail
  exact bodyPost_ret (by simp [results, Tryz.results11, go_sem, j0, j1, j2, j3, j4, j5]) rfl HH.out
set_option maxRecDepth 100000 in
set_option maxHeartbeats 2000000 in
theorem parse_none (s : ByteArray) (w : World) (hs : s.size ≤ 65536) (he : Errs w) (N : Nat) (h1 : scan 1 s.data.toList = .error N) :
    Calls Tryz.prog 7 #[.string s] w (NoScanG N w) := by
  have hb1 := (Below.refl _ w).alloc (Nat.le_refl _) (.cells #[.int .i64 0, .int .i64 0, .int .i64 0, .int .i64 0, .string { data := #[] }, .slice none 0 0] 30)
  have HZ := Lib.hid (heap_alloc_new w (.cells #[.int .i64 0, .int .i64 0, .int .i64 0, .int .i64 0, .string { data := #[] }, .slice none 0 0] 30))
  have HW := Lib.hid (whole_none s _ hs (he.below hb1) N h1)
  have HB1 := Lib.hid hb1
  clear hb1 he hs h1
  go_enter Tryz.func7, Tryz.ntmps7
  go_wp2_with fail
  refine HW.out.mono ?_
  rintro e w2 ⟨rfl, hb2⟩
  have hz2 := (hb2.block _ (by simp)).trans HZ.out
  have HB2 := Lib.hid (below_next HB1.out hb2)
  have hsz := hb2.size
  have HZ2 := Lib.hid hz2
  clear HW hb2 hz2
  go_wp2_with (with_reducible refine pause_ex ?_)
  refine Pause.of (wpList_store_new _ rfl _ _ _ rfl _ _ rfl (by rfl) _ _ HZ2.out (by kernel_rfl) (by rfl) (by simp [Value.oneCell']) ?_)
  intro w5 hrow5 hg5
  have j0 := cell_of_row _ _ 0 _ _ _ hrow5
  have j1 := cell_of_row _ _ 1 _ _ _ hrow5
  have j2 := cell_of_row _ _ 2 _ _ _ hrow5
  have j3 := cell_of_row _ _ 3 _ _ _ hrow5
  have j4 := cell_of_row _ _ 4 _ _ _ hrow5
  have j5 := cell_of_row _ _ 5 _ _ _ hrow5
  have HH : Hid (NoScanG N w (.returned (.tuple #[.agg #[.int .i64 0, .int .i64 0, .int .i64 0, .int .i64 0, .string { data := #[] }, .slice none 0 0], .int .i64 (N : Int), .int .i64 6])) w5) := Lib.hid ⟨rfl, HB2.out.trans (grown_any hg5 (fun k hk => by injection hk with hk; omega) (by have := HB2.out.size; omega))⟩
  clear hrow5 hg5
  go_wp2_with fail
  exact bodyPost_ret (by simp [results, Tryz.results7, go_sem, j0, j1, j2, j3, j4, j5]) rfl HH.out
theorem parseX_any (s : ByteArray) (w : World) (hs : s.size ≤ 65536) (he : Errs w) : Calls Tryz.prog 7 #[.string s] w (AnsG (meanX s.data.toList) w) := by
  cases hsc : scan 1 s.data.toList with
  | error n =>
    have hM : meanX s.data.toList = .error (n, 6) := by rw [meanX, hsc]
    refine (parse_none s w hs he n hsc).mono ?_
    rintro e w' ⟨rfl, hb⟩
    exact ans_err hM hb
  | ok ts =>
    obtain ⟨x, sp, y, r, q1, q2, hR, hxy⟩ := both_read hsc
    obtain ⟨t1, t2, t3⟩ := end_rel hR
    have hM : meanX s.data.toList = if (endP sp).ref = 0 then .ok x else .error ((endP sp).ref, 7) := by rw [meanX, hsc]; simp only [q1]
    by_cases hN : (endP sp).ref = 0
    · rw [if_pos hN] at hM
      obtain ⟨u1, u2, u3⟩ := t3 hN
      refine (parse_ok s w hs he ts ts.length x sp hsc q1 u1 u2 u3).mono ?_
      rintro e w' ⟨d, k, o, a, l, nm, A, n, c, rfl, hx, hb⟩
      exact ans_ok hM hx.out hb
    · rw [if_neg hN] at hM
      refine (parse_bad s w hs he ts ts.length x sp hsc q1 _ rfl (by omega)).mono ?_
      rintro e w' ⟨rfl, hb⟩
      exact ans_err hM hb
end Go.Proofs.YtmpnkbhlagalkaaGreatDoor
