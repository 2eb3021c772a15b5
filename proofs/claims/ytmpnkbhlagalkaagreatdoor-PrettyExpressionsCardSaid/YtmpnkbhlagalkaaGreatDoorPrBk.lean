/-
  Trees that the parser of expressions hands back; the tokens that are written for them are read as the same trees. No condition.
-/
import Derived.Test.YtmpnkbhlagalkaaGreatDoorPsEnd
import Derived.Test.YtmpnkbhlagalkaaGreatDoorPxAns
namespace Go.Proofs.YtmpnkbhlagalkaaGreatDoor
open Go.RowKit

/-- A name of the language. -/
def isNm (l : Bytes) : Bool := match l with | [] => false | c :: r => letter c && r.all wordy && !isW (c :: r) && decide (r.length < 32)
/-- A tree of the grammar. -/
inductive WfX : Ex → Prop
  | num (a l : Int) : 0 ≤ a → a < 9223372036854775808 → WfX (.mk 1 0 a l ⟨#[]⟩ [])
  | nam (l : Int) (s : ByteArray) : isNm s.data.toList = true → WfX (.mk 13 0 0 l s [])
  | fn (l : Int) (s : ByteArray) : isNm s.data.toList = true → WfX (.mk 11 0 0 l s [])
  | rd (l : Int) : WfX (.mk 12 0 0 l ⟨#[]⟩ [])
  | el (l : Int) (s : ByteArray) (x : Ex) : isNm s.data.toList = true → WfX x → WfX (.mk 4 0 0 l s [x])
  | un (o l : Int) (x : Ex) : 1 ≤ o → o ≤ 2 → WfX x → WfX (.mk 5 o 0 l ⟨#[]⟩ [x])
  | bin (o l : Int) (x y : Ex) : 3 ≤ o → o ≤ 11 → WfX x → WfX y → WfX (.mk 6 o 0 l ⟨#[]⟩ [x, y])
  | and_ (l : Int) (x y : Ex) : WfX x → WfX y → WfX (.mk 7 0 0 l ⟨#[]⟩ [x, y])
  | or_ (l : Int) (x y : Ex) : WfX x → WfX y → WfX (.mk 8 0 0 l ⟨#[]⟩ [x, y])
  | call (l : Int) (s : ByteArray) (xs : List Ex) : isNm s.data.toList = true → (∀ x ∈ xs, WfX x) → WfX (.mk 9 0 0 l s xs)
  | val (l : Int) (x : Ex) (xs : List Ex) : WfX x → (∀ y ∈ xs, WfX y) → WfX (.mk 10 0 0 l ⟨#[]⟩ (x :: xs))
mutual
/-- How many nodes a tree has. -/
def ndX : Ex → Nat
  | .mk _ _ _ _ _ xs => 1 + ndL xs
def ndL : List Ex → Nat
  | [] => 0
  | x :: r => ndX x + ndL r
end
theorem ndL_append (a b : List Ex) : ndL (a ++ b) = ndL a + ndL b := by
  induction a with
  | nil => simp [ndL]
  | cons x r ih => simp [ndL, ih]; omega
theorem ndX_pos (x : Ex) : 1 ≤ ndX x := by cases x; simp [ndX]
/-- What is left of a text's tokens. -/
def OkS (s : PS) : Prop := WFt s.rest ∧ ∀ t ∈ s.rest, 1 ≤ t.line ∧ (t.kind ≠ 0 → TokOk t)
/-- A parser that refuses nothing hands back a tree of the grammar, with no more nodes than it has taken tokens. -/
def WfP (P : P1) : Prop := ∀ s x s', P s = some (x, s') → OkS s → OkS s' ∧ (s'.ref = 0 → s.ref = 0 ∧ WfX x ∧ ndX x + s'.rest.length ≤ s.rest.length)
theorem OkS.mem {s : PS} (h : OkS s) : hdT s ∈ s.rest := by
  have := h.1.pos
  cases hq : s.rest with
  | nil => rw [hq] at this; simp at this
  | cons a l => simp [hdT, hq]
theorem OkS.pop {s : PS} (h : OkS s) (h2 : 2 ≤ s.rest.length) : OkS (popP s) := ⟨h.1.tail h2, fun t ht => h.2 t (List.mem_of_mem_tail ht)⟩
theorem OkS.refuse {s : PS} (h : OkS s) : OkS (refuseP s) ∧ (refuseP s).ref ≠ 0 := by
  refine ⟨⟨h.1.last, fun t ht => h.2 t (List.mem_of_mem_drop ht)⟩, ?_⟩
  have := (h.2 _ h.mem).1
  show (if s.ref = 0 then (hdT s).line else s.ref) ≠ 0
  split <;> omega
theorem OkS.sees {s : PS} (h : OkS s) {t : Bytes} (ht : t ≠ []) (hs : seesP [t] s = true) : OkS (popP s) ∧ (popP s).rest.length + 1 = s.rest.length := by
  have h2 := sees_two h.1 (l := [t]) (by simpa using ht) hs
  exact ⟨h.pop h2, by rw [pop_len]; omega⟩
theorem OkS.sees_any {s : PS} (h : OkS s) {l : List Bytes} (ht : [] ∉ l) (hs : seesP l s = true) : OkS (popP s) ∧ (popP s).rest.length + 1 = s.rest.length := by
  have h2 := sees_two h.1 ht hs
  exact ⟨h.pop h2, by rw [pop_len]; omega⟩
theorem OkS.demand {s : PS} (h : OkS s) {t : Bytes} (ht : t ≠ []) : OkS (demandP t s) ∧ ((demandP t s).ref = 0 → s.ref = 0 ∧ (demandP t s).rest.length + 1 = s.rest.length) := by
  unfold demandP
  split
  · rename_i hs
    have := h.sees ht hs
    exact ⟨this.1, fun h0 => ⟨h0, this.2⟩⟩
  · have := h.refuse
    exact ⟨this.1, fun h0 => absurd h0 this.2⟩
theorem OkS.expect {s : PS} (h : OkS s) : OkS (expectP 1 s).2 ∧ ((expectP 1 s).2.ref = 0 → s.ref = 0 ∧ (expectP 1 s).2.rest.length + 1 = s.rest.length ∧ (hdT s).kind = 1 ∧ (expectP 1 s).1 = hdT s ∧ TokOk (hdT s)) := by
  unfold expectP
  split
  · rename_i hk
    have h2 := WFt.two h.1 (.inr (by omega : (hdT s).kind ≠ 0))
    exact ⟨h.pop h2, fun h0 => ⟨h0, by rw [pop_len]; omega, hk, rfl, (h.2 _ h.mem).2 (by omega)⟩⟩
  · have := h.refuse
    exact ⟨this.1, fun h0 => absurd h0 this.2⟩
/-- A name's token. -/
theorem tok_name {t : Tok} (h : TokOk t) (hk : t.kind = 1) : isNm t.text = true := by
  obtain ⟨c, r, ht, _, _, _⟩ := h.head
  have hm := h.mean
  rw [hk, ht] at hm
  unfold pmean at hm
  simp only [] at hm
  have hS : isS (c :: r) = false := by
    cases e : isS (c :: r) with
    | false => rfl
    | true => rw [e] at hm; simp at hm
  have hW : isW (c :: r) = false := by
    cases e : isW (c :: r) with
    | false => rfl
    | true => rw [e, hS] at hm; simp at hm
  have hD : digit c = false := by
    cases e : digit c with
    | false => rfl
    | true =>
      rw [hS, hW, e] at hm
      simp only [Bool.false_eq_true, if_false, if_true] at hm
      split at hm
      · cases hm
      · cases e2 : val (c :: r) with
        | none => rw [e2] at hm; cases hm
        | some q => rw [e2] at hm; injection hm with hm; injection hm with hm; omega
  rw [hS, hW, hD] at hm
  simp only [Bool.false_eq_true, if_false] at hm
  have hl := h.len [] (fun c r' e => by cases e)
  rw [List.append_nil, ht] at hl
  simp only [plen, hD, Bool.or_false] at hl
  have hL : letter c = true := by
    cases e : letter c with
    | true => rfl
    | false =>
      rw [e] at hl
      simp only [Bool.false_eq_true, if_false] at hl
      split at hl
      · rename_i h2
        simp only [Bool.and_eq_true, decide_eq_true_eq] at h2
        have : (c :: r).take 2 = c :: r := by rw [List.take_of_length_le (by omega)]
        rw [this, hS] at h2
        cases h2.2
      · split at hl
        · rename_i h3
          have : (c :: r).take 1 = c :: r := by rw [List.take_of_length_le (by omega)]
          rw [this, hS] at h3
          cases h3
        · simp at hl
  rw [hL] at hl
  simp only [if_true] at hl
  have hall : ∀ x ∈ c :: r, wordy x = true := by
    have e : (c :: r).takeWhile wordy = c :: r := by
      have := take_tw wordy (c :: r)
      rw [hl, List.take_length] at this
      exact this.symm
    intro x hx
    rw [← e] at hx
    exact tw_all wordy _ x hx
  rw [ht]
  simp only [isNm, hL, hW, Bool.and_eq_true, decide_eq_true_eq, Bool.not_false, and_true, true_and]
  refine ⟨by rw [List.all_eq_true]; exact fun x hx => hall x (by simp [hx]), ?_⟩
  split at hm
  · rename_i h5
    simp only [List.length_cons] at h5
    omega
  · cases hm
/-- A number's token. -/
theorem tok_num {t : Tok} (h : TokOk t) (hk : t.kind = 2) : t.value < 9223372036854775808 := by
  obtain ⟨c, r, ht, _, _, _⟩ := h.head
  have hm := h.mean
  rw [hk, ht] at hm
  unfold pmean at hm
  simp only [] at hm
  split at hm
  · injection hm with hm; injection hm with hm; omega
  split at hm
  · injection hm with hm; injection hm with hm; omega
  split at hm
  · rename_i hd
    split at hm
    · cases hm
    · rw [val_eq hd] at hm
      cases e : Lib.parseUint10 0 (c :: r) with
      | ok u =>
        rw [e] at hm
        simp only [small] at hm
        split at hm
        · cases hm
        · simp only [Option.map_some, Option.some.injEq, Prod.mk.injEq] at hm
          omega
      | _ => rw [e] at hm; cases hm
  · split at hm
    · injection hm with hm; injection hm with hm; omega
    · cases hm
theorem nmB_list (t : Bytes) : (nmB t).data.toList = t := by simp [nmB]
/-- The tree of an operator. -/
theorem wf_bin {t : Tok} {x y : Ex} (ht : t.text ∈ ([[42], [47], [37], [43], [45], [60], [60, 61], [61, 61], [33, 61], [38, 38], [124, 124]] : List Bytes)) (hx : WfX x) (hy : WfX y) : WfX (binP t x y) ∧ ndX (binP t x y) = 1 + ndX x + ndX y := by
  refine ⟨?_, by simp [binP, ndX, ndL]; omega⟩
  unfold binP
  simp only [List.mem_cons, List.not_mem_nil, or_false] at ht
  rcases ht with h | h | h | h | h | h | h | h | h | h | h <;> rw [h]
  · exact .bin 5 _ _ _ (by decide) (by decide) hx hy
  · exact .bin 6 _ _ _ (by decide) (by decide) hx hy
  · exact .bin 7 _ _ _ (by decide) (by decide) hx hy
  · exact .bin 3 _ _ _ (by decide) (by decide) hx hy
  · exact .bin 4 _ _ _ (by decide) (by decide) hx hy
  · exact .bin 8 _ _ _ (by decide) (by decide) hx hy
  · exact .bin 9 _ _ _ (by decide) (by decide) hx hy
  · exact .bin 10 _ _ _ (by decide) (by decide) hx hy
  · exact .bin 11 _ _ _ (by decide) (by decide) hx hy
  · exact .and_ _ _ _ hx hy
  · exact .or_ _ _ _ hx hy
/-- The signs of a level. -/
def Lvl (l : List Bytes) : Prop := ∀ t ∈ l, t ∈ ([[42], [47], [37], [43], [45], [60], [60, 61], [61, 61], [33, 61], [38, 38], [124, 124]] : List Bytes)
theorem Lvl.ne {l : List Bytes} (h : Lvl l) : [] ∉ l := fun h0 => by
  have := h _ h0
  simp at this
theorem seen_mem {l : List Bytes} {s : PS} (h : seesP l s = true) : (hdT s).text ∈ l := by simpa [seesP, List.contains_iff_mem] using h
theorem wf_loop {P : P1} (hP : WfP P) {l : List Bytes} (hl : Lvl l) : ∀ (n : Nat) (x : Ex) (s : PS) (y : Ex) (s' : PS), loopP P l n x s = some (y, s') → OkS s → OkS s' ∧ (s'.ref = 0 → s.ref = 0 ∧ (WfX x → WfX y ∧ ndX y + s'.rest.length ≤ ndX x + s.rest.length)) := by
  intro n
  induction n with
  | zero => intro x s y s' h; cases h
  | succ n ih =>
    intro x s y s' h hs
    rw [loopP] at h
    split at h
    · rename_i hse
      obtain ⟨hp, hpl⟩ := hs.sees_any hl.ne hse
      split at h
      · cases h
      · rename_i z s2 hz
        obtain ⟨h1, h2⟩ := hP _ _ _ hz hp
        obtain ⟨h3, h4⟩ := ih _ _ _ _ h h1
        refine ⟨h3, fun h0 => ?_⟩
        obtain ⟨h5, h6⟩ := h4 h0
        obtain ⟨h7, h8, h9⟩ := h2 h5
        refine ⟨h7, fun hx => ?_⟩
        obtain ⟨b1, b2⟩ := wf_bin (hl _ (seen_mem hse)) hx h8
        obtain ⟨b3, b4⟩ := h6 b1
        exact ⟨b3, by omega⟩
    · injection h with h
      injection h with e1 e2
      subst e1 e2
      exact ⟨hs, fun h0 => ⟨h0, fun hx => ⟨hx, Nat.le_refl _⟩⟩⟩
theorem wf_level {P : P1} (hP : WfP P) {l : List Bytes} (hl : Lvl l) : WfP (levelP P l) := by
  intro s x s' h hs
  unfold levelP at h
  split at h
  · cases h
  · rename_i z s2 hz
    obtain ⟨h1, h2⟩ := hP _ _ _ hz hs
    obtain ⟨h3, h4⟩ := wf_loop hP hl _ _ _ _ _ h h1
    refine ⟨h3, fun h0 => ?_⟩
    obtain ⟨h5, h6⟩ := h4 h0
    obtain ⟨h7, h8, h9⟩ := h2 h5
    obtain ⟨b3, b4⟩ := h6 h8
    exact ⟨h7, b3, by omega⟩
theorem wf_once {P : P1} (hP : WfP P) {l : List Bytes} (hl : Lvl l) : WfP (onceP P l) := by
  intro s x s' h hs
  unfold onceP at h
  split at h
  · cases h
  · rename_i z s2 hz
    obtain ⟨h1, h2⟩ := hP _ _ _ hz hs
    split at h
    · rename_i hse
      obtain ⟨hp, hpl⟩ := h1.sees_any hl.ne hse
      split at h
      · cases h
      · rename_i y s3 hy
        obtain ⟨h3, h4⟩ := hP _ _ _ hy hp
        injection h with h
        injection h with e1 e2
        subst e1 e2
        refine ⟨h3, fun h0 => ?_⟩
        obtain ⟨h5, h6, h7⟩ := h4 h0
        obtain ⟨h8, h9, h10⟩ := h2 h5
        obtain ⟨b1, b2⟩ := wf_bin (hl _ (seen_mem hse)) h9 h6
        exact ⟨h8, b1, by omega⟩
    · injection h with h
      injection h with e1 e2
      subst e1 e2
      exact ⟨h1, h2⟩
theorem wf_primary {E : P1} (hE : WfP E) : WfP (primaryP E) := by
  intro s x s' h hs
  unfold primaryP at h
  split at h
  · rename_i hk
    injection h with h
    injection h with e1 e2
    subst e1 e2
    have h2 := WFt.two hs.1 (.inr (by omega : (hdT s).kind ≠ 0))
    have hv := tok_num ((hs.2 _ hs.mem).2 (by omega)) hk
    exact ⟨hs.pop h2, fun h0 => ⟨h0, .num _ _ (by omega) (by omega), by rw [pop_len]; simp [ndX, ndL]; omega⟩⟩
  split at h
  · rename_i hse
    obtain ⟨hp, hpl⟩ := hs.sees (by simp) hse
    obtain ⟨h1, h2⟩ := hp.expect
    injection h with h
    injection h with e1 e2
    subst e1 e2
    refine ⟨h1, fun h0 => ?_⟩
    obtain ⟨h3, h4, h5, h6, h7⟩ := h2 h0
    exact ⟨h3, .fn _ _ (by rw [nmB_list, h6]; exact tok_name h7 h5), by simp [ndX, ndL]; omega⟩
  split at h
  · rename_i hse
    obtain ⟨hp, hpl⟩ := hs.sees (by simp) hse
    injection h with h
    injection h with e1 e2
    subst e1 e2
    exact ⟨hp, fun h0 => ⟨h0, .rd _, by simp [ndX, ndL]; omega⟩⟩
  split at h
  · rename_i hse
    obtain ⟨hp, hpl⟩ := hs.sees (by simp) hse
    split at h
    · cases h
    · rename_i z s2 hz
      obtain ⟨h1, h2⟩ := hE _ _ _ hz hp
      obtain ⟨h3, h4⟩ := h1.demand (t := [41]) (by simp)
      injection h with h
      injection h with e1 e2
      subst e1 e2
      refine ⟨h3, fun h0 => ?_⟩
      obtain ⟨h5, h6⟩ := h4 h0
      obtain ⟨h7, h8, h9⟩ := h2 h5
      exact ⟨h7, h8, by omega⟩
  obtain ⟨hp, hpe⟩ := hs.expect
  split at h
  · rename_i hse
    obtain ⟨hp2, hpl⟩ := hp.sees (by simp) hse
    split at h
    · cases h
    · rename_i z s2 hz
      obtain ⟨h1, h2⟩ := hE _ _ _ hz hp2
      obtain ⟨h3, h4⟩ := h1.demand (t := [93]) (by simp)
      injection h with h
      injection h with e1 e2
      subst e1 e2
      refine ⟨h3, fun h0 => ?_⟩
      obtain ⟨h5, h6⟩ := h4 h0
      obtain ⟨h7, h8, h9⟩ := h2 h5
      obtain ⟨g1, g2, g3, g4, g5⟩ := hpe h7
      exact ⟨g1, .el _ _ _ (by rw [nmB_list, g4]; exact tok_name g5 g3) h8, by simp [ndX, ndL]; omega⟩
  · injection h with h
    injection h with e1 e2
    subst e1 e2
    refine ⟨hp, fun h0 => ?_⟩
    obtain ⟨g1, g2, g3, g4, g5⟩ := hpe h0
    exact ⟨g1, .nam _ _ (by rw [nmB_list, g4]; exact tok_name g5 g3), by simp [ndX, ndL]; omega⟩
theorem wf_more {E : P1} (hE : WfP E) : ∀ (n : Nat) (xs : List Ex) (s : PS) (ys : List Ex) (s' : PS), moreP E n xs s = some (ys, s') → OkS s → OkS s' ∧ (s'.ref = 0 → s.ref = 0 ∧ ((∀ x ∈ xs, WfX x) → (∀ y ∈ ys, WfX y) ∧ ndL ys + s'.rest.length ≤ ndL xs + s.rest.length ∧ xs.length ≤ ys.length)) := by
  intro n
  induction n with
  | zero => intro x s y s' h; cases h
  | succ n ih =>
    intro xs s ys s' h hs
    rw [moreP] at h
    split at h
    · rename_i hse
      obtain ⟨hp, hpl⟩ := hs.sees (by simp) hse
      split at h
      · cases h
      · rename_i z s2 hz
        obtain ⟨h1, h2⟩ := hE _ _ _ hz hp
        obtain ⟨h3, h4⟩ := ih _ _ _ _ h h1
        refine ⟨h3, fun h0 => ?_⟩
        obtain ⟨h5, h6⟩ := h4 h0
        obtain ⟨h7, h8, h9⟩ := h2 h5
        refine ⟨h7, fun hx => ?_⟩
        obtain ⟨b1, b2, b3⟩ := h6 (fun y hy => by
          rcases List.mem_append.1 hy with hy | hy
          · exact hx y hy
          · rw [List.mem_singleton] at hy
            subst hy
            exact h8)
        rw [ndL_append] at b2
        simp only [ndL, Nat.add_zero] at b2
        simp only [List.length_append, List.length_singleton] at b3
        exact ⟨b1, by omega, by omega⟩
    · injection h with h
      injection h with e1 e2
      subst e1 e2
      exact ⟨hs, fun h0 => ⟨h0, fun hx => ⟨hx, Nat.le_refl _, Nat.le_refl _⟩⟩⟩
theorem wf_list {E : P1} (hE : WfP E) (xs : List Ex) (s : PS) (ys : List Ex) (s' : PS) (h : listP E xs s = some (ys, s')) (hs : OkS s) : OkS s' ∧ (s'.ref = 0 → s.ref = 0 ∧ ((∀ x ∈ xs, WfX x) → (∀ y ∈ ys, WfX y) ∧ ndL ys + s'.rest.length + 1 ≤ ndL xs + s.rest.length ∧ xs.length ≤ ys.length)) := by
  unfold listP at h
  split at h
  · rename_i hse
    obtain ⟨hp, hpl⟩ := hs.sees (by simp) hse
    injection h with h
    injection h with e1 e2
    subst e1 e2
    exact ⟨hp, fun h0 => ⟨h0, fun hx => ⟨hx, by omega, Nat.le_refl _⟩⟩⟩
  · split at h
    · cases h
    · rename_i z s2 hz
      obtain ⟨h1, h2⟩ := hE _ _ _ hz hs
      split at h
      · cases h
      · rename_i zs s3 hzs
        obtain ⟨h3, h4⟩ := wf_more hE _ _ _ _ _ hzs h1
        obtain ⟨h5, h6⟩ := h3.demand (t := [41]) (by simp)
        injection h with h
        injection h with e1 e2
        subst e1 e2
        refine ⟨h5, fun h0 => ?_⟩
        obtain ⟨q1, q2⟩ := h6 h0
        obtain ⟨q3, q4⟩ := h4 q1
        obtain ⟨q5, q6, q7⟩ := h2 q3
        refine ⟨q5, fun hx => ?_⟩
        obtain ⟨b1, b2, b3⟩ := q4 (fun y hy => by
          rcases List.mem_append.1 hy with hy | hy
          · exact hx y hy
          · rw [List.mem_singleton] at hy
            subst hy
            exact q6)
        rw [ndL_append] at b2
        simp only [ndL, Nat.add_zero] at b2
        simp only [List.length_append, List.length_singleton] at b3
        exact ⟨b1, by omega, by omega⟩
theorem WfX.bare {k o a l : Int} {nm : ByteArray} {xs : List Ex} (h : WfX (.mk k o a l nm xs)) (hk : k = 13) : isNm nm.data.toList = true ∧ xs = [] := by
  subst hk
  cases h with
  | nam _ _ h => exact ⟨h, rfl⟩
theorem wf_calls {E : P1} (hE : WfP E) (bare : Bool) : ∀ (n : Nat) (x : Ex) (s : PS) (y : Ex) (s' : PS), callsP E bare n x s = some (y, s') → OkS s → OkS s' ∧ (s'.ref = 0 → s.ref = 0 ∧ (WfX x → WfX y ∧ ndX y + s'.rest.length ≤ ndX x + s.rest.length)) := by
  intro n
  induction n with
  | zero => intro x s y s' h; cases h
  | succ n ih =>
    intro x s y s' h hs
    obtain ⟨k, o, a, l, nm, xs, rfl⟩ : ∃ k o a l nm xs, x = .mk k o a l nm xs := by
      cases x
      exact ⟨_, _, _, _, _, _, rfl⟩
    rw [callsP] at h
    split at h
    · rename_i hse
      obtain ⟨hp, hpl⟩ := hs.sees (by simp) hse
      split at h
      · cases h
      · rename_i z s2 hz
        simp only [callP] at hz
        split at hz
        · cases hz
        · rename_i ys s3 hys
          injection hz with hz
          injection hz with e1 e2
          subst e1 e2
          obtain ⟨h1, h2⟩ := wf_list hE _ _ _ _ hys hp
          obtain ⟨h3, h4⟩ := ih _ _ _ _ h h1
          refine ⟨h3, fun h0 => ?_⟩
          obtain ⟨h5, h6⟩ := h4 h0
          obtain ⟨h7, h8⟩ := h2 h5
          refine ⟨h7, fun hx => ?_⟩
          cases hb : (bare && k == 13) with
          | true =>
            have hk : k = 13 := by
              simp only [Bool.and_eq_true, beq_iff_eq] at hb
              exact hb.2
            obtain ⟨hn, hxs⟩ := hx.bare hk
            rw [hb] at h8 h6
            obtain ⟨b1, b2, b3⟩ := h8 (fun x hx => by simp at hx)
            obtain ⟨b4, b5⟩ := h6 (.call _ _ _ (by simpa using hn) b1)
            simp only [if_true, ndL, ndX] at b2 b5 ⊢
            exact ⟨b4, by omega⟩
          | false =>
            rw [hb] at h8 h6
            simp only [Bool.false_eq_true, if_false] at h8 h6
            obtain ⟨b1, b2, b3⟩ := h8 (fun y hy => by
              rw [List.mem_singleton] at hy
              subst hy
              exact hx)
            cases ys with
            | nil => simp at b3
            | cons y0 yr =>
              obtain ⟨b4, b5⟩ := h6 (.val _ _ _ (b1 _ (by simp)) (fun y hy => b1 y (by simp [hy])))
              simp only [ndL, ndX] at b2 b5 ⊢
              exact ⟨b4, by omega⟩
    · injection h with h
      injection h with e1 e2
      subst e1 e2
      exact ⟨hs, fun h0 => ⟨h0, fun hx => ⟨hx, Nat.le_refl _⟩⟩⟩
theorem wf_called {E : P1} (hE : WfP E) : WfP (calledP E) := by
  intro s x s' h hs
  unfold calledP at h
  split at h
  · cases h
  · rename_i z s2 hz
    obtain ⟨h1, h2⟩ := wf_primary hE _ _ _ hz hs
    obtain ⟨h3, h4⟩ := wf_calls hE _ _ _ _ _ _ h h1
    refine ⟨h3, fun h0 => ?_⟩
    obtain ⟨h5, h6⟩ := h4 h0
    obtain ⟨h7, h8, h9⟩ := h2 h5
    obtain ⟨b3, b4⟩ := h6 h8
    exact ⟨h7, b3, by omega⟩
theorem wf_unary {E : P1} (hE : WfP E) : ∀ n, WfP (unaryP E n) := by
  intro n
  induction n with
  | zero => intro s x s' h; cases h
  | succ n ih =>
    intro s x s' h hs
    rw [unaryP] at h
    split at h
    · rename_i hse
      obtain ⟨hp, hpl⟩ := hs.sees (by simp) hse
      split at h
      · cases h
      · rename_i z s2 hz
        obtain ⟨h1, h2⟩ := ih _ _ _ hz hp
        injection h with h
        injection h with e1 e2
        subst e1 e2
        refine ⟨h1, fun h0 => ?_⟩
        obtain ⟨h7, h8, h9⟩ := h2 h0
        exact ⟨h7, .un 1 _ _ (by decide) (by decide) h8, by simp [ndX, ndL]; omega⟩
    split at h
    · rename_i hse
      obtain ⟨hp, hpl⟩ := hs.sees (by simp) hse
      split at h
      · cases h
      · rename_i z s2 hz
        obtain ⟨h1, h2⟩ := ih _ _ _ hz hp
        injection h with h
        injection h with e1 e2
        subst e1 e2
        refine ⟨h1, fun h0 => ?_⟩
        obtain ⟨h7, h8, h9⟩ := h2 h0
        exact ⟨h7, .un 2 _ _ (by decide) (by decide) h8, by simp [ndX, ndL]; omega⟩
    · exact wf_called hE _ _ _ h hs
theorem wf_expr : ∀ d, WfP (exprP d) := by
  intro d
  induction d with
  | zero => intro s x s' h; cases h
  | succ d ih =>
    intro s x s' h hs
    exact wf_level (wf_level (wf_once (wf_level (wf_level (fun s => wf_unary ih (s.rest.length + 1) s) (l := [[42], [47], [37]]) (by unfold Lvl; decide)) (l := [[43], [45]]) (by unfold Lvl; decide)) (l := [[60], [60, 61], [61, 61], [33, 61]]) (by unfold Lvl; decide)) (l := [[38, 38]]) (by unfold Lvl; decide)) (l := [[124, 124]]) (by unfold Lvl; decide) s x s' h hs
end Go.Proofs.YtmpnkbhlagalkaaGreatDoor
namespace Go.Proofs.YtmpnkbhlagalkaaGreatDoor
open Go.RowKit

mutual
/-- The same tree in line 1. -/
def rlX : Ex → Ex
  | .mk k o a _ s xs => .mk k o a 1 s (rlL xs)
def rlL : List Ex → List Ex
  | [] => []
  | x :: r => rlX x :: rlL r
end
theorem rlX_kind (x : Ex) : (rlX x).kind = x.kind := by cases x; rfl
def tS (t : Bytes) : Tok := ⟨4, 1, 0, t⟩
def tW (t : Bytes) : Tok := ⟨3, 1, 0, t⟩
def tI (t : Bytes) : Tok := ⟨1, 1, 0, t⟩
def tN (n : Nat) : Tok := ⟨2, 1, n, numL n⟩
def parT (l : List Tok) : List Tok := tS [40] :: (l ++ [tS [41]])
def opT (p : Int × List Tok) : List Tok := if compK p.1 then parT p.2 else p.2
def vaT (p : Int × List Tok) : List Tok := if p.1 = 13 then parT p.2 else opT p
def moreT (l : List (Int × List Tok)) : List Tok := l.flatMap fun p => tS [44] :: p.2
def comT : List (Int × List Tok) → List Tok
  | [] => []
  | p :: r => p.2 ++ moreT r
def argT (l : List (Int × List Tok)) : List Tok := tS [40] :: (comT l ++ [tS [41]])
/-- The tokens of a node, given those of its operands. -/
def asmT (k o a : Int) (s : Bytes) (l : List (Int × List Tok)) : List Tok :=
  if k = 1 then [tN a.toNat] else if k = 13 then [tI s] else if k = 12 then [tW [114, 101, 97, 100]] else if k = 11 then [tS [38], tI s]
  else match k, l with
    | 4, [p] => tI s :: tS [91] :: (p.2 ++ [tS [93]])
    | 5, [p] => tS (signL o) :: opT p
    | 6, [p, q] => opT p ++ tS (signL o) :: opT q
    | 7, [p, q] => opT p ++ tS [38, 38] :: opT q
    | 8, [p, q] => opT p ++ tS [124, 124] :: opT q
    | 9, l => tI s :: argT l
    | 10, p :: l => vaT p ++ argT l
    | _, _ => []
mutual
/-- The tokens that are written for a tree. -/
def tkX : Ex → List Tok
  | .mk k o a _ s xs => asmT k o a s.data.toList (tkL xs)
def tkL : List Ex → List (Int × List Tok)
  | [] => []
  | x :: r => (x.kind, tkX x) :: tkL r
end
abbrev tkO (x : Ex) : List Tok := opT (x.kind, tkX x)
theorem tk_num (o a l : Int) (s : ByteArray) : tkX (.mk 1 o a l s []) = [tN a.toNat] := by simp [tkX, asmT]
theorem tk_nam (o a l : Int) (s : ByteArray) : tkX (.mk 13 o a l s []) = [tI s.data.toList] := by simp [tkX, asmT]
theorem tk_rd (o a l : Int) (s : ByteArray) : tkX (.mk 12 o a l s []) = [tW [114, 101, 97, 100]] := by simp [tkX, asmT]
theorem tk_fn (o a l : Int) (s : ByteArray) : tkX (.mk 11 o a l s []) = [tS [38], tI s.data.toList] := by simp [tkX, asmT]
theorem tk_el (o a l : Int) (s : ByteArray) (x : Ex) : tkX (.mk 4 o a l s [x]) = tI s.data.toList :: tS [91] :: (tkX x ++ [tS [93]]) := by simp [tkX, tkL, asmT]
theorem tk_un (o a l : Int) (s : ByteArray) (x : Ex) : tkX (.mk 5 o a l s [x]) = tS (signL o) :: tkO x := by simp [tkX, tkL, asmT]
theorem tk_bin (o a l : Int) (s : ByteArray) (x y : Ex) : tkX (.mk 6 o a l s [x, y]) = tkO x ++ tS (signL o) :: tkO y := by simp [tkX, tkL, asmT]
theorem tk_and (o a l : Int) (s : ByteArray) (x y : Ex) : tkX (.mk 7 o a l s [x, y]) = tkO x ++ tS [38, 38] :: tkO y := by simp [tkX, tkL, asmT]
theorem tk_or (o a l : Int) (s : ByteArray) (x y : Ex) : tkX (.mk 8 o a l s [x, y]) = tkO x ++ tS [124, 124] :: tkO y := by simp [tkX, tkL, asmT]
theorem tk_call (o a l : Int) (s : ByteArray) (xs : List Ex) : tkX (.mk 9 o a l s xs) = tI s.data.toList :: argT (tkL xs) := by simp [tkX, asmT]
theorem tk_val (o a l : Int) (s : ByteArray) (x : Ex) (xs : List Ex) : tkX (.mk 10 o a l s (x :: xs)) = vaT (x.kind, tkX x) ++ argT (tkL xs) := by simp [tkX, tkL, asmT]
def st (r : List Tok) : PS := ⟨r, 0, 0⟩
def hx (r : List Tok) : Bytes := (hdT (st r)).text
theorem hx_cons (t : Tok) (r : List Tok) : hx (t :: r) = t.text := rfl
theorem pop_st (t : Tok) (r : List Tok) : popP (st (t :: r)) = st r := rfl
theorem sees_st (l : List Bytes) (r : List Tok) : seesP l (st r) = l.contains (hx r) := rfl
/-- What ends an expression. -/
def Clo (t : Bytes) : Prop := t ∈ ([[], [41], [93], [44]] : List Bytes)
theorem level_pass {P : P1} {l : List Bytes} {a b : List Tok} {x : Ex} (h : P (st a) = some (x, st b)) (hl : l.contains (hx b) = false) : levelP P l (st a) = some (x, st b) := by
  unfold levelP
  rw [h]
  show loopP P l (a.length + 1) x (st b) = _
  rw [loopP, sees_st, hl]
  rfl
theorem level_op {P : P1} {l : List Bytes} {a b c : List Tok} {t : Tok} {x y : Ex} (h1 : P (st a) = some (x, st (t :: b))) (ht : l.contains t.text = true) (h2 : P (st b) = some (y, st c)) (hc : l.contains (hx c) = false) (ha : 1 ≤ a.length) : levelP P l (st a) = some (binP t x y, st c) := by
  unfold levelP
  rw [h1]
  show loopP P l (a.length + 1) x (st (t :: b)) = _
  obtain ⟨n, hn⟩ : ∃ n, a.length = n + 1 := ⟨a.length - 1, by omega⟩
  rw [hn, loopP, sees_st, hx_cons, ht, pop_st, h2]
  show loopP P l (n + 1) (binP t x y) (st c) = _
  rw [loopP, sees_st, hc]
  rfl
theorem once_pass {P : P1} {l : List Bytes} {a b : List Tok} {x : Ex} (h : P (st a) = some (x, st b)) (hl : l.contains (hx b) = false) : onceP P l (st a) = some (x, st b) := by
  unfold onceP
  rw [h]
  simp only [sees_st, hl]
  rfl
theorem once_op {P : P1} {l : List Bytes} {a b c : List Tok} {t : Tok} {x y : Ex} (h1 : P (st a) = some (x, st (t :: b))) (ht : l.contains t.text = true) (h2 : P (st b) = some (y, st c)) : onceP P l (st a) = some (binP t x y, st c) := by
  unfold onceP
  rw [h1]
  simp only [sees_st, hx_cons, ht, pop_st, h2]
  rfl
theorem expr_succ (d : Nat) (s : PS) : exprP (d + 1) s = levelP (levelP (onceP (levelP (levelP (unaryQ (exprP d)) [[42], [47], [37]]) [[43], [45]]) [[60], [60, 61], [61, 61], [33, 61]]) [[38, 38]]) [[124, 124]] s := rfl
theorem clo_not {t : Bytes} (h : Clo t) : (([[42], [47], [37]] : List Bytes).contains t = false ∧ ([[43], [45]] : List Bytes).contains t = false ∧ ([[60], [60, 61], [61, 61], [33, 61]] : List Bytes).contains t = false ∧ ([[38, 38]] : List Bytes).contains t = false ∧ ([[124, 124]] : List Bytes).contains t = false) ∧ t ≠ [40] ∧ t ≠ [91] := by
  simp only [Clo, List.mem_cons, List.not_mem_nil, or_false] at h
  rcases h with rfl | rfl | rfl | rfl <;> decide
theorem pass_all {d : Nat} {a b : List Tok} {x : Ex} (h : unaryQ (exprP d) (st a) = some (x, st b)) (hc : Clo (hx b)) : exprP (d + 1) (st a) = some (x, st b) := by
  obtain ⟨⟨c1, c2, c3, c4, c5⟩, _⟩ := clo_not hc
  rw [expr_succ]
  exact level_pass (level_pass (once_pass (level_pass (level_pass h c1) c2) c3) c4) c5
/-- An operator between two operands. -/
theorem bin_all {d : Nat} {a b c : List Tok} {t : Tok} {x y : Ex} (h1 : unaryQ (exprP d) (st a) = some (x, st (t :: b))) (h2 : unaryQ (exprP d) (st b) = some (y, st c)) (ht : t.text ∈ ([[42], [47], [37], [43], [45], [60], [60, 61], [61, 61], [33, 61], [38, 38], [124, 124]] : List Bytes)) (hc : Clo (hx c)) (ha : 1 ≤ a.length) : exprP (d + 1) (st a) = some (binP t x y, st c) := by
  obtain ⟨⟨c1, c2, c3, c4, c5⟩, _⟩ := clo_not hc
  rw [expr_succ]
  have g : hx (t :: b) = t.text := rfl
  have term : ([[42], [47], [37]] : List Bytes).contains t.text = true → levelP (levelP (onceP (levelP (levelP (unaryQ (exprP d)) [[42], [47], [37]]) [[43], [45]]) [[60], [60, 61], [61, 61], [33, 61]]) [[38, 38]]) [[124, 124]] (st a) = some (binP t x y, st c) := fun e => level_pass (level_pass (once_pass (level_pass (level_op h1 e h2 c1 ha) c2) c3) c4) c5
  have sum : ([[42], [47], [37]] : List Bytes).contains t.text = false → ([[43], [45]] : List Bytes).contains t.text = true → levelP (levelP (onceP (levelP (levelP (unaryQ (exprP d)) [[42], [47], [37]]) [[43], [45]]) [[60], [60, 61], [61, 61], [33, 61]]) [[38, 38]]) [[124, 124]] (st a) = some (binP t x y, st c) := fun e1 e => level_pass (level_pass (once_pass (level_op (level_pass h1 e1) e (level_pass h2 c1) c2 ha) c3) c4) c5
  have comp : ([[42], [47], [37]] : List Bytes).contains t.text = false → ([[43], [45]] : List Bytes).contains t.text = false → ([[60], [60, 61], [61, 61], [33, 61]] : List Bytes).contains t.text = true → levelP (levelP (onceP (levelP (levelP (unaryQ (exprP d)) [[42], [47], [37]]) [[43], [45]]) [[60], [60, 61], [61, 61], [33, 61]]) [[38, 38]]) [[124, 124]] (st a) = some (binP t x y, st c) := fun e1 e2 e => level_pass (level_pass (once_op (level_pass (level_pass h1 e1) e2) e (level_pass (level_pass h2 c1) c2)) c4) c5
  have and_ : ([[42], [47], [37]] : List Bytes).contains t.text = false → ([[43], [45]] : List Bytes).contains t.text = false → ([[60], [60, 61], [61, 61], [33, 61]] : List Bytes).contains t.text = false → ([[38, 38]] : List Bytes).contains t.text = true → levelP (levelP (onceP (levelP (levelP (unaryQ (exprP d)) [[42], [47], [37]]) [[43], [45]]) [[60], [60, 61], [61, 61], [33, 61]]) [[38, 38]]) [[124, 124]] (st a) = some (binP t x y, st c) := fun e1 e2 e3 e => level_pass (level_op (once_pass (level_pass (level_pass h1 e1) e2) e3) e (once_pass (level_pass (level_pass h2 c1) c2) c3) c4 ha) c5
  have or_ : ([[42], [47], [37]] : List Bytes).contains t.text = false → ([[43], [45]] : List Bytes).contains t.text = false → ([[60], [60, 61], [61, 61], [33, 61]] : List Bytes).contains t.text = false → ([[38, 38]] : List Bytes).contains t.text = false → ([[124, 124]] : List Bytes).contains t.text = true → levelP (levelP (onceP (levelP (levelP (unaryQ (exprP d)) [[42], [47], [37]]) [[43], [45]]) [[60], [60, 61], [61, 61], [33, 61]]) [[38, 38]]) [[124, 124]] (st a) = some (binP t x y, st c) := fun e1 e2 e3 e4 e => level_op (level_pass (once_pass (level_pass (level_pass h1 e1) e2) e3) e4) e (level_pass (once_pass (level_pass (level_pass h2 c1) c2) c3) c4) c5 ha
  simp only [List.mem_cons, List.not_mem_nil, or_false] at ht
  rcases ht with h | h | h | h | h | h | h | h | h | h | h <;> rw [h] at term sum comp and_ or_
  · exact term (by decide)
  · exact term (by decide)
  · exact term (by decide)
  · exact sum (by decide) (by decide)
  · exact sum (by decide) (by decide)
  · exact comp (by decide) (by decide) (by decide)
  · exact comp (by decide) (by decide) (by decide)
  · exact comp (by decide) (by decide) (by decide)
  · exact comp (by decide) (by decide) (by decide)
  · exact and_ (by decide) (by decide) (by decide) (by decide)
  · exact or_ (by decide) (by decide) (by decide) (by decide) (by decide)
/-- What begins with a letter or a digit is no sign. -/
theorem word_not {t : Bytes} (h : ∃ c r, t = c :: r ∧ (letter c || digit c) = true) : t ≠ [45] ∧ t ≠ [33] ∧ t ≠ [41] ∧ t ≠ [38] ∧ t ≠ [40] ∧ t ≠ [91] := by
  obtain ⟨c, r, rfl, h⟩ := h
  refine ⟨?_, ?_, ?_, ?_, ?_, ?_⟩ <;> (intro e; injection e with e _; subst e; revert h; decide)
theorem nm_head {t : Bytes} (h : isNm t = true) : (∃ c r, t = c :: r ∧ (letter c || digit c) = true) ∧ t ≠ [114, 101, 97, 100] := by
  cases t with
  | nil => cases h
  | cons c r =>
    simp only [isNm, Bool.and_eq_true, Bool.not_eq_true', decide_eq_true_eq] at h
    refine ⟨⟨c, r, rfl, by simp [h.1.1.1]⟩, fun e => ?_⟩
    have := h.1.2
    rw [e] at this
    revert this
    decide
theorem nl_digits (n : Nat) : ∀ c ∈ numL n, digit c = true := by
  induction n using Nat.strongRecOn with
  | ind n ih =>
    intro c hc
    have hd : (UInt8.ofNat (48 + n % 10)).toNat = 48 + n % 10 := by simp; omega
    rw [numL] at hc
    split at hc
    · rename_i h10
      rw [Nat.mod_eq_of_lt h10] at hd
      simp only [List.mem_singleton] at hc
      subst hc
      simp only [digit, hd, Bool.and_eq_true, decide_eq_true_eq]
      omega
    · rcases List.mem_append.1 hc with hc | hc
      · exact ih (n / 10) (by omega) c hc
      · simp only [List.mem_singleton] at hc
        subst hc
        simp only [digit, hd, Bool.and_eq_true, decide_eq_true_eq]
        omega
theorem nl_head (n : Nat) : ∃ c r, numL n = c :: r ∧ (1 ≤ n → c.toNat ≠ 48) ∧ (n = 0 → r = []) := by
  induction n using Nat.strongRecOn with
  | ind n ih =>
    have hd : (UInt8.ofNat (48 + n % 10)).toNat = 48 + n % 10 := by simp; omega
    rw [numL]
    split
    · rename_i h10
      rw [Nat.mod_eq_of_lt h10] at hd
      exact ⟨_, [], rfl, fun h => by rw [hd]; omega, fun _ => rfl⟩
    · obtain ⟨c, r, e, h1, _⟩ := ih (n / 10) (by omega)
      exact ⟨c, r ++ [UInt8.ofNat (48 + n % 10)], by rw [e]; rfl, fun _ => h1 (by omega), fun h => by omega⟩
theorem nl_word (n : Nat) : ∃ c r, numL n = c :: r ∧ (letter c || digit c) = true := by
  obtain ⟨c, r, e, _⟩ := nl_head n
  exact ⟨c, r, e, by rw [nl_digits n c (by rw [e]; simp)]; simp⟩
theorem nmB_back (s : ByteArray) : nmB s.data.toList = s := by cases s; simp [nmB]
theorem pr_num (E : P1) (n : Nat) (r : List Tok) : primaryP E (st (tN n :: r)) = some (.mk 1 0 (n : Int) 1 ⟨#[]⟩ [], st r) := rfl
theorem pr_rd (E : P1) (r : List Tok) : primaryP E (st (tW [114, 101, 97, 100] :: r)) = some (.mk 12 0 0 1 ⟨#[]⟩ [], st r) := rfl
theorem pr_fn (E : P1) (s : Bytes) (r : List Tok) : primaryP E (st (tS [38] :: tI s :: r)) = some (.mk 11 0 0 1 (nmB s) [], st r) := rfl
theorem expect_st (s : Bytes) (r : List Tok) : expectP 1 (st (tI s :: r)) = (tI s, st r) := rfl
theorem demand_st (t : Bytes) (r : List Tok) : demandP t (st (tS t :: r)) = st r := by
  have : seesP [t] (st (tS t :: r)) = true := by simp [sees_st, hx_cons, tS]
  simp [demandP, this, pop_st]
theorem pr_name {E : P1} {s : Bytes} (hs : isNm s = true) (r : List Tok) : primaryP E (st (tI s :: r)) = if seesP [[91]] (st r) then (match E (popP (st r)) with | none => none | some (x, s1) => some (.mk 4 0 0 1 (nmB s) [x], demandP [93] s1)) else some (.mk 13 0 0 1 (nmB s) [], st r) := by
  obtain ⟨hw, hr⟩ := nm_head hs
  obtain ⟨_, _, _, h38, h40, _⟩ := word_not hw
  have e0 : (hdT (st (tI s :: r))).kind = 1 := rfl
  have e1 : seesP [[38]] (st (tI s :: r)) = false := by simp [sees_st, hx_cons, tI, h38]
  have e2 : seesP [[114, 101, 97, 100]] (st (tI s :: r)) = false := by simp [sees_st, hx_cons, tI, hr]
  have e3 : seesP [[40]] (st (tI s :: r)) = false := by simp [sees_st, hx_cons, tI, h40]
  unfold primaryP
  rw [e0, e1, e2, e3, expect_st]
  rfl
theorem pr_par {E : P1} {a r : List Tok} {x : Ex} (h : E (st a) = some (x, st (tS [41] :: r))) : primaryP E (st (tS [40] :: a)) = some (x, st r) := by
  have e0 : (hdT (st (tS [40] :: a))).kind = 4 := rfl
  have e1 : seesP [[38]] (st (tS [40] :: a)) = false := rfl
  have e2 : seesP [[114, 101, 97, 100]] (st (tS [40] :: a)) = false := rfl
  have e3 : seesP [[40]] (st (tS [40] :: a)) = true := rfl
  unfold primaryP
  rw [e0, e1, e2, e3, pop_st, h]
  simp [demand_st]
/-- Calls come to x with r left. -/
def CallRun (E : P1) (a : List Tok) (x : Ex) (r : List Tok) : Prop := ∃ p b, primaryP E (st a) = some (p, st b) ∧ b.length ≤ a.length ∧ ∀ n, b.length < n → ∃ m, r.length < m ∧ callsP E ((hdT (st a)).kind == 1) n p (st b) = callsP E ((hdT (st a)).kind == 1) m x (st r)
theorem CallRun.of {E : P1} {a r : List Tok} {x : Ex} (h : primaryP E (st a) = some (x, st r)) (hl : r.length ≤ a.length) : CallRun E a x r := ⟨x, r, h, hl, fun n hn => ⟨n, hn, rfl⟩⟩
theorem CallRun.called {E : P1} {a r : List Tok} {x : Ex} (h : CallRun E a x r) (hr : hx r ≠ [40]) : calledP E (st a) = some (x, st r) := by
  obtain ⟨p, b, h1, h2, h3⟩ := h
  obtain ⟨m, hm, e⟩ := h3 (a.length + 1) (by omega)
  unfold calledP
  rw [h1]
  show callsP E ((hdT (st a)).kind == 1) (a.length + 1) p (st b) = _
  obtain ⟨q, rfl⟩ : ∃ q, m = q + 1 := ⟨m - 1, by omega⟩
  have es : seesP [[40]] (st r) = false := by simp [sees_st, hr]
  rw [e, callsP.eq_def]
  simp only [es, Bool.false_eq_true, if_false]
theorem CallRun.unary {E : P1} {a r : List Tok} {x : Ex} (h : CallRun E a x r) (hr : hx r ≠ [40]) (ha : hx a ≠ [45] ∧ hx a ≠ [33]) : unaryQ E (st a) = some (x, st r) := by
  have e1 : seesP [[45]] (st a) = false := by simp [sees_st, ha.1]
  have e2 : seesP [[33]] (st a) = false := by simp [sees_st, ha.2]
  show unaryP E (a.length + 1) (st a) = _
  rw [unaryP, e1, e2]
  exact h.called hr
/-- A call of a value. -/
theorem CallRun.val {E : P1} {a b r : List Tok} {f : Ex} {ys : List Ex} (h : CallRun E a f (tS [40] :: b)) (hb : ((hdT (st a)).kind == 1 && f.kind == 13) = false) (hl : listP E [f] (st b) = some (f :: ys, st r)) (hr : r.length ≤ b.length) : CallRun E a (.mk 10 0 0 1 ⟨#[]⟩ (f :: ys)) r := by
  obtain ⟨p, q, h1, h2, h3⟩ := h
  refine ⟨p, q, h1, h2, fun n hn => ?_⟩
  obtain ⟨m, hm, e⟩ := h3 n hn
  simp only [List.length_cons] at hm
  obtain ⟨m, rfl⟩ : ∃ k, m = k + 1 := ⟨m - 1, by omega⟩
  refine ⟨m, by omega, ?_⟩
  obtain ⟨k, o, a', l, nm, az, rfl⟩ : ∃ k o a l nm az, f = .mk k o a l nm az := by
    cases f
    exact ⟨_, _, _, _, _, _, rfl⟩
  have es : seesP [[40]] (st (tS [40] :: b)) = true := rfl
  have hb' : ((hdT (st a)).kind == 1 && k == 13) = false := hb
  have hc : callP E (.mk k o a' l nm az) false (st (tS [40] :: b)) = some (.mk 10 0 0 1 ⟨#[]⟩ (.mk k o a' l nm az :: ys), st r) := by
    simp only [callP, pop_st, Bool.false_eq_true, if_false]
    rw [hl]
    rfl
  have e2 : callsP E ((hdT (st a)).kind == 1) (m + 1) (.mk k o a' l nm az) (st (tS [40] :: b)) = callsP E ((hdT (st a)).kind == 1) m (.mk 10 0 0 1 ⟨#[]⟩ (.mk k o a' l nm az :: ys)) (st r) := by
    rw [callsP.eq_def]
    simp only [es, if_true, hb', hc]
  exact e.trans e2
/-- A call of a name. -/
theorem callrun_name {E : P1} {s : Bytes} (hs : isNm s = true) {b r : List Tok} {ys : List Ex} (hl : listP E [] (st b) = some (ys, st r)) (hr : r.length ≤ b.length) : CallRun E (tI s :: tS [40] :: b) (.mk 9 0 0 1 (nmB s) ys) r := by
  refine ⟨.mk 13 0 0 1 (nmB s) [], tS [40] :: b, ?_, by simp, fun n hn => ?_⟩
  · rw [pr_name hs]
    rfl
  simp only [List.length_cons] at hn
  obtain ⟨n, rfl⟩ : ∃ k, n = k + 1 := ⟨n - 1, by omega⟩
  refine ⟨n, by omega, ?_⟩
  have es : seesP [[40]] (st (tS [40] :: b)) = true := rfl
  have hk : (hdT (st (tI s :: tS [40] :: b))).kind = 1 := rfl
  have hc : callP E (.mk 13 0 0 1 (nmB s) []) true (st (tS [40] :: b)) = some (.mk 9 0 0 1 (nmB s) ys, st r) := by
    simp only [callP, pop_st, if_true]
    rw [hl]
    rfl
  rw [callsP, es, hk]
  simp only [if_true, beq_self_eq_true, Bool.and_self, hc]
theorem hx_more (l : List Ex) (r : List Tok) : Clo (hx (moreT (tkL l) ++ tS [41] :: r)) := by
  cases l with
  | nil => simp [tkL, moreT, hx_cons, tS, Clo]
  | cons x l => simp [tkL, moreT, hx_cons, tS, Clo]
/-- What the parser reads of an operand's tokens. -/
def Rds (E : P1) (x : Ex) : Prop := ∀ q, Clo (hx q) → E (st (tkX x ++ q)) = some (rlX x, st q)
theorem more_back {E : P1} (r : List Tok) : ∀ (l xs : List Ex) (n : Nat), (∀ x ∈ l, Rds E x) → (moreT (tkL l) ++ tS [41] :: r).length < n → moreP E n xs (st (moreT (tkL l) ++ tS [41] :: r)) = some (xs ++ rlL l, st (tS [41] :: r)) := by
  intro l
  induction l with
  | nil =>
    intro xs n _ hn
    obtain ⟨n, rfl⟩ : ∃ k, n = k + 1 := ⟨n - 1, by omega⟩
    have es : seesP [[44]] (st (moreT (tkL []) ++ tS [41] :: r)) = false := rfl
    rw [moreP, es]
    simp [tkL, moreT, rlL]
  | cons x l ih =>
    intro xs n hx' hn
    obtain ⟨n, rfl⟩ : ∃ k, n = k + 1 := ⟨n - 1, by omega⟩
    have e0 : moreT (tkL (x :: l)) ++ tS [41] :: r = tS [44] :: (tkX x ++ (moreT (tkL l) ++ tS [41] :: r)) := by simp [tkL, moreT]
    rw [e0] at hn ⊢
    simp only [List.length_cons, List.length_append] at hn
    have es : seesP [[44]] (st (tS [44] :: (tkX x ++ (moreT (tkL l) ++ tS [41] :: r)))) = true := rfl
    rw [moreP, es, pop_st, hx' x (by simp) _ (hx_more l r)]
    simp only [if_true]
    rw [ih (xs ++ [rlX x]) n (fun y hy => hx' y (by simp [hy])) (by simp only [List.length_append, List.length_cons]; omega)]
    simp [rlL]
theorem list_back {E : P1} (r : List Tok) (l pre : List Ex) (hl : ∀ x ∈ l, Rds E x) (h41 : ∀ x ∈ l, ∀ q, hx (tkX x ++ q) ≠ [41]) : listP E pre (st (comT (tkL l) ++ tS [41] :: r)) = some (pre ++ rlL l, st r) := by
  cases l with
  | nil =>
    have es : seesP [[41]] (st (comT (tkL []) ++ tS [41] :: r)) = true := rfl
    unfold listP
    rw [es]
    simp [rlL, tkL, comT, pop_st]
  | cons x l =>
    have e0 : comT (tkL (x :: l)) ++ tS [41] :: r = tkX x ++ (moreT (tkL l) ++ tS [41] :: r) := by simp [tkL, comT]
    rw [e0]
    have es : seesP [[41]] (st (tkX x ++ (moreT (tkL l) ++ tS [41] :: r))) = false := by
      rw [sees_st]
      simpa using h41 x (by simp) _
    unfold listP
    rw [es, hl x (by simp) _ (hx_more l r)]
    simp only [Bool.false_eq_true, if_false]
    rw [more_back r l (pre ++ [rlX x]) _ (fun y hy => hl y (by simp [hy])) (by show _ < (tkX x ++ _).length + 1; simp only [List.length_append, List.length_cons]; omega)]
    simp [demand_st, rlL]
theorem signL_ne (o : Int) (h : 1 ≤ o) (h2 : o ≤ 11) : signL o ≠ [41] ∧ (3 ≤ o → signL o ∈ ([[42], [47], [37], [43], [45], [60], [60, 61], [61, 61], [33, 61], [38, 38], [124, 124]] : List Bytes)) := by
  have hc : o = 1 ∨ o = 2 ∨ o = 3 ∨ o = 4 ∨ o = 5 ∨ o = 6 ∨ o = 7 ∨ o = 8 ∨ o = 9 ∨ o = 10 ∨ o = 11 := by omega
  rcases hc with rfl | rfl | rfl | rfl | rfl | rfl | rfl | rfl | rfl | rfl | rfl <;> decide
/-- With what a tree's tokens begin. -/
def HdG (c : Bool) (l : List Tok) : Prop := ∃ t r, l = t :: r ∧ t.text ≠ [41] ∧ (c = false → t.text ≠ [45] ∧ t.text ≠ [33])
theorem HdG.append {c : Bool} {l r : List Tok} (h : HdG c l) : HdG c (l ++ r) := by
  obtain ⟨t, q, rfl, h⟩ := h
  exact ⟨t, q ++ r, rfl, h⟩
theorem hd_par (c : Bool) (l : List Tok) : HdG c (parT l) := ⟨tS [40], _, rfl, by decide, fun _ => by decide⟩
theorem hd_op {x : Ex} (h : HdG (compK x.kind) (tkX x)) : HdG false (tkO x) := by
  unfold tkO opT
  split
  · exact hd_par _ _
  · rename_i hc
    have hc : compK x.kind = false := by simpa using hc
    rw [hc] at h
    exact h
theorem HdG.weak {c : Bool} {l : List Tok} (h : HdG false l) : HdG c l := by
  obtain ⟨t, q, rfl, h1, h2⟩ := h
  exact ⟨t, q, rfl, h1, fun _ => h2 rfl⟩
theorem hd_word (c : Bool) {t : Tok} (r : List Tok) (h : ∃ a q, t.text = a :: q ∧ (letter a || digit a) = true) : HdG c (t :: r) := by
  obtain ⟨h1, h2, h3, _⟩ := word_not h
  exact ⟨t, r, rfl, h3, fun _ => ⟨h1, h2⟩⟩
theorem hd_all {x : Ex} (h : WfX x) : HdG (compK x.kind) (tkX x) := by
  induction h with
  | num a l h1 h2 => rw [tk_num]; exact hd_word _ _ (nl_word _)
  | nam l s h => rw [tk_nam]; exact hd_word _ _ (nm_head h).1
  | fn l s h => rw [tk_fn]; exact ⟨_, _, rfl, by decide, fun _ => by decide⟩
  | rd l => rw [tk_rd]; exact ⟨_, _, rfl, by decide, fun _ => by decide⟩
  | el l s x h hx ih => rw [tk_el]; exact hd_word _ _ (nm_head h).1
  | un o l x h1 h2 hx ih => rw [tk_un]; exact ⟨_, _, rfl, (signL_ne o h1 (by omega)).1, fun h => by cases h⟩
  | bin o l x y h1 h2 hx hy ih1 ih2 => rw [tk_bin]; exact (hd_op ih1).weak.append
  | and_ l x y hx hy ih1 ih2 => rw [tk_and]; exact (hd_op ih1).weak.append
  | or_ l x y hx hy ih1 ih2 => rw [tk_or]; exact (hd_op ih1).weak.append
  | call l s xs h hx ih => rw [tk_call]; exact hd_word _ _ (nm_head h).1
  | val l x xs hx hxs ih1 ih2 =>
    rw [tk_val]
    refine HdG.append ?_
    unfold vaT
    split
    · exact hd_par _ _
    · exact (hd_op ih1).weak
theorem HdG.hx {c : Bool} {l r : List Tok} (h : HdG c l) : hx (l ++ r) ≠ [41] ∧ (c = false → hx (l ++ r) ≠ [45] ∧ hx (l ++ r) ≠ [33]) ∧ 1 ≤ l.length := by
  obtain ⟨t, q, rfl, h1, h2⟩ := h
  exact ⟨h1, h2, by simp⟩
/-- What the parser reads of a tree's tokens. -/
def Back (x : Ex) : Prop := (∀ d r, (tkX x).length ≤ d + 1 → Clo (hx r) → exprP (d + 1) (st (tkX x ++ r)) = some (rlX x, st r)) ∧ (compK x.kind = false → ∀ d r, (tkX x).length ≤ d + 1 → (x.kind = 13 → hx r ≠ [91]) → CallRun (exprP d) (tkX x ++ r) (rlX x) r)
/-- A node that wants no parentheses as an operand. -/
theorem back_nc {x : Ex} (hx' : WfX x) (hc : compK x.kind = false) (h : ∀ d r, (tkX x).length ≤ d + 1 → (x.kind = 13 → hx r ≠ [91]) → CallRun (exprP d) (tkX x ++ r) (rlX x) r) : Back x := by
  refine ⟨fun d r hd hr => ?_, fun _ => h⟩
  obtain ⟨_, h40, h91⟩ := clo_not hr
  have hh := (hd_all hx').hx (r := r)
  rw [hc] at hh
  exact pass_all ((h d r hd (fun _ => h91)).unary h40 (hh.2.1 rfl)) hr
theorem back_par {x : Ex} (h : Back x) {d : Nat} {r : List Tok} (hd : (tkX x).length ≤ d) (hp : 1 ≤ (tkX x).length) : CallRun (exprP d) (parT (tkX x) ++ r) (rlX x) r := by
  obtain ⟨d, rfl⟩ : ∃ k, d = k + 1 := ⟨d - 1, by omega⟩
  have e : parT (tkX x) ++ r = tS [40] :: (tkX x ++ tS [41] :: r) := by simp [parT]
  rw [e]
  refine CallRun.of (pr_par (h.1 d (tS [41] :: r) hd (by simp [hx_cons, tS, Clo]))) (by simp; omega)
theorem back_op {x : Ex} (hw : WfX x) (h : Back x) {d : Nat} {r : List Tok} (hd : (tkX x).length ≤ d) (h40 : hx r ≠ [40]) (h91 : hx r ≠ [91]) : unaryQ (exprP d) (st (tkO x ++ r)) = some (rlX x, st r) := by
  have hh := ((hd_op (hd_all hw)).hx (r := r)).2.1 rfl
  have hp := ((hd_all hw).hx (r := r)).2.2
  unfold tkO opT at hh ⊢
  simp only at hh ⊢
  split at hh
  · rename_i hc
    rw [if_pos hc]
    exact (back_par h hd hp).unary h40 hh
  · rename_i hc
    rw [if_neg hc]
    exact (h.2 (by simpa using hc) d r (by omega) (fun _ => h91)).unary h40 hh
theorem tkO_len (x : Ex) : (tkX x).length ≤ (tkO x).length := by
  unfold tkO opT
  split
  · simp [parT]; omega
  · exact Nat.le_refl _
theorem not_ops {t : Bytes} (ht : t ∈ ([[42], [47], [37], [43], [45], [60], [60, 61], [61, 61], [33, 61], [38, 38], [124, 124]] : List Bytes)) : t ≠ [40] ∧ t ≠ [91] := by
  simp only [List.mem_cons, List.not_mem_nil, or_false] at ht
  rcases ht with h | h | h | h | h | h | h | h | h | h | h <;> (rw [h]; decide)
theorem back_two {x y : Ex} (hx' : WfX x) (hy : WfX y) (h1 : Back x) (h2 : Back y) {t : Bytes} (ht : t ∈ ([[42], [47], [37], [43], [45], [60], [60, 61], [61, 61], [33, 61], [38, 38], [124, 124]] : List Bytes)) {d : Nat} {r : List Tok} (hd : (tkO x ++ tS t :: tkO y).length ≤ d + 1) (hr : Clo (hx r)) :
    exprP (d + 1) (st ((tkO x ++ tS t :: tkO y) ++ r)) = some (binP (tS t) (rlX x) (rlX y), st r) := by
  have l1 := tkO_len x
  have l2 := tkO_len y
  simp only [List.length_append, List.length_cons] at hd
  obtain ⟨n40, n91⟩ := not_ops ht
  obtain ⟨_, h40, h91⟩ := clo_not hr
  have hp := ((hd_op (hd_all hx')).hx (r := r)).2.2
  rw [List.append_assoc, List.cons_append]
  exact bin_all (back_op hx' h1 (by omega) n40 n91) (back_op hy h2 (by omega) h40 h91) ht hr (by simp; omega)
theorem tkL_len {l : List Ex} {x : Ex} (h : x ∈ l) : (tkX x).length ≤ (comT (tkL l)).length ∧ (tkX x).length ≤ (moreT (tkL l)).length := by
  induction l with
  | nil => simp at h
  | cons y l ih =>
    simp only [tkL, comT, moreT, List.flatMap_cons, List.length_append, List.length_cons] at ih ⊢
    rcases List.mem_cons.1 h with rfl | h
    · exact ⟨by omega, by omega⟩
    · have := ih h
      exact ⟨by omega, by omega⟩
theorem back_args {xs : List Ex} (hw : ∀ x ∈ xs, WfX x) (h : ∀ x ∈ xs, Back x) (pre : List Ex) {d : Nat} (r : List Tok) (hd : (comT (tkL xs)).length ≤ d) : listP (exprP d) pre (st (comT (tkL xs) ++ tS [41] :: r)) = some (pre ++ rlL xs, st r) := by
  refine list_back r xs pre (fun x hx' q hq => ?_) (fun x hx' q => ((hd_all (hw x hx')).hx (r := q)).1)
  have hl := (tkL_len hx').1
  have hp := ((hd_all (hw x hx')).hx (r := q)).2.2
  obtain ⟨d, rfl⟩ : ∃ k, d = k + 1 := ⟨d - 1, by omega⟩
  exact (h x hx').1 d q (by omega) hq
theorem back_all {x : Ex} (h : WfX x) : Back x := by
  induction h with
  | num a l h1 h2 =>
    refine back_nc (.num a l h1 h2) rfl (fun d r hd hr => ?_)
    rw [tk_num]
    have e : (a.toNat : Int) = a := by omega
    refine CallRun.of ?_ (by simp)
    show primaryP (exprP d) (st (tN a.toNat :: r)) = _
    rw [pr_num, e]
    rfl
  | nam l s h =>
    refine back_nc (.nam l s h) rfl (fun d r hd hr => ?_)
    rw [tk_nam]
    refine CallRun.of ?_ (by simp)
    show primaryP (exprP d) (st (tI s.data.toList :: r)) = _
    have es : seesP [[91]] (st r) = false := by simp [sees_st, hr rfl]
    rw [pr_name h, es, nmB_back]
    rfl
  | fn l s h =>
    refine back_nc (.fn l s h) rfl (fun d r hd hr => ?_)
    rw [tk_fn]
    refine CallRun.of ?_ (by simp; omega)
    show primaryP (exprP d) (st (tS [38] :: tI s.data.toList :: r)) = _
    rw [pr_fn, nmB_back]
    rfl
  | rd l =>
    refine back_nc (.rd l) rfl (fun d r hd hr => ?_)
    rw [tk_rd]
    exact CallRun.of (pr_rd _ _) (by simp)
  | el l s x h hx' ih =>
    refine back_nc (.el l s x h hx') rfl (fun d r hd hr => ?_)
    rw [tk_el] at hd ⊢
    simp only [List.length_cons, List.length_append, List.length_nil] at hd
    refine CallRun.of ?_ (by simp; omega)
    have e : tI s.data.toList :: tS [91] :: (tkX x ++ [tS [93]]) ++ r = tI s.data.toList :: tS [91] :: (tkX x ++ tS [93] :: r) := by simp
    have hp := ((hd_all hx').hx (r := r)).2.2
    obtain ⟨d, rfl⟩ : ∃ k, d = k + 1 := ⟨d - 1, by omega⟩
    have es : seesP [[91]] (st (tS [91] :: (tkX x ++ tS [93] :: r))) = true := rfl
    rw [e, pr_name h, es, pop_st, ih.1 d (tS [93] :: r) (by omega) (by simp [hx_cons, tS, Clo]), nmB_back]
    simp only [if_true, demand_st]
    rfl
  | un o l x h1 h2 hx' ih =>
    refine ⟨fun d r hd hr => ?_, fun h => by cases h⟩
    rw [tk_un] at hd ⊢
    have l1 := tkO_len x
    simp only [List.length_cons] at hd
    obtain ⟨_, h40, h91⟩ := clo_not hr
    have hop := back_op hx' ih (d := d) (r := r) (by omega) h40 h91
    have hop2 : unaryP (exprP d) ((tkO x ++ r).length + 1) (st (tkO x ++ r)) = some (rlX x, st r) := hop
    refine pass_all ?_ hr
    show unaryP (exprP d) ((tS (signL o) :: (tkO x ++ r)).length + 1) (st (tS (signL o) :: (tkO x ++ r))) = _
    have hc : o = 1 ∨ o = 2 := by omega
    rcases hc with rfl | rfl
    · have es : seesP [[45]] (st (tS (signL 1) :: (tkO x ++ r))) = true := rfl
      rw [unaryP, es, pop_st, List.length_cons, hop2]
      rfl
    · have es : seesP [[45]] (st (tS (signL 2) :: (tkO x ++ r))) = false := rfl
      have es2 : seesP [[33]] (st (tS (signL 2) :: (tkO x ++ r))) = true := rfl
      rw [unaryP, es, es2, pop_st, List.length_cons, hop2]
      rfl
  | bin o l x y h1 h2 hx' hy ih1 ih2 =>
    refine ⟨fun d r hd hr => ?_, fun h => by cases h⟩
    rw [tk_bin] at hd ⊢
    rw [back_two hx' hy ih1 ih2 ((signL_ne o (by omega) h2).2 h1) hd hr]
    have hc : o = 3 ∨ o = 4 ∨ o = 5 ∨ o = 6 ∨ o = 7 ∨ o = 8 ∨ o = 9 ∨ o = 10 ∨ o = 11 := by omega
    rcases hc with rfl | rfl | rfl | rfl | rfl | rfl | rfl | rfl | rfl <;> rfl
  | and_ l x y hx' hy ih1 ih2 =>
    refine ⟨fun d r hd hr => ?_, fun h => by cases h⟩
    rw [tk_and] at hd ⊢
    rw [back_two hx' hy ih1 ih2 (by decide) hd hr]
    rfl
  | or_ l x y hx' hy ih1 ih2 =>
    refine ⟨fun d r hd hr => ?_, fun h => by cases h⟩
    rw [tk_or] at hd ⊢
    rw [back_two hx' hy ih1 ih2 (by decide) hd hr]
    rfl
  | call l s xs h hxs ih =>
    refine back_nc (.call l s xs h hxs) rfl (fun d r hd hr => ?_)
    rw [tk_call] at hd ⊢
    unfold argT at hd ⊢
    simp only [List.length_cons, List.length_append, List.length_nil] at hd
    have e : tI s.data.toList :: tS [40] :: (comT (tkL xs) ++ [tS [41]]) ++ r = tI s.data.toList :: tS [40] :: (comT (tkL xs) ++ tS [41] :: r) := by simp
    rw [e]
    have := callrun_name (E := exprP d) h (back_args hxs ih [] r (by omega)) (by simp; omega)
    rw [nmB_back] at this
    exact this
  | val l x xs hx' hxs ih1 ih2 =>
    refine back_nc (.val l x xs hx' hxs) rfl (fun d r hd hr => ?_)
    have hp := ((hd_all hx').hx (r := r)).2.2
    rw [tk_val] at hd ⊢
    unfold argT at hd ⊢
    simp only [List.length_cons, List.length_append, List.length_nil] at hd
    have e : vaT (x.kind, tkX x) ++ tS [40] :: (comT (tkL xs) ++ [tS [41]]) ++ r = vaT (x.kind, tkX x) ++ tS [40] :: (comT (tkL xs) ++ tS [41] :: r) := by simp
    rw [e]
    have hargs := back_args hxs ih2 [rlX x] (d := d) r (by omega)
    have hv : (vaT (x.kind, tkX x) = parT (tkX x)) ∨ (x.kind ≠ 13 ∧ compK x.kind = false ∧ vaT (x.kind, tkX x) = tkX x) := by
      unfold vaT opT
      by_cases hk : x.kind = 13
      · simp [hk]
      · cases hc : compK x.kind with
        | true => simp [hk]
        | false => simp [hk]
    rcases hv with hv | ⟨hk, hc, hv⟩
    · rw [hv] at hd ⊢
      have hl : (parT (tkX x)).length = (tkX x).length + 2 := by simp [parT]
      refine CallRun.val (back_par ih1 (by omega) hp) ?_ hargs (by simp; omega)
      have : (hdT (st (parT (tkX x) ++ tS [40] :: (comT (tkL xs) ++ tS [41] :: r)))).kind = 4 := rfl
      rw [this]
      rfl
    · rw [hv] at hd ⊢
      refine CallRun.val (ih1.2 hc d _ (by omega) (fun h => absurd h hk)) ?_ hargs (by simp; omega)
      rw [rlX_kind]
      simp [hk]
end Go.Proofs.YtmpnkbhlagalkaaGreatDoor
namespace Go.Proofs.YtmpnkbhlagalkaaGreatDoor
open Go.RowKit

/-- A byte that ends what stands ahead of it. -/
def stpB (c : UInt8) : Bool := !wordy c && decide (c.toNat ≠ 61) && decide (c.toNat ≠ 38) && decide (c.toNat ≠ 124)
def Stp (r : Bytes) : Prop := ∀ c r', r = c :: r' → stpB c = true
/-- A text that gives these tokens if a byte that ends them follows; one that gives them whatever follows. -/
def ScT (l : Bytes) (ts : List Tok) : Prop := ∀ r, Stp r → scan 1 (l ++ r) = ext ts (scan 1 r)
def SaT (l : Bytes) (ts : List Tok) : Prop := ∀ r, scan 1 (l ++ r) = ext ts (scan 1 r)
theorem ext_two (a b : List Tok) (x : Except Nat (List Tok)) : ext a (ext b x) = ext (a ++ b) x := by cases x <;> simp [ext]
theorem SaT.sc {l : Bytes} {ts : List Tok} (h : SaT l ts) : ScT l ts := fun r _ => h r
theorem SaT.append {a b : Bytes} {s t : List Tok} (ha : SaT a s) (hb : SaT b t) : SaT (a ++ b) (s ++ t) := fun r => by rw [List.append_assoc, ha, hb, ext_two]
theorem SaT.then {a b : Bytes} {s t : List Tok} (ha : SaT a s) (hb : ScT b t) : ScT (a ++ b) (s ++ t) := fun r hr => by rw [List.append_assoc, ha, hb r hr, ext_two]
def Sp0 (l : Bytes) : Bool := match l with | [] => false | c :: _ => stpB c
theorem stp_of {l r : Bytes} (h : Sp0 l = true) : Stp (l ++ r) := by
  cases l with
  | nil => cases h
  | cons a l => intro c r' e; injection e with e; subst e; exact h
theorem ScT.append {a b : Bytes} {s t : List Tok} (ha : ScT a s) (h0 : Sp0 b = true) (hb : SaT b t) : SaT (a ++ b) (s ++ t) := fun r => by rw [List.append_assoc, ha _ (stp_of h0), hb, ext_two]
theorem ScT.then {a b : Bytes} {s t : List Tok} (ha : ScT a s) (h0 : Sp0 b = true) (hb : ScT b t) : ScT (a ++ b) (s ++ t) := fun r hr => by rw [List.append_assoc, ha _ (stp_of h0), hb r hr, ext_two]
theorem sat_sp : SaT [32] [] := fun r => by rw [List.singleton_append, scan, if_neg (by decide), if_pos (by decide), ext_nil]
theorem scan_one {c : UInt8} {l r : Bytes} {k v line : Nat} (h10 : c.toNat ≠ 10) (h32 : ¬(c.toNat = 32 ∨ c.toNat = 9)) (h35 : c.toNat ≠ 35) (hp : plen (c :: l ++ r) = (c :: l).length) (hm : pmean (c :: l) = some (k, v)) : scan line (c :: l ++ r) = ext [⟨k, line, v, c :: l⟩] (scan line r) := by
  have hn : rnext (c :: l ++ r) = some (k, v, (c :: l).length) := by rw [next_eq, hp, List.take_left', hm]; rfl; rfl
  rw [List.cons_append] at hn ⊢
  rw [scan, if_neg h10, if_neg h32, if_neg h35, hn]
  simp only [List.length_cons, Nat.add_sub_cancel, List.drop_left, List.take_succ_cons, List.take_left]
  cases scan line r <;> rfl
theorem isS_pair {c x : UInt8} (h : isS [c, x] = true) : (c = 60 ∧ x = 61) ∨ (c = 61 ∧ x = 61) ∨ (c = 33 ∧ x = 61) ∨ (c = 38 ∧ x = 38) ∨ (c = 124 ∧ x = 124) := by
  simp only [isS, signsL, List.contains_iff_mem] at h
  simpa using h
theorem stp_not {c x : UInt8} (h : stpB x = true) : isS [c, x] = false := by
  cases e : isS [c, x] with
  | false => rfl
  | true =>
    simp only [stpB, Bool.and_eq_true, decide_eq_true_eq] at h
    rcases isS_pair e with ⟨_, e⟩ | ⟨_, e⟩ | ⟨_, e⟩ | ⟨_, e⟩ | ⟨_, e⟩ <;> subst e <;> simp at h
/-- What a sign of one byte wants of it. -/
def OneS (c : UInt8) : Prop := (letter c || digit c) = false ∧ c.toNat ≠ 10 ∧ ¬(c.toNat = 32 ∨ c.toNat = 9) ∧ c.toNat ≠ 35 ∧ isS [c] = true
theorem one_next {c : UInt8} (h : OneS c) (r : Bytes) (h2 : ∀ x r', r = x :: r' → isS [c, x] = false) : scan 1 (c :: r) = ext [tS [c]] (scan 1 r) := by
  obtain ⟨h1, h10, h32, h35, h3⟩ := h
  refine scan_one (l := []) (k := 4) (v := 0) h10 h32 h35 ?_ (by simp [pmean, h3])
  cases r with
  | nil => simp [plen, h1, h3]
  | cons x r' => simp [plen, h1, h3, h2 x r' rfl]
theorem sct_one {c : UInt8} (h : OneS c) : ScT [c] [tS [c]] := fun r hr => one_next h r (fun x r' e => stp_not (hr x r' e))
theorem sat_one {c : UInt8} (h : OneS c) (h2 : c ≠ 60 ∧ c ≠ 61 ∧ c ≠ 33 ∧ c ≠ 38 ∧ c ≠ 124) : SaT [c] [tS [c]] := fun r => one_next h r (fun x r' _ => by
  cases e : isS [c, x] with
  | false => rfl
  | true => rcases isS_pair e with ⟨e, _⟩ | ⟨e, _⟩ | ⟨e, _⟩ | ⟨e, _⟩ | ⟨e, _⟩ <;> subst e <;> simp at h2)
theorem sat_two {c d : UInt8} (h : (letter c || digit c) = false) (h10 : c.toNat ≠ 10) (h32 : ¬(c.toNat = 32 ∨ c.toNat = 9)) (h35 : c.toNat ≠ 35) (h1 : isS [c, d] = true) : SaT [c, d] [tS [c, d]] := fun r =>
  scan_one (k := 4) (v := 0) (l := [d]) h10 h32 h35 (by simp [plen, h, h1]) (by simp [pmean, h1])
theorem tw_stp {l r : Bytes} (hr : Stp r) (h : ∀ c ∈ l, wordy c = true) : (l ++ r).takeWhile wordy = l := by
  induction l with
  | nil =>
    cases r with
    | nil => rfl
    | cons c r' =>
      have := hr c r' rfl
      simp only [stpB, Bool.and_eq_true, Bool.not_eq_true'] at this
      simp [this.1.1.1]
  | cons a l ih => simp [h a (by simp), ih (fun c hc => h c (by simp [hc]))]
theorem sct_word {c : UInt8} {l : Bytes} {k v : Nat} (h : (letter c || digit c) = true) (hw : ∀ x ∈ c :: l, wordy x = true) (hm : pmean (c :: l) = some (k, v)) : ScT (c :: l) [⟨k, 1, v, c :: l⟩] := fun r hr => by
  have hf : c.toNat ≠ 10 ∧ ¬(c.toNat = 32 ∨ c.toNat = 9) ∧ c.toNat ≠ 35 := by
    simp only [Bool.or_eq_true] at h
    rcases h with h | h
    · have := letter_bd h; omega
    · have := digit_bd h; omega
  refine scan_one hf.1 hf.2.1 hf.2.2 ?_ hm
  have : plen (c :: l ++ r) = ((c :: l ++ r).takeWhile wordy).length := by simp only [List.cons_append, plen, h, if_true]
  rw [this, tw_stp hr hw]
theorem sct_nm {s : Bytes} (h : isNm s = true) : ScT s [tI s] := by
  cases s with
  | nil => cases h
  | cons c r =>
    simp only [isNm, Bool.and_eq_true, decide_eq_true_eq, Bool.not_eq_true'] at h
    obtain ⟨⟨⟨h1, h2⟩, h3⟩, h4⟩ := h
    have hl : (letter c || digit c) = true := by simp [h1]
    refine sct_word hl (fun x hx => ?_) ?_
    · rcases List.mem_cons.1 hx with rfl | hx
      · simp [wordy, h1]
      · exact List.all_eq_true.1 h2 x hx
    · have hd := letter_not_digit h1
      simp [pmean, isS_not hl, h3, hd]
      omega
theorem num_end (c : UInt8) : ∀ (l : Bytes) (a : Nat), num a (l ++ [c]) = match num a l with | none => none | some b => if (9223372036854775807 - (c.toNat - 48)) / 10 < b then none else some (10 * b + (c.toNat - 48))
  | [], a => by simp [num]
  | x :: r, a => by
    simp only [List.cons_append, num]
    split
    · rfl
    · exact num_end c r _
theorem nl_num (n : Nat) : n < 9223372036854775808 → num 0 (numL n) = some n := by
  induction n using Nat.strongRecOn with
  | ind n ih =>
    intro h
    have hd : (UInt8.ofNat (48 + n % 10)).toNat = 48 + n % 10 := by simp; omega
    rw [numL]
    split
    · rename_i h10
      rw [Nat.mod_eq_of_lt h10] at hd
      simp only [num, hd]
      rw [if_neg (by omega)]
      simp
    · rename_i h10
      rw [num_end, ih (n / 10) (by omega) (by omega)]
      simp only [hd]
      rw [if_neg (by omega)]
      congr 1
      omega
theorem sct_num {n : Nat} (h : n < 9223372036854775808) : ScT (numL n) [tN n] := by
  obtain ⟨c, r, e, h1, h2⟩ := nl_head n
  have hd : ∀ x ∈ c :: r, digit x = true := by rw [← e]; exact nl_digits n
  have hc := hd c (by simp)
  have hl : (letter c || digit c) = true := by simp [hc]
  have et : tN n = ⟨2, 1, n, c :: r⟩ := by unfold tN; rw [e]
  rw [et, e]
  refine sct_word hl (fun x hx => by simp [wordy, hd x hx]) ?_
  have hv : val (c :: r) = some n := by rw [val_num hc (fun x hx => hd x (by simp [hx])), ← e, nl_num n h]
  have hz : (decide (1 < (c :: r).length) && decide (c.toNat = 48)) = false := by
    rcases Nat.eq_zero_or_pos n with h0 | h0
    · rw [h2 h0]; simp
    · simp [h1 h0]
  simp only [pmean, isS_not hl, isW_not hc, hc, hz, hv]
  rfl
theorem one_40 : OneS 40 := by unfold OneS; decide
theorem one_41 : OneS 41 := by unfold OneS; decide
theorem one_91 : OneS 91 := by unfold OneS; decide
theorem one_93 : OneS 93 := by unfold OneS; decide
theorem one_44 : OneS 44 := by unfold OneS; decide
theorem one_45 : OneS 45 := by unfold OneS; decide
theorem one_33 : OneS 33 := by unfold OneS; decide
theorem one_38 : OneS 38 := by unfold OneS; decide
theorem one_60 : OneS 60 := by unfold OneS; decide
theorem one_43 : OneS 43 := by unfold OneS; decide
theorem one_42 : OneS 42 := by unfold OneS; decide
theorem one_47 : OneS 47 := by unfold OneS; decide
theorem one_37 : OneS 37 := by unfold OneS; decide
theorem sat_40 : SaT [40] [tS [40]] := sat_one one_40 (by decide)
theorem sat_41 : SaT [41] [tS [41]] := sat_one one_41 (by decide)
theorem sat_91 : SaT [91] [tS [91]] := sat_one one_91 (by decide)
theorem sat_93 : SaT [93] [tS [93]] := sat_one one_93 (by decide)
theorem sat_44 : SaT [44] [tS [44]] := sat_one one_44 (by decide)
theorem sat_45 : SaT [45] [tS [45]] := sat_one one_45 (by decide)
/-- A binary sign between spaces. -/
theorem sat_bin {t : Bytes} (ht : t ∈ ([[42], [47], [37], [43], [45], [60], [60, 61], [61, 61], [33, 61], [38, 38], [124, 124]] : List Bytes)) : SaT (32 :: (t ++ [32])) [tS t] := by
  have two : ∀ {c d : UInt8}, SaT [c, d] [tS [c, d]] → SaT (32 :: ([c, d] ++ [32])) [tS [c, d]] := fun h => (sat_sp.append h).append sat_sp
  have one : ∀ {c : UInt8}, OneS c → SaT (32 :: ([c] ++ [32])) [tS [c]] := fun h => sat_sp.append ((sct_one h).append (b := [32]) (by decide) sat_sp)
  simp only [List.mem_cons, List.not_mem_nil, or_false] at ht
  rcases ht with h | h | h | h | h | h | h | h | h | h | h <;> rw [h]
  · exact one one_42
  · exact one one_47
  · exact one one_37
  · exact one one_43
  · exact one one_45
  · exact one one_60
  · exact two (sat_two (by decide) (by decide) (by decide) (by decide) (by decide))
  · exact two (sat_two (by decide) (by decide) (by decide) (by decide) (by decide))
  · exact two (sat_two (by decide) (by decide) (by decide) (by decide) (by decide))
  · exact two (sat_two (by decide) (by decide) (by decide) (by decide) (by decide))
  · exact two (sat_two (by decide) (by decide) (by decide) (by decide) (by decide))
/-- What does not begin with '=' or '&'. -/
def NoQ (l : Bytes) : Prop := ∃ c r, l = c :: r ∧ c.toNat ≠ 61
theorem NoQ.append {a b : Bytes} (h : NoQ a) : NoQ (a ++ b) := by
  obtain ⟨c, r, rfl, h⟩ := h
  exact ⟨c, r ++ b, rfl, h⟩
theorem noq_word {l : Bytes} (h : ∃ c r, l = c :: r ∧ (letter c || digit c) = true) : NoQ l := by
  obtain ⟨c, r, rfl, h⟩ := h
  refine ⟨c, r, rfl, ?_⟩
  simp only [Bool.or_eq_true] at h
  rcases h with h | h
  · have := letter_bd h; omega
  · have := digit_bd h; omega
theorem sct_not {l : Bytes} {ts : List Tok} (hl : ScT l ts) (h0 : NoQ l) : ScT (33 :: l) (tS [33] :: ts) := fun r hr => by
  obtain ⟨c, q, rfl, hne⟩ := h0
  show scan 1 (33 :: (c :: q ++ r)) = _
  rw [one_next one_33 _ (fun x r' e => by
    injection e with e
    subst e
    cases e : isS [33, c] with
    | false => rfl
    | true => rcases isS_pair e with ⟨h1, _⟩ | ⟨h1, _⟩ | ⟨_, h2⟩ | ⟨h1, _⟩ | ⟨h1, _⟩ <;> (first | exact absurd h1 (by decide) | (subst h2; simp at hne))), hl r hr, ext_two]
  rfl
theorem sct_amp {l : Bytes} (hl : isNm l = true) : ScT (38 :: l) [tS [38], tI l] := fun r hr => by
  obtain ⟨c, q, e1, h1⟩ := (nm_head hl).1
  have hs := sct_nm hl r hr
  rw [e1] at hs ⊢
  show scan 1 (38 :: (c :: q ++ r)) = _
  rw [one_next one_38 _ (fun x r' e => by
    injection e with e
    subst e
    cases e : isS [38, c] with
    | false => rfl
    | true => rcases isS_pair e with ⟨h1, _⟩ | ⟨h1, _⟩ | ⟨h1, _⟩ | ⟨_, h2⟩ | ⟨h1, _⟩ <;> (first | exact absurd h1 (by decide) | (subst h2; revert h1; decide))), hs, ext_two]
  rfl
theorem sct_par {l : Bytes} {ts : List Tok} (h : ScT l ts) : SaT (40 :: (l ++ [41])) (parT ts) := sat_40.append (h.append (b := [41]) (by decide) sat_41)
/-- How deep a tree is at most. -/
def Dp : Nat → Ex → Prop
  | 0, _ => False
  | d + 1, .mk _ _ _ _ _ xs => ∀ x ∈ xs, Dp d x
theorem dp_of {F : Nat → Prop} {w : World} : ∀ {d : Nat} {x : Ex} {v : Value}, ExV F w d x v → Dp d x
  | 0, _, _, h => h
  | d + 1, .mk k o a l s xs, v, ⟨A, c, _, _, h⟩ => fun x hx => by
    obtain ⟨i, hi, e⟩ := List.mem_iff_getElem.1 hx
    obtain ⟨g, off, c0, c1, c2, c3, c4, c5, _, _, _, _, _, _, _, _, hv⟩ := h i x (by rw [List.getElem?_eq_getElem hi, e])
    exact dp_of hv
theorem fm_un (d : Nat) (o a l : Int) (s : ByteArray) (x : Ex) : fmtE (d + 1) (.mk 5 o a l s [x]) = signL o ++ opd d x := by simp [fmtE, opd]
theorem fm_bin (d : Nat) (o a l : Int) (s : ByteArray) (x y : Ex) : fmtE (d + 1) (.mk 6 o a l s [x, y]) = opd d x ++ ((32 :: (signL o ++ [32])) ++ opd d y) := by simp [fmtE, opd]
theorem fm_and (d : Nat) (o a l : Int) (s : ByteArray) (x y : Ex) : fmtE (d + 1) (.mk 7 o a l s [x, y]) = opd d x ++ ((32 :: ([38, 38] ++ [32])) ++ opd d y) := by simp [fmtE, opd]
theorem fm_or (d : Nat) (o a l : Int) (s : ByteArray) (x y : Ex) : fmtE (d + 1) (.mk 8 o a l s [x, y]) = opd d x ++ ((32 :: ([124, 124] ++ [32])) ++ opd d y) := by simp [fmtE, opd]
theorem fm_el (d : Nat) (o a l : Int) (s : ByteArray) (x : Ex) : fmtE (d + 1) (.mk 4 o a l s [x]) = s.data.toList ++ ([91] ++ (fmtE d x ++ [93])) := by simp [fmtE]
theorem fm_call (d : Nat) (o a l : Int) (s : ByteArray) (xs : List Ex) : fmtE (d + 1) (.mk 9 o a l s xs) = s.data.toList ++ lst d xs := by simp [fmtE, lst]
theorem fm_val (d : Nat) (o a l : Int) (s : ByteArray) (x : Ex) (xs : List Ex) : fmtE (d + 1) (.mk 10 o a l s (x :: xs)) = (if x.kind = 13 ∨ x.kind = 2 ∨ x.kind = 3 then 40 :: (opd d x ++ [41]) else opd d x) ++ lst d xs := by simp [fmtE, lst, opd]
theorem inter_c2 (sep x y : Bytes) (r : List Bytes) : sep.intercalate (x :: y :: r) = x ++ sep ++ sep.intercalate (y :: r) := by simp [List.intercalate, List.intersperse]
theorem inter_more : ∀ (x : Bytes) (l : List Bytes), ([44, 32] : Bytes).intercalate (x :: l) = x ++ l.flatMap (fun y => [44, 32] ++ y)
  | x, [] => by simp [List.intercalate]
  | x, y :: r => by rw [inter_c2, inter_more y r]; simp
theorem opd_sct {d : Nat} {x : Ex} (h : ScT (fmtE d x) (tkX x) ∧ NoQ (fmtE d x)) : ScT (opd d x) (tkO x) ∧ NoQ (opd d x) := by
  unfold opd tkO opT
  simp only
  split
  · exact ⟨(sct_par h.1).sc, 40, _, rfl, by decide⟩
  · exact h
theorem more_sct {d : Nat} : ∀ (l : List Ex), (∀ x ∈ l, ScT (fmtE d x) (tkX x)) → ScT ((l.map (fmtE d)).flatMap (fun y => [44, 32] ++ y)) (moreT (tkL l))
  | [], _ => fun r _ => by simp [tkL, moreT, ext_nil]
  | x :: l, h => by
    have ih := more_sct l (fun y hy => h y (by simp [hy]))
    have hx := h x (by simp)
    have e : ((x :: l).map (fmtE d)).flatMap (fun y => [44, 32] ++ y) = [44] ++ ([32] ++ (fmtE d x ++ (l.map (fmtE d)).flatMap (fun y => [44, 32] ++ y))) := by simp
    have e2 : moreT (tkL (x :: l)) = [tS [44]] ++ ([] ++ (tkX x ++ moreT (tkL l))) := by simp [tkL, moreT]
    rw [e, e2]
    refine sat_44.then (sat_sp.then ?_)
    cases l with
    | nil => simpa [tkL, moreT] using hx
    | cons y r => exact hx.then (by simp [Sp0]; decide) ih
theorem lst_sct {d : Nat} (l : List Ex) (h : ∀ x ∈ l, ScT (fmtE d x) (tkX x)) : SaT (lst d l) (argT (tkL l)) := by
  have hc : ScT (([44, 32] : Bytes).intercalate (l.map (fmtE d))) (comT (tkL l)) := by
    cases l with
    | nil => intro r _; simp [List.intercalate, tkL, comT, ext_nil]
    | cons x l =>
      have ih := more_sct l (fun y hy => h y (by simp [hy]))
      have hx := h x (by simp)
      simp only [List.map_cons, inter_more, tkL, comT]
      cases l with
      | nil => simpa [tkL, moreT] using hx
      | cons y r => exact hx.then (by simp [Sp0]; decide) ih
  exact sct_par hc
theorem two_sct {d : Nat} {x y : Ex} {t : Bytes} (ht : t ∈ ([[42], [47], [37], [43], [45], [60], [60, 61], [61, 61], [33, 61], [38, 38], [124, 124]] : List Bytes)) (hx : ScT (fmtE d x) (tkX x) ∧ NoQ (fmtE d x)) (hy : ScT (fmtE d y) (tkX y) ∧ NoQ (fmtE d y)) :
    ScT (opd d x ++ ((32 :: (t ++ [32])) ++ opd d y)) (tkO x ++ tS t :: tkO y) ∧ NoQ (opd d x ++ ((32 :: (t ++ [32])) ++ opd d y)) := by
  obtain ⟨h1, h2⟩ := opd_sct hx
  obtain ⟨h3, _⟩ := opd_sct hy
  exact ⟨h1.then (by simp [Sp0]; decide) ((sat_bin ht).then h3), h2.append⟩
/-- What is written for a tree is scanned as its tokens. -/
theorem fmt_sct {x : Ex} (h : WfX x) : ∀ d, Dp d x → ScT (fmtE d x) (tkX x) ∧ NoQ (fmtE d x) := by
  induction h with
  | num a l h1 h2 =>
    intro d hd
    cases d with
    | zero => exact hd.elim
    | succ d =>
      have e : fmtE (d + 1) (.mk 1 0 a l ⟨#[]⟩ []) = numL a.toNat := by
        have : max a 0 = a := by omega
        simp [fmtE, this]
      rw [e, tk_num]
      exact ⟨sct_num (by omega), noq_word (nl_word _)⟩
  | nam l s h =>
    intro d hd
    cases d with
    | zero => exact hd.elim
    | succ d =>
      have e : fmtE (d + 1) (.mk 13 0 0 l s []) = s.data.toList := by simp [fmtE]
      rw [e, tk_nam]
      exact ⟨sct_nm h, noq_word (nm_head h).1⟩
  | fn l s h =>
    intro d hd
    cases d with
    | zero => exact hd.elim
    | succ d =>
      have e : fmtE (d + 1) (.mk 11 0 0 l s []) = 38 :: s.data.toList := by simp [fmtE]
      rw [e, tk_fn]
      exact ⟨sct_amp h, 38, _, rfl, by decide⟩
  | rd l =>
    intro d hd
    cases d with
    | zero => exact hd.elim
    | succ d =>
      have e : fmtE (d + 1) (.mk 12 0 0 l ⟨#[]⟩ []) = [114, 101, 97, 100] := by simp [fmtE]
      rw [e, tk_rd]
      exact ⟨sct_word (by decide) (by decide) (by decide), 114, _, rfl, by decide⟩
  | el l s x h hx ih =>
    intro d hd
    cases d with
    | zero => exact hd.elim
    | succ d =>
      have h1 := (ih d (hd x (by simp))).1
      rw [fm_el, tk_el]
      exact ⟨((sct_nm h).append (b := [91] ++ (fmtE d x ++ [93])) (by simp [Sp0]; decide) (sat_91.append (h1.append (b := [93]) (by decide) sat_93))).sc, (noq_word (nm_head h).1).append⟩
  | un o l x h1 h2 hx ih =>
    intro d hd
    cases d with
    | zero => exact hd.elim
    | succ d =>
      obtain ⟨h3, h4⟩ := opd_sct (ih d (hd x (by simp)))
      rw [fm_un, tk_un]
      have hc : o = 1 ∨ o = 2 := by omega
      rcases hc with rfl | rfl
      · exact ⟨sat_45.then h3, 45, _, rfl, by decide⟩
      · exact ⟨sct_not h3 h4, 33, _, rfl, by decide⟩
  | bin o l x y h1 h2 hx hy ih1 ih2 =>
    intro d hd
    cases d with
    | zero => exact hd.elim
    | succ d =>
      rw [fm_bin, tk_bin]
      exact two_sct ((signL_ne o (by omega) h2).2 h1) (ih1 d (hd x (by simp))) (ih2 d (hd y (by simp)))
  | and_ l x y hx hy ih1 ih2 =>
    intro d hd
    cases d with
    | zero => exact hd.elim
    | succ d =>
      rw [fm_and, tk_and]
      exact two_sct (by decide) (ih1 d (hd x (by simp))) (ih2 d (hd y (by simp)))
  | or_ l x y hx hy ih1 ih2 =>
    intro d hd
    cases d with
    | zero => exact hd.elim
    | succ d =>
      rw [fm_or, tk_or]
      exact two_sct (by decide) (ih1 d (hd x (by simp))) (ih2 d (hd y (by simp)))
  | call l s xs h hxs ih =>
    intro d hd
    cases d with
    | zero => exact hd.elim
    | succ d =>
      rw [fm_call, tk_call]
      exact ⟨((sct_nm h).append (b := lst d xs) (by simp [Sp0, lst]; decide) (lst_sct xs (fun x hx => (ih x hx d (hd x hx)).1))).sc, (noq_word (nm_head h).1).append⟩
  | val l x xs hx hxs ih1 ih2 =>
    intro d hd
    cases d with
    | zero => exact hd.elim
    | succ d =>
      obtain ⟨h3, h4⟩ := opd_sct (ih1 d (hd x (by simp)))
      have hl := lst_sct (d := d) xs (fun y hy => (ih2 y hy d (hd y (by simp [hy]))).1)
      rw [fm_val, tk_val]
      have h5 : ScT (if x.kind = 13 ∨ x.kind = 2 ∨ x.kind = 3 then 40 :: (opd d x ++ [41]) else opd d x) (vaT (x.kind, tkX x)) ∧ NoQ (if x.kind = 13 ∨ x.kind = 2 ∨ x.kind = 3 then 40 :: (opd d x ++ [41]) else opd d x) := by
        unfold vaT
        by_cases hk : x.kind = 13
        · rw [if_pos (.inl hk), if_pos hk]
          have e : tkO x = tkX x := by simp [tkO, opT, hk, compK]
          rw [e] at h3
          exact ⟨(sct_par h3).sc, 40, _, rfl, by decide⟩
        · have hk2 : ¬ (x.kind = 13 ∨ x.kind = 2 ∨ x.kind = 3) := by
            rintro (h | h | h)
            · exact hk h
            · cases hx <;> simp [Ex.kind] at h
            · cases hx <;> simp [Ex.kind] at h
          rw [if_neg hk2, if_neg hk]
          exact ⟨h3, h4⟩
      exact ⟨(h5.1.append (b := lst d xs) (by simp [Sp0, lst]; decide) hl).sc, h5.2.append⟩
/-- What is written for a tree means the same tree in line 1. -/
theorem back_mean {x : Ex} (h : WfX x) {d : Nat} (hd : Dp d x) : meanX (fmtE d x) = .ok (rlX x) := by
  have hs := (fmt_sct h d hd).1 [] (fun c r e => by cases e)
  rw [List.append_nil] at hs
  have hs2 : scan 1 (fmtE d x) = .ok (tkX x ++ [⟨0, 1, 0, []⟩]) := by rw [hs, scan]; rfl
  have hb := (back_all h).1 (tkX x).length [⟨0, 1, 0, []⟩] (by omega) (by simp [hx_cons, Clo])
  unfold meanX
  rw [hs2]
  simp only [List.length_append, List.length_singleton]
  show (match exprP ((tkX x).length + 1) (st (tkX x ++ [⟨0, 1, 0, []⟩])) with | none => Except.error (0, 0) | some (x, s) => if (endP s).ref = 0 then Except.ok x else Except.error ((endP s).ref, 7)) = _
  rw [hb]
  rfl
theorem rlL_map : ∀ xs, rlL xs = xs.map rlX
  | [] => rfl
  | x :: r => by simp [rlL, rlL_map r]
/-- But for lines it is the same tree. -/
theorem eqX_rl : ∀ (D : Nat) (xs : List Ex), eqX false D xs (rlL xs) = true := by
  intro D
  induction D with
  | zero => intro xs; simp [eqX, rlL_map]
  | succ D ih =>
    intro xs
    refine eqX_yes (by simp [rlL_map]) (fun j x y hx hy => ?_)
    rw [rlL_map, List.getElem?_map, hx] at hy
    injection hy with hy
    subst hy
    cases x
    simp [rlX, eq1, ih]
/-- What a text means is a tree of the grammar, with no more nodes than the text has tokens. -/
theorem mean_wf {l : Bytes} {x : Ex} (h : meanX l = .ok x) : WfX x ∧ ndX x ≤ l.length + 1 := by
  unfold meanX at h
  cases hs : scan 1 l with
  | error n => rw [hs] at h; cases h
  | ok ts =>
    rw [hs] at h
    simp only at h
    have hok : OkS ⟨ts, 0, 0⟩ := by
      obtain ⟨h1, h2, _, h4⟩ := rel_start hs
      rcases h4 with ⟨_, _, _, h4⟩ | ⟨h4, _⟩
      · exact ⟨h1, fun t ht => ⟨h2 t ht, h4 t ht⟩⟩
      · cases h4
    cases he : exprP ts.length ⟨ts, 0, 0⟩ with
    | none => rw [he] at h; cases h
    | some p =>
      obtain ⟨y, s⟩ := p
      rw [he] at h
      simp only at h
      split at h
      · rename_i h0
        injection h with h
        subst h
        obtain ⟨h1, h2⟩ := wf_expr _ _ _ _ he hok
        have hr : s.ref = 0 := by
          unfold endP at h0
          split at h0
          · exact h0
          · exact absurd h0 h1.refuse.2
        obtain ⟨_, h3, h4⟩ := h2 hr
        have h5 := h1.1.pos
        have h6 := (scan_size _ _ _ _ (Nat.le_refl _) hs).2
        exact ⟨h3, by show ndX y ≤ _; simp only at h4; omega⟩
      · cases h
end Go.Proofs.YtmpnkbhlagalkaaGreatDoor
