/-
  The tokens of a text that scans: what they are, and that the end is the last one and no other. No condition.
-/
import Derived.Test.YtmpnkbhlagalkaaGreatDoorTok4
namespace Go.Proofs.YtmpnkbhlagalkaaGreatDoor
open Go.RowKit

/-- A byte that stands between tokens. -/
def Gap (c : UInt8) : Prop := c.toNat = 32 ∨ c.toNat = 9 ∨ c.toNat = 10
theorem gap_wordy {c : UInt8} (h : Gap c) : wordy c = false := by
  unfold wordy letter digit
  rcases h with h | h | h <;> simp [h]
theorem gap_sign {a c : UInt8} (h : Gap c) : isS [a, c] = false := by
  cases e : isS [a, c] with
  | false => rfl
  | true =>
    simp only [isS, signsL, List.contains_iff_mem] at e
    simp only [List.mem_cons, List.cons.injEq, List.not_mem_nil, or_false, reduceCtorEq, and_false, false_or, and_true] at e
    rcases h with h | h | h <;> (rcases e with ⟨_, e⟩ | ⟨_, e⟩ | ⟨_, e⟩ | ⟨_, e⟩ | ⟨_, e⟩ <;> (rw [e] at h; exact absurd h (by decide)))
/-- Nothing follows, or a byte that stands between tokens. -/
def Gapped (r : Bytes) : Prop := ∀ c r', r = c :: r' → Gap c
theorem tw_gap {l r : Bytes} (hr : Gapped r) (h : ∀ c ∈ l, wordy c = true) : (l ++ r).takeWhile wordy = l := by
  induction l with
  | nil =>
    cases r with
    | nil => rfl
    | cons c r' => simp [gap_wordy (hr c r' rfl)]
  | cons a l ih => simp [h a (by simp), ih (fun c hc => h c (by simp [hc]))]
theorem tw_wordy (l : Bytes) : ∀ c ∈ l.takeWhile wordy, wordy c = true := fun c hc => tw_all wordy l c hc
/-- The token with which a text begins stays when something else follows. -/
theorem plen_gap {c : UInt8} {l r : Bytes} (hr : Gapped r) (hp : 0 < plen (c :: l)) : plen ((c :: l).take (plen (c :: l)) ++ r) = plen (c :: l) := by
  by_cases h1 : (letter c || digit c) = true
  · have hp1 : plen (c :: l) = ((c :: l).takeWhile wordy).length := by simp only [plen, h1, if_true]
    have hw : wordy c = true := by unfold wordy; simp only [Bool.or_eq_true] at h1 ⊢; exact .inl h1
    rw [hp1, take_tw]
    have e : (c :: l).takeWhile wordy = c :: l.takeWhile wordy := by simp [hw]
    rw [e]
    have : plen (c :: l.takeWhile wordy ++ r) = ((c :: l.takeWhile wordy ++ r).takeWhile wordy).length := by simp only [List.cons_append, plen, h1, if_true]
    rw [this, tw_gap hr (by rw [← e]; exact tw_wordy _)]
  · have h1 : (letter c || digit c) = false := by simpa using h1
    by_cases h2 : (decide (2 ≤ (c :: l).length) && isS ((c :: l).take 2)) = true
    · have hp1 : plen (c :: l) = 2 := by simp only [plen, h1]; simp only [h2]; rfl
      rw [hp1]
      match l, h2 with
      | d :: l, h2 =>
        have h3 : isS [c, d] = true := by simpa using h2
        simp [plen, h1, h3]
    · have h2 : (decide (2 ≤ (c :: l).length) && isS ((c :: l).take 2)) = false := by simpa using h2
      by_cases h3 : isS ((c :: l).take 1) = true
      · have hp1 : plen (c :: l) = 1 := by simp only [plen, h1]; simp only [h2, h3]; rfl
        have h4 : isS [c] = true := by simpa using h3
        rw [hp1]
        cases r with
        | nil => simp [plen, h1, h4]
        | cons x r' => simp [plen, h1, h4, gap_sign (a := c) (hr x r' rfl)]
      · have h3 : isS ((c :: l).take 1) = false := by simpa using h3
        have : plen (c :: l) = 0 := by simp only [plen, h1]; simp only [h2, h3]; rfl
        omega
/-- A token as it stands in a text. -/
structure TokOk (t : Tok) : Prop where
  kd : t.kind ≠ 0
  head : ∃ c r, t.text = c :: r ∧ c.toNat ≠ 10 ∧ ¬(c.toNat = 32 ∨ c.toNat = 9) ∧ c.toNat ≠ 35
  mean : pmean t.text = some (t.kind, t.value)
  len : ∀ r, Gapped r → plen (t.text ++ r) = t.text.length
theorem pmean_kind {l : Bytes} {k v : Nat} (h : pmean l = some (k, v)) : k ≠ 0 := by
  unfold pmean at h
  split at h
  · cases h
  · split at h
    · injection h with h; injection h with h; omega
    · split at h
      · injection h with h; injection h with h; omega
      · split at h
        · split at h
          · cases h
          · rename_i c r _ _ _ _
            cases e : val (c :: r) with
            | none => rw [e] at h; cases h
            | some q => rw [e] at h; injection h with h; injection h with h; omega
        · split at h
          · injection h with h; injection h with h; omega
          · cases h
/-- The scan of a token with something behind it. -/
theorem scan_txt {t : Tok} {r : Bytes} {line : Nat} (h : TokOk t) (hr : Gapped r) : scan line (t.text ++ r) = ext [⟨t.kind, line, t.value, t.text⟩] (scan line r) := by
  obtain ⟨c, q, ht, h10, h32, h35⟩ := h.head
  have hn : rnext (t.text ++ r) = some (t.kind, t.value, t.text.length) := by
    rw [next_eq, h.len r hr, List.take_left', h.mean]
    · rfl
    · rfl
  rw [ht] at hn ⊢
  rw [List.cons_append] at hn ⊢
  rw [scan, if_neg h10, if_neg h32, if_neg h35, hn]
  simp only [List.length_cons, Nat.add_sub_cancel, List.drop_left, List.take_succ_cons, List.take_left]
  cases scan line r with
  | error e => rfl
  | ok ts => rfl
theorem scan_form (n : Nat) : ∀ (l : Bytes) (line : Nat) (ts : List Tok), l.length ≤ n → scan line l = .ok ts → ∃ toks e, ts = toks ++ [⟨0, e, 0, []⟩] ∧ ∀ t ∈ toks, TokOk t := by
  induction n with
  | zero =>
    intro l line ts hl h
    have : l = [] := List.eq_nil_of_length_eq_zero (by omega)
    subst this
    rw [scan] at h
    injection h with h
    exact ⟨[], line, by rw [← h]; rfl, by simp⟩
  | succ n ih =>
    intro l line ts hl h
    match l with
    | [] =>
      rw [scan] at h
      injection h with h
      exact ⟨[], line, by rw [← h]; rfl, by simp⟩
    | c :: r =>
      simp only [List.length_cons] at hl
      rw [scan] at h
      split at h
      · exact ih _ _ _ (by omega) h
      split at h
      · exact ih _ _ _ (by omega) h
      split at h
      · refine ih _ _ _ ?_ h
        have := List.Sublist.length_le (List.dropWhile_sublist (fun x : UInt8 => decide (x.toNat ≠ 10)) (l := r))
        omega
      rename_i h10 h32 h35
      split at h
      · cases h
      rename_i k v m hm
      split at h
      · cases h
      rename_i us hus
      injection h with h
      obtain ⟨toks, e, rfl, hok⟩ := ih _ _ _ (by simp; omega) hus
      rw [next_eq] at hm
      obtain ⟨p, hp, he⟩ := Option.map_eq_some_iff.1 hm
      obtain ⟨k', v'⟩ := p
      simp only [Prod.mk.injEq] at he
      obtain ⟨rfl, rfl, rfl⟩ := he
      have hpos : 0 < plen (c :: r) := by
        rcases Nat.eq_zero_or_pos (plen (c :: r)) with h0 | h0
        · rw [h0] at hp; cases hp
        · exact h0
      obtain ⟨q, hq⟩ : ∃ q, plen (c :: r) = q + 1 := ⟨plen (c :: r) - 1, by omega⟩
      have hle : plen (c :: r) ≤ (c :: r).length := by
        have := plen_gap (c := c) (l := r) (r := []) (fun c r' h => by cases h) hpos
        rcases Nat.lt_or_ge (c :: r).length (plen (c :: r)) with h' | h'
        · exfalso
          by_cases h1 : (letter c || digit c) = true
          · have hp1 : plen (c :: r) = ((c :: r).takeWhile wordy).length := by simp only [plen, h1, if_true]
            have := (List.takeWhile_sublist wordy (l := c :: r)).length_le
            omega
          · have h1 : (letter c || digit c) = false := by simpa using h1
            simp only [plen, h1] at h'
            split at h'
            · rename_i h9; cases h9
            · split at h'
              · rename_i h9; simp at h9; simp at h'; omega
              · split at h' <;> simp at h'
        · exact h'
      refine ⟨⟨k', line, v', (c :: r).take (plen (c :: r))⟩ :: toks, e, by rw [← h]; rfl, fun t ht => ?_⟩
      rcases List.mem_cons.1 ht with rfl | ht
      · refine ⟨pmean_kind hp, ⟨c, r.take q, by rw [hq]; rfl, h10, h32, h35⟩, hp, fun r' hr' => ?_⟩
        simp only []
        rw [plen_gap hr' hpos, List.length_take]
        omega
      · exact hok t ht
theorem scan_size (n : Nat) : ∀ (l : Bytes) (line : Nat) (ts : List Tok), l.length ≤ n → scan line l = .ok ts → (ts.map (·.text.length)).sum ≤ l.length ∧ ts.length ≤ l.length + 1 := by
  induction n with
  | zero =>
    intro l line ts hl h
    have : l = [] := List.eq_nil_of_length_eq_zero (by omega)
    subst this
    rw [scan] at h
    injection h with h
    subst h
    simp
  | succ n ih =>
    intro l line ts hl h
    match l with
    | [] =>
      rw [scan] at h
      injection h with h
      subst h
      simp
    | c :: r =>
      simp only [List.length_cons] at hl ⊢
      rw [scan] at h
      split at h
      · have := ih _ _ _ (by omega) h
        omega
      split at h
      · have := ih _ _ _ (by omega) h
        omega
      split at h
      · have hd := List.Sublist.length_le (List.dropWhile_sublist (fun x : UInt8 => decide (x.toNat ≠ 10)) (l := r))
        have := ih _ _ _ (by omega) h
        omega
      split at h
      · cases h
      rename_i k v m hm
      split at h
      · cases h
      rename_i us hus
      injection h with h
      have h1 := ih _ _ _ (by simp; omega) hus
      rw [next_eq] at hm
      obtain ⟨p, hp, he⟩ := Option.map_eq_some_iff.1 hm
      obtain ⟨k', v'⟩ := p
      simp only [Prod.mk.injEq] at he
      obtain ⟨rfl, rfl, rfl⟩ := he
      have hpos := plen_pos hp
      have hle := plen_le (c :: r)
      simp only [List.length_cons] at hle
      rw [← h]
      simp only [List.map_cons, List.sum_cons, List.length_cons, List.length_take, List.length_drop] at h1 ⊢
      omega
end Go.Proofs.YtmpnkbhlagalkaaGreatDoor
