/-
  Scanned and joined tokens, spaced tokens, what the maker makes is written as a text that scans, and what that text weighs. No condition.
-/
import Derived.Test.YtifabkoomojklaaGreatDoorTokJoin
import Derived.Test.YtifabkoomojklaaGreatDoorTokSame
import Derived.Test.YtifabkoomojklaaGreatDoorGenLen
namespace Go.Proofs.YtifabkoomojklaaGreatDoor
open Go.RowKit

/-- A byte that stands between tokens. -/
def Gap (c : UInt8) : Prop := c.toNat = 32 ∨ c.toNat = 9 ∨ c.toNat = 10
theorem gap_wordy {c : UInt8} (h : Gap c) : wordy c = false := by
  unfold wordy letter digit
  rcases h with h | h | h <;> simp [h]
theorem gap_sign {a c : UInt8} (h : Gap c) : isS [a, c] = false := by
  cases e : isS [a, c] with
  | false => rfl
  | true =>
    simp only [isS, signsL, List.contains_iff_mem] at e
    simp only [List.mem_cons, List.cons.injEq, List.not_mem_nil, or_false, reduceCtorEq, and_false, false_or, and_true] at e
    rcases h with h | h | h <;> (rcases e with ⟨_, e⟩ | ⟨_, e⟩ | ⟨_, e⟩ | ⟨_, e⟩ | ⟨_, e⟩ <;> (rw [e] at h; exact absurd h (by decide)))
/-- Nothing follows, or a byte that stands between tokens. -/
def Gapped (r : Bytes) : Prop := ∀ c r', r = c :: r' → Gap c
theorem tw_gap {l r : Bytes} (hr : Gapped r) (h : ∀ c ∈ l, wordy c = true) : (l ++ r).takeWhile wordy = l := by
  induction l with
  | nil =>
    cases r with
    | nil => rfl
    | cons c r' => simp [gap_wordy (hr c r' rfl)]
  | cons a l ih => simp [h a (by simp), ih (fun c hc => h c (by simp [hc]))]
theorem tw_wordy (l : Bytes) : ∀ c ∈ l.takeWhile wordy, wordy c = true := fun c hc => tw_all wordy l c hc
/-- The token with which a text begins stays when something else follows. -/
theorem plen_gap {c : UInt8} {l r : Bytes} (hr : Gapped r) (hp : 0 < plen (c :: l)) : plen ((c :: l).take (plen (c :: l)) ++ r) = plen (c :: l) := by
  by_cases h1 : (letter c || digit c) = true
  · have hp1 : plen (c :: l) = ((c :: l).takeWhile wordy).length := by simp only [plen, h1, if_true]
    have hw : wordy c = true := by unfold wordy; simp only [Bool.or_eq_true] at h1 ⊢; exact .inl h1
    rw [hp1, take_tw]
    have e : (c :: l).takeWhile wordy = c :: l.takeWhile wordy := by simp [hw]
    rw [e]
    have : plen (c :: l.takeWhile wordy ++ r) = ((c :: l.takeWhile wordy ++ r).takeWhile wordy).length := by simp only [List.cons_append, plen, h1, if_true]
    rw [this, tw_gap hr (by rw [← e]; exact tw_wordy _)]
  · have h1 : (letter c || digit c) = false := by simpa using h1
    by_cases h2 : (decide (2 ≤ (c :: l).length) && isS ((c :: l).take 2)) = true
    · have hp1 : plen (c :: l) = 2 := by simp only [plen, h1]; simp only [h2]; rfl
      rw [hp1]
      match l, h2 with
      | d :: l, h2 =>
        have h3 : isS [c, d] = true := by simpa using h2
        simp [plen, h1, h3]
    · have h2 : (decide (2 ≤ (c :: l).length) && isS ((c :: l).take 2)) = false := by simpa using h2
      by_cases h3 : isS ((c :: l).take 1) = true
      · have hp1 : plen (c :: l) = 1 := by simp only [plen, h1]; simp only [h2, h3]; rfl
        have h4 : isS [c] = true := by simpa using h3
        rw [hp1]
        cases r with
        | nil => simp [plen, h1, h4]
        | cons x r' => simp [plen, h1, h4, gap_sign (a := c) (hr x r' rfl)]
      · have h3 : isS ((c :: l).take 1) = false := by simpa using h3
        have : plen (c :: l) = 0 := by simp only [plen, h1]; simp only [h2, h3]; rfl
        omega
/-- A token as it stands in a text. -/
structure TokOk (t : Tok) : Prop where
  kd : t.kind ≠ 0
  head : ∃ c r, t.text = c :: r ∧ c.toNat ≠ 10 ∧ ¬(c.toNat = 32 ∨ c.toNat = 9) ∧ c.toNat ≠ 35
  mean : pmean t.text = some (t.kind, t.value)
  len : ∀ r, Gapped r → plen (t.text ++ r) = t.text.length
theorem pmean_kind {l : Bytes} {k v : Nat} (h : pmean l = some (k, v)) : k ≠ 0 := by
  unfold pmean at h
  split at h
  · cases h
  · split at h
    · injection h with h; injection h with h; omega
    · split at h
      · injection h with h; injection h with h; omega
      · split at h
        · split at h
          · cases h
          · rename_i c r _ _ _ _
            cases e : val (c :: r) with
            | none => rw [e] at h; cases h
            | some q => rw [e] at h; injection h with h; injection h with h; omega
        · split at h
          · injection h with h; injection h with h; omega
          · cases h
/-- The scan of a token with something behind it. -/
theorem scan_txt {t : Tok} {r : Bytes} {line : Nat} (h : TokOk t) (hr : Gapped r) : scan line (t.text ++ r) = ext [⟨t.kind, line, t.value, t.text⟩] (scan line r) := by
  obtain ⟨c, q, ht, h10, h32, h35⟩ := h.head
  have hn : rnext (t.text ++ r) = some (t.kind, t.value, t.text.length) := by
    rw [next_eq, h.len r hr, List.take_left', h.mean]
    · rfl
    · rfl
  rw [ht] at hn ⊢
  rw [List.cons_append] at hn ⊢
  rw [scan, if_neg h10, if_neg h32, if_neg h35, hn]
  simp only [List.length_cons, Nat.add_sub_cancel, List.drop_left, List.take_succ_cons, List.take_left]
  cases scan line r with
  | error e => rfl
  | ok ts => rfl
theorem scan_form (n : Nat) : ∀ (l : Bytes) (line : Nat) (ts : List Tok), l.length ≤ n → scan line l = .ok ts → ∃ toks e, ts = toks ++ [⟨0, e, 0, []⟩] ∧ ∀ t ∈ toks, TokOk t := by
  induction n with
  | zero =>
    intro l line ts hl h
    have : l = [] := List.eq_nil_of_length_eq_zero (by omega)
    subst this
    rw [scan] at h
    injection h with h
    exact ⟨[], line, by rw [← h]; rfl, by simp⟩
  | succ n ih =>
    intro l line ts hl h
    match l with
    | [] =>
      rw [scan] at h
      injection h with h
      exact ⟨[], line, by rw [← h]; rfl, by simp⟩
    | c :: r =>
      simp only [List.length_cons] at hl
      rw [scan] at h
      split at h
      · exact ih _ _ _ (by omega) h
      split at h
      · exact ih _ _ _ (by omega) h
      split at h
      · refine ih _ _ _ ?_ h
        have := List.Sublist.length_le (List.dropWhile_sublist (fun x : UInt8 => decide (x.toNat ≠ 10)) (l := r))
        omega
      rename_i h10 h32 h35
      split at h
      · cases h
      rename_i k v m hm
      split at h
      · cases h
      rename_i us hus
      injection h with h
      obtain ⟨toks, e, rfl, hok⟩ := ih _ _ _ (by simp; omega) hus
      rw [next_eq] at hm
      obtain ⟨p, hp, he⟩ := Option.map_eq_some_iff.1 hm
      obtain ⟨k', v'⟩ := p
      simp only [Prod.mk.injEq] at he
      obtain ⟨rfl, rfl, rfl⟩ := he
      have hpos : 0 < plen (c :: r) := by
        rcases Nat.eq_zero_or_pos (plen (c :: r)) with h0 | h0
        · rw [h0] at hp; cases hp
        · exact h0
      obtain ⟨q, hq⟩ : ∃ q, plen (c :: r) = q + 1 := ⟨plen (c :: r) - 1, by omega⟩
      have hle : plen (c :: r) ≤ (c :: r).length := by
        have := plen_gap (c := c) (l := r) (r := []) (fun c r' h => by cases h) hpos
        rcases Nat.lt_or_ge (c :: r).length (plen (c :: r)) with h' | h'
        · exfalso
          by_cases h1 : (letter c || digit c) = true
          · have hp1 : plen (c :: r) = ((c :: r).takeWhile wordy).length := by simp only [plen, h1, if_true]
            have := (List.takeWhile_sublist wordy (l := c :: r)).length_le
            omega
          · have h1 : (letter c || digit c) = false := by simpa using h1
            simp only [plen, h1] at h'
            split at h'
            · rename_i h9; cases h9
            · split at h'
              · rename_i h9; simp at h9; simp at h'; omega
              · split at h' <;> simp at h'
        · exact h'
      refine ⟨⟨k', line, v', (c :: r).take (plen (c :: r))⟩ :: toks, e, by rw [← h]; rfl, fun t ht => ?_⟩
      rcases List.mem_cons.1 ht with rfl | ht
      · refine ⟨pmean_kind hp, ⟨c, r.take q, by rw [hq]; rfl, h10, h32, h35⟩, hp, fun r' hr' => ?_⟩
        simp only []
        rw [plen_gap hr' hpos, List.length_take]
        omega
      · exact hok t ht
/-- The scan of joined tokens. -/
theorem scan_join : ∀ (toks : List Tok) (line : Nat), (∀ t ∈ toks, TokOk t) → scan line (Lib.join (toks.map (·.text)) [32]) = .ok (toks.map (fun t => ⟨t.kind, line, t.value, t.text⟩) ++ [⟨0, line, 0, []⟩])
  | [], line, _ => by simp [Lib.join, List.intercalate, scan]
  | [t], line, h => by
    have := scan_txt (r := []) (line := line) (h t (by simp)) (fun c r' h => by cases h)
    simp only [List.append_nil] at this
    simp only [Lib.join, List.map_cons, List.map_nil]
    rw [show ([32] : Bytes).intercalate [t.text] = t.text by simp [List.intercalate], this, scan]
    rfl
  | t :: t2 :: r, line, h => by
    have ih := scan_join (t2 :: r) line (fun x hx => h x (by simp [hx]))
    have e : Lib.join ((t :: t2 :: r).map (·.text)) [32] = t.text ++ (32 :: Lib.join ((t2 :: r).map (·.text)) [32]) := by
      simp [Lib.join, List.intercalate]
    rw [e, scan_txt (h t (by simp)) (fun c r' h => by injection h with h; exact .inl (by rw [← h]; rfl)), scan, if_neg (by decide), if_pos (by decide), ih]
    rfl
theorem txs_text (toks : List Tok) (e : Nat) (h : ∀ t ∈ toks, TokOk t) : (txs (toks ++ [⟨0, e, 0, []⟩])).map (·.data.toList) = toks.map (·.text) := by
  have hf : (toks ++ [(⟨0, e, 0, []⟩ : Tok)]).filter (fun t => decide (t.kind ≠ 0)) = toks := by
    rw [List.filter_append, List.filter_eq_self.2 (fun t ht => by simpa using (h t ht).kd)]
    simp
  unfold txs
  rw [hf, List.map_map]
  exact List.map_congr_left fun t _ => rfl
/-- What a text gives, joined, gives the same again. -/
theorem scan_back {l : Bytes} {ts : List Tok} {line : Nat} (h : scan line l = .ok ts) : ∃ us, scan 1 (joinL ts) = .ok us ∧ SameT false ts us := by
  obtain ⟨toks, e, rfl, hok⟩ := scan_form _ l line ts (Nat.le_refl _) h
  refine ⟨_, by rw [joinL, txs_text toks e hok, scan_join toks 1 hok], by simp, fun k ta tb h1 h2 => ?_⟩
  rcases Nat.lt_or_ge k toks.length with hk | hk
  · rw [List.getElem?_append_left hk] at h1
    rw [List.getElem?_append_left (by simpa using hk), List.getElem?_map, h1] at h2
    injection h2 with h2
    subst h2
    exact ⟨rfl, rfl, rfl, fun h => by cases h⟩
  · rw [List.getElem?_append_right hk] at h1
    rw [List.getElem?_append_right (by simpa using hk), List.length_map] at h2
    match hq : k - toks.length with
    | 0 =>
      rw [hq] at h1 h2
      injection h1 with h1
      injection h2 with h2
      subst h1 h2
      exact ⟨rfl, rfl, rfl, fun h => by cases h⟩
    | q + 1 =>
      rw [hq] at h1
      simp at h1
end Go.Proofs.YtifabkoomojklaaGreatDoor
namespace Go.Proofs.YtifabkoomojklaaGreatDoor
open Go.RowKit

/-- What stands behind a token, and how many lines it ends. -/
def sepL (q : Nat) : Bytes := if q = 0 then [32, 35, 32, 97, 32, 99, 111, 109, 109, 101, 110, 116, 59, 32, 120, 32, 61, 32, 49, 10] else if q = 1 then [10, 10] else [9, 32]
def sepN (q : Nat) : Nat := if q = 0 then 1 else if q = 1 then 2 else 0
theorem scan_sep (q : Nat) (r : Bytes) (line : Nat) : scan line (sepL q ++ r) = scan (line + sepN q) r := by
  unfold sepL sepN
  split
  · simp only [List.cons_append, List.nil_append]
    rw [scan, if_neg (by decide), if_pos (by decide), scan, if_neg (by decide), if_neg (by decide), if_pos (by decide)]
    rw [show List.dropWhile (fun x : UInt8 => decide (x.toNat ≠ 10)) (32 :: 97 :: 32 :: 99 :: 111 :: 109 :: 109 :: 101 :: 110 :: 116 :: 59 :: 32 :: 120 :: 32 :: 61 :: 32 :: 49 :: 10 :: r) = 10 :: r by simp [List.dropWhile]]
    rw [scan, if_pos (by decide)]
  · split
    · simp only [List.cons_append, List.nil_append]
      rw [scan, if_pos (by decide), scan, if_pos (by decide)]
    · simp only [List.cons_append, List.nil_append]
      rw [scan, if_neg (by decide), if_pos (by decide), scan, if_neg (by decide), if_pos (by decide)]
      rfl
theorem sep_gap (q : Nat) (r : Bytes) : Gapped (sepL q ++ r) := by
  intro c r' h
  unfold sepL at h
  split at h
  · injection h with h; exact .inl (by rw [← h]; rfl)
  · split at h
    · injection h with h; exact .inr (.inr (by rw [← h]; rfl))
    · injection h with h; exact .inr (.inl (by rw [← h]; rfl))
def spc : List (Tok × Nat) → Bytes
  | [] => []
  | (t, q) :: r => t.text ++ sepL q ++ spc r
def spT (line : Nat) : List (Tok × Nat) → List Tok
  | [] => [⟨0, line, 0, []⟩]
  | (t, q) :: r => ⟨t.kind, line, t.value, t.text⟩ :: spT (line + sepN q) r
def spN (line : Nat) : List (Tok × Nat) → Nat
  | [] => line
  | (_, q) :: r => spN (line + sepN q) r
theorem scan_spc : ∀ (l : List (Tok × Nat)) (line : Nat), (∀ p ∈ l, TokOk p.1) → scan line (spc l) = .ok (spT line l)
  | [], line, _ => by rw [spc, scan]; rfl
  | (t, q) :: r, line, h => by
    have ih := scan_spc r (line + sepN q) (fun p hp => h p (by simp [hp]))
    rw [spc, List.append_assoc, scan_txt (h (t, q) (by simp)) (sep_gap q _), scan_sep, ih]
    rfl
theorem spc_snoc : ∀ (l : List (Tok × Nat)) (t : Tok) (q : Nat), spc (l ++ [(t, q)]) = spc l ++ t.text ++ sepL q
  | [], t, q => by simp [spc]
  | (a, p) :: r, t, q => by simp [spc, spc_snoc r t q]
theorem spN_snoc : ∀ (l : List (Tok × Nat)) (line : Nat) (t : Tok) (q : Nat), spN line (l ++ [(t, q)]) = spN line l + sepN q
  | [], _, _, _ => rfl
  | (_, _) :: r, _, t, q => spN_snoc r _ t q
theorem spT_len : ∀ (l : List (Tok × Nat)) (line : Nat), (spT line l).length = l.length + 1
  | [], _ => rfl
  | (_, q) :: r, line => by simp [spT, spT_len r]
theorem spT_get : ∀ (l : List (Tok × Nat)) (line k : Nat) (p : Tok × Nat), l[k]? = some p → (spT line l)[k]? = some ⟨p.1.kind, spN line (l.take k), p.1.value, p.1.text⟩
  | [], _, k, p, h => by simp at h
  | (t, q) :: r, line, 0, p, h => by simp at h; subst h; simp [spT, spN]
  | (t, q) :: r, line, k + 1, p, h => by
    simp only [List.getElem?_cons_succ] at h
    have := spT_get r (line + sepN q) k p h
    simpa [spT, spN] using this
theorem spT_last : ∀ (l : List (Tok × Nat)) (line : Nat), (spT line l)[l.length]? = some ⟨0, spN line l, 0, []⟩
  | [], _ => rfl
  | (t, q) :: r, line => by simpa [spT, spN] using spT_last r (line + sepN q)
theorem spT_same (l : List (Tok × Nat)) (line e : Nat) : SameT false (l.map (·.1) ++ [⟨0, e, 0, []⟩]) (spT line l) := by
  refine ⟨by simp [spT_len], fun k ta tb h1 h2 => ?_⟩
  rcases Nat.lt_or_ge k l.length with hk | hk
  · rw [List.getElem?_append_left (by simpa using hk), List.getElem?_map, List.getElem?_eq_getElem hk] at h1
    injection h1 with h1
    rw [spT_get l line k _ (List.getElem?_eq_getElem hk)] at h2
    injection h2 with h2
    subst h1 h2
    exact ⟨rfl, rfl, rfl, fun h => by cases h⟩
  · rcases Nat.lt_or_ge l.length k with hk2 | hk2
    · rw [List.getElem?_eq_none (by simp; omega)] at h1
      cases h1
    · have : k = l.length := by omega
      subst this
      rw [spT_last] at h2
      rw [List.getElem?_append_right (by simp)] at h1
      simp at h1
      injection h2 with h2
      subst h1 h2
      exact ⟨rfl, rfl, rfl, fun h => by cases h⟩
end Go.Proofs.YtifabkoomojklaaGreatDoor
namespace Go.Proofs.YtifabkoomojklaaGreatDoor
open Go.RowKit

theorem scan_size (n : Nat) : ∀ (l : Bytes) (line : Nat) (ts : List Tok), l.length ≤ n → scan line l = .ok ts → (ts.map (·.text.length)).sum ≤ l.length ∧ ts.length ≤ l.length + 1 := by
  induction n with
  | zero =>
    intro l line ts hl h
    have : l = [] := List.eq_nil_of_length_eq_zero (by omega)
    subst this
    rw [scan] at h
    injection h with h
    subst h
    simp
  | succ n ih =>
    intro l line ts hl h
    match l with
    | [] =>
      rw [scan] at h
      injection h with h
      subst h
      simp
    | c :: r =>
      simp only [List.length_cons] at hl ⊢
      rw [scan] at h
      split at h
      · have := ih _ _ _ (by omega) h
        omega
      split at h
      · have := ih _ _ _ (by omega) h
        omega
      split at h
      · have hd := List.Sublist.length_le (List.dropWhile_sublist (fun x : UInt8 => decide (x.toNat ≠ 10)) (l := r))
        have := ih _ _ _ (by omega) h
        omega
      split at h
      · cases h
      rename_i k v m hm
      split at h
      · cases h
      rename_i us hus
      injection h with h
      have h1 := ih _ _ _ (by simp; omega) hus
      rw [next_eq] at hm
      obtain ⟨p, hp, he⟩ := Option.map_eq_some_iff.1 hm
      obtain ⟨k', v'⟩ := p
      simp only [Prod.mk.injEq] at he
      obtain ⟨rfl, rfl, rfl⟩ := he
      have hpos := plen_pos hp
      have hle := plen_le (c :: r)
      simp only [List.length_cons] at hle
      rw [← h]
      simp only [List.map_cons, List.sum_cons, List.length_cons, List.length_take, List.length_drop] at h1 ⊢
      omega
theorem join_len : ∀ xs : List Bytes, (Lib.join xs [32]).length ≤ (xs.map List.length).sum + xs.length
  | [] => by simp [Lib.join, List.intercalate]
  | [a] => by simp [Lib.join, List.intercalate]
  | a :: b :: r => by
    have ih := join_len (b :: r)
    have e : Lib.join (a :: b :: r) [32] = a ++ (32 :: Lib.join (b :: r) [32]) := by simp [Lib.join, List.intercalate]
    rw [e]
    simp at ih ⊢
    omega
theorem txs_sum : ∀ ts : List Tok, (((txs ts).map (·.data.toList)).map List.length).sum ≤ (ts.map (·.text.length)).sum ∧ (txs ts).length ≤ ts.length
  | [] => by simp [txs]
  | t :: r => by
    have ih := txs_sum r
    simp only [txs] at ih ⊢
    by_cases h0 : t.kind = 0
    · rw [List.filter_cons_of_neg (by simp [h0])]
      simp only [List.map_cons, List.sum_cons, List.length_cons]
      omega
    · rw [List.filter_cons_of_pos (by simp [h0])]
      simp only [List.map_cons, List.sum_cons, List.length_cons]
      omega
theorem joinL_size {l : Bytes} {ts : List Tok} {line : Nat} (h : scan line l = .ok ts) : (joinL ts).length ≤ 2 * l.length + 1 ∧ ts.length ≤ l.length + 1 := by
  have h1 := scan_size _ l line ts (Nat.le_refl _) h
  have h2 := txs_sum ts
  have h3 := join_len ((txs ts).map (·.data.toList))
  have h4 : ((txs ts).map (·.data.toList)).length = (txs ts).length := by simp
  unfold joinL
  omega
end Go.Proofs.YtifabkoomojklaaGreatDoor
namespace Go.Proofs.YtifabkoomojklaaGreatDoor
open Go.RowKit

/-- A byte that ends what stands ahead of it. -/
def stopB (c : UInt8) : Bool := !wordy c && decide (c.toNat ≠ 61) && decide (c.toNat ≠ 38) && decide (c.toNat ≠ 124)
def Stop (r : Bytes) : Prop := ∀ c r', r = c :: r' → stopB c = true
/-- A text that gives tokens if a byte that ends them follows; one that gives tokens whatever follows. -/
def Sc (l : Bytes) : Prop := ∀ r line, Stop r → ∃ toks n, scan line (l ++ r) = ext toks (scan n r)
def Sa (l : Bytes) : Prop := ∀ r line, ∃ toks n, scan line (l ++ r) = ext toks (scan n r)
theorem Sa.sc {l : Bytes} (h : Sa l) : Sc l := fun r line _ => h r line
theorem Sc.nil : Sc [] := fun r line _ => ⟨[], line, by rw [ext_nil]; rfl⟩
theorem Sa.nil : Sa [] := fun r line => ⟨[], line, by rw [ext_nil]; rfl⟩
theorem Sa.append {a b : Bytes} (ha : Sa a) (hb : Sa b) : Sa (a ++ b) := fun r line => by
  obtain ⟨t1, n1, e1⟩ := ha (b ++ r) line
  obtain ⟨t2, n2, e2⟩ := hb r n1
  exact ⟨t1 ++ t2, n2, by rw [List.append_assoc, e1, e2, ext_ext]⟩
theorem Sa.then {a b : Bytes} (ha : Sa a) (hb : Sc b) : Sc (a ++ b) := fun r line hr => by
  obtain ⟨t1, n1, e1⟩ := ha (b ++ r) line
  obtain ⟨t2, n2, e2⟩ := hb r n1 hr
  exact ⟨t1 ++ t2, n2, by rw [List.append_assoc, e1, e2, ext_ext]⟩
/-- A text that begins with a byte that ends what stands ahead of it. -/
def St0 (l : Bytes) : Bool := match l with | [] => false | c :: _ => stopB c
theorem stop_of {l r : Bytes} (h : St0 l = true) : Stop (l ++ r) := by
  cases l with
  | nil => cases h
  | cons a l => intro c r' e; injection e with e; subst e; exact h
theorem Sc.append {a b : Bytes} (ha : Sc a) (h0 : St0 b = true) (hb : Sa b) : Sa (a ++ b) := fun r line => by
  obtain ⟨t1, n1, e1⟩ := ha (b ++ r) line (stop_of h0)
  obtain ⟨t2, n2, e2⟩ := hb r n1
  exact ⟨t1 ++ t2, n2, by rw [List.append_assoc, e1, e2, ext_ext]⟩
theorem Sc.then {a b : Bytes} (ha : Sc a) (h0 : St0 b = true) (hb : Sc b) : Sc (a ++ b) := fun r line hr => by
  obtain ⟨t1, n1, e1⟩ := ha (b ++ r) line (stop_of h0)
  obtain ⟨t2, n2, e2⟩ := hb r n1 hr
  exact ⟨t1 ++ t2, n2, by rw [List.append_assoc, e1, e2, ext_ext]⟩
theorem sa_blank {c : UInt8} (h : Gap c) : Sa [c] := fun r line => by
  rcases h with h | h | h
  · exact ⟨[], line, by rw [List.singleton_append, scan, if_neg (by omega), if_pos (.inl h), ext_nil]⟩
  · exact ⟨[], line, by rw [List.singleton_append, scan, if_neg (by omega), if_pos (.inr h), ext_nil]⟩
  · exact ⟨[], line + 1, by rw [List.singleton_append, scan, if_pos h, ext_nil]⟩
/-- A token of a length that is known, with something behind it. -/
theorem scan_len {c : UInt8} {l r : Bytes} {k v line : Nat} (h10 : c.toNat ≠ 10) (h32 : ¬(c.toNat = 32 ∨ c.toNat = 9)) (h35 : c.toNat ≠ 35) (hp : plen (c :: l ++ r) = (c :: l).length) (hm : pmean (c :: l) = some (k, v)) : scan line (c :: l ++ r) = ext [⟨k, line, v, c :: l⟩] (scan line r) := by
  have hn : rnext (c :: l ++ r) = some (k, v, (c :: l).length) := by rw [next_eq, hp, List.take_left', hm]; rfl; rfl
  rw [List.cons_append] at hn ⊢
  rw [scan, if_neg h10, if_neg h32, if_neg h35, hn]
  simp only [List.length_cons, Nat.add_sub_cancel, List.drop_left, List.take_succ_cons, List.take_left]
  cases scan line r <;> rfl
/-- A sign of one byte that begins no longer one. -/
theorem sa_sign1 {c : UInt8} (h : (letter c || digit c) = false) (h10 : c.toNat ≠ 10) (h32 : ¬(c.toNat = 32 ∨ c.toNat = 9)) (h35 : c.toNat ≠ 35) (h1 : isS [c] = true) (h2 : ∀ x, isS [c, x] = false) : Sa [c] := fun r line => by
  refine ⟨_, line, scan_len (k := 4) (v := 0) (l := []) h10 h32 h35 ?_ (by simp [pmean, h1])⟩
  cases r with
  | nil => simp [plen, h, h1]
  | cons x r' => simp [plen, h, h1, h2]
/-- A sign of one byte, given what follows. -/
theorem sc_sign1 {c : UInt8} (h : (letter c || digit c) = false) (h10 : c.toNat ≠ 10) (h32 : ¬(c.toNat = 32 ∨ c.toNat = 9)) (h35 : c.toNat ≠ 35) (h1 : isS [c] = true) {l : Bytes} (h2 : ∀ x l', l = x :: l' → isS [c, x] = false) {r : Bytes} (h0 : l ≠ []) (line : Nat) : ∃ toks, scan line (c :: (l ++ r)) = ext toks (scan line (l ++ r)) := by
  refine ⟨_, scan_len (k := 4) (v := 0) (l := []) (r := l ++ r) h10 h32 h35 ?_ (by simp [pmean, h1])⟩
  cases l with
  | nil => exact absurd rfl h0
  | cons x l' => simp [plen, h, h1, h2 x l' rfl]
/-- A sign of two bytes. -/
theorem sa_sign2 {c d : UInt8} (h : (letter c || digit c) = false) (h10 : c.toNat ≠ 10) (h32 : ¬(c.toNat = 32 ∨ c.toNat = 9)) (h35 : c.toNat ≠ 35) (h1 : isS [c, d] = true) : Sa [c, d] := fun r line =>
  ⟨_, line, scan_len (k := 4) (v := 0) (l := [d]) h10 h32 h35 (by simp [plen, h, h1]) (by simp [pmean, h1])⟩
theorem tw_stop {l r : Bytes} (hr : Stop r) (h : ∀ c ∈ l, wordy c = true) : (l ++ r).takeWhile wordy = l := by
  induction l with
  | nil =>
    cases r with
    | nil => rfl
    | cons c r' =>
      have := hr c r' rfl
      simp only [stopB, Bool.and_eq_true, Bool.not_eq_true'] at this
      simp [this.1.1.1]
  | cons a l ih => simp [h a (by simp), ih (fun c hc => h c (by simp [hc]))]
theorem letter_far {c : UInt8} (h : (letter c || digit c) = true) : c.toNat ≠ 10 ∧ ¬(c.toNat = 32 ∨ c.toNat = 9) ∧ c.toNat ≠ 35 := by
  simp only [Bool.or_eq_true] at h
  rcases h with h | h
  · have := letter_bd h; omega
  · have := digit_bd h; omega
/-- A word, a name or a number. -/
theorem sc_word {c : UInt8} {l : Bytes} (h : (letter c || digit c) = true) (hw : ∀ x ∈ c :: l, wordy x = true) (hm : (pmean (c :: l)).isSome = true) : Sc (c :: l) := fun r line hr => by
  obtain ⟨⟨k, v⟩, hm⟩ := Option.isSome_iff_exists.1 hm
  have hf := letter_far h
  refine ⟨_, line, scan_len hf.1 hf.2.1 hf.2.2 ?_ hm⟩
  have : plen (c :: l ++ r) = ((c :: l ++ r).takeWhile wordy).length := by simp only [List.cons_append, plen, h, if_true]
  rw [this, tw_stop hr hw]
theorem isName_sc {l : Bytes} (h : isName l = true) : Sc l ∧ ∃ c r, l = c :: r ∧ letter c = true := by
  cases l with
  | nil => cases h
  | cons c r =>
    simp only [isName, Bool.and_eq_true, decide_eq_true_eq, Bool.not_eq_true'] at h
    obtain ⟨⟨⟨h1, h2⟩, h3⟩, h4⟩ := h
    have hl : (letter c || digit c) = true := by simp [h1]
    refine ⟨sc_word hl (fun x hx => ?_) ?_, c, r, rfl, h1⟩
    · rcases List.mem_cons.1 hx with rfl | hx
      · simp [wordy, h1]
      · exact List.all_eq_true.1 h2 x hx
    · have hd := letter_not_digit h1
      simp [pmean, isS_not hl, h3, hd]
      omega
end Go.Proofs.YtifabkoomojklaaGreatDoor
namespace Go.Proofs.YtifabkoomojklaaGreatDoor
open Go.RowKit

theorem num_snoc (c : UInt8) : ∀ (l : Bytes) (a : Nat), num a (l ++ [c]) = match num a l with | none => none | some b => if (9223372036854775807 - (c.toNat - 48)) / 10 < b then none else some (10 * b + (c.toNat - 48))
  | [], a => by simp [num]
  | x :: r, a => by
    simp only [List.cons_append, num]
    split
    · rfl
    · exact num_snoc c r _
theorem digit_of (n : Nat) : (UInt8.ofNat (48 + n % 10)).toNat = 48 + n % 10 := by simp; omega
theorem numL_num (n : Nat) : n < 9223372036854775808 → num 0 (numL n) = some n := by
  induction n using Nat.strongRecOn with
  | ind n ih =>
    intro h
    rw [numL]
    split
    · rename_i h10
      have hd := digit_of n
      rw [Nat.mod_eq_of_lt h10] at hd
      simp only [num, hd]
      rw [if_neg (by omega)]
      simp
    · rename_i h10
      rw [num_snoc, ih (n / 10) (by omega) (by omega)]
      simp only [digit_of]
      rw [if_neg (by omega)]
      congr 1
      omega
theorem numL_digits (n : Nat) : ∀ c ∈ numL n, digit c = true := by
  induction n using Nat.strongRecOn with
  | ind n ih =>
    intro c hc
    rw [numL] at hc
    split at hc
    · rename_i h10
      have hd := digit_of n
      rw [Nat.mod_eq_of_lt h10] at hd
      simp only [List.mem_singleton] at hc
      subst hc
      simp only [digit, hd, Bool.and_eq_true, decide_eq_true_eq]
      omega
    · rcases List.mem_append.1 hc with hc | hc
      · exact ih (n / 10) (by omega) c hc
      · simp only [List.mem_singleton] at hc
        subst hc
        simp only [digit, digit_of, Bool.and_eq_true, decide_eq_true_eq]
        omega
theorem numL_head (n : Nat) : ∃ c r, numL n = c :: r ∧ (1 ≤ n → c.toNat ≠ 48) ∧ (n = 0 → r = []) := by
  induction n using Nat.strongRecOn with
  | ind n ih =>
    rw [numL]
    split
    · rename_i h10
      have hd := digit_of n
      rw [Nat.mod_eq_of_lt h10] at hd
      exact ⟨_, [], rfl, fun h => by rw [hd]; omega, fun _ => rfl⟩
    · obtain ⟨c, r, e, h1, _⟩ := ih (n / 10) (by omega)
      exact ⟨c, r ++ [UInt8.ofNat (48 + n % 10)], by rw [e]; rfl, fun _ => h1 (by omega), fun h => by omega⟩
theorem numL_sc {n : Nat} (h : n < 9223372036854775808) : Sc (numL n) := by
  obtain ⟨c, r, e, h1, h2⟩ := numL_head n
  have hd : ∀ x ∈ c :: r, digit x = true := by rw [← e]; exact numL_digits n
  have hc := hd c (by simp)
  have hl : (letter c || digit c) = true := by simp [hc]
  rw [e]
  refine sc_word hl (fun x hx => by simp [wordy, hd x hx]) ?_
  have hv : val (c :: r) = some n := by rw [val_num hc (fun x hx => hd x (by simp [hx])), ← e, numL_num n h]
  have hz : (decide (1 < (c :: r).length) && decide (c.toNat = 48)) = false := by
    rcases Nat.eq_zero_or_pos n with h0 | h0
    · rw [h2 h0]; simp
    · simp [h1 h0]
  simp only [pmean, isS_not hl, isW_not hc, hc, hz, hv]
  rfl
theorem sc_sg {c : UInt8} (h : (letter c || digit c) = false) (h10 : c.toNat ≠ 10) (h32 : ¬(c.toNat = 32 ∨ c.toNat = 9)) (h35 : c.toNat ≠ 35) (h1 : isS [c] = true) (h2 : ∀ x, stopB x = true → isS [c, x] = false) : Sc [c] := fun r line hr => by
  refine ⟨_, line, scan_len (k := 4) (v := 0) (l := []) h10 h32 h35 ?_ (by simp [pmean, h1])⟩
  cases r with
  | nil => simp [plen, h, h1]
  | cons x r' => simp [plen, h, h1, h2 x (hr x r' rfl)]
theorem isS_two {c x : UInt8} (h : isS [c, x] = true) : (c = 60 ∧ x = 61) ∨ (c = 61 ∧ x = 61) ∨ (c = 33 ∧ x = 61) ∨ (c = 38 ∧ x = 38) ∨ (c = 124 ∧ x = 124) := by
  simp only [isS, signsL, List.contains_iff_mem] at h
  simpa using h
theorem stop_not {c x : UInt8} (h : stopB x = true) : isS [c, x] = false := by
  cases e : isS [c, x] with
  | false => rfl
  | true =>
    simp only [stopB, Bool.and_eq_true, decide_eq_true_eq] at h
    rcases isS_two e with ⟨_, e⟩ | ⟨_, e⟩ | ⟨_, e⟩ | ⟨_, e⟩ | ⟨_, e⟩ <;> subst e <;> simp at h
theorem sc1 {c : UInt8} (h : (letter c || digit c) = false) (h10 : c.toNat ≠ 10) (h32 : ¬(c.toNat = 32 ∨ c.toNat = 9)) (h35 : c.toNat ≠ 35) (h1 : isS [c] = true) : Sc [c] := sc_sg h h10 h32 h35 h1 fun _ hx => stop_not hx
theorem sa1 {c : UInt8} (h : (letter c || digit c) = false) (h10 : c.toNat ≠ 10) (h32 : ¬(c.toNat = 32 ∨ c.toNat = 9)) (h35 : c.toNat ≠ 35) (h1 : isS [c] = true) (h2 : c ≠ 60 ∧ c ≠ 61 ∧ c ≠ 33 ∧ c ≠ 38 ∧ c ≠ 124) : Sa [c] := sa_sign1 h h10 h32 h35 h1 fun x => by
  cases e : isS [c, x] with
  | false => rfl
  | true => rcases isS_two e with ⟨e, _⟩ | ⟨e, _⟩ | ⟨e, _⟩ | ⟨e, _⟩ | ⟨e, _⟩ <;> subst e <;> simp at h2
theorem sp : Sa [32] := sa_blank (.inl rfl)
theorem tab : Sa [9] := sa_blank (.inr (.inl rfl))
theorem nl : Sa [10] := sa_blank (.inr (.inr rfl))
theorem lp : Sa [40] := sa1 (by decide) (by decide) (by decide) (by decide) (by decide) (by decide)
theorem rp : Sa [41] := sa1 (by decide) (by decide) (by decide) (by decide) (by decide) (by decide)
theorem lb' : Sa [91] := sa1 (by decide) (by decide) (by decide) (by decide) (by decide) (by decide)
theorem rb' : Sa [93] := sa1 (by decide) (by decide) (by decide) (by decide) (by decide) (by decide)
theorem lc : Sa [123] := sa1 (by decide) (by decide) (by decide) (by decide) (by decide) (by decide)
theorem rc : Sa [125] := sa1 (by decide) (by decide) (by decide) (by decide) (by decide) (by decide)
theorem comma : Sa [44] := sa1 (by decide) (by decide) (by decide) (by decide) (by decide) (by decide)
theorem semi : Sa [59] := sa1 (by decide) (by decide) (by decide) (by decide) (by decide) (by decide)
theorem minus : Sa [45] := sa1 (by decide) (by decide) (by decide) (by decide) (by decide) (by decide)
theorem eqs : Sa [32, 61, 32] := sp.append ((sc1 (c := 61) (by decide) (by decide) (by decide) (by decide) (by decide)).append (b := [32]) (by decide) sp)
/-- A binary sign between spaces. -/
theorem sa_bin {o : Int} (h : 3 ≤ o ∧ o ≤ 11) : Sa ([32] ++ signL o ++ [32]) := by
  have hc : o = 3 ∨ o = 4 ∨ o = 5 ∨ o = 6 ∨ o = 7 ∨ o = 8 ∨ o = 9 ∨ o = 10 ∨ o = 11 := by omega
  rcases hc with rfl | rfl | rfl | rfl | rfl | rfl | rfl | rfl | rfl
  · exact (sp.append (sa1 (c := 43) (by decide) (by decide) (by decide) (by decide) (by decide) (by decide))).append sp
  · exact (sp.append minus).append sp
  · exact (sp.append (sa1 (c := 42) (by decide) (by decide) (by decide) (by decide) (by decide) (by decide))).append sp
  · exact (sp.append (sa1 (c := 47) (by decide) (by decide) (by decide) (by decide) (by decide) (by decide))).append sp
  · exact (sp.append (sa1 (c := 37) (by decide) (by decide) (by decide) (by decide) (by decide) (by decide))).append sp
  · exact (sp.then (sc1 (c := 60) (by decide) (by decide) (by decide) (by decide) (by decide))).append (b := [32]) (by decide) sp
  · exact (sp.append (sa_sign2 (c := 60) (d := 61) (by decide) (by decide) (by decide) (by decide) (by decide))).append sp
  · exact (sp.append (sa_sign2 (c := 61) (d := 61) (by decide) (by decide) (by decide) (by decide) (by decide))).append sp
  · exact (sp.append (sa_sign2 (c := 33) (d := 61) (by decide) (by decide) (by decide) (by decide) (by decide))).append sp
/-- What does not begin with '='. -/
def NoEq (l : Bytes) : Prop := ∃ c r, l = c :: r ∧ c.toNat ≠ 61
theorem sc_unary {o : Int} {l : Bytes} (h : 1 ≤ o ∧ o ≤ 2) (hl : Sc l) (h0 : NoEq l) : Sc (signL o ++ l) := by
  have hc : o = 1 ∨ o = 2 := by omega
  rcases hc with rfl | rfl
  · exact minus.then hl
  · intro r line hr
    obtain ⟨toks, n, e⟩ := hl r line hr
    obtain ⟨c, q, rfl, hne⟩ := h0
    obtain ⟨t1, e1⟩ := sc_sign1 (c := 33) (by decide) (by decide) (by decide) (by decide) (by decide) (l := c :: q) (fun x l' hx => by
      injection hx with hx
      subst hx
      cases e : isS [33, c] with
      | false => rfl
      | true => rcases isS_two e with ⟨h1, _⟩ | ⟨h1, _⟩ | ⟨_, h2⟩ | ⟨h1, _⟩ | ⟨h1, _⟩ <;> (first | exact absurd h1 (by decide) | (subst h2; simp at hne))) (r := r) (by simp) line
    exact ⟨t1 ++ toks, n, by
      show scan line (33 :: (c :: q ++ r)) = _
      rw [e1, e, ext_ext]⟩
theorem paren_sc {l : Bytes} (h : Sc l) : Sa (40 :: (l ++ [41])) := by
  have := lp.append (h.append (b := [41]) (by decide) rp)
  simpa using this
theorem read_sc : Sc [114, 101, 97, 100] := sc_word (by decide) (by decide) (by decide)
theorem inter_sc : ∀ (l : List Bytes), (∀ x ∈ l, Sc x) → Sc (([44, 32] : Bytes).intercalate l)
  | [], _ => by simpa [List.intercalate] using Sc.nil
  | [a], h => by simpa [List.intercalate] using h a (by simp)
  | a :: b :: r, h => by
    have ih := inter_sc (b :: r) (fun x hx => h x (by simp [hx]))
    rw [inter_cons2, List.append_assoc]
    exact (h a (by simp)).then (b := [44, 32] ++ ([44, 32] : Bytes).intercalate (b :: r)) rfl ((comma.append sp).then ih)
theorem noEq_letter {l : Bytes} (h : ∃ c r, l = c :: r ∧ letter c = true) : NoEq l := by
  obtain ⟨c, r, rfl, h⟩ := h
  have := letter_bd h
  exact ⟨c, r, rfl, by omega⟩
theorem noEq_append {a b : Bytes} (h : NoEq a) : NoEq (a ++ b) := by
  obtain ⟨c, r, rfl, h⟩ := h
  exact ⟨c, r ++ b, rfl, h⟩
theorem leaf_sc {d : Nat} {k o a l : Int} {s : ByteArray} (h0 : 0 ≤ a ∧ a < 9223372036854775808) (hk : k = 12 ∨ (k = 13 ∧ GoodN s) ∨ k = 1 ∨ (k = 11 ∧ GoodN s)) : Sc (fmtE (d + 1) (.mk k o a l s [])) ∧ NoEq (fmtE (d + 1) (.mk k o a l s [])) := by
  rcases hk with rfl | ⟨rfl, hs⟩ | rfl | ⟨rfl, hs⟩
  · have e : fmtE (d + 1) (.mk 12 o a l s []) = [114, 101, 97, 100] := by simp [fmtE]
    rw [e]
    exact ⟨read_sc, 114, _, rfl, by decide⟩
  · have e : fmtE (d + 1) (.mk 13 o a l s []) = s.data.toList := by simp [fmtE]
    rw [e]
    exact ⟨(isName_sc hs.2).1, noEq_letter (isName_sc hs.2).2⟩
  · have e : fmtE (d + 1) (.mk 1 o a l s []) = numL (max a 0).toNat := by simp [fmtE]
    rw [e]
    refine ⟨numL_sc (by omega), ?_⟩
    obtain ⟨c, r, e2, _⟩ := numL_head (max a 0).toNat
    have := digit_bd (numL_digits (max a 0).toNat c (by rw [e2]; simp))
    exact ⟨c, r, e2, by omega⟩
  · have e : fmtE (d + 1) (.mk 11 o a l s []) = 38 :: s.data.toList := by simp [fmtE]
    rw [e]
    refine ⟨fun r line hr => ?_, 38, _, rfl, by decide⟩
    obtain ⟨hsc, c, q, e3, hc⟩ := isName_sc hs.2
    obtain ⟨toks, n, e4⟩ := hsc r line hr
    obtain ⟨t1, e1⟩ := sc_sign1 (c := 38) (by decide) (by decide) (by decide) (by decide) (by decide) (l := s.data.toList) (fun x l' hx => by
      rw [e3] at hx
      injection hx with hx
      subst hx
      have hb := letter_bd hc
      cases e : isS [38, c] with
      | false => rfl
      | true => rcases isS_two e with ⟨h1, _⟩ | ⟨h1, _⟩ | ⟨h1, _⟩ | ⟨_, h2⟩ | ⟨h1, _⟩ <;> (first | exact absurd h1 (by decide) | (subst h2; simp at hb))) (r := r) (by rw [e3]; simp) line
    exact ⟨t1 ++ toks, n, by
      show scan line (38 :: (s.data.toList ++ r)) = _
      rw [e1, e4, ext_ext]⟩
end Go.Proofs.YtifabkoomojklaaGreatDoor
namespace Go.Proofs.YtifabkoomojklaaGreatDoor
open Go.RowKit

/-- An operand. -/
theorem opd_sc {d : Nat} {x : Ex} (h : Sc (fmtE d x) ∧ NoEq (fmtE d x)) : Sc (if compK x.kind then 40 :: (fmtE d x ++ [41]) else fmtE d x) ∧ NoEq (if compK x.kind then 40 :: (fmtE d x ++ [41]) else fmtE d x) := by
  split
  · exact ⟨(paren_sc h.1).sc, 40, _, rfl, by decide⟩
  · exact h
theorem lst_sc {d : Nat} {l : List Ex} (h : ∀ x ∈ l, Sc (fmtE d x)) : Sa (40 :: (([44, 32] : Bytes).intercalate (l.map (fmtE d)) ++ [41])) :=
  paren_sc (inter_sc _ (fun x hx => by
    obtain ⟨y, hy, rfl⟩ := List.mem_map.1 hx
    exact h y hy))
theorem andor_sc {a b s : Bytes} (ha : Sc a ∧ NoEq a) (hb : Sc b) (hs : Sa s) (h0 : St0 s = true) : Sc (a ++ s ++ b) ∧ NoEq (a ++ s ++ b) := by
  refine ⟨?_, by rw [List.append_assoc]; exact noEq_append ha.2⟩
  exact (ha.1.append h0 hs).then hb
theorem fmtE_sc : ∀ (d : Nat) (x : Ex), GE d x → Sc (fmtE (d + 1) x) ∧ NoEq (fmtE (d + 1) x)
  | 0, .mk k o a l s xs, ⟨_, _, _, h3, h4, _, hxs, hk⟩ => by subst hxs; exact leaf_sc ⟨h3, h4⟩ hk
  | d + 1, .mk k o a l s xs, ⟨_, _, _, h3, h4, _, hk⟩ => by
    rcases hk with ⟨rfl, hk⟩ | ⟨hx, hk⟩
    · exact leaf_sc ⟨h3, h4⟩ hk
    have ih : ∀ x ∈ xs, Sc (fmtE (d + 1) x) ∧ NoEq (fmtE (d + 1) x) := fun x hm => fmtE_sc d x (hx x hm)
    have and2 : Sa ([32, 38, 38, 32] : Bytes) := (sp.append (sa_sign2 (c := 38) (d := 38) (by decide) (by decide) (by decide) (by decide) (by decide))).append sp
    have or2 : Sa ([32, 124, 124, 32] : Bytes) := (sp.append (sa_sign2 (c := 124) (d := 124) (by decide) (by decide) (by decide) (by decide) (by decide))).append sp
    rcases hk with ⟨rfl, ho1, ho2, hl⟩ | ⟨rfl, ho1, hl⟩ | ⟨rfl, hl⟩ | ⟨rfl, hl⟩ | ⟨rfl, hs, hl⟩ | ⟨rfl, hs, hl⟩ | ⟨rfl, hl, _⟩
    · obtain ⟨x, rfl⟩ := len_one hl
      have hx1 := opd_sc (ih x (by simp))
      have e : fmtE (d + 1 + 1) (.mk 5 o a l s [x]) = signL o ++ (if compK x.kind then 40 :: (fmtE (d + 1) x ++ [41]) else fmtE (d + 1) x) := by simp [fmtE]
      rw [e]
      refine ⟨sc_unary ⟨ho1, ho2⟩ hx1.1 hx1.2, ?_⟩
      have hc : o = 1 ∨ o = 2 := by omega
      rcases hc with rfl | rfl
      · exact ⟨45, _, rfl, by decide⟩
      · exact ⟨33, _, rfl, by decide⟩
    · obtain ⟨x, y, rfl⟩ := len_two hl
      have hx1 := opd_sc (ih x (by simp))
      have hx2 := opd_sc (ih y (by simp))
      have e : fmtE (d + 1 + 1) (.mk 6 o a l s [x, y]) = (if compK x.kind then 40 :: (fmtE (d + 1) x ++ [41]) else fmtE (d + 1) x) ++ ([32] ++ signL o ++ [32]) ++ (if compK y.kind then 40 :: (fmtE (d + 1) y ++ [41]) else fmtE (d + 1) y) := by simp [fmtE]
      rw [e]
      exact andor_sc hx1 hx2.1 (sa_bin (by omega)) rfl
    · obtain ⟨x, y, rfl⟩ := len_two hl
      have hx1 := opd_sc (ih x (by simp))
      have hx2 := opd_sc (ih y (by simp))
      have e : fmtE (d + 1 + 1) (.mk 7 o a l s [x, y]) = (if compK x.kind then 40 :: (fmtE (d + 1) x ++ [41]) else fmtE (d + 1) x) ++ [32, 38, 38, 32] ++ (if compK y.kind then 40 :: (fmtE (d + 1) y ++ [41]) else fmtE (d + 1) y) := by simp [fmtE]
      rw [e]
      exact andor_sc hx1 hx2.1 and2 rfl
    · obtain ⟨x, y, rfl⟩ := len_two hl
      have hx1 := opd_sc (ih x (by simp))
      have hx2 := opd_sc (ih y (by simp))
      have e : fmtE (d + 1 + 1) (.mk 8 o a l s [x, y]) = (if compK x.kind then 40 :: (fmtE (d + 1) x ++ [41]) else fmtE (d + 1) x) ++ [32, 124, 124, 32] ++ (if compK y.kind then 40 :: (fmtE (d + 1) y ++ [41]) else fmtE (d + 1) y) := by simp [fmtE]
      rw [e]
      exact andor_sc hx1 hx2.1 or2 rfl
    · obtain ⟨x, rfl⟩ := len_one hl
      have hx1 := ih x (by simp)
      have e : fmtE (d + 1 + 1) (.mk 4 o a l s [x]) = s.data.toList ++ ([91] ++ (fmtE (d + 1) x ++ [93])) := by simp [fmtE]
      rw [e]
      exact ⟨(isName_sc hs.2).1.then rfl (lb'.then (hx1.1.append (b := [93]) rfl rb').sc), noEq_append (noEq_letter (isName_sc hs.2).2)⟩
    · have e : fmtE (d + 1 + 1) (.mk 9 o a l s xs) = s.data.toList ++ (40 :: (([44, 32] : Bytes).intercalate (xs.map (fmtE (d + 1))) ++ [41])) := by simp [fmtE]
      rw [e]
      exact ⟨(isName_sc hs.2).1.then rfl (lst_sc (fun x hm => (ih x hm).1)).sc, noEq_append (noEq_letter (isName_sc hs.2).2)⟩
    · match xs, hl with
      | x :: r, _ =>
        have hx1 := opd_sc (ih x (by simp))
        have hl2 := lst_sc (l := r) (fun y hy => (ih y (by simp [hy])).1)
        have e : fmtE (d + 1 + 1) (.mk 10 o a l s (x :: r)) = (if x.kind = 13 ∨ x.kind = 2 ∨ x.kind = 3 then 40 :: ((if compK x.kind then 40 :: (fmtE (d + 1) x ++ [41]) else fmtE (d + 1) x) ++ [41]) else (if compK x.kind then 40 :: (fmtE (d + 1) x ++ [41]) else fmtE (d + 1) x)) ++ (40 :: (([44, 32] : Bytes).intercalate (r.map (fmtE (d + 1))) ++ [41])) := by simp [fmtE]
        rw [e]
        generalize (if compK x.kind then 40 :: (fmtE (d + 1) x ++ [41]) else fmtE (d + 1) x) = T at hx1
        by_cases hc : x.kind = 13 ∨ x.kind = 2 ∨ x.kind = 3
        · rw [if_pos hc]
          exact ⟨((paren_sc hx1.1).append hl2).sc, 40, _, rfl, by decide⟩
        · rw [if_neg hc]
          exact ⟨hx1.1.then rfl hl2.sc, noEq_append hx1.2⟩
theorem valL_sc {es : List Ex} {i : Nat} (h : ∀ x ∈ es, GE 2 x) : Sc (valL 3 es i) := by
  unfold valL
  split
  · rename_i x hx
    exact (fmtE_sc 2 x (h x (List.mem_of_getElem? hx))).1
  · exact Sc.nil
theorem fm_sa {α : Type} (f : α → Bytes) : ∀ (l : List α), (∀ x ∈ l, Sa (f x)) → Sa (l.flatMap f)
  | [], _ => Sa.nil
  | a :: r, h => by
    rw [List.flatMap_cons]
    exact (h a (by simp)).append (fm_sa f r (fun x hx => h x (by simp [hx])))
theorem word_sp {c : UInt8} {l : Bytes} (h : (letter c || digit c) = true) (hw : ∀ x ∈ c :: l, wordy x = true) (hm : (pmean (c :: l)).isSome = true) : Sa (c :: l ++ [32]) := (sc_word h hw hm).append (b := [32]) rfl sp
/-- A block's beginning and end. -/
theorem begin_sa : Sa ([32, 123, 10] : Bytes) := (sp.append lc).append nl
/-- A statement, given the texts of its blocks. -/
theorem st_sa {B : List St → Bytes → Bytes} {k l : Int} {s : ByteArray} {es : List Ex} {ts us : List St} {ind : Bytes} (he : ∀ x ∈ es, GE 2 x)
    (hk : (k = 1 ∧ GoodN s ∧ es.length = 1 ∧ ts = [] ∧ us = []) ∨ (k = 2 ∧ GoodN s ∧ es.length = 1 ∧ ts = [] ∧ us = []) ∨ (k = 3 ∧ GoodN s ∧ es.length = 2 ∧ ts = [] ∧ us = []) ∨ (k = 4 ∧ s.size = 0 ∧ es.length = 1) ∨ (k = 5 ∧ s.size = 0 ∧ es.length = 1 ∧ us = []) ∨ ((k = 6 ∨ k = 7 ∨ k = 8) ∧ s.size = 0 ∧ es.length = 1 ∧ ts = [] ∧ us = []))
    (hi : Sa ind) (h1 : Sa (B ts (ind ++ [9]))) (h2 : Sa (B us (ind ++ [9]))) : Sa (stL 3 B ind (.mk k l s es ts us)) := by
  have v0 := valL_sc (i := 0) he
  have v1 := valL_sc (i := 1) he
  have end1 : Sa ([59, 10] : Bytes) := semi.append nl
  have blk : Sa ([32, 123, 10] ++ B ts (ind ++ [9]) ++ ind ++ [125]) := ((begin_sa.append h1).append hi).append rc
  rcases hk with ⟨rfl, hs, _⟩ | ⟨rfl, hs, _⟩ | ⟨rfl, hs, _⟩ | ⟨rfl, _⟩ | ⟨rfl, _⟩ | ⟨rfl | rfl | rfl, _⟩
  · have e : stL 3 B ind (.mk 1 l s es ts us) = ind ++ (([118, 97, 114] ++ [32]) ++ (s.data.toList ++ ([32, 61, 32] ++ (valL 3 es 0 ++ [59, 10])))) := by simp [stL]
    rw [e]
    exact hi.append ((word_sp (by decide) (by decide) (by decide)).append ((isName_sc hs.2).1.append rfl (eqs.append (v0.append (b := [59, 10]) rfl end1))))
  · have e : stL 3 B ind (.mk 2 l s es ts us) = ind ++ (s.data.toList ++ ([32, 61, 32] ++ (valL 3 es 0 ++ [59, 10]))) := by simp [stL]
    rw [e]
    exact hi.append ((isName_sc hs.2).1.append rfl (eqs.append (v0.append (b := [59, 10]) rfl end1)))
  · have e : stL 3 B ind (.mk 3 l s es ts us) = ind ++ (s.data.toList ++ ([91] ++ (valL 3 es 0 ++ ([93] ++ [32, 61, 32] ++ (valL 3 es 1 ++ [59, 10]))))) := by simp [stL]
    rw [e]
    exact hi.append ((isName_sc hs.2).1.append rfl (lb'.append (v0.append rfl ((rb'.append eqs).append (v1.append (b := [59, 10]) rfl end1)))))
  · by_cases hu : us.length = 0
    · have e : stL 3 B ind (.mk 4 l s es ts us) = ind ++ (([105, 102] ++ [32]) ++ (valL 3 es 0 ++ (([32, 123, 10] ++ B ts (ind ++ [9]) ++ ind ++ [125]) ++ [10]))) := by simp [stL, hu]
      rw [e]
      exact hi.append ((word_sp (by decide) (by decide) (by decide)).append (v0.append rfl (blk.append nl)))
    · have e : stL 3 B ind (.mk 4 l s es ts us) = ind ++ (([105, 102] ++ [32]) ++ (valL 3 es 0 ++ (([32, 123, 10] ++ B ts (ind ++ [9]) ++ ind ++ [125]) ++ (([32] ++ ([101, 108, 115, 101] ++ [32, 123, 10]) ++ B us (ind ++ [9]) ++ ind ++ [125]) ++ [10])))) := by simp [stL, hu]
      rw [e]
      have els : Sa ([101, 108, 115, 101] ++ [32, 123, 10] : Bytes) := (sc_word (c := 101) (l := [108, 115, 101]) (by decide) (by decide) (by decide)).append (b := [32, 123, 10]) rfl begin_sa
      exact hi.append ((word_sp (by decide) (by decide) (by decide)).append (v0.append rfl (blk.append (((((sp.append els).append h2).append hi).append rc).append nl))))
  · have e : stL 3 B ind (.mk 5 l s es ts us) = ind ++ (([119, 104, 105, 108, 101] ++ [32]) ++ (valL 3 es 0 ++ (([32, 123, 10] ++ B ts (ind ++ [9]) ++ ind ++ [125]) ++ [10]))) := by simp [stL]
    rw [e]
    exact hi.append ((word_sp (by decide) (by decide) (by decide)).append (v0.append rfl (blk.append nl)))
  · have e : stL 3 B ind (.mk 6 l s es ts us) = ind ++ (([114, 101, 116, 117, 114, 110] ++ [32]) ++ (valL 3 es 0 ++ [59, 10])) := by simp [stL]
    rw [e]
    exact hi.append ((word_sp (by decide) (by decide) (by decide)).append (v0.append (b := [59, 10]) rfl end1))
  · have e : stL 3 B ind (.mk 7 l s es ts us) = ind ++ (([112, 114, 105, 110, 116] ++ [32]) ++ (valL 3 es 0 ++ [59, 10])) := by simp [stL]
    rw [e]
    exact hi.append ((word_sp (by decide) (by decide) (by decide)).append (v0.append (b := [59, 10]) rfl end1))
  · have e : stL 3 B ind (.mk 8 l s es ts us) = ind ++ (([99, 97, 108, 108] ++ [32]) ++ (valL 3 es 0 ++ [59, 10])) := by simp [stL]
    rw [e]
    exact hi.append ((word_sp (by decide) (by decide) (by decide)).append (v0.append (b := [59, 10]) rfl end1))
theorem stL_sc : ∀ (d : Nat) (t : St) (ind : Bytes), GSt (d + 1) t → Sa ind → Sa (stL 3 (fmtB 3 d) ind t) := by
  intro d
  induction d with
  | zero =>
    intro t ind hg hi
    match t, hg with
    | .mk k l s es ts us, ⟨_, he, ht, hu, hk⟩ =>
      have hts : ts = [] := by
        cases ts with
        | nil => rfl
        | cons a r => exact (ht a (by simp)).elim
      have hus : us = [] := by
        cases us with
        | nil => rfl
        | cons a r => exact (hu a (by simp)).elim
      subst hts hus
      exact st_sa (B := fmtB 3 0) he hk hi (by simpa [fmtB] using Sa.nil) (by simpa [fmtB] using Sa.nil)
  | succ d ih =>
    intro t ind hg hi
    match t, hg with
    | .mk k l s es ts us, ⟨_, he, ht, hu, hk⟩ =>
      exact st_sa (B := fmtB 3 (d + 1)) he hk hi (fm_sa _ ts (fun t hm => ih t (ind ++ [9]) (ht t hm) (hi.append tab))) (fm_sa _ us (fun t hm => ih t (ind ++ [9]) (hu t hm) (hi.append tab)))
/-- A global, a function, a source as the maker makes them. -/
def GG (x : ByteArray × Int) : Prop := GoodN x.1 ∧ 0 ≤ x.2 ∧ x.2 ≤ 100
def GF (d : Nat) (f : Fn) : Prop := GoodN f.name ∧ f.params.length ≤ 2 ∧ (∀ p ∈ f.params, GoodN p) ∧ (∀ t ∈ f.body, GSt (d + 1) t) ∧ (f.body.map (cntS (d + 1))).sum ≤ 77
theorem fmtG_sc {x : ByteArray × Int} (h : GG x) : Sa (fmtG x) := by
  have end1 : Sa ([59, 10] : Bytes) := semi.append nl
  by_cases hp : 0 < x.2
  · have e : fmtG x = ([103, 108, 111, 98, 97, 108] ++ [32]) ++ (x.1.data.toList ++ ([91] ++ (numL x.2.toNat ++ ([93] ++ [59, 10])))) := by simp [fmtG, hp]
    rw [e]
    exact (word_sp (by decide) (by decide) (by decide)).append ((isName_sc h.1.2).1.append rfl (lb'.append ((numL_sc (by have := h.2.2; omega)).append rfl (rb'.append end1))))
  · have e : fmtG x = ([103, 108, 111, 98, 97, 108] ++ [32]) ++ (x.1.data.toList ++ [59, 10]) := by simp [fmtG, hp]
    rw [e]
    exact (word_sp (by decide) (by decide) (by decide)).append ((isName_sc h.1.2).1.append (b := [59, 10]) rfl end1)
theorem fmtF_sc {d : Nat} {f : Fn} (h : GF d f) : Sa (fmtF 3 (d + 1) f) := by
  have e : fmtF 3 (d + 1) f = ([102, 117, 110, 99] ++ [32]) ++ (f.name.data.toList ++ ([40] ++ (jl (f.params.map (·.data.toList)) ++ ([41] ++ [32, 123, 10] ++ (fmtB 3 (d + 1) f.body [9] ++ ([125] ++ [10])))))) := by simp [fmtF]
  have hj : Sc (jl (f.params.map (·.data.toList))) := inter_sc _ (fun x hx => by
    obtain ⟨p, hp, rfl⟩ := List.mem_map.1 hx
    exact (isName_sc (h.2.2.1 p hp).2).1)
  have hb : Sa (fmtB 3 (d + 1) f.body [9]) := fm_sa _ f.body (fun t hm => stL_sc d t [9] (h.2.2.2.1 t hm) tab)
  rw [e]
  exact (word_sp (by decide) (by decide) (by decide)).append ((isName_sc h.1.2).1.append rfl (lp.append (hj.append rfl ((rp.append begin_sa).append (hb.append (rc.append nl))))))
/-- The text of a source scans. -/
theorem fmtP_scan {d : Nat} {gl : List (ByteArray × Int)} {fl : List Fn} (hg : ∀ x ∈ gl, GG x) (hf : ∀ f ∈ fl, GF d f) : ∃ ts, scan 1 (fmtP 3 (d + 1) gl fl) = .ok ts := by
  have h : Sa (fmtP 3 (d + 1) gl fl) := (fm_sa _ gl (fun x hx => fmtG_sc (hg x hx))).append (fm_sa _ fl (fun f hm => fmtF_sc (hf f hm)))
  obtain ⟨toks, n, e⟩ := h [] 1
  rw [List.append_nil] at e
  exact ⟨_, by rw [e, scan]; rfl⟩
theorem fmtG_len {x : ByteArray × Int} (h : GG x) : (fmtG x).length ≤ 62 * 1 := by
  have h1 := h.1.1
  have h2 := numL_small (n := x.2.toNat) (by have := h.2.2; omega)
  have hsz : x.1.data.toList.length = x.1.size := by simp
  unfold fmtG
  split <;> simp at hsz ⊢ <;> omega
theorem fmtF_len {d : Nat} (hd : d ≤ 4) {f : Fn} (h : GF d f) : (fmtF 3 (d + 1) f).length ≤ 10240 * 1 := by
  have h1 := h.1.1
  have hsz : f.name.data.toList.length = f.name.size := by simp
  have hb := fmtB_len (ind := [9]) h.2.2.2.1 (by simp; omega)
  have hc := h.2.2.2.2
  have hj : (jl (f.params.map (·.data.toList))).length ≤ 68 := by
    have hp := h.2.2.1
    have hl := h.2.1
    match hq : f.params, hl with
    | [], _ => simp [jl, List.intercalate]
    | [a], _ =>
      have := (hp a (by rw [hq]; simp)).1
      have h3 : a.data.toList.length = a.size := by simp
      simp [jl, List.intercalate] at h3 ⊢
      omega
    | [a, b], _ =>
      have h4 := (hp a (by rw [hq]; simp)).1
      have h5 := (hp b (by rw [hq]; simp)).1
      simp [jl, List.intercalate]
      omega
    | a :: b :: c :: r, hl => simp at hl
  have e : fmtF 3 (d + 1) f = [102, 117, 110, 99, 32] ++ f.name.data.toList ++ [40] ++ jl (f.params.map (·.data.toList)) ++ [41, 32, 123, 10] ++ fmtB 3 (d + 1) f.body [9] ++ [125, 10] := rfl
  rw [e]
  simp only [List.length_append, List.length_cons, List.length_nil]
  omega
theorem fmtP_len {d : Nat} (hd : d ≤ 4) {gl : List (ByteArray × Int)} {fl : List Fn} (hg : ∀ x ∈ gl, GG x) (hf : ∀ f ∈ fl, GF d f) (hgl : gl.length ≤ 4) (hfl : fl.length ≤ 4) : (fmtP 3 (d + 1) gl fl).length ≤ 65536 := by
  have h1 := fm_sum fmtG (fun _ => 1) 62 gl (fun x hx => fmtG_len (hg x hx))
  have h2 := fm_sum (fmtF 3 (d + 1)) (fun _ => 1) 10240 fl (fun f hm => fmtF_len hd (hf f hm))
  have c1 : ∀ {α : Type} (l : List α), (l.map (fun _ => 1)).sum = l.length := fun l => by induction l <;> simp_all; omega
  rw [c1] at h1 h2
  unfold fmtP
  rw [List.length_append]
  omega
end Go.Proofs.YtifabkoomojklaaGreatDoor
namespace Go.Proofs.YtifabkoomojklaaGreatDoor
open Go.RowKit

def gapB (c : UInt8) : Bool := decide (c.toNat = 32) || decide (c.toNat = 9) || decide (c.toNat = 10)
/-- Where tokens can begin (p: what stands ahead belongs to words). -/
def tkn (p : Bool) : Bytes → Nat
  | [] => 0
  | c :: r => (if gapB c || (p && wordy c) then 0 else 1) + tkn (wordy c) r
theorem tkn_true (l : Bytes) : tkn true l ≤ tkn false l := by
  cases l with
  | nil => exact Nat.le_refl _
  | cons c r => simp only [tkn, Bool.true_and, Bool.false_and, Bool.or_false]; cases gapB c <;> cases wordy c <;> simp
theorem tkn_false (l : Bytes) : tkn false l ≤ tkn true l + 1 := by
  cases l with
  | nil => exact Nat.zero_le _
  | cons c r => simp only [tkn, Bool.true_and, Bool.false_and, Bool.or_false]; cases gapB c <;> cases wordy c <;> simp <;> omega
theorem tkn_any (p : Bool) (l : Bytes) : tkn p l ≤ tkn false l ∧ tkn false l ≤ tkn p l + 1 := by
  cases p with
  | false => omega
  | true => exact ⟨tkn_true l, tkn_false l⟩
theorem tkn_append (b : Bytes) : ∀ (a : Bytes) (p : Bool), tkn p (a ++ b) ≤ tkn p a + tkn false b
  | [], p => by have := (tkn_any p b).1; simp only [List.nil_append, tkn]; omega
  | c :: r, p => by have := tkn_append b r (wordy c); simp only [List.cons_append, tkn]; omega
theorem tkn_drop : ∀ (l : Bytes) (n : Nat) (p : Bool), tkn false (l.drop n) ≤ tkn p l + 1
  | l, 0, p => by have := (tkn_any p l).2; simpa using this
  | [], n + 1, p => by simp [tkn]
  | c :: r, n + 1, p => by have := tkn_drop r n (wordy c); simp only [List.drop_succ_cons, tkn]; omega
theorem tkn_dw : ∀ r : Bytes, tkn false (r.dropWhile wordy) ≤ tkn true r
  | [] => Nat.le_refl _
  | x :: r => by
    cases hx : wordy x with
    | true =>
      have := tkn_dw r
      rw [List.dropWhile_cons_of_pos hx]
      simp only [tkn, hx]
      omega
    | false =>
      rw [List.dropWhile_cons_of_neg (by simp [hx])]
      simp only [tkn, hx, Bool.and_false]
      omega
theorem tkn_word : ∀ l : Bytes, (∀ x ∈ l, wordy x = true) → tkn true l = 0
  | [], _ => rfl
  | c :: r, h => by
    have hc := h c (by simp)
    simp only [tkn, hc, Bool.and_true, Bool.or_true, if_true]
    rw [tkn_word r (fun x hx => h x (by simp [hx]))]
theorem wordy_head {c : UInt8} (h : (letter c || digit c) = true) : wordy c = true := by unfold wordy; rw [h]; rfl
theorem sign_head {c : UInt8} (h : (letter c || digit c) = false) (h1 : isS [c] = true) : wordy c = false := by
  unfold wordy
  rw [h]
  cases e : decide (c.toNat = 95) with
  | false => rfl
  | true =>
    have e := of_decide_eq_true e
    have : c = 95 := UInt8.toNat_inj.1 e
    subst this
    exact absurd h1 (by decide)
/-- A text has no more tokens than places where they can begin, and its end. -/
theorem scan_tkn (n : Nat) : ∀ (l : Bytes) (line : Nat) (ts : List Tok), l.length ≤ n → scan line l = .ok ts → ts.length ≤ tkn false l + 1 := by
  induction n with
  | zero =>
    intro l line ts hl h
    have : l = [] := List.eq_nil_of_length_eq_zero (by omega)
    subst this
    rw [scan] at h
    injection h with h
    subst h
    simp
  | succ n ih =>
    intro l line ts hl h
    match l with
    | [] =>
      rw [scan] at h
      injection h with h
      subst h
      simp
    | c :: r =>
      simp only [List.length_cons] at hl
      rw [scan] at h
      have hgw : ∀ (p : Bool), tkn (wordy c) r ≤ tkn p (c :: r) := fun p => by simp only [tkn]; omega
      split at h
      · rename_i h10
        have h1 := ih _ _ _ (by omega) h
        have h2 := hgw false
        rw [gap_wordy (.inr (.inr h10))] at h2
        omega
      split at h
      · rename_i h10 h32
        have h1 := ih _ _ _ (by omega) h
        have h2 := hgw false
        rw [gap_wordy (c := c) (by rcases h32 with h32 | h32; exact .inl h32; exact .inr (.inl h32))] at h2
        omega
      rename_i h10 h32
      have hg : gapB c = false := by
        simp only [gapB, Bool.or_eq_false_iff, decide_eq_false_iff_not]
        omega
      have h1c : tkn false (c :: r) = 1 + tkn (wordy c) r := by simp [tkn, hg]
      split at h
      · rename_i h35
        have hd := List.Sublist.length_le (List.dropWhile_sublist (fun x : UInt8 => decide (x.toNat ≠ 10)) (l := r))
        have h1 := ih _ _ _ (by omega) h
        rw [← drop_tw] at h1
        have h2 := tkn_drop r (r.takeWhile fun x : UInt8 => decide (x.toNat ≠ 10)).length (wordy c)
        omega
      rename_i h35
      split at h
      · cases h
      rename_i k v m hm
      split at h
      · cases h
      rename_i us hus
      injection h with h
      have h1 := ih _ _ _ (by simp; omega) hus
      rw [next_eq] at hm
      obtain ⟨p, hp, he⟩ := Option.map_eq_some_iff.1 hm
      obtain ⟨k', v'⟩ := p
      simp only [Prod.mk.injEq] at he
      obtain ⟨rfl, rfl, rfl⟩ := he
      have hpos := plen_pos hp
      have key : tkn false (r.drop (plen (c :: r) - 1)) ≤ tkn (wordy c) r := by
        by_cases hl : (letter c || digit c) = true
        · have hw := wordy_head hl
          have hp1 : plen (c :: r) = (r.takeWhile wordy).length + 1 := by
            simp only [plen, hl, if_true, List.takeWhile_cons_of_pos hw, List.length_cons]
          rw [hp1, Nat.add_sub_cancel, drop_tw, hw]
          exact tkn_dw r
        · have hl : (letter c || digit c) = false := by simpa using hl
          by_cases h2 : (decide (2 ≤ (c :: r).length) && isS ((c :: r).take 2)) = true
          · have hp1 : plen (c :: r) = 2 := by simp only [plen, hl]; simp only [h2]; rfl
            rw [hp1]
            match r, h2 with
            | x :: r, h2 =>
              have h3 : isS [c, x] = true := by simpa using h2
              have hx : wordy x = false := by
                rcases isS_two h3 with ⟨_, e⟩ | ⟨_, e⟩ | ⟨_, e⟩ | ⟨_, e⟩ | ⟨_, e⟩ <;> subst e <;> decide
              simp only [Nat.add_one_sub_one, List.drop_succ_cons, List.drop_zero, tkn, hx]
              omega
          · have h2 : (decide (2 ≤ (c :: r).length) && isS ((c :: r).take 2)) = false := by simpa using h2
            by_cases h3 : isS ((c :: r).take 1) = true
            · have hp1 : plen (c :: r) = 1 := by simp only [plen, hl]; simp only [h2, h3]; rfl
              have h4 : isS [c] = true := by simpa using h3
              rw [hp1, sign_head hl h4]
              exact Nat.le_refl _
            · have h3 : isS ((c :: r).take 1) = false := by simpa using h3
              have : plen (c :: r) = 0 := by simp only [plen, hl]; simp only [h2, h3]; rfl
              omega
      rw [← h, List.length_cons]
      omega
/-- What a text weighs. -/
def V (l : Bytes) : Nat := l.length + 20 * tkn false l
theorem V_append (a b : Bytes) : V (a ++ b) ≤ V a + V b := by
  have := tkn_append b a false
  unfold V
  rw [List.length_append]
  omega
theorem V_cons (c : UInt8) (l : Bytes) : V (c :: l) ≤ 21 + V l := by
  have h := V_append [c] l
  have h2 : V [c] ≤ 21 := by
    unfold V
    simp only [tkn, Bool.false_and, Bool.or_false, List.length_cons, List.length_nil]
    cases gapB c <;> simp
  rw [List.singleton_append] at h
  omega
theorem V_word {l : Bytes} (h : ∀ x ∈ l, wordy x = true) : V l ≤ l.length + 20 := by
  have h0 : tkn false l ≤ tkn true l + 1 := tkn_false l
  rw [tkn_word l h] at h0
  unfold V
  omega
theorem V_tab (n : Nat) : V (List.replicate n 9) = n := by
  have h : ∀ n, tkn false (List.replicate n 9) = 0 := by
    intro n
    induction n with
    | zero => rfl
    | succ n ih =>
      rw [List.replicate_succ, tkn]
      have : wordy 9 = false := by decide
      rw [this, ih]
      rfl
  unfold V
  rw [h, List.length_replicate]
  omega
/-- Tokens with what TokenSpaces puts between them. -/
theorem spc_size : ∀ l : List (Tok × Nat), (spc l).length ≤ (l.map (·.1.text.length)).sum + 20 * l.length
  | [] => Nat.le_refl _
  | (t, q) :: r => by
    have h := spc_size r
    have h2 : (sepL q).length ≤ 20 := by unfold sepL; split; decide; split <;> decide
    simp only [spc, List.length_append, List.map_cons, List.sum_cons, List.length_cons]
    omega
theorem scan_weight {l : Bytes} {ts : List Tok} {line : Nat} (h : scan line l = .ok ts) : (ts.map (·.text.length)).sum + 20 * (ts.length - 1) ≤ V l := by
  have h1 := (scan_size _ l line ts (Nat.le_refl _) h).1
  have h2 := scan_tkn _ l line ts (Nat.le_refl _) h
  unfold V
  omega
end Go.Proofs.YtifabkoomojklaaGreatDoor
namespace Go.Proofs.YtifabkoomojklaaGreatDoor
open Go.RowKit

theorem V_name {s : ByteArray} (h : GoodN s) : V s.data.toList ≤ 36 := by
  have hsz : s.data.toList.length = s.size := by simp
  have h2 : ∀ x ∈ s.data.toList, wordy x = true := by
    have hn := h.2
    generalize s.data.toList = l at hn
    match l, hn with
    | c :: r, hn =>
      simp only [isName, Bool.and_eq_true] at hn
      intro x hx
      rcases List.mem_cons.1 hx with rfl | hx
      · exact wordy_head (by rw [hn.1.1.1]; rfl)
      · exact List.all_eq_true.1 hn.1.1.2 x hx
  have h3 := V_word h2
  have h4 := h.1
  omega
theorem V_num {n : Nat} (h : n < 9223372036854775808) : V (numL n) ≤ 39 := by
  have h1 := V_word (l := numL n) (fun x hx => wordy_head (by rw [numL_digits n x hx]; simp))
  have h2 := numL_small h
  omega
theorem V_sign (o : Int) : V (signL o) ≤ 42 := by
  unfold signL
  repeat (split; decide)
  decide
theorem V_three (a b c : Bytes) : V (a ++ b ++ c) ≤ V a + V b + V c := by
  have := V_append (a ++ b) c
  have := V_append a b
  omega
theorem V_paren (l : Bytes) : V (40 :: (l ++ [41])) ≤ V l + 42 := by
  have h1 := V_cons 40 (l ++ [41])
  have h2 := V_append l [41]
  have h3 : V [41] = 21 := by decide
  omega
theorem V_opd (d : Nat) (x : Ex) : V (if compK x.kind then 40 :: (fmtE d x ++ [41]) else fmtE d x) ≤ V (fmtE d x) + 42 := by
  split
  · exact V_paren _
  · omega
theorem V_lst {d N n : Nat} {l : List Ex} (h : ∀ x ∈ l, V (fmtE d x) ≤ N) (hn : l.length ≤ n) : V (([44, 32] : Bytes).intercalate (l.map (fmtE d))) ≤ n * (N + 22) := by
  induction l generalizing n with
  | nil => simp [List.intercalate, V, tkn]
  | cons a r ih =>
    have ha := h a (by simp)
    cases r with
    | nil =>
      have : 1 ≤ n := by simpa using hn
      have h2 : 1 * (N + 22) ≤ n * (N + 22) := Nat.mul_le_mul_right _ this
      rw [show ([44, 32] : Bytes).intercalate ([a].map (fmtE d)) = fmtE d a by simp [List.intercalate]]
      omega
    | cons b r =>
      obtain ⟨n, rfl⟩ : ∃ n', n = n' + 1 := ⟨n - 1, by simp at hn; omega⟩
      have hr := ih (n := n) (fun x hx => h x (by simp [hx])) (by simp at hn ⊢; omega)
      have e : ([44, 32] : Bytes).intercalate ((a :: b :: r).map (fmtE d)) = fmtE d a ++ [44, 32] ++ ([44, 32] : Bytes).intercalate ((b :: r).map (fmtE d)) := inter_cons2 _ _ _ _
      have h3 := V_three (fmtE d a) [44, 32] (([44, 32] : Bytes).intercalate ((b :: r).map (fmtE d)))
      have h4 : V [44, 32] = 22 := by decide
      rw [e, Nat.add_mul]
      omega
def WE : Nat → Nat
  | 0 => 57
  | d + 1 => 3 * WE d + 128
theorem we_57 : ∀ d, 57 ≤ WE d
  | 0 => Nat.le_refl _
  | d + 1 => by have := we_57 d; simp only [WE]; omega
theorem leaf_V {d : Nat} {k o a l : Int} {s : ByteArray} (h0 : 0 ≤ a ∧ a < 9223372036854775808) (hk : k = 12 ∨ (k = 13 ∧ GoodN s) ∨ k = 1 ∨ (k = 11 ∧ GoodN s)) : V (fmtE (d + 1) (.mk k o a l s [])) ≤ 57 := by
  rcases hk with rfl | ⟨rfl, hs⟩ | rfl | ⟨rfl, hs⟩
  · rw [show fmtE (d + 1) (.mk 12 o a l s []) = [114, 101, 97, 100] by simp [fmtE]]; decide
  · rw [show fmtE (d + 1) (.mk 13 o a l s []) = s.data.toList by simp [fmtE]]
    have := V_name hs
    omega
  · rw [show fmtE (d + 1) (.mk 1 o a l s []) = numL (max a 0).toNat by simp [fmtE]]
    have := V_num (n := (max a 0).toNat) (by omega)
    omega
  · rw [show fmtE (d + 1) (.mk 11 o a l s []) = 38 :: s.data.toList by simp [fmtE]]
    have := V_name hs
    have := V_cons 38 s.data.toList
    omega
/-- A name as what is called. -/
theorem name_V {d : Nat} {x : Ex} (h : GE d x) (hk : x.kind = 13 ∨ x.kind = 2 ∨ x.kind = 3) : V (fmtE (d + 1) x) ≤ 36 ∧ compK x.kind = false := by
  have key : ∀ k o a l s xs, x = .mk k o a l s xs → (k = 13 ∧ GoodN s ∧ xs = []) → V (fmtE (d + 1) x) ≤ 36 ∧ compK x.kind = false := fun k o a l s xs e ⟨h1, h2, h3⟩ => by
    subst e h1 h3
    rw [show fmtE (d + 1) (.mk 13 o a l s []) = s.data.toList by simp [fmtE]]
    exact ⟨V_name h2, rfl⟩
  match d, x, h with
  | 0, .mk k o a l s xs, ⟨_, _, _, _, _, _, hxs, hl⟩ =>
    have hk : k = 13 ∨ k = 2 ∨ k = 3 := hk
    refine key k o a l s xs rfl ?_
    rcases hl with h | ⟨h, hs⟩ | h | ⟨h, _⟩
    · omega
    · exact ⟨h, hs, hxs⟩
    · omega
    · omega
  | d + 1, .mk k o a l s xs, ⟨_, _, _, _, _, _, hl⟩ =>
    have hk : k = 13 ∨ k = 2 ∨ k = 3 := hk
    refine key k o a l s xs rfl ?_
    rcases hl with ⟨hxs, h | ⟨h, hs⟩ | h | ⟨h, _⟩⟩ | ⟨_, hl⟩
    · omega
    · exact ⟨h, hs, hxs⟩
    · omega
    · omega
    · rcases hl with ⟨h, _⟩ | ⟨h, _⟩ | ⟨h, _⟩ | ⟨h, _⟩ | ⟨h, _⟩ | ⟨h, _⟩ | ⟨h, _⟩ <;> omega
theorem fmtE_V : ∀ (d : Nat) (x : Ex), GE d x → V (fmtE (d + 1) x) ≤ WE d
  | 0, .mk k o a l s xs, ⟨_, _, _, h3, h4, _, hxs, hk⟩ => by subst hxs; exact leaf_V ⟨h3, h4⟩ hk
  | d + 1, .mk k o a l s xs, ⟨_, _, _, h3, h4, _, hk⟩ => by
    have h57 := we_57 d
    rcases hk with ⟨rfl, hk⟩ | ⟨hx, hk⟩
    · have := leaf_V (d := d + 1) (o := o) (l := l) ⟨h3, h4⟩ hk
      simp only [WE]
      omega
    have ih : ∀ x ∈ xs, V (fmtE (d + 1) x) ≤ WE d := fun x hm => fmtE_V d x (hx x hm)
    have hop : ∀ x ∈ xs, V (if compK x.kind then 40 :: (fmtE (d + 1) x ++ [41]) else fmtE (d + 1) x) ≤ WE d + 42 := fun x hm => by
      have h1 := ih x hm
      have h2 := V_opd (d + 1) x
      omega
    have hsg := V_sign o
    have hb : V [32] = 1 := by decide
    simp only [WE]
    rcases hk with ⟨rfl, _, _, hl⟩ | ⟨rfl, _, hl⟩ | ⟨rfl, hl⟩ | ⟨rfl, hl⟩ | ⟨rfl, hs, hl⟩ | ⟨rfl, hs, hl⟩ | ⟨rfl, hl, hl3⟩
    · obtain ⟨x, rfl⟩ := len_one hl
      have hx1 := hop x (by simp)
      have e : fmtE (d + 1 + 1) (.mk 5 o a l s [x]) = signL o ++ (if compK x.kind then 40 :: (fmtE (d + 1) x ++ [41]) else fmtE (d + 1) x) := by simp [fmtE]
      have h5 := V_append (signL o) (if compK x.kind then 40 :: (fmtE (d + 1) x ++ [41]) else fmtE (d + 1) x)
      rw [e]
      omega
    · obtain ⟨x, y, rfl⟩ := len_two hl
      have hx1 := hop x (by simp)
      have hx2 := hop y (by simp)
      have e : fmtE (d + 1 + 1) (.mk 6 o a l s [x, y]) = (if compK x.kind then 40 :: (fmtE (d + 1) x ++ [41]) else fmtE (d + 1) x) ++ ([32] ++ signL o ++ [32]) ++ (if compK y.kind then 40 :: (fmtE (d + 1) y ++ [41]) else fmtE (d + 1) y) := by simp [fmtE]
      have h5 := V_three (if compK x.kind then 40 :: (fmtE (d + 1) x ++ [41]) else fmtE (d + 1) x) ([32] ++ signL o ++ [32]) (if compK y.kind then 40 :: (fmtE (d + 1) y ++ [41]) else fmtE (d + 1) y)
      have h6 := V_three [32] (signL o) [32]
      rw [e]
      omega
    · obtain ⟨x, y, rfl⟩ := len_two hl
      have hx1 := hop x (by simp)
      have hx2 := hop y (by simp)
      have e : fmtE (d + 1 + 1) (.mk 7 o a l s [x, y]) = (if compK x.kind then 40 :: (fmtE (d + 1) x ++ [41]) else fmtE (d + 1) x) ++ [32, 38, 38, 32] ++ (if compK y.kind then 40 :: (fmtE (d + 1) y ++ [41]) else fmtE (d + 1) y) := by simp [fmtE]
      have h5 := V_three (if compK x.kind then 40 :: (fmtE (d + 1) x ++ [41]) else fmtE (d + 1) x) [32, 38, 38, 32] (if compK y.kind then 40 :: (fmtE (d + 1) y ++ [41]) else fmtE (d + 1) y)
      have h6 : V [32, 38, 38, 32] ≤ 46 := by decide
      have h7 := V_opd (d + 1) y
      rw [e]
      omega
    · obtain ⟨x, y, rfl⟩ := len_two hl
      have hx1 := hop x (by simp)
      have hx2 := hop y (by simp)
      have e : fmtE (d + 1 + 1) (.mk 8 o a l s [x, y]) = (if compK x.kind then 40 :: (fmtE (d + 1) x ++ [41]) else fmtE (d + 1) x) ++ [32, 124, 124, 32] ++ (if compK y.kind then 40 :: (fmtE (d + 1) y ++ [41]) else fmtE (d + 1) y) := by simp [fmtE]
      have h5 := V_three (if compK x.kind then 40 :: (fmtE (d + 1) x ++ [41]) else fmtE (d + 1) x) [32, 124, 124, 32] (if compK y.kind then 40 :: (fmtE (d + 1) y ++ [41]) else fmtE (d + 1) y)
      have h6 : V [32, 124, 124, 32] ≤ 46 := by decide
      rw [e]
      omega
    · obtain ⟨x, rfl⟩ := len_one hl
      have hx1 := ih x (by simp)
      have e : fmtE (d + 1 + 1) (.mk 4 o a l s [x]) = s.data.toList ++ [91] ++ (fmtE (d + 1) x ++ [93]) := by simp [fmtE]
      have h5 := V_three s.data.toList [91] (fmtE (d + 1) x ++ [93])
      have h6 := V_append (fmtE (d + 1) x) [93]
      have h7 : V [91] = 21 := by decide
      have h8 : V [93] = 21 := by decide
      have h9 := V_name hs
      rw [e]
      omega
    · have hl2 := V_lst ih hl
      have e : fmtE (d + 1 + 1) (.mk 9 o a l s xs) = s.data.toList ++ (40 :: (([44, 32] : Bytes).intercalate (xs.map (fmtE (d + 1))) ++ [41])) := by simp [fmtE]
      have h5 := V_append s.data.toList (40 :: (([44, 32] : Bytes).intercalate (xs.map (fmtE (d + 1))) ++ [41]))
      have h6 := V_paren (([44, 32] : Bytes).intercalate (xs.map (fmtE (d + 1))))
      have h9 := V_name hs
      rw [e]
      omega
    · match xs, hl with
      | x :: r, _ =>
        have hx1 := hop x (by simp)
        have hl2 := V_lst (l := r) (n := 2) (fun y hy => ih y (by simp [hy])) (by simp at hl3; omega)
        have e : fmtE (d + 1 + 1) (.mk 10 o a l s (x :: r)) = (if x.kind = 13 ∨ x.kind = 2 ∨ x.kind = 3 then 40 :: ((if compK x.kind then 40 :: (fmtE (d + 1) x ++ [41]) else fmtE (d + 1) x) ++ [41]) else (if compK x.kind then 40 :: (fmtE (d + 1) x ++ [41]) else fmtE (d + 1) x)) ++ (40 :: (([44, 32] : Bytes).intercalate (r.map (fmtE (d + 1))) ++ [41])) := by simp [fmtE]
        have h5 : V (if x.kind = 13 ∨ x.kind = 2 ∨ x.kind = 3 then 40 :: ((if compK x.kind then 40 :: (fmtE (d + 1) x ++ [41]) else fmtE (d + 1) x) ++ [41]) else (if compK x.kind then 40 :: (fmtE (d + 1) x ++ [41]) else fmtE (d + 1) x)) ≤ WE d + 42 := by
          by_cases hc : x.kind = 13 ∨ x.kind = 2 ∨ x.kind = 3
          · obtain ⟨h7, h8⟩ := name_V (hx x (by simp)) hc
            rw [if_pos hc, h8]
            have h9 := V_paren (fmtE (d + 1) x)
            simp only [Bool.false_eq_true, if_false]
            omega
          · rw [if_neg hc]
            exact hx1
        have h6 := V_append (if x.kind = 13 ∨ x.kind = 2 ∨ x.kind = 3 then 40 :: ((if compK x.kind then 40 :: (fmtE (d + 1) x ++ [41]) else fmtE (d + 1) x) ++ [41]) else (if compK x.kind then 40 :: (fmtE (d + 1) x ++ [41]) else fmtE (d + 1) x)) (40 :: (([44, 32] : Bytes).intercalate (r.map (fmtE (d + 1))) ++ [41]))
        have h7 := V_paren (([44, 32] : Bytes).intercalate (r.map (fmtE (d + 1))))
        rw [e]
        omega
theorem valL_V {es : List Ex} {i : Nat} (h : ∀ x ∈ es, GE 2 x) : V (valL 3 es i) ≤ 1025 := by
  unfold valL
  split
  · rename_i x hx
    exact fmtE_V 2 x (h x (List.mem_of_getElem? hx))
  · exact Nat.zero_le _
theorem inc_V {es : List Ex} (h : incE es = true) (hg : ∀ x ∈ es, GE 2 x) : V (valL 3 es 0) ≤ 80 := by
  obtain ⟨a0, l0, s0, o1, a1, l1, s1, o2, l2, s2, rfl⟩ := inc_shape h
  have hs := V_name (inc_ge (hg _ (List.mem_singleton.2 rfl)))
  have e : valL 3 [.mk 6 3 a0 l0 s0 [.mk 13 o1 a1 l1 s1 [], .mk 1 o2 1 l2 s2 []]] 0 = s1.data.toList ++ [32, 43, 32] ++ numL 1 := by
    simp [valL, fmtE, compK, signL, Ex.kind]
    rfl
  rw [e, numL_one]
  have h1 := V_three s1.data.toList [32, 43, 32] [49]
  have h2 : V [32, 43, 32] = 23 := by decide
  have h3 : V [49] = 21 := by decide
  omega
theorem fmV_sum {α : Type} (f : α → Bytes) (c : α → Nat) (K : Nat) : ∀ (l : List α), (∀ x ∈ l, V (f x) ≤ K * c x) → V (l.flatMap f) ≤ K * (l.map c).sum
  | [], _ => by simp [V, tkn]
  | a :: r, h => by
    have h1 := h a (by simp)
    have h2 := fmV_sum f c K r (fun x hx => h x (by simp [hx]))
    have h3 := V_append (f a) (r.flatMap f)
    simp only [List.flatMap_cons, List.map_cons, List.sum_cons, Nat.mul_add]
    omega
theorem V_end : V [59, 10] = 22 := by decide
/-- A statement, given its blocks. -/
theorem st_V {B : List St → Bytes → Bytes} {k l : Int} {s : ByteArray} {es : List Ex} {ts us : List St} {ind : Bytes} {nt nu : Nat} (he : ∀ x ∈ es, GE 2 x)
    (hk : (k = 1 ∧ GoodN s ∧ es.length = 1 ∧ ts = [] ∧ us = []) ∨ (k = 2 ∧ GoodN s ∧ es.length = 1 ∧ ts = [] ∧ us = []) ∨ (k = 3 ∧ GoodN s ∧ es.length = 2 ∧ ts = [] ∧ us = []) ∨ (k = 4 ∧ s.size = 0 ∧ es.length = 1) ∨ (k = 5 ∧ s.size = 0 ∧ es.length = 1 ∧ us = []) ∨ ((k = 6 ∨ k = 7 ∨ k = 8) ∧ s.size = 0 ∧ es.length = 1 ∧ ts = [] ∧ us = []))
    (hi : V ind ≤ 6) (h1 : V (B ts (ind ++ [9])) ≤ 199 * nt) (h2 : V (B us (ind ++ [9])) ≤ 199 * nu) : V (stL 3 B ind (.mk k l s es ts us)) ≤ 199 * (cK k es + nt + nu) := by
  have v0 := valL_V (i := 0) he
  have v1 := valL_V (i := 1) he
  have hend := V_end
  have hb : V [32, 123, 10] = 23 := by decide
  have hq : V [125] = 21 := by decide
  have hn : V [10] = 1 := by decide
  have h0 : V ([] : Bytes) = 0 := rfl
  rcases hk with ⟨rfl, hs, _⟩ | ⟨rfl, hs, _⟩ | ⟨rfl, hs, _⟩ | ⟨rfl, _⟩ | ⟨rfl, _⟩ | ⟨rfl | rfl | rfl, _⟩
  · have hc := cK_ten es (k := 1) (by omega)
    have h3 := V_name hs
    have e : stL 3 B ind (.mk 1 l s es ts us) = ind ++ ([118, 97, 114, 32] ++ s.data.toList ++ [32, 61, 32]) ++ (valL 3 es 0 ++ [59, 10]) := by simp [stL]
    have h4 := V_three ind ([118, 97, 114, 32] ++ s.data.toList ++ [32, 61, 32]) (valL 3 es 0 ++ [59, 10])
    have h5 := V_three [118, 97, 114, 32] s.data.toList [32, 61, 32]
    have h6 := V_append (valL 3 es 0) [59, 10]
    have h7 : V [118, 97, 114, 32] = 24 := by decide
    have h8 : V [32, 61, 32] = 23 := by decide
    rw [e]
    omega
  · have h3 := V_name hs
    have e : stL 3 B ind (.mk 2 l s es ts us) = ind ++ (s.data.toList ++ [32, 61, 32]) ++ (valL 3 es 0 ++ [59, 10]) := by simp [stL]
    have h4 := V_three ind (s.data.toList ++ [32, 61, 32]) (valL 3 es 0 ++ [59, 10])
    have h5 := V_append s.data.toList [32, 61, 32]
    have h6 := V_append (valL 3 es 0) [59, 10]
    have h8 : V [32, 61, 32] = 23 := by decide
    rw [e]
    by_cases hi2 : incE es = true
    · have h9 := inc_V hi2 he
      have hc := (cK_le 2 es).1
      omega
    · have hc : cK 2 es = 11 := by simp [cK, hi2]
      omega
  · have hc : cK 3 es = 11 := by simp [cK]
    have h3 := V_name hs
    have e : stL 3 B ind (.mk 3 l s es ts us) = ind ++ (s.data.toList ++ [91] ++ (valL 3 es 0 ++ [93, 32, 61, 32])) ++ (valL 3 es 1 ++ [59, 10]) := by simp [stL]
    have h4 := V_three ind (s.data.toList ++ [91] ++ (valL 3 es 0 ++ [93, 32, 61, 32])) (valL 3 es 1 ++ [59, 10])
    have h5 := V_three s.data.toList [91] (valL 3 es 0 ++ [93, 32, 61, 32])
    have h6 := V_append (valL 3 es 0) [93, 32, 61, 32]
    have h7 := V_append (valL 3 es 1) [59, 10]
    have h8 : V [91] = 21 := by decide
    have h9 : V [93, 32, 61, 32] = 44 := by decide
    rw [e]
    omega
  · have hc := cK_ten es (k := 4) (by omega)
    have e : stL 3 B ind (.mk 4 l s es ts us) = ind ++ ([105, 102, 32] ++ valL 3 es 0 ++ [32, 123, 10]) ++ (B ts (ind ++ [9]) ++ ind ++ ([125] ++ (if us.length = 0 then [] else [32, 101, 108, 115, 101, 32, 123, 10] ++ (B us (ind ++ [9]) ++ ind ++ [125])) ++ [10])) := by
      simp [stL]
    have h4 := V_three ind ([105, 102, 32] ++ valL 3 es 0 ++ [32, 123, 10]) (B ts (ind ++ [9]) ++ ind ++ ([125] ++ (if us.length = 0 then [] else [32, 101, 108, 115, 101, 32, 123, 10] ++ (B us (ind ++ [9]) ++ ind ++ [125])) ++ [10]))
    have h5 := V_three [105, 102, 32] (valL 3 es 0) [32, 123, 10]
    have h6 := V_three (B ts (ind ++ [9])) ind ([125] ++ (if us.length = 0 then [] else [32, 101, 108, 115, 101, 32, 123, 10] ++ (B us (ind ++ [9]) ++ ind ++ [125])) ++ [10])
    have h7 := V_three [125] (if us.length = 0 then [] else [32, 101, 108, 115, 101, 32, 123, 10] ++ (B us (ind ++ [9]) ++ ind ++ [125])) [10]
    have h8 : V (if us.length = 0 then [] else [32, 101, 108, 115, 101, 32, 123, 10] ++ (B us (ind ++ [9]) ++ ind ++ [125])) ≤ 48 + (199 * nu + 6 + 21) := by
      split
      · rw [h0]; omega
      · have a1 := V_append [32, 101, 108, 115, 101, 32, 123, 10] (B us (ind ++ [9]) ++ ind ++ [125])
        have a2 := V_three (B us (ind ++ [9])) ind [125]
        have a3 : V [32, 101, 108, 115, 101, 32, 123, 10] = 48 := by decide
        omega
    have h9 : V [105, 102, 32] = 23 := by decide
    rw [e]
    omega
  · have hc := cK_ten es (k := 5) (by omega)
    have e : stL 3 B ind (.mk 5 l s es ts us) = ind ++ ([119, 104, 105, 108, 101, 32] ++ valL 3 es 0 ++ [32, 123, 10]) ++ (B ts (ind ++ [9]) ++ ind ++ ([125] ++ [10])) := by simp [stL]
    have h4 := V_three ind ([119, 104, 105, 108, 101, 32] ++ valL 3 es 0 ++ [32, 123, 10]) (B ts (ind ++ [9]) ++ ind ++ ([125] ++ [10]))
    have h5 := V_three [119, 104, 105, 108, 101, 32] (valL 3 es 0) [32, 123, 10]
    have h6 := V_three (B ts (ind ++ [9])) ind ([125] ++ [10])
    have h7 := V_append [125] [10]
    have h9 : V [119, 104, 105, 108, 101, 32] = 26 := by decide
    rw [e]
    omega
  · have hc := cK_ten es (k := 6) (by omega)
    have e : stL 3 B ind (.mk 6 l s es ts us) = ind ++ [114, 101, 116, 117, 114, 110, 32] ++ (valL 3 es 0 ++ [59, 10]) := by simp [stL]
    have h4 := V_three ind [114, 101, 116, 117, 114, 110, 32] (valL 3 es 0 ++ [59, 10])
    have h6 := V_append (valL 3 es 0) [59, 10]
    have h7 : V [114, 101, 116, 117, 114, 110, 32] = 27 := by decide
    rw [e]
    omega
  · have hc := cK_ten es (k := 7) (by omega)
    have e : stL 3 B ind (.mk 7 l s es ts us) = ind ++ [112, 114, 105, 110, 116, 32] ++ (valL 3 es 0 ++ [59, 10]) := by simp [stL]
    have h4 := V_three ind [112, 114, 105, 110, 116, 32] (valL 3 es 0 ++ [59, 10])
    have h6 := V_append (valL 3 es 0) [59, 10]
    have h7 : V [112, 114, 105, 110, 116, 32] = 26 := by decide
    rw [e]
    omega
  · have hc := cK_ten es (k := 8) (by omega)
    have e : stL 3 B ind (.mk 8 l s es ts us) = ind ++ [99, 97, 108, 108, 32] ++ (valL 3 es 0 ++ [59, 10]) := by simp [stL]
    have h4 := V_three ind [99, 97, 108, 108, 32] (valL 3 es 0 ++ [59, 10])
    have h6 := V_append (valL 3 es 0) [59, 10]
    have h7 : V [99, 97, 108, 108, 32] = 25 := by decide
    rw [e]
    omega
theorem stL_V : ∀ (d : Nat) (t : St) (ind : Bytes), GSt (d + 1) t → V ind + d ≤ 6 → V (stL 3 (fmtB 3 d) ind t) ≤ 199 * cntS (d + 1) t
  | 0, .mk k l s es ts us, ind, ⟨_, he, ht, hu, hk⟩, hi => by
    have hts : ts = [] := by
      cases ts with
      | nil => rfl
      | cons a r => exact (ht a (by simp)).elim
    have hus : us = [] := by
      cases us with
      | nil => rfl
      | cons a r => exact (hu a (by simp)).elim
    subst hts hus
    exact st_V (B := fmtB 3 0) (nt := 0) (nu := 0) he hk (by omega) (by simp [fmtB, V, tkn]) (by simp [fmtB, V, tkn])
  | d + 1, .mk k l s es ts us, ind, ⟨_, he, ht, hu, hk⟩, hi => by
    have h9 : V (ind ++ [9]) ≤ V ind + 1 := by
      have := V_append ind [9]
      have : V [9] = 1 := by decide
      omega
    exact st_V (B := fmtB 3 (d + 1)) he hk (by omega) (fmV_sum _ _ 199 ts (fun t hm => stL_V d t (ind ++ [9]) (ht t hm) (by omega))) (fmV_sum _ _ 199 us (fun t hm => stL_V d t (ind ++ [9]) (hu t hm) (by omega)))
theorem fmtG_V {x : ByteArray × Int} (h : GG x) : V (fmtG x) ≤ 166 * 1 := by
  have h1 := V_name h.1
  have h2 := V_num (n := x.2.toNat) (by have := h.2.2; omega)
  have hend := V_end
  have h3 : V [103, 108, 111, 98, 97, 108, 32] = 27 := by decide
  have h4 := V_three ([103, 108, 111, 98, 97, 108, 32] ++ x.1.data.toList) (if 0 < x.2 then [91] ++ numL x.2.toNat ++ [93] else []) [59, 10]
  have h5 := V_append [103, 108, 111, 98, 97, 108, 32] x.1.data.toList
  have h6 : V (if 0 < x.2 then [91] ++ numL x.2.toNat ++ [93] else []) ≤ 81 := by
    split
    · have := V_three [91] (numL x.2.toNat) [93]
      have : V [91] = 21 := by decide
      have : V [93] = 21 := by decide
      omega
    · exact Nat.zero_le _
  unfold fmtG
  omega
theorem V_jl {ps : List ByteArray} (hp : ∀ p ∈ ps, GoodN p) (hl : ps.length ≤ 2) : V (jl (ps.map (·.data.toList))) ≤ 94 := by
  match ps, hl with
  | [], _ => simp [jl, List.intercalate, V, tkn]
  | [a], _ =>
    have h1 := V_name (hp a (by simp))
    rw [show jl ([a].map (·.data.toList)) = a.data.toList by simp [jl, List.intercalate]]
    omega
  | [a, b], _ =>
    have h1 := V_name (hp a (by simp))
    have h2 := V_name (hp b (by simp))
    have h3 := V_three a.data.toList [44, 32] b.data.toList
    have h4 : V [44, 32] = 22 := by decide
    rw [show jl ([a, b].map (·.data.toList)) = a.data.toList ++ [44, 32] ++ b.data.toList by simp [jl, List.intercalate]]
    omega
  | a :: b :: c :: r, hl => simp at hl
theorem fmtF_V {d : Nat} (hd : d ≤ 4) {f : Fn} (h : GF d f) : V (fmtF 3 (d + 1) f) ≤ 15565 * 1 := by
  have h1 := V_name h.1
  have h9 : V [9] = 1 := by decide
  have hb : V (fmtB 3 (d + 1) f.body [9]) ≤ 199 * (f.body.map (cntS (d + 1))).sum := fmV_sum _ _ 199 f.body (fun t hm => stL_V d t [9] (h.2.2.2.1 t hm) (by omega))
  have hc := h.2.2.2.2
  have hj := V_jl h.2.2.1 h.2.1
  have a1 := V_three [102, 117, 110, 99, 32] f.name.data.toList [40]
  have a2 := V_three ([102, 117, 110, 99, 32] ++ f.name.data.toList ++ [40]) (jl (f.params.map (·.data.toList))) [41, 32, 123, 10]
  have a3 := V_three ([102, 117, 110, 99, 32] ++ f.name.data.toList ++ [40] ++ jl (f.params.map (·.data.toList)) ++ [41, 32, 123, 10]) (fmtB 3 (d + 1) f.body [9]) [125, 10]
  have b1 : V [102, 117, 110, 99, 32] = 25 := by decide
  have b2 : V [40] = 21 := by decide
  have b3 : V [41, 32, 123, 10] = 44 := by decide
  have b4 : V [125, 10] = 22 := by decide
  have e : fmtF 3 (d + 1) f = [102, 117, 110, 99, 32] ++ f.name.data.toList ++ [40] ++ jl (f.params.map (·.data.toList)) ++ [41, 32, 123, 10] ++ fmtB 3 (d + 1) f.body [9] ++ [125, 10] := rfl
  rw [e]
  omega
theorem fmtP_V {d : Nat} (hd : d ≤ 4) {gl : List (ByteArray × Int)} {fl : List Fn} (hg : ∀ x ∈ gl, GG x) (hf : ∀ f ∈ fl, GF d f) (hgl : gl.length ≤ 4) (hfl : fl.length ≤ 4) : V (fmtP 3 (d + 1) gl fl) ≤ 65536 := by
  have h1 := fmV_sum fmtG (fun _ => 1) 166 gl (fun x hx => fmtG_V (hg x hx))
  have h2 := fmV_sum (fmtF 3 (d + 1)) (fun _ => 1) 15565 fl (fun f hm => fmtF_V hd (hf f hm))
  have c1 : ∀ {α : Type} (l : List α), (l.map (fun _ => 1)).sum = l.length := fun l => by induction l <;> simp_all; omega
  have h3 := V_append (gl.flatMap fmtG) (fl.flatMap (fmtF 3 (d + 1)))
  rw [c1] at h1 h2
  unfold fmtP
  omega
end Go.Proofs.YtifabkoomojklaaGreatDoor
