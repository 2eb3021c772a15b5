/-
  The tokens of a text as plain functions on bytes: the reference's way, the program's way, and that they are one. No condition.
-/
import Derived.Lib.AtoiAll
import Derived.Lib.AtoiAllCases
namespace Go.Proofs.YtmpnkbhlagalkaaGreatDoor

abbrev Bytes := List UInt8
def letter (c : UInt8) : Bool := (decide (97 ≤ c.toNat) && decide (c.toNat ≤ 122)) || (decide (65 ≤ c.toNat) && decide (c.toNat ≤ 90))
def digit (c : UInt8) : Bool := decide (48 ≤ c.toNat) && decide (c.toNat ≤ 57)
def wordy (c : UInt8) : Bool := letter c || digit c || decide (c.toNat = 95)
def wordsL : List Bytes := [[102, 117, 110, 99], [103, 108, 111, 98, 97, 108], [118, 97, 114], [105, 102], [101, 108, 115, 101], [119, 104, 105, 108, 101], [114, 101, 116, 117, 114, 110], [112, 114, 105, 110, 116], [99, 97, 108, 108], [114, 101, 97, 100]]
def signsL : List Bytes := [[40], [41], [123], [125], [91], [93], [44], [59], [61], [43], [45], [42], [47], [37], [60], [60, 61], [61, 61], [33, 61], [38, 38], [124, 124], [33], [38]]
def isW (l : Bytes) : Bool := wordsL.contains l
def isS (l : Bytes) : Bool := signsL.contains l

/-- A token: its kind, line, value and text. -/
structure Tok where
  kind : Nat
  line : Nat
  value : Nat
  text : Bytes
  deriving DecidableEq

/-- The reference's value of digits. -/
def num (n : Nat) : Bytes → Option Nat
  | [] => some n
  | c :: r => if (9223372036854775807 - (c.toNat - 48)) / 10 < n then none else num (10 * n + (c.toNat - 48)) r
/-- The program's value of a text: what strconv.Atoi says. -/
def val (t : Bytes) : Option Nat :=
  match Lib.atoiAll t with
  | .ok v => some v.toNat
  | _ => none

theorem parse_ge : ∀ (l : Bytes) (acc u : Nat), Lib.parseUint10 acc l = .ok u → acc ≤ u
  | [], acc, u, h => by simp only [Lib.parseUint10] at h; injection h with h; omega
  | c :: r, acc, u, h => by
    simp only [Lib.parseUint10] at h
    split at h
    · split at h
      · cases h
      · split at h
        · cases h
        · have := parse_ge r _ u h
          omega
    · cases h
theorem parse_digits : ∀ (l : Bytes) (acc u : Nat), Lib.parseUint10 acc l = .ok u → ∀ c ∈ l, digit c = true
  | [], acc, u, h => by simp
  | c :: r, acc, u, h => by
    simp only [Lib.parseUint10] at h
    split at h
    · rename_i hc
      split at h
      · cases h
      · split at h
        · cases h
        · intro x hx
          rcases List.mem_cons.1 hx with rfl | hx
          · simp [digit, hc]
          · exact parse_digits r _ u h x hx
    · cases h
def small : Lib.NumEnd Nat → Option Nat
  | .ok u => if 9223372036854775808 ≤ u then none else some u
  | _ => none
theorem small_none {l : Bytes} {acc : Nat} (h : 9223372036854775808 ≤ acc) : small (Lib.parseUint10 acc l) = none := by
  cases e : Lib.parseUint10 acc l with
  | ok u => have := parse_ge l acc u e; simp [small]; omega
  | _ => rfl
theorem num_eq : ∀ (l : Bytes) (acc : Nat), (∀ c ∈ l, digit c = true) → acc ≤ 9223372036854775807 → num acc l = small (Lib.parseUint10 acc l)
  | [], acc, _, h => by simp [num, Lib.parseUint10, small]; omega
  | c :: r, acc, hd, h => by
    have hc := hd c (by simp)
    simp only [digit, Bool.and_eq_true, decide_eq_true_eq] at hc
    have e1 : 48 ≤ c.toNat ∧ c.toNat ≤ 57 := hc
    simp only [num, Lib.parseUint10]
    rw [if_pos e1]
    by_cases hb : (9223372036854775807 - (c.toNat - 48)) / 10 < acc
    · rw [if_pos hb]
      split
      · rfl
      · split
        · rfl
        · rw [small_none (by omega)]
    · rw [if_neg hb, if_neg (by omega), if_neg (by omega)]
      have := num_eq r (10 * acc + (c.toNat - 48)) (fun x hx => hd x (by simp [hx])) (by omega)
      rw [this, Nat.mul_comm]
theorem digit_bd {c : UInt8} (h : digit c = true) : 48 ≤ c.toNat ∧ c.toNat ≤ 57 := by
  simpa only [digit, Bool.and_eq_true, decide_eq_true_eq] using h
theorem val_eq {c : UInt8} {r : Bytes} (h : digit c = true) : val (c :: r) = small (Lib.parseUint10 0 (c :: r)) := by
  have hc := digit_bd h
  unfold val
  rw [Lib.atoiAll_plain c r (by omega) (by omega)]
  simp only [Lib.parseMag, if_neg (List.cons_ne_nil c r)]
  cases Lib.parseUint10 0 (c :: r) with
  | ok u =>
    simp only [Lib.signless, small]
    by_cases hu : 9223372036854775808 ≤ u
    · simp [hu]
    · simp [hu]
  | _ => rfl
/-- Digits alone: both values are one. -/
theorem val_num {c : UInt8} {r : Bytes} (h : digit c = true) (hr : ∀ x ∈ r, digit x = true) : val (c :: r) = num 0 (c :: r) := by
  rw [val_eq h, num_eq (c :: r) 0 (fun x hx => by rcases List.mem_cons.1 hx with rfl | hx; exact h; exact hr x hx) (by omega)]
/-- A text with a byte that is no digit has no value. -/
theorem val_none {c x : UInt8} {r : Bytes} (h : digit c = true) (hx : x ∈ r) (hn : digit x = false) : val (c :: r) = none := by
  rw [val_eq h]
  cases e : Lib.parseUint10 0 (c :: r) with
  | ok u =>
    have := parse_digits _ _ _ e x (by simp [hx])
    rw [this] at hn
    cases hn
  | _ => rfl

/-- How many bytes belong to the token with which a text begins. -/
def plen (l : Bytes) : Nat :=
  match l with
  | [] => 0
  | c :: _ => if letter c || digit c then (l.takeWhile wordy).length else if decide (2 ≤ l.length) && isS (l.take 2) then 2 else if isS (l.take 1) then 1 else 0
/-- The kind and the value of a text as a token. -/
def pmean (t : Bytes) : Option (Nat × Nat) :=
  match t with
  | [] => none
  | c :: r => if isS t then some (4, 0) else if isW t then some (3, 0) else if digit c then (if decide (1 < (c :: r).length) && decide (c.toNat = 48) then none else (val t).map fun v => (2, v)) else if (c :: r).length ≤ 32 then some (1, 0) else none
/-- The reference's token: kind, value, length. -/
def rnext (l : Bytes) : Option (Nat × Nat × Nat) :=
  match l with
  | [] => none
  | c :: _ =>
    if letter c then (if isW (l.takeWhile wordy) then some (3, 0, (l.takeWhile wordy).length) else if (l.takeWhile wordy).length ≤ 32 then some (1, 0, (l.takeWhile wordy).length) else none)
    else if digit c then
      (match num 0 (l.takeWhile digit) with
       | none => none
       | some v => if (match l.drop (l.takeWhile digit).length with | [] => false | x :: _ => letter x || decide (x.toNat = 95)) || (decide (c.toNat = 48) && decide (1 < (l.takeWhile digit).length)) then none else some (2, v, (l.takeWhile digit).length))
    else if decide (2 ≤ l.length) && isS (l.take 2) then some (4, 0, 2) else if isS (l.take 1) then some (4, 0, 1) else none

theorem take_tw {α : Type} (p : α → Bool) : ∀ l : List α, l.take (l.takeWhile p).length = l.takeWhile p
  | [] => rfl
  | a :: r => by
    by_cases h : p a = true
    · simp [h, take_tw p r]
    · simp [h]
theorem drop_tw {α : Type} (p : α → Bool) : ∀ l : List α, l.drop (l.takeWhile p).length = l.dropWhile p
  | [] => rfl
  | a :: r => by
    by_cases h : p a = true
    · simp [h, drop_tw p r]
    · simp [h]
theorem dw_head {α : Type} (p : α → Bool) : ∀ (l : List α) (x : α) (r : List α), l.dropWhile p = x :: r → p x = false
  | [], x, r, h => by simp at h
  | a :: l, x, r, h => by
    by_cases hp : p a = true
    · rw [List.dropWhile_cons, if_pos hp] at h; exact dw_head p l x r h
    · rw [List.dropWhile_cons, if_neg hp] at h
      injection h with h1 h2
      subst h1
      simpa using hp
theorem letter_bd {c : UInt8} (h : letter c = true) : (97 ≤ c.toNat ∧ c.toNat ≤ 122) ∨ (65 ≤ c.toNat ∧ c.toNat ≤ 90) := by
  simpa only [letter, Bool.and_eq_true, Bool.or_eq_true, decide_eq_true_eq] using h
theorem isS_head : ∀ l ∈ signsL, ∃ c r, l = c :: r ∧ letter c = false ∧ digit c = false := by
  unfold signsL
  intro l hl
  simp only [List.mem_cons, List.not_mem_nil, or_false] at hl
  rcases hl with rfl|rfl|rfl|rfl|rfl|rfl|rfl|rfl|rfl|rfl|rfl|rfl|rfl|rfl|rfl|rfl|rfl|rfl|rfl|rfl|rfl|rfl <;> exact ⟨_, _, rfl, by decide, by decide⟩
theorem isS_not {c : UInt8} {r : Bytes} (h : (letter c || digit c) = true) : isS (c :: r) = false := by
  cases e : isS (c :: r) with
  | false => rfl
  | true =>
    obtain ⟨c', r', he, h1, h2⟩ := isS_head (c :: r) (by simpa [isS] using e)
    injection he with he _
    subst he
    simp [h1, h2] at h
theorem isW_head : ∀ l ∈ wordsL, ∃ c r, l = c :: r ∧ digit c = false := by
  unfold wordsL
  intro l hl
  simp only [List.mem_cons, List.not_mem_nil, or_false] at hl
  rcases hl with rfl|rfl|rfl|rfl|rfl|rfl|rfl|rfl|rfl|rfl <;> exact ⟨_, _, rfl, by decide⟩
theorem isW_not {c : UInt8} {r : Bytes} (h : digit c = true) : isW (c :: r) = false := by
  cases e : isW (c :: r) with
  | false => rfl
  | true =>
    obtain ⟨c', r', he, h1⟩ := isW_head (c :: r) (by simpa [isW] using e)
    injection he with he _
    subst he
    rw [h] at h1; cases h1
theorem letter_not_digit {c : UInt8} (h : letter c = true) : digit c = false := by
  have := letter_bd h
  cases e : digit c with
  | false => rfl
  | true => have := digit_bd e; omega
theorem digit_not_letter {c : UInt8} (h : digit c = true) : letter c = false := by
  cases e : letter c with
  | false => rfl
  | true => rw [letter_not_digit e] at h; cases h
theorem tw_tw {α : Type} {p q : α → Bool} (hpq : ∀ a, p a = true → q a = true) : ∀ (l : List α), (match l.dropWhile p with | [] => true | x :: _ => !q x) = true → l.takeWhile q = l.takeWhile p
  | [], _ => rfl
  | a :: r, h => by
    by_cases hp : p a = true
    · rw [List.dropWhile_cons, if_pos hp] at h
      rw [List.takeWhile_cons, List.takeWhile_cons, if_pos hp, if_pos (hpq a hp), tw_tw hpq r h]
    · rw [List.dropWhile_cons, if_neg hp] at h
      have hq : q a = false := by simpa using h
      rw [List.takeWhile_cons, List.takeWhile_cons, if_neg hp, if_neg (by simp [hq])]
theorem tw_mem {α : Type} {p q : α → Bool} (hpq : ∀ a, p a = true → q a = true) : ∀ (l : List α) (x : α) (r : List α), l.dropWhile p = x :: r → q x = true → x ∈ l.takeWhile q
  | [], x, r, h, _ => by simp at h
  | a :: l, x, r, h, hq => by
    by_cases hp : p a = true
    · rw [List.dropWhile_cons, if_pos hp] at h
      rw [List.takeWhile_cons, if_pos (hpq a hp)]
      exact List.mem_cons_of_mem _ (tw_mem hpq l x r h hq)
    · rw [List.dropWhile_cons, if_neg hp] at h
      injection h with h1 h2
      subst h1
      rw [List.takeWhile_cons, if_pos hq]
      simp
theorem tw_all {α : Type} (p : α → Bool) : ∀ (l : List α) (x : α), x ∈ l.takeWhile p → p x = true
  | [], x, h => by simp at h
  | a :: r, x, h => by
    rw [List.takeWhile_cons] at h
    split at h
    · rename_i ha
      rcases List.mem_cons.1 h with rfl | h
      · exact ha
      · exact tw_all p r x h
    · simp at h
/-- The reference's token is the program's. -/
theorem next_eq (l : Bytes) : rnext l = (pmean (l.take (plen l))).map fun x => (x.1, x.2, plen l) := by
  match l with
  | [] => rfl
  | c :: r =>
    by_cases hl : letter c = true
    · have hd := letter_not_digit hl
      have hw : wordy c = true := by simp [wordy, hl]
      simp only [rnext, plen, hl, Bool.true_or, if_true]
      rw [take_tw]
      rw [List.takeWhile_cons, if_pos hw]
      simp only [pmean, isS_not (c := c) (r := r.takeWhile wordy) (by simp [hl]), hd]
      by_cases h1 : isW (c :: r.takeWhile wordy) = true
      · simp [h1]
      · by_cases h2 : (c :: r.takeWhile wordy).length ≤ 32
        · simp [h1]
        · simp [h1]
    · have hl : letter c = false := by simpa using hl
      by_cases hd : digit c = true
      · have hw : wordy c = true := by simp [wordy, hd]
        simp only [rnext, plen, hl, hd, Bool.or_true, if_true, Bool.false_eq_true, if_false]
        rw [take_tw, drop_tw]
        have hpq : ∀ a, digit a = true → wordy a = true := fun a h => by simp [wordy, h]
        cases e : (c :: r).dropWhile digit with
        | nil =>
          have htw := tw_tw hpq (c :: r) (by rw [e])
          rw [htw, List.takeWhile_cons, if_pos hd]
          simp only [pmean, isS_not (c := c) (r := r.takeWhile digit) (by simp [hd]), isW_not (c := c) (r := r.takeWhile digit) hd, hd]
          rw [val_num hd (fun x hx => tw_all _ _ _ hx)]
          generalize decide (1 < (c :: r.takeWhile digit).length) = X
          generalize decide (c.toNat = 48) = Y
          cases num 0 (c :: r.takeWhile digit) <;> cases X <;> cases Y <;> rfl
        | cons x r' =>
          have hx := dw_head digit _ _ _ e
          by_cases hq : wordy x = true
          · have hm := tw_mem hpq (c :: r) x r' e hq
            have e1 : (c :: r).takeWhile wordy = c :: r.takeWhile wordy := by rw [List.takeWhile_cons, if_pos hw]
            rw [e1] at hm ⊢
            have hm' : x ∈ r.takeWhile wordy := by
              rcases List.mem_cons.1 hm with rfl | hm
              · rw [hd] at hx; cases hx
              · exact hm
            simp only [pmean, isS_not (c := c) (r := r.takeWhile wordy) (by simp [hd]), isW_not (c := c) (r := r.takeWhile wordy) hd, hd, val_none hd hm' hx]
            have hlx : (letter x || decide (x.toNat = 95)) = true := by
              simpa [wordy, hx] using hq
            cases num 0 (List.takeWhile digit (c :: r)) <;> simp [hlx]
          · have hq : wordy x = false := by simpa using hq
            have hlx : (letter x || decide (x.toNat = 95)) = false := by
              have := hq
              simp only [wordy, hx, Bool.or_false] at this
              exact this
            have htw := tw_tw hpq (c :: r) (by rw [e]; simp [hq])
            rw [htw, List.takeWhile_cons, if_pos hd]
            simp only [pmean, isS_not (c := c) (r := r.takeWhile digit) (by simp [hd]), isW_not (c := c) (r := r.takeWhile digit) hd, hd]
            rw [val_num hd (fun x hx => tw_all _ _ _ hx)]
            simp only [hlx]
            generalize decide (1 < (c :: r.takeWhile digit).length) = X
            generalize decide (c.toNat = 48) = Y
            cases num 0 (c :: r.takeWhile digit) <;> cases X <;> cases Y <;> rfl
      · have hd : digit c = false := by simpa using hd
        have hnn : ∀ n, n ≠ 0 → (c :: r).take n ≠ [] := fun n hn => by cases n with | zero => exact absurd rfl hn | succ n => simp
        simp only [rnext, plen, hl, hd, Bool.or_false, Bool.false_eq_true, if_false]
        by_cases h2 : (decide (2 ≤ (c :: r).length) && isS ((c :: r).take 2)) = true
        · rw [if_pos h2, if_pos h2]
          simp only [Bool.and_eq_true] at h2
          have h2' := h2.2
          simp only [List.take_succ_cons] at h2' ⊢
          simp [pmean, h2']
        · rw [if_neg h2, if_neg h2]
          by_cases h3 : isS ((c :: r).take 1) = true
          · rw [if_pos h3, if_pos h3]
            simp only [List.take_succ_cons, List.take_zero] at h3 ⊢
            simp [pmean, h3]
          · rw [if_neg h3, if_neg h3]
            simp [pmean]

/-- The tokens of a text from a line on, or the line at which there is none. -/
def scan (line : Nat) (l : Bytes) : Except Nat (List Tok) :=
  match l with
  | [] => .ok [⟨0, line, 0, []⟩]
  | c :: r =>
    if c.toNat = 10 then scan (line + 1) r
    else if c.toNat = 32 ∨ c.toNat = 9 then scan line r
    else if c.toNat = 35 then scan line (r.dropWhile fun x => decide (x.toNat ≠ 10))
    else
      match rnext (c :: r) with
      | none => .error line
      | some (k, v, n) =>
        match scan line (r.drop (n - 1)) with
        | .error e => .error e
        | .ok ts => .ok (⟨k, line, v, (c :: r).take n⟩ :: ts)
termination_by l.length
decreasing_by
  all_goals simp
  · have := List.Sublist.length_le (List.dropWhile_sublist (fun x : UInt8 => decide (x.toNat ≠ 10)) (l := r)); simp at this; omega
  · omega
/-- Tokens ahead of a result. -/
def ext (ts : List Tok) : Except Nat (List Tok) → Except Nat (List Tok)
  | .error e => .error e
  | .ok l => .ok (ts ++ l)
theorem ext_nil (x : Except Nat (List Tok)) : ext [] x = x := by cases x <;> rfl

/-- How many bytes lie ahead of the first token (com: within a comment). -/
def blk (com : Bool) : Bytes → Nat
  | [] => 0
  | c :: r => if c.toNat = 10 then 1 + blk false r else if c.toNat = 35 then 1 + blk true r else if com || decide (c.toNat = 32) || decide (c.toNat = 9) then 1 + blk com r else 0
theorem blk_le : ∀ (l : Bytes) (com : Bool), blk com l ≤ l.length
  | [], _ => Nat.le_refl _
  | c :: r, com => by
    have h1 := blk_le r false
    have h2 := blk_le r true
    have h3 := blk_le r com
    simp only [blk, List.length_cons]
    repeat' split
    all_goals omega
/-- The line behind the blanks. -/
def lns (l : Bytes) (n : Nat) : Nat := (l.take n).count 10
theorem scan_blk : ∀ (l : Bytes) (com : Bool) (line : Nat), scan line (if com then l.dropWhile (fun x => decide (x.toNat ≠ 10)) else l) = scan (line + lns l (blk com l)) (l.drop (blk com l))
  | [], com, line => by cases com <;> simp [lns, blk]
  | c :: r, com, line => by
    have h0 := scan_blk r false
    have h1 := scan_blk r true
    simp only [Bool.false_eq_true, if_false, if_true] at h0 h1
    have e10 : (c == 10) = decide (c.toNat = 10) := by
      rw [Bool.eq_iff_iff]; simp [← UInt8.toNat_inj]
    have hl : ∀ n, lns (c :: r) (1 + n) = lns r n + (if c.toNat = 10 then 1 else 0) := fun n => by
      rw [Nat.add_comm 1 n]
      simp only [lns, List.take_succ_cons, List.count_cons, e10]
      simp
    by_cases a : c.toNat = 10
    · have e : (if com = true then (c :: r).dropWhile (fun x => decide (x.toNat ≠ 10)) else c :: r) = c :: r := by
        cases com <;> simp [a]
      rw [e]
      simp only [blk, if_pos a]
      rw [hl, if_pos a, Nat.add_comm 1, List.drop_succ_cons]
      rw [scan]
      simp only [if_pos a]
      rw [h0]
      congr 1
      omega
    · by_cases b : c.toNat = 35
      · simp only [blk, if_neg a, if_pos b]
        rw [hl, if_neg a, Nat.add_comm 1, List.drop_succ_cons, Nat.add_zero, ← h1]
        cases com with
        | true =>
          simp only [if_true]
          rw [List.dropWhile_cons, if_pos (by simpa using a)]
        | false =>
          simp only [Bool.false_eq_true, if_false]
          rw [scan]
          simp only [if_neg a]
          rw [if_neg (by omega), if_pos b]
      · cases com with
        | true =>
          simp only [blk, if_neg a, if_neg b, Bool.true_or, if_true]
          rw [hl, if_neg a, Nat.add_comm 1, List.drop_succ_cons, Nat.add_zero, ← h1]
          rw [List.dropWhile_cons, if_pos (by simpa using a)]
        | false =>
          by_cases d : c.toNat = 32 ∨ c.toNat = 9
          · have d' : (false || decide (c.toNat = 32) || decide (c.toNat = 9)) = true := by simpa using d
            simp only [blk, if_neg a, if_neg b, d', if_true, Bool.false_eq_true, if_false]
            rw [hl, if_neg a, Nat.add_comm 1, List.drop_succ_cons, Nat.add_zero, ← h0]
            rw [scan]
            simp only [if_neg a]
            rw [if_pos d]
          · have d' : (false || decide (c.toNat = 32) || decide (c.toNat = 9)) = false := by simpa using d
            simp only [blk, if_neg a, if_neg b, d', Bool.false_eq_true, if_false]
            simp [lns]
/-- The first byte behind the blanks is none. -/
theorem blk_head : ∀ (l : Bytes) (com : Bool) (c : UInt8) (r : Bytes), l.drop (blk com l) = c :: r → c.toNat ≠ 10 ∧ ¬(c.toNat = 32 ∨ c.toNat = 9) ∧ c.toNat ≠ 35
  | [], com, c, r, h => by simp at h
  | x :: l, com, c, r, h => by
    have h0 := blk_head l false c r
    have h1 := blk_head l true c r
    have h2 := blk_head l com c r
    simp only [blk] at h
    by_cases a : x.toNat = 10
    · simp only [if_pos a, Nat.add_comm 1, List.drop_succ_cons] at h
      exact h0 h
    · by_cases b : x.toNat = 35
      · simp only [if_neg a, if_pos b, Nat.add_comm 1, List.drop_succ_cons] at h
        exact h1 h
      · by_cases d : (com || decide (x.toNat = 32) || decide (x.toNat = 9)) = true
        · simp only [if_neg a, if_neg b, if_pos d, Nat.add_comm 1, List.drop_succ_cons] at h
          exact h2 h
        · rw [if_neg a, if_neg b, if_neg d, List.drop_zero] at h
          injection h with e _
          subst e
          simp at d
          exact ⟨a, by rintro (h | h); exact d.1.2 h; exact d.2 h, b⟩
end Go.Proofs.YtmpnkbhlagalkaaGreatDoor
