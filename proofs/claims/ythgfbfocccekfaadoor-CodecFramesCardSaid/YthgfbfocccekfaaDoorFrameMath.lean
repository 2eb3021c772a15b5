/-
  Plain mathematics of frames: what a frame is, what bytes mean as one, and that one changed byte of a payload or of its checksum is noticed. No condition.
-/
import Derived.Test.YthgfbfocccekfaaDoorCrc
namespace Go.Proofs.YthgfbfocccekfaaDoor
open Go.RowKit

/-- The four bytes of a checksum, the least significant first. -/
def sum4 (s : Nat) : List Nat := [s % 256, s / 256 % 256, s / 65536 % 256, s / 16777216 % 256]
def frame (l : List Nat) : List Nat := enc l.length ++ l ++ sum4 (crc l)
/-- What bytes mean as a frame: the payload, the frame's length, the error. -/
def unframe (b : List Nat) : List Nat × Nat × Nat :=
  if (dec b).2.2 ≠ 0 then ([], 0, (dec b).2.2)
  else if 65535 < (dec b).1 then ([], 0, 5)
  else if b.length < (dec b).2.1 + (dec b).1 + 4 then ([], 0, 2)
  else if (b.drop ((dec b).2.1 + (dec b).1)).take 4 ≠ sum4 (crc ((b.drop (dec b).2.1).take (dec b).1)) then ([], 0, 4)
  else ((b.drop (dec b).2.1).take (dec b).1, (dec b).2.1 + (dec b).1 + 4, 0)

theorem xor_cancel {n a b : Nat} (h : n ^^^ a = n ^^^ b) : a = b := by
  have := congrArg (fun q => n ^^^ q) h
  simpa [← Nat.xor_assoc] using this
theorem sum4_inj {s t : Nat} (hs : s < 4294967296) (ht : t < 4294967296) (h : sum4 s = sum4 t) : s = t := by
  simp [sum4] at h
  omega
theorem sum4_lt (s : Nat) : ∀ x ∈ sum4 s, x < 256 := by
  simp [sum4]
  omega
theorem crcBit_inj {a b : Nat} (ha : a < 4294967296) (hb : b < 4294967296) (h : crcBit a = crcBit b) : a = b := by
  unfold crcBit at h
  have hbit : ∀ q : Nat, q < 2147483648 → (q ^^^ 3988292384).testBit 31 = true := fun q hq => by
    rw [Nat.testBit_xor, Nat.testBit_lt_two_pow (x := q) (i := 31) hq]
    decide
  have hno : ∀ q : Nat, q < 2147483648 → q.testBit 31 = false := fun q hq => Nat.testBit_lt_two_pow (x := q) (i := 31) hq
  by_cases h1 : a % 2 = 1 <;> by_cases h2 : b % 2 = 1
  · rw [if_pos h1, if_pos h2] at h
    have : a / 2 = b / 2 := xor_cancel (n := 3988292384) (by simpa [Nat.xor_comm] using h)
    omega
  · rw [if_pos h1, if_neg h2] at h
    have e1 := hbit (a / 2) (by omega)
    rw [h, hno (b / 2) (by omega)] at e1
    cases e1
  · rw [if_neg h1, if_pos h2] at h
    have e1 := hbit (b / 2) (by omega)
    rw [← h, hno (a / 2) (by omega)] at e1
    cases e1
  · rw [if_neg h1, if_neg h2] at h
    omega
theorem crcBits_inj (k : Nat) {a b : Nat} (ha : a < 4294967296) (hb : b < 4294967296) (h : crcBits k a = crcBits k b) : a = b := by
  induction k with
  | zero => exact h
  | succ k ih => exact ih (crcBit_inj (crcBits_lt k ha) (crcBits_lt k hb) h)
theorem crcFold_inj {a b : Nat} {l : List Nat} (hl : ∀ x ∈ l, x < 256) (ha : a < 4294967296) (hb : b < 4294967296) (h : crcFold a l = crcFold b l) : a = b := by
  unfold crcFold at h
  induction l generalizing a b with
  | nil => exact h
  | cons x l ih =>
    have hx := hl x (by simp)
    have := ih (fun y hy => hl y (by simp [hy])) (crcByte_lt ha hx) (crcByte_lt hb hx) h
    have := crcBits_inj 8 (xor_lt32 ha (by omega)) (xor_lt32 hb (by omega)) this
    exact xor_cancel (n := x) (by simpa [Nat.xor_comm] using this)
theorem crc_set {l : List Nat} {i y : Nat} (hl : ∀ x ∈ l, x < 256) (hi : i < l.length) (hy : y < 256) (hne : y ≠ l[i]) : crc (l.set i y) ≠ crc l := by
  intro h
  have hsplit : l = l.take i ++ l[i] :: l.drop (i + 1) := by rw [← List.drop_eq_getElem_cons hi, List.take_append_drop]
  have hset : l.set i y = l.take i ++ y :: l.drop (i + 1) := List.set_eq_take_append_cons_drop ▸ (by rw [if_pos hi])
  have hlt : ∀ z, z < 256 → ∀ x ∈ l.take i ++ z :: l.drop (i + 1), x < 256 := by
    intro z hz x hx
    rcases List.mem_append.1 hx with hx | hx
    · exact hl x (List.mem_of_mem_take hx)
    · rcases List.mem_cons.1 hx with rfl | hx
      · exact hz
      · exact hl x (List.mem_of_mem_drop hx)
  have hb := crcFold_lt (c := 4294967295) (by decide) (hlt y hy)
  have ha := crcFold_lt (c := 4294967295) (by decide) (hlt l[i] (hl _ (List.getElem_mem hi)))
  unfold crc at h
  rw [hset] at h
  conv at h => rhs; rw [hsplit]
  have h2 : crcFold 4294967295 (l.take i ++ y :: l.drop (i + 1)) = crcFold 4294967295 (l.take i ++ l[i] :: l.drop (i + 1)) := by omega
  have e : ∀ z, crcFold 4294967295 (l.take i ++ z :: l.drop (i + 1)) = crcFold (crcByte (crcFold 4294967295 (l.take i)) z) (l.drop (i + 1)) := fun z => by simp [crcFold]
  rw [e, e] at h2
  have hc := crcFold_lt (c := 4294967295) (l := l.take i) (by decide) (fun x hx => hl x (List.mem_of_mem_take hx))
  have hli := hl _ (List.getElem_mem hi)
  have := crcFold_inj (fun x hx => hl x (List.mem_of_mem_drop hx)) (crcByte_lt hc hy) (crcByte_lt hc hli) h2
  have := crcBits_inj 8 (xor_lt32 hc (by omega)) (xor_lt32 hc (by omega)) this
  exact hne (xor_cancel this)

theorem dec_frame (l rest : List Nat) (h : l.length ≤ 65535) : dec (enc l.length ++ rest) = (l.length, (enc l.length).length, 0) := dec_enc _ _ (by omega)
/-- A frame with one byte behind its length changed is noticed. -/
theorem unframe_damaged {l : List Nat} {i y : Nat} (hl : ∀ x ∈ l, x < 256) (hn : l.length ≤ 65535) (hi : i < l.length + 4) (hy : y < 256) (hne : (frame l)[(enc l.length).length + i]? ≠ some y) :
    unframe ((frame l).set ((enc l.length).length + i) y) = ([], 0, 4) := by
  have hset : (frame l).set ((enc l.length).length + i) y = enc l.length ++ (l ++ sum4 (crc l)).set i y := by
    unfold frame
    rw [List.append_assoc, List.set_append_right _ _ (by omega)]
    congr 2
    omega
  have hget : (frame l)[(enc l.length).length + i]? = (l ++ sum4 (crc l))[i]? := by
    unfold frame
    rw [List.append_assoc, List.getElem?_append_right (by omega)]
    congr 1
    omega
  rw [hget] at hne
  have hd : dec ((frame l).set ((enc l.length).length + i) y) = (l.length, (enc l.length).length, 0) := by rw [hset]; exact dec_frame l _ hn
  have hs4 : (sum4 (crc l)).length = 4 := rfl
  have hlen : ((frame l).set ((enc l.length).length + i) y).length = (enc l.length).length + l.length + 4 := by
    rw [hset]
    simp [hs4]
    omega
  unfold unframe
  rw [hd, hlen]
  simp only
  rw [if_neg (by simp), if_neg (by omega), if_neg (by omega), hset, if_pos]
  rw [List.drop_append_of_le_length (Nat.le_refl _), List.drop_length, List.nil_append]
  have hdr : (enc l.length ++ (l ++ sum4 (crc l)).set i y).drop ((enc l.length).length + l.length) = ((l ++ sum4 (crc l)).set i y).drop l.length := by
    rw [Nat.add_comm, ← List.drop_drop, List.drop_drop]
    rw [Nat.add_comm, ← List.drop_drop]
    rw [List.drop_append_of_le_length (Nat.le_refl _), List.drop_length, List.nil_append]
  rw [hdr]
  by_cases hil : i < l.length
  · rw [List.set_append_left _ _ hil]
    have e1 : (l.set i y ++ sum4 (crc l)).take l.length = l.set i y := by
      rw [List.take_append_of_le_length (by simp)]
      exact List.take_of_length_le (by simp)
    have e2 : (l.set i y ++ sum4 (crc l)).drop l.length = sum4 (crc l) := by
      have := List.drop_left (l₁ := l.set i y) (l₂ := sum4 (crc l))
      rwa [List.length_set] at this
    rw [e1, e2]
    have e3 : (sum4 (crc l)).take 4 = sum4 (crc l) := rfl
    rw [e3]
    intro h
    refine crc_set hl hil hy ?_ (sum4_inj (crc_lt _) (crc_lt _) h).symm
    intro he
    apply hne
    rw [List.getElem?_append_left hil, List.getElem?_eq_getElem hil, he]
  · have hil' : l.length ≤ i := by omega
    rw [List.set_append_right _ _ hil']
    have e1 : (l ++ (sum4 (crc l)).set (i - l.length) y).take l.length = l := List.take_left
    have e2 : (l ++ (sum4 (crc l)).set (i - l.length) y).drop l.length = (sum4 (crc l)).set (i - l.length) y := List.drop_left
    rw [e1, e2, List.take_of_length_le (by simp [hs4])]
    intro h
    apply hne
    rw [List.getElem?_append_right hil', ← h, List.getElem?_set_self (by rw [hs4]; omega)]

theorem sum4_step {s k : Nat} (hk : k < 4) : ∃ b : Nat, (sum4 s).take (k + 1) = (sum4 s).take k ++ [b] ∧ (s : Int) / 2 ^ (8 * k) % 256 = (b : Int) := by
  match k, hk with
  | 0, _ => exact ⟨s % 256, rfl, by simp⟩
  | 1, _ => exact ⟨s / 256 % 256, rfl, by simp⟩
  | 2, _ => exact ⟨s / 65536 % 256, rfl, by simp⟩
  | 3, _ => exact ⟨s / 16777216 % 256, rfl, by simp⟩
/-- The number of some bytes, the least significant first. -/
def leOf : List Nat → Nat
  | [] => 0
  | x :: l => x + 256 * leOf l
theorem leOf_snoc (l : List Nat) (x : Nat) : leOf (l ++ [x]) = leOf l + x * 2 ^ (8 * l.length) := by
  induction l with
  | nil => simp [leOf]
  | cons y l ih =>
    simp only [List.cons_append, leOf, ih, List.length_cons]
    rw [show 8 * (l.length + 1) = 8 * l.length + 8 from by omega, Nat.pow_add, Nat.mul_add, ← Nat.mul_assoc x]
    omega
theorem leOf_lt (l : List Nat) (h : ∀ x ∈ l, x < 256) : leOf l < 2 ^ (8 * l.length) := by
  induction l with
  | nil => simp [leOf]
  | cons y l ih =>
    have := ih (fun x hx => h x (by simp [hx]))
    have hy := h y (by simp)
    simp only [leOf, List.length_cons]
    rw [show 8 * (l.length + 1) = 8 * l.length + 8 from by omega, Nat.pow_add]
    omega
theorem sum4_leOf {l : List Nat} (hl : ∀ x ∈ l, x < 256) (h4 : 4 ≤ l.length) : sum4 (leOf (l.take 4)) = l.take 4 ∧ leOf (l.take 4) < 4294967296 := by
  match l, h4 with
  | a :: b :: c :: d :: r, _ =>
    have ha := hl a (by simp)
    have hb := hl b (by simp)
    have hc := hl c (by simp)
    have hd := hl d (by simp)
    simp [sum4, leOf]
    omega
theorem orByte32 {q x k : Nat} (hq : q < 2 ^ (8 * k)) (hx : x < 256) (hk : k < 4) : bits .or .u32 (q : Int) ((x : Int) * 2 ^ (8 * k) % 4294967296) = ((q + x * 2 ^ (8 * k) : Nat) : Int) := by
  have hp : (2 : Nat) ^ (8 * k) ≤ 2 ^ 24 := Nat.pow_le_pow_right (by decide) (by omega)
  have hm : x * 2 ^ (8 * k) ≤ 255 * 2 ^ (8 * k) := Nat.mul_le_mul_right _ (by omega)
  have h24 : (2 : Nat) ^ 24 = 16777216 := by decide
  have e : (x : Int) * 2 ^ (8 * k) % 4294967296 = ((x * 2 ^ (8 * k) : Nat) : Int) := by
    have : (x : Int) * 2 ^ (8 * k) = ((x * 2 ^ (8 * k) : Nat) : Int) := by simp
    rw [this]
    omega
  rw [e]
  refine (u32_or_nat q (x * 2 ^ (8 * k)) (by omega) (by omega)).trans ?_
  rw [Nat.or_comm, nat_join (8 * k) (x * 2 ^ (8 * k)) q (Nat.mul_mod_left _ _) hq, Nat.add_comm]
end Go.Proofs.YthgfbfocccekfaaDoor
