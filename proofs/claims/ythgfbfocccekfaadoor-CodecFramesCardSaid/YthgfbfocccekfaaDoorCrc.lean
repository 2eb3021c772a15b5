/-
  Plain mathematics of the checksum: bit by bit, and half a byte at a time by a table. No condition.
-/
import Derived.Test.YthgfbfocccekfaaDoorMath
namespace Go.Proofs.YthgfbfocccekfaaDoor
open Go.RowKit

/-- One bit of the CRC-32 of IEEE 802.3. -/
def crcBit (c : Nat) : Nat := if c % 2 = 1 then c / 2 ^^^ 3988292384 else c / 2
def crcBits : Nat → Nat → Nat
  | 0, c => c
  | k + 1, c => crcBit (crcBits k c)
def crcByte (c x : Nat) : Nat := crcBits 8 (c ^^^ x)
def crcFold (c : Nat) (l : List Nat) : Nat := l.foldl crcByte c
def crc (l : List Nat) : Nat := 4294967295 - crcFold 4294967295 l
/-- The remainders of the half bytes. -/
def crcTab : List Nat := [0, 498536548, 997073096, 651767980, 1994146192, 1802195444, 1303535960, 1342533948, 3988292384, 4027552580, 3604390888, 3412177804, 2607071920, 2262029012, 2685067896, 3183342108]
def crcNib (c : Nat) : Nat := c / 16 ^^^ crcTab.getD (c % 16) 0

theorem crcBit_xor (a b : Nat) : crcBit (a ^^^ b) = crcBit a ^^^ crcBit b := by
  unfold crcBit
  have h1 : (a ^^^ b) / 2 = a / 2 ^^^ b / 2 := Nat.xor_div_two
  have h2 : (a ^^^ b) % 2 = (a % 2 + b % 2) % 2 := by
    have := @Nat.xor_mod_two_eq_one a b
    by_cases h : (a ^^^ b) % 2 = 1 <;> simp only [h, true_iff, false_iff] at this <;> omega
  rw [h1, h2]
  by_cases ha : a % 2 = 1 <;> by_cases hb : b % 2 = 1
  · rw [if_neg (by omega), if_pos ha, if_pos hb]
    rw [Nat.xor_assoc, ← Nat.xor_assoc 3988292384, Nat.xor_comm 3988292384 (b / 2), Nat.xor_assoc, Nat.xor_self, Nat.xor_zero]
  · rw [if_pos (by omega), if_pos ha, if_neg hb, Nat.xor_assoc, Nat.xor_comm (b / 2), ← Nat.xor_assoc]
  · rw [if_pos (by omega), if_neg ha, if_pos hb, Nat.xor_assoc]
  · rw [if_neg (by omega), if_neg ha, if_neg hb]
theorem crcBits_xor (k a b : Nat) : crcBits k (a ^^^ b) = crcBits k a ^^^ crcBits k b := by
  induction k with
  | zero => rfl
  | succ k ih => rw [crcBits, crcBits, crcBits, ih, crcBit_xor]
theorem crcBit_even (q : Nat) : crcBit (2 * q) = q := by
  unfold crcBit
  rw [if_neg (by omega)]
  omega
theorem crcBits4 (c : Nat) : crcBits 4 c = crcNib c := by
  have hsplit : c = 16 * (c / 16) ^^^ c % 16 := by
    have h := nat_join 4 (16 * (c / 16)) (c % 16) (by omega) (by omega)
    have hx : 16 * (c / 16) ^^^ c % 16 = 16 * (c / 16) ||| c % 16 := by
      refine Nat.eq_of_testBit_eq fun i => ?_
      rw [Nat.testBit_xor, Nat.testBit_or]
      have e : 16 * (c / 16) = 2 ^ 4 * (c / 16) := rfl
      rw [e, Nat.testBit_two_pow_mul]
      by_cases hi : 4 ≤ i
      · have : (c % 16).testBit i = false := Nat.testBit_lt_two_pow (Nat.lt_of_lt_of_le (Nat.mod_lt _ (by decide)) (Nat.pow_le_pow_right (n := 2) (by decide) hi))
        simp [this]
      · simp [hi]
    rw [hx, h]
    omega
  have hq : crcBits 4 (16 * (c / 16)) = c / 16 := by
    simp only [crcBits]
    rw [show 16 * (c / 16) = 2 * (2 * (2 * (2 * (c / 16)))) from by omega, crcBit_even, crcBit_even, crcBit_even, crcBit_even]
  have hr : ∀ r : Fin 16, crcBits 4 r.val = crcTab.getD r.val 0 := by decide +kernel
  conv => lhs; rw [hsplit]
  rw [crcBits_xor, hq, hr ⟨c % 16, Nat.mod_lt _ (by decide)⟩]
  rfl
theorem crcBits_add (a b c : Nat) : crcBits (a + b) c = crcBits a (crcBits b c) := by
  induction a with
  | zero => simp [crcBits]
  | succ a ih => rw [show a + 1 + b = (a + b) + 1 from by omega, crcBits, ih, crcBits]
theorem crcByte_nib (c x : Nat) : crcByte c x = crcNib (crcNib (c ^^^ x)) := by
  unfold crcByte
  rw [show 8 = 4 + 4 from rfl, crcBits_add, crcBits4, crcBits4]
theorem xor_lt32 {a b : Nat} (ha : a < 4294967296) (hb : b < 4294967296) : a ^^^ b < 4294967296 := Nat.xor_lt_two_pow (n := 32) ha hb
theorem crcBit_lt {c : Nat} (h : c < 4294967296) : crcBit c < 4294967296 := by
  unfold crcBit
  split
  · exact xor_lt32 (by omega) (by omega)
  · omega
theorem crcBits_lt {c : Nat} (k : Nat) (h : c < 4294967296) : crcBits k c < 4294967296 := by
  induction k with
  | zero => exact h
  | succ k ih => exact crcBit_lt ih
theorem crcByte_lt {c x : Nat} (h : c < 4294967296) (hx : x < 256) : crcByte c x < 4294967296 := crcBits_lt 8 (xor_lt32 h (by omega))
theorem crcTab_lt (r : Nat) : crcTab.getD r 0 < 4294967296 := by
  by_cases h : r < 16
  · have : ∀ r : Fin 16, crcTab.getD r.val 0 < 4294967296 := by decide +kernel
    exact this ⟨r, h⟩
  · have e : crcTab.getD r 0 = 0 := by
      have hl : crcTab.length ≤ r := Nat.le_of_not_lt h
      simp [List.getElem?_eq_none hl]
    rw [e]
    decide
theorem crcNib_lt {c : Nat} (h : c < 4294967296) : crcNib c < 4294967296 := xor_lt32 (by omega) (crcTab_lt _)
theorem crcFold_lt {c : Nat} {l : List Nat} (h : c < 4294967296) (hl : ∀ x ∈ l, x < 256) : crcFold c l < 4294967296 := by
  unfold crcFold
  induction l generalizing c with
  | nil => exact h
  | cons x l ih => exact ih (crcByte_lt h (hl x (by simp))) (fun y hy => hl y (by simp [hy]))
theorem crc_lt (l : List Nat) : crc l < 4294967296 := by unfold crc; omega
theorem crcFold_take {c : Nat} {l : List Nat} {k : Nat} (hk : k < l.length) : crcFold c (l.take (k + 1)) = crcByte (crcFold c (l.take k)) l[k] := by
  unfold crcFold
  rw [List.take_succ_eq_append_getElem hk, List.foldl_append]
  rfl
theorem xor32 (a b : Nat) (ha : a < 4294967296) (hb : b < 4294967296) : bits .xor .u32 (a : Int) (b : Int) = ((a ^^^ b : Nat) : Int) := u32_xor_nat a b ha hb
theorem and15 (a : Nat) (ha : a < 4294967296) : bits .and .u32 (a : Int) 15 = ((a % 16 : Nat) : Int) :=
  (u32_and_nat a 15 ha (by decide)).trans (by rw [nat_mask4])
theorem and1 (a : Nat) (ha : a < 4294967296) : bits .and .u32 (a : Int) 1 = ((a % 2 : Nat) : Int) :=
  (u32_and_nat a 1 ha (by decide)).trans (by rw [nat_mask1])
/-- Half a byte as the walk spells it. -/
theorem nib32 (c : Nat) (h : c < 4294967296) : bits .xor .u32 ((c : Int) / 16) ((crcTab.getD (c % 16) 0 : Nat) : Int) = ((crcNib c : Nat) : Int) := by
  have e : (c : Int) / 16 = ((c / 16 : Nat) : Int) := by omega
  rw [e]
  exact xor32 _ _ (by omega) (crcTab_lt _)
theorem nat_xor_ones32 (a : Nat) (ha : a < 4294967296) : a ^^^ 4294967295 = 4294967295 - a := by
  have h := congrArg BitVec.toNat (BitVec.xor_allOnes (x := BitVec.ofNat 32 a))
  rw [BitVec.toNat_xor, BitVec.toNat_not, BitVec.toNat_ofNat, Nat.mod_eq_of_lt (by omega)] at h
  exact h
theorem comp32 (c : Nat) (h : c < 4294967296) : bits .xor .u32 IntKind.u32.max (c : Int) = ((4294967295 - c : Nat) : Int) := by
  have e : IntKind.u32.max = ((4294967295 : Nat) : Int) := rfl
  rw [e]
  refine (xor32 4294967295 c (by decide) h).trans ?_
  rw [Nat.xor_comm, nat_xor_ones32 c h]
theorem crc_known : crc [49, 50, 51, 52, 53, 54, 55, 56, 57] = 3421780262 := by decide +kernel

theorem decF_fits (f i nn : Nat) (l : List Nat) (hf : f + i = 10) (hn : nn < 128 ^ i) : (decF f i nn l).1 < 18446744073709551616 ∧ (decF f i nn l).2.1 ≤ 10 ∧ (decF f i nn l).2.1 ≤ i + l.length := by
  induction f generalizing i nn l with
  | zero => simp [decF]
  | succ f ih =>
    cases l with
    | nil => simp [decF]
    | cons x r =>
      rw [decF]
      split
      · have h := ih (i + 1) (nn + x % 128 * 128 ^ i) r (by omega) (by
          rw [Nat.pow_succ]
          have : x % 128 * 128 ^ i ≤ 127 * 128 ^ i := Nat.mul_le_mul_right _ (by omega)
          omega)
        rw [List.length_cons]
        omega
      · split
        · simp
        · rename_i h1 h2
          simp only [List.length_cons]
          have hp9 : (128 : Nat) ^ 9 = 9223372036854775808 := by decide
          have hp8 : (128 : Nat) ^ 8 = 72057594037927936 := by decide
          refine ⟨?_, by omega, by omega⟩
          by_cases h9 : i = 9
          · subst h9
            obtain rfl : x = 1 := by omega
            omega
          · have h8 : (128 : Nat) ^ i ≤ 128 ^ 8 := Nat.pow_le_pow_right (by decide) (by omega)
            have : x * 128 ^ i ≤ 127 * 128 ^ i := Nat.mul_le_mul_right _ (by omega)
            omega
theorem dec_fits (l : List Nat) : (dec l).1 < 18446744073709551616 ∧ (dec l).2.1 ≤ 10 ∧ (dec l).2.1 ≤ l.length := by
  have := decF_fits 10 0 0 l rfl (by simp)
  simpa [dec] using this
theorem zagBits (n : Nat) (h : n < 18446744073709551616) : wrap64 (bits .xor .u64 ((n : Int) / 2) (IntKind.u64.wrap (-bits .and .u64 (n : Int) 1))) = zag n := by
  have ha : bits .and .u64 (n : Int) 1 = ((n % 2 : Nat) : Int) := (u64_and_nat n 1 h (by decide)).trans (by rw [nat_mask1])
  have e : (n : Int) / 2 = ((n / 2 : Nat) : Int) := by omega
  rw [ha, e]
  unfold zag
  rcases Nat.mod_two_eq_zero_or_one n with h0 | h0
  · rw [if_pos h0]
    have e2 : IntKind.u64.wrap (-((n % 2 : Nat) : Int)) = ((0 : Nat) : Int) := by rw [IntKind.wrap_u64, h0]; rfl
    rw [e2, bits_xor_u64_nat _ _ (by omega) (by omega), Nat.xor_zero]
    unfold wrap64
    omega
  · rw [if_neg (by omega)]
    have e2 : IntKind.u64.wrap (-((n % 2 : Nat) : Int)) = ((18446744073709551615 : Nat) : Int) := by rw [IntKind.wrap_u64, h0]; rfl
    rw [e2, bits_xor_u64_nat _ _ (by omega) (by omega), nat_xor_ones _ (by omega)]
    unfold wrap64
    omega
end Go.Proofs.YthgfbfocccekfaaDoor
