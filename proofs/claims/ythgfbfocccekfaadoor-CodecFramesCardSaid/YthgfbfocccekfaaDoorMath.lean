/-
  Plain mathematics of the numbers of variable length: what is written, what is read, and that the second undoes the first. No condition.
-/
import Derived.WalkKit
namespace Go.Proofs.YthgfbfocccekfaaDoor
open Go.RowKit

/-- A byte as a value. -/
def bv (c : Nat) : Value := .int .u8 (c : Int)
theorem bv_one (l : List Nat) : ∀ u ∈ l.map bv, u.oneCell' = true := by
  intro u hu
  obtain ⟨c, _, rfl⟩ := List.mem_map.1 hu
  rfl
theorem one_cell_u8 (x : Int) : ∀ u ∈ [Value.int .u8 x], u.oneCell' = true := by simp [Value.oneCell']

/-- The encoding of n, at most f bytes. -/
def encF : Nat → Nat → List Nat
  | 0, _ => []
  | f + 1, n => if n < 128 then [n] else (n % 128 + 128) :: encF f (n / 128)
def enc (n : Nat) : List Nat := encF 10 n

theorem encF_big {f m : Nat} (hf : m < 128 ^ f) (hm : 128 ≤ m) : ∃ g, f = g + 1 ∧ 1 ≤ g ∧ m / 128 < 128 ^ g ∧ encF f m = (m % 128 + 128) :: encF g (m / 128) := by
  match f, hf with
  | 0, hf => simp at hf; omega
  | 1, hf => simp at hf; omega
  | g + 2, hf => exact ⟨g + 1, rfl, by omega, by rw [Nat.pow_succ] at hf; exact Nat.div_lt_of_lt_mul (by rw [Nat.mul_comm]; exact hf), by rw [encF, if_neg (by omega)]⟩
theorem encF_small {f m : Nat} (hf : 1 ≤ f) (hm : m < 128) : encF f m = [m] := by
  match f, hf with
  | g + 1, _ => rw [encF, if_pos hm]
theorem encF_len (f m : Nat) : (encF f m).length ≤ f := by
  induction f generalizing m with
  | zero => simp [encF]
  | succ f ih =>
    rw [encF]
    split
    · simp
    · simpa using ih (m / 128)
theorem encF_pos (f m : Nat) (hf : 1 ≤ f) : 1 ≤ (encF f m).length := by
  match f, hf with
  | g + 1, _ => rw [encF]; split <;> simp
theorem encF_lt (f m : Nat) : ∀ c ∈ encF f m, c < 256 := by
  induction f generalizing m with
  | zero => simp [encF]
  | succ f ih =>
    rw [encF]
    split
    · intro c hc
      simp at hc
      omega
    · intro c hc
      rcases List.mem_cons.1 hc with rfl | hc
      · omega
      · exact ih _ c hc
/-- A shorter encoding is a smaller number. -/
theorem encF_mono {f n m : Nat} (h : (encF f n).length < (encF f m).length) : n < m := by
  induction f generalizing n m with
  | zero => simp [encF] at h
  | succ f ih =>
    simp only [encF] at h
    split at h <;> split at h
    · simp at h
    · omega
    · rename_i h1 h2
      simp at h
    · have := @ih (n / 128) (m / 128) (by simpa using h)
      omega

theorem orByte (m : Nat) : bits .or .u8 ((m : Int) % 256) 128 = ((m % 128 + 128 : Nat) : Int) := by
  have h : ((m : Int) % 256) = ((m % 256 : Nat) : Int) := by omega
  rw [h]
  refine (u8_or_nat (m % 256) 128 (by omega) (by omega)).trans ?_
  have h2 : ∀ k : Fin 256, k.val ||| 128 = k.val % 128 + 128 := by decide +kernel
  rw [h2 ⟨m % 256, by omega⟩]
  show ((m % 256 % 128 + 128 : Nat) : Int) = _
  omega

/-- What the bytes mean as a number: the number, its length, the error (0: none; 2: too short; 3: no such form), from index i on, n being what the bytes before say. -/
def decF : Nat → Nat → Nat → List Nat → Nat × Nat × Nat
  | 0, _, _, _ => (0, 0, 3)
  | _ + 1, _, _, [] => (0, 0, 2)
  | f + 1, i, n, x :: r => if 128 ≤ x then decF f (i + 1) (n + x % 128 * 128 ^ i) r else if (0 < i ∧ x = 0) ∨ (i = 9 ∧ x ≠ 1) then (0, 0, 3) else (n + x * 128 ^ i, i + 1, 0)
def dec (l : List Nat) : Nat × Nat × Nat := decF 10 0 0 l

theorem decF_enc (f i n m : Nat) (more : List Nat) (hfi : f + i = 10) (hm : m < 128 ^ f) (h9 : m * 128 ^ i < 18446744073709551616) (h1 : 1 ≤ f) (hz : i = 0 ∨ 0 < m) :
    decF f i n (encF f m ++ more) = (n + m * 128 ^ i, i + (encF f m).length, 0) := by
  induction f generalizing i n m with
  | zero => omega
  | succ f ih =>
    by_cases hb : m < 128
    · rw [encF_small (by omega) hb]
      simp only [List.cons_append, List.nil_append, decF, List.length_singleton]
      rw [if_neg (by omega), if_neg]
      rintro (⟨a, b⟩ | ⟨a, b⟩)
      · omega
      · subst a
        have : (128 : Nat) ^ 9 = 9223372036854775808 := by decide
        rw [this] at h9
        omega
    · obtain ⟨g, hg, hg1, hlt, he⟩ := encF_big hm (by omega)
      obtain rfl : f = g := by omega
      rw [he]
      simp only [List.cons_append, decF, List.length_cons]
      rw [if_pos (by omega)]
      have hp : (128 : Nat) ^ (i + 1) = 128 ^ i * 128 := Nat.pow_succ ..
      have hdm : m = m / 128 * 128 + m % 128 := by omega
      have hkey : m * 128 ^ i = m / 128 * 128 ^ (i + 1) + m % 128 * 128 ^ i := by
        rw [hp]
        conv => lhs; rw [hdm]
        rw [Nat.add_mul, Nat.mul_assoc, Nat.mul_comm 128]
      rw [ih (i + 1) _ (m / 128) (by omega) hlt (by omega) hg1 (Or.inr (by omega))]
      have e1 : (m % 128 + 128) % 128 = m % 128 := by omega
      rw [e1, hkey]
      refine Prod.ext ?_ (Prod.ext ?_ rfl)
      · simp only; omega
      · simp only; omega
/-- Reading undoes writing, whatever follows. -/
theorem dec_enc (m : Nat) (more : List Nat) (hm : m < 18446744073709551616) : dec (enc m ++ more) = (m, (enc m).length, 0) := by
  unfold dec enc
  rw [decF_enc 10 0 0 m more rfl (by have : (128 : Nat) ^ 10 = 1180591620717411303424 := by decide
                                     omega) (by simpa using hm) (by omega) (Or.inl rfl)]
  simp

theorem decF_at {k nn x : Nat} {l r : List Nat} (hk : k < 10) (hx : l = x :: r) :
    decF (10 - k) k nn l = if 128 ≤ x then decF (10 - (k + 1)) (k + 1) (nn + x % 128 * 128 ^ k) r else if (0 < k ∧ x = 0) ∨ (k = 9 ∧ x ≠ 1) then (0, 0, 3) else (nn + x * 128 ^ k, k + 1, 0) := by
  subst hx
  obtain ⟨f, hf⟩ : ∃ f, 10 - k = f + 1 := ⟨9 - k, by omega⟩
  have hf' : 10 - (k + 1) = f := by omega
  rw [hf, hf', decF]
theorem decF_end {k nn : Nat} (hk : k < 10) : decF (10 - k) k nn [] = (0, 0, 2) := by
  obtain ⟨f, hf⟩ : ∃ f, 10 - k = f + 1 := ⟨9 - k, by omega⟩
  rw [hf, decF]
theorem orShift (nn k x : Nat) (hnn : nn < 128 ^ k) (hk : k ≤ 9) (hfit : x * 128 ^ k < 18446744073709551616) : bits .or .u64 (nn : Int) (IntKind.u64.wrap ((x : Int) * 2 ^ (7 * k))) = ((nn + x * 128 ^ k : Nat) : Int) := by
  have hp : (128 : Nat) ^ k = 2 ^ (7 * k) := by rw [Nat.pow_mul]
  by_cases hx : x = 0
  · subst hx
    have hn : nn < 18446744073709551616 := by
      have h9 : (128 : Nat) ^ k ≤ 128 ^ 9 := Nat.pow_le_pow_right (by decide) hk
      have : (128 : Nat) ^ 9 = 9223372036854775808 := by decide
      omega
    simp only [Nat.zero_mul, Nat.add_zero]
    have e : IntKind.u64.wrap (((0 : Nat) : Int) * 2 ^ (7 * k)) = ((0 : Nat) : Int) := by
      rw [IntKind.wrap_u64]
      simp
    rw [e]
    exact (u64_or_nat nn 0 hn (by decide)).trans (by rw [Nat.or_zero])
  · have hnn' : nn < 18446744073709551616 := by
      refine Nat.lt_trans (Nat.lt_of_lt_of_le hnn ?_) hfit
      exact Nat.le_mul_of_pos_left _ (by omega)
    have e : IntKind.u64.wrap ((x : Int) * 2 ^ (7 * k)) = ((x * 128 ^ k : Nat) : Int) := by
      rw [IntKind.wrap_u64, hp]
      have : (x : Int) * 2 ^ (7 * k) = ((x * 2 ^ (7 * k) : Nat) : Int) := by simp
      rw [this]
      rw [hp] at hfit
      omega
    rw [e]
    refine (u64_or_nat nn (x * 128 ^ k) hnn' hfit).trans ?_
    rw [Nat.or_comm, nat_join (7 * k) (x * 128 ^ k) nn (by rw [hp]; exact Nat.mul_mod_left _ _) (by rw [← hp]; exact hnn), Nat.add_comm]
/-- An integer as a number: 0, -1, 1, -2, .. -/
def zig (n : Int) : Nat := if 0 ≤ n then (2 * n).toNat else (-2 * n - 1).toNat
def zag (m : Nat) : Int := if m % 2 = 0 then ((m / 2 : Nat) : Int) else -((m / 2 : Nat) : Int) - 1
theorem zag_zig (n : Int) : zag (zig n) = n := by
  unfold zag zig
  split <;> split <;> omega
theorem zig_lt (n : Int) (h1 : -9223372036854775808 ≤ n) (h2 : n ≤ 9223372036854775807) : zig n < 18446744073709551616 := by
  unfold zig
  split <;> omega
theorem nat_xor_ones (a : Nat) (ha : a < 18446744073709551616) : a ^^^ 18446744073709551615 = 18446744073709551615 - a := by
  have h := congrArg BitVec.toNat (BitVec.xor_allOnes (x := BitVec.ofNat 64 a))
  rw [BitVec.toNat_xor, BitVec.toNat_not, BitVec.toNat_ofNat, Nat.mod_eq_of_lt (by omega)] at h
  exact h
theorem zigXorPos (i : Nat) (hi : i ≤ 9223372036854775807) : bits .xor .u64 ((i : Int) * 2) ((i : Int) / 9223372036854775808) = ((zig (i : Int) : Nat) : Int) := by
  have h1 : (i : Int) * 2 = ((2 * i : Nat) : Int) := by omega
  have h2 : (i : Int) / 9223372036854775808 = ((0 : Nat) : Int) := by omega
  rw [h1, h2]
  refine (bits_xor_u64_nat (2 * i) 0 (by omega) (by omega)).trans ?_
  rw [Nat.xor_zero]
  unfold zig
  rw [if_pos (by omega)]
  omega
theorem zigXorNeg (i : Int) (hi : -9223372036854775808 ≤ i) (h0 : i < 0) : bits .xor .u64 (IntKind.u64.wrap (IntKind.u64.wrap i * 2)) (IntKind.u64.wrap (i / 9223372036854775808)) = ((zig i : Nat) : Int) := by
  have h1 : IntKind.u64.wrap (IntKind.u64.wrap i * 2) = (((18446744073709551616 + 2 * i).toNat : Nat) : Int) := by
    rw [IntKind.wrap_u64, IntKind.wrap_u64]
    omega
  have h2 : IntKind.u64.wrap (i / 9223372036854775808) = ((18446744073709551615 : Nat) : Int) := by
    rw [IntKind.wrap_u64]
    omega
  rw [h1, h2]
  refine (bits_xor_u64_nat _ _ (by omega) (by omega)).trans ?_
  rw [nat_xor_ones _ (by omega)]
  unfold zig
  rw [if_neg (by omega)]
  omega
end Go.Proofs.YthgfbfocccekfaaDoor
