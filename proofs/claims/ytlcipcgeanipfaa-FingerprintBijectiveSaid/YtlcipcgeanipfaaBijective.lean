/-
  The walk of FingerprintBijective: different numbers have different fingerprints, and Join is different for different firsts or seconds. No condition.
-/
import Derived.Test.YtlcipcgeanipfaaFpAwake
namespace Go.Proofs.Ytlcipcgeanipfaa
open Go.RowKit

theorem flipI (x k : Nat) (hx : x < 18446744073709551616) (hk : k < 64) : bits .xor .u64 (x : Int) (IntKind.u64.wrap (2 ^ k)) = ((x ^^^ 2 ^ k : Nat) : Int) := by
  have hp : 2 ^ k < 18446744073709551616 := Nat.pow_lt_pow_right (by decide) hk
  have e : IntKind.u64.wrap (2 ^ k) = ((2 ^ k : Nat) : Int) := by
    have h2 : ((2 : Int) ^ k) = ((2 ^ k : Nat) : Int) := by simp
    rw [IntKind.wrap_u64, h2]
    generalize 2 ^ k = q at *
    omega
  rw [e]
  exact bits_xor_u64_nat x (2 ^ k) hx hp
theorem flip_ne (x k : Nat) : x ^^^ 2 ^ k ≠ x := fun h => by
  have h1 : x ^^^ (x ^^^ 2 ^ k) = x ^^^ x := by rw [h]
  rw [← Nat.xor_assoc, Nat.xor_self, Nat.zero_xor] at h1
  have h2 : 0 < 2 ^ k := Nat.two_pow_pos k
  omega
theorem bneI {a b : Nat} (h : a ≠ b) : (((a : Nat) : Int) != ((b : Nat) : Int)) = true := by rw [bne_iff_ne]; omega
theorem beqI {a b : Nat} (h : a ≠ b) : (((a : Nat) : Int) == ((b : Nat) : Int)) = false := by rw [beq_eq_false_iff_ne]; omega
set_option maxRecDepth 10000 in
theorem bijective_any (x y z bit : Nat) (w : World) (hx : x < 18446744073709551616) (hy : y < 18446744073709551616) (hbit : bit < 256) :
    Calls Try.prog 4 #[.int .u64 (x : Int), .int .u64 (y : Int), .int .u64 (z : Int), .int .u8 (bit : Int)] w fun e w' => e = .returned (.bool true) ∧ w = w' := by
  have hf := flipI x (bit % 64) hx (Nat.mod_lt _ (by decide))
  have hne := flip_ne x (bit % 64)
  have hlt : x ^^^ 2 ^ (bit % 64) < 18446744073709551616 := by
    have h64 : bit % 64 < 64 := Nat.mod_lt _ (by decide)
    exact x64 hx (Nat.pow_lt_pow_right (by decide) h64)
  generalize x ^^^ 2 ^ (bit % 64) = v at *
  have Hf := Lib.hid hf; clear hf
  have b1 := bneI (fun h => hne (scr_inj hx hlt h).symm)
  have b2 := bneI (a := jn x z) (b := jn v z) (fun h => hne (jn_left hx hlt h).symm)
  have b3 := bneI (a := jn z x) (b := jn z v) (fun h => hne (jn_right hx hlt h).symm)
  clear hne
  by_cases hxy : x = y
  · subst hxy
    go_enter Try.func4, Try.ntmps4
    go_wp2_with fail
    refine (awake_any _).mono ?_
    rintro e w1 ⟨rfl, rfl⟩
    go_wp2_with fail
    refine (scramble_any _ _ _ rfl hx).mono ?_
    rintro e w1 ⟨rfl, rfl⟩
    go_wp2_with fail
    refine (scramble_any _ _ _ rfl hx).mono ?_
    rintro e w1 ⟨rfl, rfl⟩
    go_wp2_with fail
    refine (scramble_any _ _ _ rfl hx).mono ?_
    rintro e w1 ⟨rfl, rfl⟩
    go_wp2_with fail
    refine (scramble_any _ _ _ Hf.out hlt).mono ?_
    rintro e w1 ⟨rfl, rfl⟩
    go_wp2_with fail
    refine (join_any _ _ _ _ _ rfl rfl).mono ?_
    rintro e w1 ⟨rfl, rfl⟩
    go_wp2_with fail
    refine (join_any _ _ _ _ _ Hf.out rfl).mono ?_
    rintro e w1 ⟨rfl, rfl⟩
    go_wp2_with fail
    refine (join_any _ _ _ _ _ rfl rfl).mono ?_
    rintro e w1 ⟨rfl, rfl⟩
    go_wp2_with fail
    refine (join_any _ _ _ _ _ rfl Hf.out).mono ?_
    rintro e w1 ⟨rfl, rfl⟩
    go_wp2_with fail
    refine (join_any _ _ _ _ _ rfl rfl).mono ?_
    rintro e w1 ⟨rfl, rfl⟩
    go_wp2_with fail
    refine (join_any _ _ _ _ _ rfl rfl).mono ?_
    rintro e w1 ⟨rfl, rfl⟩
    go_wp2_with fail
    go_ret
    exact ⟨rfl, rfl⟩
  · have c1 := beqI hxy
    have c2 := beqI (a := scr x) (b := scr y) (fun h => hxy (scr_inj hx hy h))
    have c3 := beqI (a := jn x z) (b := jn y z) (fun h => hxy (jn_left hx hy h))
    clear hxy
    go_enter Try.func4, Try.ntmps4
    go_wp2_with fail
    refine (awake_any _).mono ?_
    rintro e w1 ⟨rfl, rfl⟩
    go_wp2_with fail
    refine (scramble_any _ _ _ rfl hx).mono ?_
    rintro e w1 ⟨rfl, rfl⟩
    go_wp2_with fail
    refine (scramble_any _ _ _ rfl hy).mono ?_
    rintro e w1 ⟨rfl, rfl⟩
    go_wp2_with fail
    refine (scramble_any _ _ _ rfl hx).mono ?_
    rintro e w1 ⟨rfl, rfl⟩
    go_wp2_with fail
    refine (scramble_any _ _ _ Hf.out hlt).mono ?_
    rintro e w1 ⟨rfl, rfl⟩
    go_wp2_with fail
    refine (join_any _ _ _ _ _ rfl rfl).mono ?_
    rintro e w1 ⟨rfl, rfl⟩
    go_wp2_with fail
    refine (join_any _ _ _ _ _ Hf.out rfl).mono ?_
    rintro e w1 ⟨rfl, rfl⟩
    go_wp2_with fail
    refine (join_any _ _ _ _ _ rfl rfl).mono ?_
    rintro e w1 ⟨rfl, rfl⟩
    go_wp2_with fail
    refine (join_any _ _ _ _ _ rfl Hf.out).mono ?_
    rintro e w1 ⟨rfl, rfl⟩
    go_wp2_with fail
    refine (join_any _ _ _ _ _ rfl rfl).mono ?_
    rintro e w1 ⟨rfl, rfl⟩
    go_wp2_with fail
    refine (join_any _ _ _ _ _ rfl rfl).mono ?_
    rintro e w1 ⟨rfl, rfl⟩
    go_wp2_with fail
    go_ret
    exact ⟨rfl, rfl⟩
end Go.Proofs.Ytlcipcgeanipfaa
