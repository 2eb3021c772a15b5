/-
  The walks of Scramble and Join, the program's and the reference's. Condition: the numbers are of 64 bits.
-/
import Derived.Test.YtlcipcgeanipfaaChecked
import Derived.Test.YtlcipcgeanipfaaFpMath
import Derived.Lib.Hide
import Derived.Outline
import Derived.Laws.Bits64
namespace Go.Proofs.Ytlcipcgeanipfaa
open Go.RowKit

theorem layI (x : Nat) (h : x < 18446744073709551616) : bits .xor .u64 (x : Int) ((x : Int) / 8589934592) = ((lay x : Nat) : Int) := xorShift_u64 x 8589934592 h
theorem mulI (x c : Nat) : IntKind.u64.wrap ((x : Int) * (c : Int)) = ((mulm c x : Nat) : Int) := by
  rw [IntKind.wrap_u64]
  unfold mulm
  omega
theorem addI (x y : Nat) : IntKind.u64.wrap ((x : Int) + (y : Int)) = (((x + y) % 18446744073709551616 : Nat) : Int) := by
  rw [IntKind.wrap_u64]
  omega
theorem ret_u64 {a b : Int} (h : a = b) : Ending.returned (.int .u64 a) = .returned (.int .u64 b) := by rw [h]
theorem scrI {x : Nat} (h : x < 18446744073709551616) {a b : Int} (ha : a = IntKind.u64.wrap (bits .xor .u64 (x : Int) ((x : Int) / 8589934592) * 18397679294719823053))
    (hb : b = IntKind.u64.wrap (bits .xor .u64 a (a / 8589934592) * 14181476777654086739)) : bits .xor .u64 b (b / 8589934592) = ((scr x : Nat) : Int) := by
  rw [layI x h] at ha
  rw [show (18397679294719823053 : Int) = ((18397679294719823053 : Nat) : Int) from rfl, mulI] at ha
  subst ha
  rw [layI _ (mulm_lt _ _)] at hb
  rw [show (14181476777654086739 : Int) = ((14181476777654086739 : Nat) : Int) from rfl, mulI] at hb
  subst hb
  rw [layI _ (mulm_lt _ _)]
  rfl
set_option maxRecDepth 10000 in
theorem scramble_nat (x : Nat) (w : World) (h : x < 18446744073709551616) :
    Calls Try.prog 7 #[.int .u64 (x : Int)] w fun e w' => e = .returned (.int .u64 ((scr x : Nat) : Int)) ∧ w = w' := by
  go_enter Try.func7, Try.ntmps7
  go_wp2_with fail
  go_ret
  exact ⟨ret_u64 (scrI h rfl rfl), rfl⟩
set_option maxRecDepth 10000 in
theorem refScramble_nat (x : Nat) (w : World) (h : x < 18446744073709551616) :
    Calls Try.prog 8 #[.int .u64 (x : Int)] w fun e w' => e = .returned (.int .u64 ((scr x : Nat) : Int)) ∧ w = w' := by
  go_enter Try.func8, Try.ntmps8
  go_wp2_with fail
  go_ret
  exact ⟨ret_u64 (scrI h rfl rfl), rfl⟩
theorem scramble_any (z : Int) (x : Nat) (w : World) (hz : z = (x : Int)) (h : x < 18446744073709551616) :
    Calls Try.prog 7 #[.int .u64 z] w fun e w' => e = .returned (.int .u64 ((scr x : Nat) : Int)) ∧ w = w' := by
  subst hz
  exact scramble_nat x w h
theorem refScramble_any (z : Int) (x : Nat) (w : World) (hz : z = (x : Int)) (h : x < 18446744073709551616) :
    Calls Try.prog 8 #[.int .u64 z] w fun e w' => e = .returned (.int .u64 ((scr x : Nat) : Int)) ∧ w = w' := by
  subst hz
  exact refScramble_nat x w h
theorem jnI (a b : Nat) : IntKind.u64.wrap ((a : Int) + IntKind.u64.wrap (11400714819323198485 * ((scr ((b + 1) % 18446744073709551616) : Nat) : Int))) = (((a + mulm 11400714819323198485 (scr ((b + 1) % 18446744073709551616))) % 18446744073709551616 : Nat) : Int) := by
  rw [Int.mul_comm, show (11400714819323198485 : Int) = ((11400714819323198485 : Nat) : Int) from rfl, mulI, addI]
set_option maxRecDepth 10000 in
theorem join_nat (a b : Nat) (w : World) : Calls Try.prog 9 #[.int .u64 (a : Int), .int .u64 (b : Int)] w fun e w' => e = .returned (.int .u64 ((jn a b : Nat) : Int)) ∧ w = w' := by
  go_enter Try.func9, Try.ntmps9
  go_wp2_with fail
  refine (scramble_any _ ((b + 1) % 18446744073709551616) _ (addI b 1) (Nat.mod_lt _ (by decide))).mono ?_
  rintro e w1 ⟨rfl, rfl⟩
  go_wp2_with fail
  refine (scramble_any _ ((a + mulm 11400714819323198485 (scr ((b + 1) % 18446744073709551616))) % 18446744073709551616) _ (jnI a b) (Nat.mod_lt _ (by decide))).mono ?_
  rintro e w1 ⟨rfl, rfl⟩
  go_wp2_with fail
  go_ret
  exact ⟨rfl, rfl⟩
set_option maxRecDepth 10000 in
theorem refJoin_nat (a b : Nat) (w : World) : Calls Try.prog 10 #[.int .u64 (a : Int), .int .u64 (b : Int)] w fun e w' => e = .returned (.int .u64 ((jn a b : Nat) : Int)) ∧ w = w' := by
  go_enter Try.func10, Try.ntmps10
  go_wp2_with fail
  refine (refScramble_any _ ((b + 1) % 18446744073709551616) _ (addI b 1) (Nat.mod_lt _ (by decide))).mono ?_
  rintro e w1 ⟨rfl, rfl⟩
  go_wp2_with fail
  refine (refScramble_any _ ((a + mulm 11400714819323198485 (scr ((b + 1) % 18446744073709551616))) % 18446744073709551616) _ (jnI a b) (Nat.mod_lt _ (by decide))).mono ?_
  rintro e w1 ⟨rfl, rfl⟩
  go_wp2_with fail
  go_ret
  exact ⟨rfl, rfl⟩
theorem join_any (x y : Int) (a b : Nat) (w : World) (hx : x = (a : Int)) (hy : y = (b : Int)) :
    Calls Try.prog 9 #[.int .u64 x, .int .u64 y] w fun e w' => e = .returned (.int .u64 ((jn a b : Nat) : Int)) ∧ w = w' := by
  subst hx hy
  exact join_nat a b w
theorem refJoin_any (x y : Int) (a b : Nat) (w : World) (hx : x = (a : Int)) (hy : y = (b : Int)) :
    Calls Try.prog 10 #[.int .u64 x, .int .u64 y] w fun e w' => e = .returned (.int .u64 ((jn a b : Nat) : Int)) ∧ w = w' := by
  subst hx hy
  exact refJoin_nat a b w
end Go.Proofs.Ytlcipcgeanipfaa
