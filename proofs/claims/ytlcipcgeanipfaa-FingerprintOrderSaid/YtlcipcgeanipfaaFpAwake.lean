/-
  The walk of the sanity check of chapter 2's statements. No condition.
-/
import Derived.Test.YtlcipcgeanipfaaFpBytes
namespace Go.Proofs.Ytlcipcgeanipfaa
open Go.RowKit

theorem fbytes_nil : fbytes [] = scr 14695981039346656037 := by
  unfold fbytes fnvs
  rw [List.foldl_nil]
theorem scr_one : scr 1 ≠ 0 := fun h => by
  have h0 : scr 0 = 0 := by decide +kernel
  have := scr_inj (x := 1) (y := 0) (by decide) (by decide) (by rw [h, h0])
  omega
set_option maxRecDepth 10000 in
theorem awake_any (w : World) :
    Calls Try.prog 6 #[] w fun f w' => f = .returned (.bool true) ∧ w = w' := by
  have h1 := scr_one
  have hq : (((scr 1 : Nat) : Int) != 0) = true := by rw [bne_iff_ne]; omega
  clear h1
  go_enter Try.func6, Try.ntmps6
  go_wp2_with fail
  refine (bytes_any none [] 0 0 _ rfl Rd.nil (by simp) (by decide)).mono ?_
  rw [fbytes_nil]
  rintro e w1 ⟨rfl, rfl⟩
  go_wp2_with fail
  refine (refScramble_any _ 14695981039346656037 _ rfl (by decide)).mono ?_
  rintro e w1 ⟨rfl, rfl⟩
  generalize scr 14695981039346656037 = s0
  go_wp2_with fail
  refine (scramble_any _ 1 _ rfl (by decide)).mono ?_
  rintro e w1 ⟨rfl, rfl⟩
  go_wp2_with fail
  go_ret
  exact ⟨rfl, rfl⟩
end Go.Proofs.Ytlcipcgeanipfaa
