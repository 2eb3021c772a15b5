/-
  The reference's comparison of two lists of numbers that are equal. Condition: at most a million numbers.
-/
import Derived.Test.YtanjggfcahjkfaaNums
import Derived.Deep.QuietTactic
import Derived.BigQuiet
namespace Go.Proofs.Ytanjggfcahjkfaa
open Go.RowKit

def IxR (n : Nat) (w : World) (v : Value) (wr : World) : Prop := ∃ k q : Nat, k ≤ n ∧ v = .int .i64 (k : Int) ∧ wr = w.drewN q
def TruQ (w : World) (e : Ending) (w' : World) : Prop := e = .returned (.bool true) ∧ ∃ m, w' = w.drewN m
theorem drewN_add (w : World) (p q : Nat) : (w.drewN p).drewN q = w.drewN (p + q) := by simp [World.drewN, Nat.add_assoc]
set_option maxRecDepth 10000 in
set_option maxHeartbeats 1000000 in
theorem ints_same (xs ys : List Nat) (A B : Option Addr) (n m c d : Nat) (w : World) (hxy : xs = ys) (hn : xs.length = n) (hm : ys.length = m) (hx : Rd w A (xs.map nv)) (hy : Rd w B (ys.map nv)) (h1 : n ≤ 1000000) :
    Calls Try.prog 10 #[.slice A n c, .slice B m d] w (TruQ w) := by
  subst hxy
  have hnm : n = m := hn.symm.trans hm
  subst hnm
  have Hn := Lib.hid hn
  have Hx := Lib.hid hx
  have Hy := Lib.hid hy
  clear hn hm hx hy
  go_enter Try.func10, Try.ntmps10
  go_wp2_with fail
  go_loopw [5] (fun i wr => IxR n w i wr) (fun i _ => n - (intOf i).toNat)
  case atStart => exact ⟨0, 0, Nat.zero_le _, rfl, rfl⟩
  case round =>
    obtain ⟨k, q, hk, rfl, rfl⟩ := hrel
    by_cases hlt : k < n
    · have hkx : k < xs.length := by rw [Hn.out]; exact hlt
      obtain ⟨ad, rfl, hc⟩ := Hx.out.at_ (k := k) (by simp; exact hkx)
      obtain ⟨ae, rfl, he⟩ := Hy.out.at_ (k := k) (by simp; exact hkx)
      simp only [List.getElem_map, nv] at hc he
      generalize xs[k] = x at hc he
      have hne : ((x : Int) != (x : Int)) = false := by simp
      clear hkx
      go_wp2_with fail
      go_quiet (fail)
      go_wp2_with fail
      exact ⟨⟨k + 1, _, by omega, by simp, rfl⟩, by simp [intOf]; omega⟩
    · have hkn : k = n := by omega
      subst hkn
      go_wp2_with fail
      go_ret
      exact ⟨rfl, q, rfl⟩
end Go.Proofs.Ytanjggfcahjkfaa
