/-
  The walk of the law's sanity check: the chapter's examples hold. Condition: the table reads as the program's text lays it.
-/
import Derived.Test.YthgfbfocccekfaaDoorSum
import Derived.Lib.SlBytesConst
namespace Go.Proofs.YthgfbfocccekfaaDoor
open Go.RowKit

theorem enc300 : enc 300 = [172, 2] := by decide +kernel
set_option maxRecDepth 10000 in
theorem awake_any (w : World) (ht : Tab w) :
    Calls Tryd.prog 7 #[] w fun f w' => f = .returned (.bool true) ∧ Below w.heap.size w w' := by
  have Ht := Lib.hid ht; clear ht
  have kc := fun (w : World) (C : Array Value) (n c : Nat) => Lib.run_convert_bytes_const (P := Tryd.prog) w 22 5 C n c Tryd.underlying22 Tryd.underlying5
  go_enter Tryd.func7, Tryd.ntmps7
  go_wp2_with fail
  refine (putUint_any none [] 0 0 300 w rfl (by simp) Rd.nil (fun _ => rfl) (by decide) (by decide)).mono ?_
  rintro e w1 ⟨v, rfl, hs, hb⟩
  rw [enc300] at hs
  obtain ⟨A, c, rfl, hr, hc⟩ := hs.form
  simp at hc
  obtain ⟨ad, rfl, c0⟩ := hr.at_ (k := 0) (by simp)
  have c1 := hr.cells 1 (.int .u8 2) rfl
  rw [add_zero] at c0
  simp [bv] at c0
  simp [Addr.add] at c1
  have Hb := Lib.hid hb
  clear hs hr hb
  go_wp2_with fail
  have Hc := crc_known
  refine (checksum_any _ [49, 50, 51, 52, 53, 54, 55, 56, 57] 9 9 _ rfl (Rd.new _ _ _ _) (by decide) (by decide) ((Ht.out.later Hb.out).later ((Below.refl _ _).alloc (Nat.le_refl _) _))).mono ?_
  rw [Hc]
  rintro e w2 ⟨rfl, rfl⟩
  clear Hc
  go_wp2_with fail
  go_ret
  exact ⟨rfl, Hb.out.alloc Hb.out.size _⟩
end Go.Proofs.YthgfbfocccekfaaDoor
