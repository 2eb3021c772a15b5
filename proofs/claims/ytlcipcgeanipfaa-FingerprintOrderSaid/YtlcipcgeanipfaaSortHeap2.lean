/-
  slices.Sort at numbers of 64 bits: the walk of heapSortOrdered. Conditions: the row lies in old memory; the bounds lie in the row.
-/
import Derived.Test.YtlcipcgeanipfaaSortHeap
namespace Go.Proofs.Ytlcipcgeanipfaa
open Go.RowKit Go.Sort

def HbRel (w0 : World) (blk off len hi a m : Nat) (r : Array Int) (v : Value) (wr : World) : Prop :=
  ∃ (k : Nat) (dk : Array Int), v = .int .i64 ((k : Int) - 1) ∧ k ≤ m ∧ St w0 blk off len dk wr ∧ heapBuild ltInt hi a k dk = r
def HpRel (w0 : World) (blk off len a m : Nat) (r : Array Int) (v : Value) (wr : World) : Prop :=
  ∃ (k : Nat) (dk : Array Int), v = .int .i64 ((k : Int) - 1) ∧ k ≤ m ∧ St w0 blk off len dk wr ∧ heapPop ltInt a k dk = r
set_option maxHeartbeats 400000 in
set_option maxRecDepth 100000 in
theorem heap_any (w0 : World) (blk off len cap a b : Nat) (R : Row64 w0 blk off len) (d : Array Int) (W : World) (hS : St w0 blk off len d W) (hab : a < b) (hb : b ≤ len) :
    Calls Try.prog 29 #[.slice (some ⟨blk, off, none⟩) len cap, .int .i64 (a : Int), .int .i64 (b : Int)] W fun e w' =>
      e = .returned (.tuple #[]) ∧ St w0 blk off len (heapSort ltInt d a b) w' := by
  have hsm := R.small
  have HS := Lib.hid hS; clear hS
  have HR := Lib.hid R; clear R
  obtain ⟨n, hn⟩ : ∃ n, b = a + n := ⟨b - a, by omega⟩
  have hn1 : a + n ≤ b := by omega
  have hn2 : b ≤ a + n := by omega
  have hn3 : 1 ≤ n := by omega
  have HF := Lib.hid (show heapSort ltInt d a b = heapPop ltInt a n (heapBuild ltInt n a ((n - 1) / 2 + 1) d) by subst hn; unfold heapSort; rw [Nat.add_sub_cancel_left])
  clear hn
  go_enter Try.func29, Try.ntmps29
  go_wp2_with fail
  go_loopw [9] (fun v wr => HbRel w0 blk off len n a ((n - 1) / 2 + 1) (heapBuild ltInt n a ((n - 1) / 2 + 1) d) v wr) (fun v _ => (RowKit.intOf v + 1).toNat)
  case atStart => exact ⟨(n - 1) / 2 + 1, d, by go_num, Nat.le_refl _, HS.out, rfl⟩
  case round =>
    obtain ⟨k, dk, rfl, hk, hs, ho⟩ := hrel
    have Hs := Lib.hid hs; clear hs
    have Ho := Lib.hid ho; clear ho
    cases k with
    | succ k =>
      have e1 : ((k + 1 : Nat) : Int) - 1 = (k : Int) := by omega
      simp only [e1]
      clear e1
      go_wp2_with fail
      refine (siftDown_at w0 blk off len cap k n a HR.out dk _ Hs.out (by omega) (by omega) _ _ _ rfl (by omega) rfl).mono ?_
      rintro e w1 ⟨rfl, hs1⟩
      have Hs1 := Lib.hid hs1; clear hs1
      go_wp2_with fail
      go_roundw
      case rel => exact ⟨k, _, rfl, by omega, Hs1.out, Ho.out⟩
      case measure => simp [RowKit.intOf]
    | zero =>
      simp only [show ((0 : Nat) : Int) - 1 = -1 from rfl]
      have Ho' := Lib.hid (show dk = heapBuild ltInt n a ((n - 1) / 2 + 1) d from Ho.out)
      go_wp2_with fail
      go_loopw [10] (fun v wr => HpRel w0 blk off len a n (heapSort ltInt d a b) v wr) (fun v _ => (RowKit.intOf v + 1).toNat)
      case atStart => exact ⟨n, dk, by go_num, Nat.le_refl _, Hs.out, by rw [HF.out, ← Ho'.out]⟩
      case round =>
        obtain ⟨j, dj, rfl, hj, hs, ho⟩ := hrel
        have Hs := Lib.hid hs
        obtain ⟨G, HG, hcw, hfw⟩ := hs.names HR.out
        clear hs
        have Ho := Lib.hid ho; clear ho
        cases j with
        | succ j =>
          have e1 : ((j + 1 : Nat) : Int) - 1 = (j : Int) := by omega
          simp only [e1]
          clear e1
          have HE := Lib.hid (fun q => (Hs.out.drewN q).swap HR.out (i := a) (j := a + j) (by omega) (by omega) (HG.out (a + j)) (HG.out a))
          obtain ⟨u2, hu2⟩ := Hs.out.second HR.out (i := a) (j := a + j) (by omega) (by omega) (.int .u64 (G (a + j)))
          go_wp2_with fail
          go_region
          all_goals go_wp2_with fail
          refine (siftDown_at w0 blk off len cap 0 j a HR.out (swp dj a (a + j)) _ (HE.out 1) (by omega) (by omega) _ _ _ rfl rfl rfl).mono ?_
          rintro e w1 ⟨rfl, hs1⟩
          have Hs1 := Lib.hid hs1; clear hs1
          go_wp2_with fail
          go_roundw
          case rel => exact ⟨j, _, rfl, by omega, Hs1.out, Ho.out⟩
          case measure => simp [RowKit.intOf]
        | zero =>
          go_wp2_with fail
          go_end0
          exact ⟨rfl, by rw [← Ho.out]; exact Hs.out⟩
end Go.Proofs.Ytlcipcgeanipfaa
