/-
  slices.Sort at numbers of 64 bits: the walk of insertionSortOrdered. Conditions: the row lies in old memory; the bounds lie in the row.
-/
import Derived.Test.YtlcipcgeanipfaaSortKit
import Derived.Sort.WalkA
namespace Go.Proofs.Ytlcipcgeanipfaa
open Go.RowKit Go.Sort

def IsOut (w0 : World) (blk off len a b : Nat) (r : Array Int) (vi : Value) (wr : World) : Prop :=
  ∃ (i : Nat) (dk : Array Int), vi = .int .i64 (i : Int) ∧ a < i ∧ i ≤ b + 1 ∧ St w0 blk off len dk wr ∧ insOuter ltInt a b i dk = r
def IsIn (w0 : World) (blk off len a i : Nat) (r : Array Int) (vj : Value) (wr : World) : Prop :=
  ∃ (j : Nat) (dj : Array Int), vj = .int .i64 (j : Int) ∧ a ≤ j ∧ j ≤ i ∧ St w0 blk off len dj wr ∧ insInner ltInt a j dj = r
section
variable {w0 wr : World} {blk off len a b i j : Nat} {dk dj r r2 : Array Int}
theorem isIn_swap (R : Row64 w0 blk off len) (hj : a < j) (hi : j ≤ i) (hil : i < len) (S : St w0 blk off len dj wr) (h : insInner ltInt a j dj = r) {G : Nat → Int} (HG : Hid (∀ t, G t = dj[t]!)) (hl : ltInt (G j) (G (j - 1)) = true) {v : Int} (hv : v = ((j - 1 : Nat) : Int)) (q : Nat) :
    IsIn w0 blk off len a i r (.int .i64 v) (((wr.drewN q).setCell ⟨blk, off + j, none⟩ (.int .u64 (G (j - 1)))).setCell ⟨blk, off + (j - 1), none⟩ (.int .u64 (G j))) := by
  refine ⟨j - 1, swp dj j (j - 1), by rw [hv], by omega, by omega, (S.drewN q).swap R (by omega) (by omega) (HG.out _) (HG.out _), ?_⟩
  rw [← h, insInner_go ltInt a j dj hj (by rw [← HG.out, ← HG.out]; exact hl)]
theorem isOut_next (hib : i < b) (hai : a < i) (S : St w0 blk off len dj wr) (h : insInner ltInt a j dj = insInner ltInt a i dk) (ho : insOuter ltInt a b i dk = r) (hs : j ≤ a ∨ ltInt dj[j]! dj[j - 1]! = false) {v : Int} (hv : v = ((i + 1 : Nat) : Int)) (q : Nat) :
    IsOut w0 blk off len a b r (.int .i64 v) (wr.drewN q) := by
  refine ⟨i + 1, dj, by rw [hv], by omega, by omega, S.drewN q, ?_⟩
  rw [← ho, insOuter_go _ _ _ _ _ hib, ← h, insInner_stop _ _ _ _ hs]
end
set_option maxHeartbeats 4000000 in
set_option maxRecDepth 100000 in
theorem insertion_any (w0 : World) (blk off len cap a b : Nat) (R : Row64 w0 blk off len) (d : Array Int) (W : World) (hS : St w0 blk off len d W) (hab : a ≤ b) (hb : b ≤ len) :
    Calls Try.prog 28 #[.slice (some ⟨blk, off, none⟩) len cap, .int .i64 (a : Int), .int .i64 (b : Int)] W fun e w' =>
      e = .returned (.tuple #[]) ∧ St w0 blk off len (insertionSort ltInt d a b) w' := by
  have hsm := R.small
  have HS := Lib.hid hS; clear hS
  have HR := Lib.hid R; clear R
  go_enter Try.func28, Try.ntmps28
  go_wp2_with fail
  go_loopw [6] (fun vi wr => IsOut w0 blk off len a b (insertionSort ltInt d a b) vi wr) (fun vi _ => b + 1 - (RowKit.intOf vi).toNat)
  case atStart => exact ⟨a + 1, d, by go_num, by omega, by omega, HS.out, rfl⟩
  case round =>
    obtain ⟨i, dk, rfl, hai, hib, hs, ho⟩ := hrel
    obtain ⟨wo, rfl⟩ : ∃ wo : World, wo = wr := ⟨_, rfl⟩
    have Ho := Lib.hid ho; clear ho
    have Hs := Lib.hid hs; clear hs
    by_cases hlt : i < b
    · go_wp2_with fail
      go_loopw [7] (fun vj wr2 => IsIn w0 blk off len a i (insInner ltInt a i dk) vj wr2) (fun vj _ => (RowKit.intOf vj).toNat)
      case atStart => exact ⟨i, dk, rfl, by omega, Nat.le_refl _, Hs.out, rfl⟩
      case round =>
        obtain ⟨j, dj, rfl, haj, hji, hsj, hI⟩ := hrel
        have HI := Lib.hid hI; clear hI
        have HSj := Lib.hid hsj
        obtain ⟨G, HG, hcw, hfw⟩ := hsj.names HR.out
        clear hsj
        by_cases hja : a < j
        · have hgd : decide ((a : Int) < (j : Int)) = true := by simp; omega
          cases hl : ltInt (G j) (G (j - 1))
          · have HE := Lib.hid (fun v q hv => @isOut_next w0 wr blk off len a b i j dk dj (insertionSort ltInt d a b) hlt hai HSj.out HI.out Ho.out (Or.inr (by rw [← HG.out, ← HG.out]; exact hl)) v hv q)
            go_wp2_with fail
            go_quiet ((go_at_call 34; exact quietHere (less_any _ _ _) ⟨_, rfl⟩))
            go_wp2_with fail
            go_roundw
            case rel => exact HE.out _ _ (by go_num)
            case measure => simp [RowKit.intOf]; omega
          · have HE := Lib.hid (fun v q hv => @isIn_swap w0 wr blk off len a i j dj (insInner ltInt a i dk) HR.out hja hji (by omega) HSj.out HI.out G HG hl v hv q)
            go_wp2_with fail
            go_quiet ((go_at_call 34; exact quietHere (less_any _ _ _) ⟨_, rfl⟩))
            go_wp2_with fail
            go_region
            all_goals go_wp2_with fail
            go_roundw
            case rel => exact HE.out _ _ (by go_num)
            case measure => simp [RowKit.intOf]; omega
        · have hgd : decide ((a : Int) < (j : Int)) = false := by simp; omega
          have HE := Lib.hid (fun v q hv => @isOut_next w0 wr blk off len a b i j dk dj (insertionSort ltInt d a b) hlt hai HSj.out HI.out Ho.out (Or.inl (by omega)) v hv q)
          go_wp2_with fail
          go_quiet (fail)
          go_wp2_with fail
          go_roundw
          case rel => exact HE.out _ _ (by go_num)
          case measure => simp [RowKit.intOf]; omega
    · have HE := Lib.hid (insOuter_stop ltInt a b i dk hlt)
      go_wp2_with fail
      go_end0
      exact ⟨rfl, by rw [← Ho.out, HE.out]; exact Hs.out⟩
end Go.Proofs.Ytlcipcgeanipfaa
