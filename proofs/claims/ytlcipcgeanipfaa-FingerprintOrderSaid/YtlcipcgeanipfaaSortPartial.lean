/-
  slices.Sort at numbers of 64 bits: the walk of partialInsertionSortOrdered. Conditions: the row lies in old memory; the bounds lie in the row.
-/
import Derived.Test.YtlcipcgeanipfaaSortHeap2
import Derived.Sort.WalkA6
import Derived.Deep.CutBlock
import Derived.Deep.DeepCutAuto
import Derived.Deep.Light
namespace Go.Proofs.Ytlcipcgeanipfaa
open Go.RowKit Go.Sort

section
variable {w0 wr : World} {blk off len a b i j k s : Nat} {d dk dj r : Array Int}
theorem scanSorted_range (h : i ≤ b) : i ≤ scanSorted ltInt dk b i ∧ scanSorted ltInt dk b i ≤ b := by
  obtain ⟨n, hn⟩ : ∃ n, n = b - i := ⟨_, rfl⟩
  induction n generalizing i with
  | zero =>
    rw [scanSorted_stop ltInt dk b i (Or.inl (by omega))]
    exact ⟨Nat.le_refl _, h⟩
  | succ n ih =>
    cases hl : ltInt dk[i]! dk[i - 1]!
    · rw [scanSorted_go ltInt dk b i (by omega) hl]
      have := ih (i := i + 1) (by omega) (by omega)
      omega
    · rw [scanSorted_stop ltInt dk b i (Or.inr hl)]
      exact ⟨Nat.le_refl _, h⟩
def PiRel (w0 : World) (blk off len a b : Nat) (d : Array Int) (g : Nat) (vi vs : Value) (wr : World) : Prop :=
  ∃ (i s : Nat) (dk : Array Int), vi = .int .i64 (i : Int) ∧ vs = .int .i64 (s : Int) ∧ s ≤ 5 ∧ 5 - s ≤ g ∧ a < i ∧ i ≤ b ∧ St w0 blk off len dk wr ∧ partialIns ltInt a b (5 - s) i dk = partialInsertionSort ltInt d a b
def ScRel (w0 : World) (blk off len b i : Nat) (dk : Array Int) (g : Nat) (vi : Value) (wr : World) : Prop :=
  ∃ k : Nat, vi = .int .i64 (k : Int) ∧ i ≤ k ∧ k ≤ b ∧ b - k ≤ g ∧ St w0 blk off len dk wr ∧ scanSorted ltInt dk b k = scanSorted ltInt dk b i
def DnRel (w0 : World) (blk off len i : Nat) (r : Array Int) (g : Nat) (vj : Value) (wr : World) : Prop :=
  ∃ (j : Nat) (dj : Array Int), vj = .int .i64 (j : Int) ∧ j < i ∧ j ≤ g ∧ St w0 blk off len dj wr ∧ shiftDown ltInt j dj = r
def UpRel (w0 : World) (blk off len b i : Nat) (r : Array Int) (g : Nat) (vj : Value) (wr : World) : Prop :=
  ∃ (j : Nat) (dj : Array Int), vj = .int .i64 (j : Int) ∧ i < j ∧ j ≤ b ∧ b - j ≤ g ∧ St w0 blk off len dj wr ∧ shiftUp ltInt b j dj = r
end
set_option maxHeartbeats 1600000 in
set_option maxRecDepth 100000 in
theorem partial_any (w0 : World) (blk off len cap a b : Nat) (R : Row64 w0 blk off len) (d : Array Int) (W : World) (hS : St w0 blk off len d W) (hab : a < b) (hb : b ≤ len) :
    Calls Try.prog 33 #[.slice (some ⟨blk, off, none⟩) len cap, .int .i64 (a : Int), .int .i64 (b : Int)] W fun e w' =>
      e = .returned (.bool (partialInsertionSort ltInt d a b).2) ∧ St w0 blk off len (partialInsertionSort ltInt d a b).1 w' := by
  have hsm := R.small
  have HS := Lib.hid hS; clear hS
  have HR := Lib.hid R; clear R
  go_enter Try.func33, Try.ntmps33
  go_wp2_with fail
  go_loopg [7, 8] 5 (fun g vi vs wr => PiRel w0 blk off len a b d g vi vs wr)
  case atStart => exact ⟨a + 1, 0, d, by go_num, rfl, by omega, by omega, by omega, by omega, HS.out, rfl⟩
  case round =>
    obtain ⟨i, s, dk, rfl, rfl, hs5, hg, hai, hib, hs, ho⟩ := hrel
    have Ho := Lib.hid ho; clear ho
    have Hs := Lib.hid hs; clear hs
    have hsr := scanSorted_range (dk := dk) (by omega : i ≤ b)
    by_cases hst : s < 5
    · have hstz : decide ((s : Int) < 5) = true := by simp; omega
      go_upto_block 2 with fail
      go_cut [7] (fun s7 wc => s7 = .int .i64 ((scanSorted ltInt dk b i : Nat) : Int) ∧ St w0 blk off len dk wc)
      case first =>
        go_wp2_with fail
        go_loopg [7] (b - i) (fun g v wr => ScRel w0 blk off len b i dk g v wr)
        case atStart => exact ⟨i, rfl, Nat.le_refl _, hib, Nat.le_refl _, Hs.out, rfl⟩
        case round =>
          obtain ⟨k, rfl, hik, hkb, hg, hs, ho⟩ := hrel
          have Hc := Lib.hid ho; clear ho
          have Hs := Lib.hid hs
          obtain ⟨G, HG, hcw, hfw⟩ := hs.names HR.out
          clear hs
          by_cases hlt : k < b
          · have hgd : decide ((k : Int) < (b : Int)) = true := by simp; omega
            cases hl : ltInt (G k) (G (k - 1))
            · have HE := Lib.hid (fun q => (Hs.out.drewN q))
              have HN := Lib.hid (scanSorted_go ltInt dk b k hlt (by rw [← HG.out, ← HG.out]; exact hl))
              go_wp2_with fail
              go_quiet ((go_at_call 34; exact quietHere (less_any _ _ _) ⟨_, rfl⟩))
              go_wp2_with fail
              go_roundg (b - k - 1)
              case measure => omega
              case rel => exact ⟨k + 1, by go_num, by omega, by omega, by omega, HE.out _, by rw [← HN.out]; exact Hc.out⟩
            · have HE := Lib.hid (fun q => (Hs.out.drewN q))
              have HN := Lib.hid (scanSorted_stop ltInt dk b k (Or.inr (by rw [← HG.out, ← HG.out]; exact hl)))
              go_wp2_with fail
              go_quiet ((go_at_call 34; exact quietHere (less_any _ _ _) ⟨_, rfl⟩))
              go_wp2_with fail
              go_meet
              case rel => exact ⟨by rw [← Hc.out, HN.out], HE.out _⟩
          · have hgd : decide ((k : Int) < (b : Int)) = false := by simp; omega
            have HE := Lib.hid (fun q => (Hs.out.drewN q))
            have HN := Lib.hid (scanSorted_stop ltInt dk b k (Or.inl hlt))
            go_wp2_with fail
            go_quiet (fail)
            go_wp2_with fail
            go_meet
            case rel => exact ⟨by rw [← Hc.out, HN.out], HE.out _⟩
      case rest =>
        obtain ⟨rfl, hs⟩ := hcut
        have Hs := Lib.hid hs
        obtain ⟨G, HG, hcw, hfw⟩ := hs.names HR.out
        clear hs
        generalize hk : scanSorted ltInt dk b i = k at *
        have HK := Lib.hid hk; clear hk
        by_cases hkb : k = b
        · have HP := Lib.hid (pi_true ltInt a b s i dk hst (by rw [HK.out]; exact hkb))
          have hkz : ((k : Int) == (b : Int)) = true := by rw [beq_iff_eq]; omega
          clear hkb
          go_wp2_with fail
          go_ret
          rw [← Ho.out, HP.out]
          exact ⟨rfl, Hs.out⟩
        · have hkz : ((k : Int) == (b : Int)) = false := by rw [beq_eq_false_iff_ne]; omega
          have Hkb := Lib.hid hkb
          by_cases h50 : b - a < 50
          · have HP := Lib.hid (pi_short ltInt a b s i dk hst (by rw [HK.out]; exact hkb) h50)
            have h5 : decide ((b : Int) - (a : Int) < 50) = true := by simp; omega
            clear hkb
            go_wp2_with fail
            go_ret
            rw [← Ho.out, HP.out]
            exact ⟨rfl, Hs.out⟩
          · have h5 : decide ((b : Int) - (a : Int) < 50) = false := by simp; omega
            have HP := Lib.hid (pi_go ltInt a b s i k dk hst HK.out hkb h50)
            have hk1 : k < b := by omega
            clear hkb
            have HW := Lib.hid (fun q => (Hs.out.drewN q).swap HR.out (i := k) (j := k - 1) (by omega) (by omega) (HG.out (k - 1)) (HG.out k))
            go_wp2_with fail
            go_region
            have HS1 := Lib.hid (HW.out 1)
            clear hcw hfw HW HG
            go_upto_if 61 with fail
            go_cut [] (fun wc => St w0 blk off len (fixDown ltInt a k (swp dk k (k - 1))) wc)
            case first =>
              by_cases hka : 2 ≤ k - a
              · have HF := Lib.hid (show fixDown ltInt a k (swp dk k (k - 1)) = shiftDown ltInt (k - 1) (swp dk k (k - 1)) by unfold fixDown; rw [if_pos (by omega)])
                go_wp2_with fail
                go_loopg [9] (k - 1) (fun g v wr => DnRel w0 blk off len k (shiftDown ltInt (k - 1) (swp dk k (k - 1))) g v wr)
                case atStart => exact ⟨k - 1, _, by go_num, by omega, Nat.le_refl _, HS1.out, rfl⟩
                case round =>
                  obtain ⟨j, dj, rfl, hji, hg, hs, ho⟩ := hrel
                  have Hc := Lib.hid ho; clear ho
                  have Hs := Lib.hid hs
                  obtain ⟨G, HG, hcw, hfw⟩ := hs.names HR.out
                  clear hs
                  by_cases hj1 : 1 ≤ j
                  · cases hl : ltInt (G j) (G (j - 1))
                    · have HN := Lib.hid (shiftDown_stop ltInt j dj (Or.inr (by rw [← HG.out, ← HG.out]; exact hl)))
                      have HE := Lib.hid (fun q => (Hs.out.drewN q))
                      go_wp2_with fail
                      go_quiet ((go_at_call 34; exact quietHere (less_any _ _ _) ⟨_, rfl⟩))
                      go_wp2_with fail
                      go_meet
                      case rel =>
                        rw [HF.out, ← Hc.out, HN.out]
                        exact HE.out _
                    · have HN := Lib.hid (shiftDown_go ltInt j dj hj1 (by rw [← HG.out, ← HG.out]; exact hl))
                      have HE := Lib.hid (fun q => (Hs.out.drewN q).swap HR.out (i := j) (j := j - 1) (by omega) (by omega) (HG.out (j - 1)) (HG.out j))
                      go_wp2_with fail
                      go_quiet ((go_at_call 34; exact quietHere (less_any _ _ _) ⟨_, rfl⟩))
                      go_wp2_with fail
                      go_region
                      all_goals go_wp2_with fail
                      go_roundg (j - 1)
                      case measure => omega
                      case rel => exact ⟨j - 1, _, by go_num, by omega, Nat.le_refl _, HE.out _, by rw [← HN.out]; exact Hc.out⟩
                  · have HN := Lib.hid (shiftDown_stop ltInt j dj (Or.inl (by omega)))
                    go_wp2_with fail
                    go_meet
                    case rel =>
                      rw [HF.out, ← Hc.out, HN.out]
                      exact Hs.out
              · have HF := Lib.hid (show fixDown ltInt a k (swp dk k (k - 1)) = swp dk k (k - 1) by unfold fixDown; rw [if_neg (by omega)])
                go_wp2_with fail
                go_meet
                case rel =>
                  rw [HF.out]
                  exact HS1.out
            case rest =>
              have HS2 := Lib.hid hcut
              clear hcut
              generalize hd2 : fixDown ltInt a k (swp dk k (k - 1)) = d2 at *
              have Hd2 := Lib.hid hd2; clear hd2
              have HZ := Lib.hid (fun (d3 : Array Int) (W : World) (v : Int) (hv : v = ((s + 1 : Nat) : Int)) (hS : St w0 blk off len d3 W) (hf : fixUp ltInt b k d2 = d3) =>
                (⟨k, s + 1, d3, rfl, by rw [hv], by omega, Nat.le_refl _, by omega, by omega, hS, by rw [← hf, ← HP.out]; exact Ho.out⟩ : PiRel w0 blk off len a b d (5 - (s + 1)) (.int .i64 (k : Int)) (.int .i64 v) W))
              by_cases hkb2 : 2 ≤ b - k
              · have HF := Lib.hid (show fixUp ltInt b k d2 = shiftUp ltInt b (k + 1) d2 by unfold fixUp; rw [if_pos (by omega)])
                go_wp2_with fail
                go_loopg [10] (b - k) (fun g v wr => UpRel w0 blk off len b k (shiftUp ltInt b (k + 1) d2) g v wr)
                case atStart => exact ⟨k + 1, _, by go_num, by omega, by omega, by omega, HS2.out, rfl⟩
                case round =>
                  obtain ⟨j, dj, rfl, hji, hjb, hg, hs, ho⟩ := hrel
                  have Hc := Lib.hid ho; clear ho
                  have Hs := Lib.hid hs
                  obtain ⟨G, HG, hcw, hfw⟩ := hs.names HR.out
                  clear hs
                  by_cases hj1 : j < b
                  · cases hl : ltInt (G j) (G (j - 1))
                    · have HN := Lib.hid (shiftUp_stop ltInt b j dj (Or.inr (by rw [← HG.out, ← HG.out]; exact hl)))
                      have HE := Lib.hid (fun v q hv => HZ.out dj _ v hv (Hs.out.drewN q) (by rw [HF.out, ← Hc.out, HN.out]))
                      go_wp2_with fail
                      go_quiet ((go_at_call 34; exact quietHere (less_any _ _ _) ⟨_, rfl⟩))
                      go_wp2_with fail
                      go_roundg (5 - (s + 1))
                      case measure => omega
                      case rel => exact HE.out _ _ (by go_num)
                    · have HN := Lib.hid (shiftUp_go ltInt b j dj hj1 (by rw [← HG.out, ← HG.out]; exact hl))
                      have HE := Lib.hid (fun q => (Hs.out.drewN q).swap HR.out (i := j) (j := j - 1) (by omega) (by omega) (HG.out (j - 1)) (HG.out j))
                      go_wp2_with fail
                      go_quiet ((go_at_call 34; exact quietHere (less_any _ _ _) ⟨_, rfl⟩))
                      go_wp2_with fail
                      go_region
                      all_goals go_wp2_with fail
                      go_roundg (b - j - 1)
                      case measure => omega
                      case rel => exact ⟨j + 1, _, by go_num, by omega, by omega, by omega, HE.out _, by rw [← HN.out]; exact Hc.out⟩
                  · have HN := Lib.hid (shiftUp_stop ltInt b j dj (Or.inl hj1))
                    have HE := Lib.hid (fun v hv => HZ.out dj _ v hv Hs.out (by rw [HF.out, ← Hc.out, HN.out]))
                    go_wp2_with fail
                    go_roundg (5 - (s + 1))
                    case measure => omega
                    case rel => exact HE.out _ (by go_num)
              · have HF := Lib.hid (show fixUp ltInt b k d2 = d2 by unfold fixUp; rw [if_neg (by omega)])
                go_wp2_with fail
                go_roundg (5 - (s + 1))
                case measure => omega
                case rel => exact HZ.out _ _ _ (by go_num) HS2.out HF.out
    · obtain rfl : s = 5 := by omega
      go_wp2_with fail
      go_ret
      rw [← Ho.out]
      exact ⟨rfl, Hs.out⟩
end Go.Proofs.Ytlcipcgeanipfaa
