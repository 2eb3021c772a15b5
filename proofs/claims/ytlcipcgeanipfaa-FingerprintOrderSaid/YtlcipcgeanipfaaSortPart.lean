/-
  slices.Sort at numbers of 64 bits: the walks of partitionEqualOrdered and partitionOrdered. Conditions: the row lies in old memory; the bounds lie in the row.
-/
import Derived.Test.YtlcipcgeanipfaaSortPartial
import Derived.Sort.WalkC
import Derived.Sort.WalkC4
namespace Go.Proofs.Ytlcipcgeanipfaa
open Go.RowKit Go.Sort

def SuRel (w0 : World) (blk off len : Nat) (p : Int → Bool) (dk : Array Int) (j i g : Nat) (v : Value) (wr : World) : Prop :=
  ∃ k : Nat, v = .int .i64 (k : Int) ∧ i ≤ k ∧ k ≤ j + 1 ∧ j + 1 - k ≤ g ∧ St w0 blk off len dk wr ∧ scanUp p dk j k = scanUp p dk j i
def SdnRel (w0 : World) (blk off len : Nat) (p : Int → Bool) (dk : Array Int) (i j g : Nat) (v : Value) (wr : World) : Prop :=
  ∃ k : Nat, v = .int .i64 (k : Int) ∧ k ≤ j ∧ i ≤ k + 1 ∧ k + 1 ≤ g ∧ St w0 blk off len dk wr ∧ scanDown p dk i k = scanDown p dk i j
theorem scanUp_range {p : Int → Bool} {dk : Array Int} {i j : Nat} (h : i ≤ j + 1) : i ≤ scanUp p dk j i ∧ scanUp p dk j i ≤ j + 1 := by
  obtain ⟨n, hn⟩ : ∃ n, n = j + 1 - i := ⟨_, rfl⟩
  induction n generalizing i with
  | zero =>
    rw [scanUp_end p dk j i (Or.inl (by omega))]
    exact ⟨Nat.le_refl _, h⟩
  | succ n ih =>
    cases hl : p dk[i]!
    · rw [scanUp_end p dk j i (Or.inr hl)]
      exact ⟨Nat.le_refl _, h⟩
    · rw [scanUp_go p dk j i (by omega) hl]
      have := ih (i := i + 1) (by omega) (by omega)
      omega
theorem scanDown_range {p : Int → Bool} {dk : Array Int} {i j : Nat} (h : i ≤ j + 1) (h0 : 0 < i) : scanDown p dk i j ≤ j ∧ i ≤ scanDown p dk i j + 1 := by
  induction j with
  | zero =>
    refine ⟨scanDown_le p dk i 0, ?_⟩
    have : scanDown p dk i 0 = 0 := by
      have := scanDown_le p dk i 0
      omega
    omega
  | succ j ih =>
    by_cases hij : i ≤ j + 1
    · cases hl : p dk[j + 1]!
      · rw [scanDown_end p dk i (j + 1) (Or.inr hl)]
        exact ⟨Nat.le_refl _, by omega⟩
      · rw [scanDown_go p dk i (j + 1) hij (by omega) hl]
        have := ih (by omega)
        simp only [Nat.add_sub_cancel]
        omega
    · rw [scanDown_end p dk i (j + 1) (Or.inl hij)]
      exact ⟨Nat.le_refl _, h⟩
def PeRel (w0 : World) (blk off len a b : Nat) (r : Nat × Array Int) (g : Nat) (vi vj : Value) (wr : World) : Prop :=
  ∃ (i j : Nat) (dk : Array Int), vi = .int .i64 (i : Int) ∧ vj = .int .i64 (j : Int) ∧ a < i ∧ i ≤ j + 1 ∧ j < b ∧ j + 1 - i ≤ g ∧ St w0 blk off len dk wr ∧ partEqLoop ltInt a i j dk = r
set_option maxHeartbeats 1600000 in
set_option maxRecDepth 100000 in
theorem partitionEqual_any (w0 : World) (blk off len cap a b pivot : Nat) (R : Row64 w0 blk off len) (d : Array Int) (W : World) (hS : St w0 blk off len d W) (hap : a ≤ pivot) (hpb : pivot < b) (hb : b ≤ len) :
    Calls Try.prog 35 #[.slice (some ⟨blk, off, none⟩) len cap, .int .i64 (a : Int), .int .i64 (b : Int), .int .i64 (pivot : Int)] W fun e w' =>
      e = .returned (.int .i64 ((partitionEqual ltInt d a b pivot).1 : Nat)) ∧ St w0 blk off len (partitionEqual ltInt d a b pivot).2 w' := by
  have hsm := R.small
  have HR := Lib.hid R; clear R
  have Hs0 := Lib.hid hS
  obtain ⟨G, HG, hcw, hfw⟩ := hS.names HR.out
  clear hS
  obtain ⟨u2, hu2⟩ := Hs0.out.second HR.out (i := a) (j := pivot) (by omega) (by omega) (.int .u64 (G pivot))
  have HE := Lib.hid (fun q => (Hs0.out.drewN q).swap HR.out (i := a) (j := pivot) (by omega) (by omega) (HG.out pivot) (HG.out a))
  have HP := Lib.hid (show partitionEqual ltInt d a b pivot = partEqLoop ltInt a (a + 1) (b - 1) (swp d a pivot) from rfl)
  go_enter Try.func35, Try.ntmps35
  go_wp2_with fail
  go_region
  have HS1 := Lib.hid (HE.out 1)
  clear hcw hfw HG hu2 HE
  go_wp2_with fail
  go_loopg [9, 10] (b - 1 + 1 - (a + 1)) (fun g vi vj wr => PeRel w0 blk off len a b (partitionEqual ltInt d a b pivot) g vi vj wr)
  case atStart => exact ⟨a + 1, b - 1, swp d a pivot, by go_num, by go_num, by omega, by omega, by omega, Nat.le_refl _, HS1.out, HP.out.symm⟩
  case round =>
    obtain ⟨i, j, dk, rfl, rfl, hai, hij, hjb, hg, hs, ho⟩ := hrel
    have Ho := Lib.hid ho; clear ho
    have Hs := Lib.hid hs; clear hs
    go_upto_block 2 with fail
    go_cut [9] (fun s wc => s = .int .i64 ((scanUp (fun x => !ltInt dk[a]! x) dk j i : Nat) : Int) ∧ St w0 blk off len dk wc)
    case first =>
      go_wp2_with fail
      go_loopg [9] (j + 1 - i) (fun g v wr => SuRel w0 blk off len (fun x => !ltInt dk[a]! x) dk j i g v wr)
      case atStart => exact ⟨i, rfl, Nat.le_refl _, by omega, Nat.le_refl _, Hs.out, rfl⟩
      case round =>
        obtain ⟨k, rfl, hik, hkj, hgk, hs, ho⟩ := hrel
        have Hc := Lib.hid ho; clear ho
        have Hs := Lib.hid hs
        obtain ⟨G, HG, hcw, hfw⟩ := hs.names HR.out
        clear hs
        by_cases hlt : k ≤ j
        · have hgd : decide ((k : Int) ≤ (j : Int)) = true := by simp; omega
          cases hl : ltInt (G a) (G k)
          · have HN := Lib.hid (scanUp_go (fun x => !ltInt dk[a]! x) dk j k hlt (by show (!ltInt dk[a]! dk[k]!) = true; rw [← HG.out, ← HG.out, hl]; rfl))
            go_wp2_with fail
            go_quiet ((go_at_call 34; exact quietHere (less_any _ _ _) ⟨_, rfl⟩))
            go_wp2_with fail
            go_roundg (j + 1 - k - 1)
            case measure => omega
            case rel => exact ⟨k + 1, by go_num, by omega, by omega, by omega, Hs.out.drewN _, by rw [← HN.out]; exact Hc.out⟩
          · have HN := Lib.hid (scanUp_end (fun x => !ltInt dk[a]! x) dk j k (Or.inr (by show (!ltInt dk[a]! dk[k]!) = false; rw [← HG.out, ← HG.out, hl]; rfl)))
            go_wp2_with fail
            go_quiet ((go_at_call 34; exact quietHere (less_any _ _ _) ⟨_, rfl⟩))
            go_wp2_with fail
            go_meet
            case rel => exact ⟨by rw [← Hc.out, HN.out], Hs.out.drewN _⟩
        · have hgd : decide ((k : Int) ≤ (j : Int)) = false := by simp; omega
          have HN := Lib.hid (scanUp_end (fun x => !ltInt dk[a]! x) dk j k (Or.inl hlt))
          go_wp2_with fail
          go_quiet (fail)
          go_wp2_with fail
          go_meet
          case rel => exact ⟨by rw [← Hc.out, HN.out], Hs.out.drewN _⟩
    case rest =>
      obtain ⟨rfl, hs⟩ := hcut
      have Hs := Lib.hid hs; clear hs
      have hur := scanUp_range (p := (fun x => !ltInt dk[a]! x)) (dk := dk) hij
      generalize hi2 : scanUp (fun x => !ltInt dk[a]! x) dk j i = i2 at *
      have HI := Lib.hid hi2; clear hi2
      go_upto_block 4 with fail
      go_cut [10] (fun s wc => s = .int .i64 ((scanDown (fun x => ltInt dk[a]! x) dk i2 j : Nat) : Int) ∧ St w0 blk off len dk wc)
      case first =>
        go_wp2_with fail
        go_loopg [10] (j + 1) (fun g v wr => SdnRel w0 blk off len (fun x => ltInt dk[a]! x) dk i2 j g v wr)
        case atStart => exact ⟨j, rfl, Nat.le_refl _, by omega, Nat.le_refl _, Hs.out, rfl⟩
        case round =>
          obtain ⟨k, rfl, hkj, hik, hgk, hs, ho⟩ := hrel
          have Hc := Lib.hid ho; clear ho
          have Hs := Lib.hid hs
          obtain ⟨G, HG, hcw, hfw⟩ := hs.names HR.out
          clear hs
          by_cases hlt : i2 ≤ k
          · have hgd : decide ((i2 : Int) ≤ (k : Int)) = true := by simp; omega
            cases hl : ltInt (G a) (G k)
            · have HN := Lib.hid (scanDown_end (fun x => ltInt dk[a]! x) dk i2 k (Or.inr (by show ltInt dk[a]! dk[k]! = false; rw [← HG.out, ← HG.out, hl])))
              go_wp2_with fail
              go_quiet ((go_at_call 34; exact quietHere (less_any _ _ _) ⟨_, rfl⟩))
              go_wp2_with fail
              go_meet
              case rel => exact ⟨by rw [← Hc.out, HN.out], Hs.out.drewN _⟩
            · have HN := Lib.hid (scanDown_go (fun x => ltInt dk[a]! x) dk i2 k hlt (by omega) (by show ltInt dk[a]! dk[k]! = true; rw [← HG.out, ← HG.out, hl]))
              go_wp2_with fail
              go_quiet ((go_at_call 34; exact quietHere (less_any _ _ _) ⟨_, rfl⟩))
              go_wp2_with fail
              go_roundg k
              case measure => omega
              case rel => exact ⟨k - 1, by go_num, by omega, by omega, by omega, Hs.out.drewN _, by rw [← HN.out]; exact Hc.out⟩
          · have hgd : decide ((i2 : Int) ≤ (k : Int)) = false := by simp; omega
            have HN := Lib.hid (scanDown_end (fun x => ltInt dk[a]! x) dk i2 k (Or.inl hlt))
            go_wp2_with fail
            go_quiet (fail)
            go_wp2_with fail
            go_meet
            case rel => exact ⟨by rw [← Hc.out, HN.out], Hs.out.drewN _⟩
      case rest =>
        obtain ⟨rfl, hs⟩ := hcut
        have Hs := Lib.hid hs
        obtain ⟨G, HG, hcw, hfw⟩ := hs.names HR.out
        clear hs
        have hdr := scanDown_range (p := (fun x => ltInt dk[a]! x)) (dk := dk) (i := i2) (j := j) (by omega) (by omega)
        generalize hj2 : scanDown (fun x => ltInt dk[a]! x) dk i2 j = j2 at *
        have HJ := Lib.hid hj2; clear hj2
        by_cases hgt : j2 < i2
        · have hgd : decide ((j2 : Int) < (i2 : Int)) = true := by simp; omega
          have HB := Lib.hid (partEq_break ltInt a i j dk HI.out.symm HJ.out.symm hgt)
          go_wp2_with fail
          go_ret
          rw [← Ho.out, HB.out]
          exact ⟨rfl, Hs.out⟩
        · have hgd : decide ((j2 : Int) < (i2 : Int)) = false := by simp; omega
          have hlt := scans_lt ltInt a i j dk (by omega) HI.out.symm HJ.out.symm (by omega)
          have HB := Lib.hid (partEq_go ltInt a i j dk HI.out.symm HJ.out.symm hgt)
          have HE := Lib.hid (fun q => (Hs.out.drewN q).swap HR.out (i := i2) (j := j2) (by omega) (by omega) (HG.out j2) (HG.out i2))
          clear HG
          go_wp2_with fail
          go_region
          all_goals go_wp2_with fail
          go_roundg (j2 - 1 + 1 - (i2 + 1))
          case measure => omega
          case rel => exact ⟨i2 + 1, j2 - 1, _, by go_num, by go_num, by omega, by omega, by omega, Nat.le_refl _, HE.out 1, by rw [← HB.out]; exact Ho.out⟩
end Go.Proofs.Ytlcipcgeanipfaa
