/-
  slices.Sort at numbers of 64 bits: the walk of partitionOrdered. Conditions: the row lies in old memory; the bounds lie in the row.
-/
import Derived.Test.YtlcipcgeanipfaaSortPart
namespace Go.Proofs.Ytlcipcgeanipfaa
open Go.RowKit Go.Sort

def PtRel (w0 : World) (blk off len a b : Nat) (r : Nat × Array Int) (g : Nat) (vi vj : Value) (wr : World) : Prop :=
  ∃ (i j : Nat) (dk : Array Int), vi = .int .i64 (i : Int) ∧ vj = .int .i64 (j : Int) ∧ a < i ∧ i ≤ j + 1 ∧ j < b ∧ j + 1 - i ≤ g ∧ St w0 blk off len dk wr ∧ partLoop ltInt a i j dk = r
set_option maxHeartbeats 3200000 in
set_option maxRecDepth 100000 in
theorem partition_any (w0 : World) (blk off len cap a b pivot : Nat) (R : Row64 w0 blk off len) (d : Array Int) (W : World) (hS : St w0 blk off len d W) (hap : a ≤ pivot) (hpb : pivot < b) (hb : b ≤ len) :
    Calls Try.prog 36 #[.slice (some ⟨blk, off, none⟩) len cap, .int .i64 (a : Int), .int .i64 (b : Int), .int .i64 (pivot : Int)] W fun e w' =>
      e = .returned (.tuple #[.int .i64 ((partition ltInt d a b pivot).1 : Nat), .bool (partition ltInt d a b pivot).2.1]) ∧ St w0 blk off len (partition ltInt d a b pivot).2.2 w' := by
  have hsm := R.small
  have HR := Lib.hid R; clear R
  have Hs0 := Lib.hid hS
  obtain ⟨G, HG, hcw, hfw⟩ := hS.names HR.out
  clear hS
  obtain ⟨u2, hu2⟩ := Hs0.out.second HR.out (i := a) (j := pivot) (by omega) (by omega) (.int .u64 (G pivot))
  have HE := Lib.hid (fun q => (Hs0.out.drewN q).swap HR.out (i := a) (j := pivot) (by omega) (by omega) (HG.out pivot) (HG.out a))
  go_enter Try.func36, Try.ntmps36
  go_wp2_with fail
  go_region
  have Hs := Lib.hid (HE.out 1)
  clear hcw hfw HG hu2 HE Hs0
  generalize hdk : swp d a pivot = dk at *
  have HD := Lib.hid hdk; clear hdk
  obtain ⟨i, hi⟩ : ∃ i, i = a + 1 := ⟨_, rfl⟩
  obtain ⟨j, hj⟩ : ∃ j, j = b - 1 := ⟨_, rfl⟩
  have HI0 := Lib.hid hi
  have HJ0 := Lib.hid hj
  have hai : a < i := by omega
  have hij : i ≤ j + 1 := by omega
  have hjb : j < b := by omega
  have ei : ((a : Int) + 1) = (i : Int) := by omega
  have ej : ((b : Int) - 1) = (j : Int) := by omega
  clear hi hj
  go_upto_block 0 with fail
  go_cut [10] (fun s wc => s = .int .i64 ((scanUp (fun x => ltInt x dk[a]!) dk j i : Nat) : Int) ∧ St w0 blk off len dk wc)
  case first =>
    go_wp2_with fail
    go_loopg [10] (j + 1 - i) (fun g v wr => SuRel w0 blk off len (fun x => ltInt x dk[a]!) dk j i g v wr)
    case atStart => exact ⟨i, rfl, Nat.le_refl _, by omega, Nat.le_refl _, Hs.out, rfl⟩
    case round =>
      obtain ⟨k, rfl, hik, hkj, hgk, hs, ho⟩ := hrel
      have Hc := Lib.hid ho; clear ho
      have Hs := Lib.hid hs
      obtain ⟨G, HG, hcw, hfw⟩ := hs.names HR.out
      clear hs
      by_cases hlt : k ≤ j
      · have hgd : decide ((k : Int) ≤ (j : Int)) = true := by simp; omega
        cases hl : ltInt (G k) (G a)
        · have HN := Lib.hid (scanUp_end (fun x => ltInt x dk[a]!) dk j k (Or.inr (by show ltInt dk[k]! dk[a]! = false; rw [← HG.out, ← HG.out, hl])))
          go_wp2_with fail
          go_quiet ((go_at_call 34; exact quietHere (less_any _ _ _) ⟨_, rfl⟩))
          go_wp2_with fail
          go_meet
          case rel => exact ⟨by rw [← Hc.out, HN.out], Hs.out.drewN _⟩
        · have HN := Lib.hid (scanUp_go (fun x => ltInt x dk[a]!) dk j k hlt (by show ltInt dk[k]! dk[a]! = true; rw [← HG.out, ← HG.out, hl]))
          go_wp2_with fail
          go_quiet ((go_at_call 34; exact quietHere (less_any _ _ _) ⟨_, rfl⟩))
          go_wp2_with fail
          go_roundg (j + 1 - k - 1)
          case measure => omega
          case rel => exact ⟨k + 1, by go_num, by omega, by omega, by omega, Hs.out.drewN _, by rw [← HN.out]; exact Hc.out⟩
      · have hgd : decide ((k : Int) ≤ (j : Int)) = false := by simp; omega
        have HN := Lib.hid (scanUp_end (fun x => ltInt x dk[a]!) dk j k (Or.inl hlt))
        go_wp2_with fail
        go_quiet (fail)
        go_wp2_with fail
        go_meet
        case rel => exact ⟨by rw [← Hc.out, HN.out], Hs.out.drewN _⟩
  case rest =>
    clear ei ej
    obtain ⟨rfl, hs⟩ := hcut
    have Hs := Lib.hid hs; clear hs
    have hur := scanUp_range (p := (fun x => ltInt x dk[a]!)) (dk := dk) hij
    generalize hi2 : scanUp (fun x => ltInt x dk[a]!) dk j i = i2 at *
    have HI := Lib.hid hi2; clear hi2
    go_upto_block 2 with fail
    go_cut [11] (fun s wc => s = .int .i64 ((scanDown (fun x => !ltInt x dk[a]!) dk i2 j : Nat) : Int) ∧ St w0 blk off len dk wc)
    case first =>
      go_wp2_with fail
      go_loopg [11] (j + 1) (fun g v wr => SdnRel w0 blk off len (fun x => !ltInt x dk[a]!) dk i2 j g v wr)
      case atStart => exact ⟨j, rfl, Nat.le_refl _, by omega, Nat.le_refl _, Hs.out, rfl⟩
      case round =>
        obtain ⟨k, rfl, hkj, hik, hgk, hs, ho⟩ := hrel
        have Hc := Lib.hid ho; clear ho
        have Hs := Lib.hid hs
        obtain ⟨G, HG, hcw, hfw⟩ := hs.names HR.out
        clear hs
        by_cases hlt : i2 ≤ k
        · have hgd : decide ((i2 : Int) ≤ (k : Int)) = true := by simp; omega
          cases hl : ltInt (G k) (G a)
          · have HN := Lib.hid (scanDown_go (fun x => !ltInt x dk[a]!) dk i2 k hlt (by omega) (by show (!ltInt dk[k]! dk[a]!) = true; rw [← HG.out, ← HG.out, hl]; rfl))
            go_wp2_with fail
            go_quiet ((go_at_call 34; exact quietHere (less_any _ _ _) ⟨_, rfl⟩))
            go_wp2_with fail
            go_roundg k
            case measure => omega
            case rel => exact ⟨k - 1, by go_num, by omega, by omega, by omega, Hs.out.drewN _, by rw [← HN.out]; exact Hc.out⟩
          · have HN := Lib.hid (scanDown_end (fun x => !ltInt x dk[a]!) dk i2 k (Or.inr (by show (!ltInt dk[k]! dk[a]!) = false; rw [← HG.out, ← HG.out, hl]; rfl)))
            go_wp2_with fail
            go_quiet ((go_at_call 34; exact quietHere (less_any _ _ _) ⟨_, rfl⟩))
            go_wp2_with fail
            go_meet
            case rel => exact ⟨by rw [← Hc.out, HN.out], Hs.out.drewN _⟩
        · have hgd : decide ((i2 : Int) ≤ (k : Int)) = false := by simp; omega
          have HN := Lib.hid (scanDown_end (fun x => !ltInt x dk[a]!) dk i2 k (Or.inl hlt))
          go_wp2_with fail
          go_quiet (fail)
          go_wp2_with fail
          go_meet
          case rel => exact ⟨by rw [← Hc.out, HN.out], Hs.out.drewN _⟩
    case rest =>
      obtain ⟨rfl, hs⟩ := hcut
      have Hs := Lib.hid hs
      obtain ⟨G, HG, hcw, hfw⟩ := hs.names HR.out
      clear hs
      have hdr := scanDown_range (p := (fun x => !ltInt x dk[a]!)) (dk := dk) (i := i2) (j := j) (by omega) (by omega)
      generalize hj2 : scanDown (fun x => !ltInt x dk[a]!) dk i2 j = j2 at *
      have HJ := Lib.hid hj2; clear hj2
      by_cases hgt : j2 < i2
      · have hgd : decide ((j2 : Int) < (i2 : Int)) = true := by simp; omega
        have HB := Lib.hid (part_first_break ltInt d a b pivot HI0.out HJ0.out HD.out.symm HI.out.symm HJ.out.symm hgt)
        have HE := Lib.hid (fun q => (Hs.out.drewN q).swap HR.out (i := j2) (j := a) (by omega) (by omega) (HG.out a) (HG.out j2))
        obtain ⟨u2, hu2⟩ := Hs.out.second HR.out (i := j2) (j := a) (by omega) (by omega) (.int .u64 (G a))
        clear HG
        go_wp2_with fail
        go_region
        all_goals go_wp2_with fail
        go_ret2
        rw [HB.out]
        exact ⟨rfl, HE.out 1⟩
      · have hgd : decide ((j2 : Int) < (i2 : Int)) = false := by simp; omega
        have hlt := part_scans_lt ltInt a i j dk (by omega) HI.out.symm HJ.out.symm (by omega)
        have HB := Lib.hid (part_first_go ltInt d a b pivot HI0.out HJ0.out HD.out.symm HI.out.symm HJ.out.symm hgt)
        have HE := Lib.hid (fun q => (Hs.out.drewN q).swap HR.out (i := i2) (j := j2) (by omega) (by omega) (HG.out j2) (HG.out i2))
        clear HG
        go_wp2_with fail
        go_region
        have Hs1 := Lib.hid (HE.out 1)
        clear hcw hfw HE Hs
        go_wp2_with fail
        generalize hr : partLoop ltInt a (i2 + 1) (j2 - 1) (swp dk i2 j2) = r at *
        have HRr := Lib.hid hr; clear hr
        go_loopg [10, 11] (j2 - 1 + 1 - (i2 + 1)) (fun g vi vj wr => PtRel w0 blk off len a b r g vi vj wr)
        case atStart => exact ⟨i2 + 1, j2 - 1, swp dk i2 j2, by go_num, by go_num, by omega, by omega, by omega, Nat.le_refl _, Hs1.out, HRr.out⟩
        case round =>
          clear HI HJ Hs1 HRr hur hdr hgd hlt hgt hai hij hjb HI0 HJ0 HD
          obtain ⟨i, j, dk, rfl, rfl, hai, hij, hjb, hg, hs, ho⟩ := hrel
          have Ho := Lib.hid ho; clear ho
          have Hs := Lib.hid hs; clear hs
          go_upto_block 6 with fail
          go_cut [10] (fun s wc => s = .int .i64 ((scanUp (fun x => ltInt x dk[a]!) dk j i : Nat) : Int) ∧ St w0 blk off len dk wc)
          case first =>
            go_wp2_with fail
            go_loopg [10] (j + 1 - i) (fun g v wr => SuRel w0 blk off len (fun x => ltInt x dk[a]!) dk j i g v wr)
            case atStart => exact ⟨i, rfl, Nat.le_refl _, by omega, Nat.le_refl _, Hs.out, rfl⟩
            case round =>
              obtain ⟨k, rfl, hik, hkj, hgk, hs, ho⟩ := hrel
              have Hc := Lib.hid ho; clear ho
              have Hs := Lib.hid hs
              obtain ⟨G, HG, hcw, hfw⟩ := hs.names HR.out
              clear hs
              by_cases hlt : k ≤ j
              · have hgd : decide ((k : Int) ≤ (j : Int)) = true := by simp; omega
                cases hl : ltInt (G k) (G a)
                · have HN := Lib.hid (scanUp_end (fun x => ltInt x dk[a]!) dk j k (Or.inr (by show ltInt dk[k]! dk[a]! = false; rw [← HG.out, ← HG.out, hl])))
                  go_wp2_with fail
                  go_quiet ((go_at_call 34; exact quietHere (less_any _ _ _) ⟨_, rfl⟩))
                  go_wp2_with fail
                  go_meet
                  case rel => exact ⟨by rw [← Hc.out, HN.out], Hs.out.drewN _⟩
                · have HN := Lib.hid (scanUp_go (fun x => ltInt x dk[a]!) dk j k hlt (by show ltInt dk[k]! dk[a]! = true; rw [← HG.out, ← HG.out, hl]))
                  go_wp2_with fail
                  go_quiet ((go_at_call 34; exact quietHere (less_any _ _ _) ⟨_, rfl⟩))
                  go_wp2_with fail
                  go_roundg (j + 1 - k - 1)
                  case measure => omega
                  case rel => exact ⟨k + 1, by go_num, by omega, by omega, by omega, Hs.out.drewN _, by rw [← HN.out]; exact Hc.out⟩
              · have hgd : decide ((k : Int) ≤ (j : Int)) = false := by simp; omega
                have HN := Lib.hid (scanUp_end (fun x => ltInt x dk[a]!) dk j k (Or.inl hlt))
                go_wp2_with fail
                go_quiet (fail)
                go_wp2_with fail
                go_meet
                case rel => exact ⟨by rw [← Hc.out, HN.out], Hs.out.drewN _⟩
          case rest =>
            obtain ⟨rfl, hs⟩ := hcut
            have Hs := Lib.hid hs; clear hs
            have hur := scanUp_range (p := (fun x => ltInt x dk[a]!)) (dk := dk) hij
            generalize hi2 : scanUp (fun x => ltInt x dk[a]!) dk j i = i2 at *
            have HI := Lib.hid hi2; clear hi2
            go_upto_block 8 with fail
            go_cut [11] (fun s wc => s = .int .i64 ((scanDown (fun x => !ltInt x dk[a]!) dk i2 j : Nat) : Int) ∧ St w0 blk off len dk wc)
            case first =>
              go_wp2_with fail
              go_loopg [11] (j + 1) (fun g v wr => SdnRel w0 blk off len (fun x => !ltInt x dk[a]!) dk i2 j g v wr)
              case atStart => exact ⟨j, rfl, Nat.le_refl _, by omega, Nat.le_refl _, Hs.out, rfl⟩
              case round =>
                obtain ⟨k, rfl, hkj, hik, hgk, hs, ho⟩ := hrel
                have Hc := Lib.hid ho; clear ho
                have Hs := Lib.hid hs
                obtain ⟨G, HG, hcw, hfw⟩ := hs.names HR.out
                clear hs
                by_cases hlt : i2 ≤ k
                · have hgd : decide ((i2 : Int) ≤ (k : Int)) = true := by simp; omega
                  cases hl : ltInt (G k) (G a)
                  · have HN := Lib.hid (scanDown_go (fun x => !ltInt x dk[a]!) dk i2 k hlt (by omega) (by show (!ltInt dk[k]! dk[a]!) = true; rw [← HG.out, ← HG.out, hl]; rfl))
                    go_wp2_with fail
                    go_quiet ((go_at_call 34; exact quietHere (less_any _ _ _) ⟨_, rfl⟩))
                    go_wp2_with fail
                    go_roundg k
                    case measure => omega
                    case rel => exact ⟨k - 1, by go_num, by omega, by omega, by omega, Hs.out.drewN _, by rw [← HN.out]; exact Hc.out⟩
                  · have HN := Lib.hid (scanDown_end (fun x => !ltInt x dk[a]!) dk i2 k (Or.inr (by show (!ltInt dk[k]! dk[a]!) = false; rw [← HG.out, ← HG.out, hl]; rfl)))
                    go_wp2_with fail
                    go_quiet ((go_at_call 34; exact quietHere (less_any _ _ _) ⟨_, rfl⟩))
                    go_wp2_with fail
                    go_meet
                    case rel => exact ⟨by rw [← Hc.out, HN.out], Hs.out.drewN _⟩
                · have hgd : decide ((i2 : Int) ≤ (k : Int)) = false := by simp; omega
                  have HN := Lib.hid (scanDown_end (fun x => !ltInt x dk[a]!) dk i2 k (Or.inl hlt))
                  go_wp2_with fail
                  go_quiet (fail)
                  go_wp2_with fail
                  go_meet
                  case rel => exact ⟨by rw [← Hc.out, HN.out], Hs.out.drewN _⟩
            case rest =>
              obtain ⟨rfl, hs⟩ := hcut
              have Hs := Lib.hid hs
              obtain ⟨G, HG, hcw, hfw⟩ := hs.names HR.out
              clear hs
              have hdr := scanDown_range (p := (fun x => !ltInt x dk[a]!)) (dk := dk) (i := i2) (j := j) (by omega) (by omega)
              generalize hj2 : scanDown (fun x => !ltInt x dk[a]!) dk i2 j = j2 at *
              have HJ := Lib.hid hj2; clear hj2
              by_cases hgt : j2 < i2
              · have hgd : decide ((j2 : Int) < (i2 : Int)) = true := by simp; omega
                have HB2 := Lib.hid (part_break ltInt a i j dk HI.out.symm HJ.out.symm hgt)
                have HE := Lib.hid (fun q => (Hs.out.drewN q).swap HR.out (i := j2) (j := a) (by omega) (by omega) (HG.out a) (HG.out j2))
                obtain ⟨u2, hu2⟩ := Hs.out.second HR.out (i := j2) (j := a) (by omega) (by omega) (.int .u64 (G a))
                clear HG
                go_wp2_with fail
                go_region
                all_goals go_wp2_with fail
                go_ret2
                rw [HB.out, ← Ho.out, HB2.out]
                exact ⟨rfl, HE.out 1⟩
              · have hgd : decide ((j2 : Int) < (i2 : Int)) = false := by simp; omega
                have hlt := part_scans_lt ltInt a i j dk (by omega) HI.out.symm HJ.out.symm (by omega)
                have HB2 := Lib.hid (part_go ltInt a i j dk HI.out.symm HJ.out.symm hgt)
                have HE := Lib.hid (fun q => (Hs.out.drewN q).swap HR.out (i := i2) (j := j2) (by omega) (by omega) (HG.out j2) (HG.out i2))
                clear HG
                go_wp2_with fail
                go_region
                all_goals go_wp2_with fail
                go_roundg (j2 - 1 + 1 - (i2 + 1))
                case measure => omega
                case rel => exact ⟨i2 + 1, j2 - 1, _, by go_num, by go_num, by omega, by omega, by omega, Nat.le_refl _, HE.out 1, by rw [← HB2.out]; exact Ho.out⟩
end Go.Proofs.Ytlcipcgeanipfaa
