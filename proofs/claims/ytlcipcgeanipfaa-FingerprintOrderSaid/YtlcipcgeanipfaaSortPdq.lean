/-
  slices.Sort at numbers of 64 bits: the walk of pdqsortOrdered: whatever it chooses, it leaves the range sorted and a permutation of what it was. Conditions: the row lies in old memory; the bounds lie in the row; nothing in the range is less than what lies before it.
-/
import Derived.Test.YtlcipcgeanipfaaSortBreak
import Derived.Sort.AssemblyPlain
namespace Go.Proofs.Ytlcipcgeanipfaa
open Go.RowKit Go.Sort

/-- What is still to be sorted is all that lacks. -/
def Fin (d : Array Int) (a b : Nat) (dk : Array Int) (a' b' : Nat) : Prop := ∀ R, PermIn a' b' dk R → SortedIn ltInt a' b' R → PermIn a b d R ∧ SortedIn ltInt a b R
theorem Fin.perm {d dk d1 : Array Int} {a b a' b' : Nat} (h : Fin d a b dk a' b') (p : PermIn a' b' dk d1) : Fin d a b d1 a' b' := fun R pR sR => h R (permIn_trans _ _ _ _ _ p pR) sR
def Done (w0 : World) (blk off len a b : Nat) (d : Array Int) (w' : World) : Prop := ∃ R, St w0 blk off len R w' ∧ PermIn a b d R ∧ SortedIn ltInt a b R
theorem Fin.done {w0 W : World} {blk off len a b a' b' : Nat} {d dk R : Array Int} (h : Fin d a b dk a' b') (S : St w0 blk off len R W) (p : PermIn a' b' dk R) (s : SortedIn ltInt a' b' R) : Done w0 blk off len a b d W := ⟨R, S, h R p s⟩
def PdRel (w0 : World) (blk off len a b limit : Nat) (d : Array Int) (g : Nat) (v1 v2 v3 v8 v9 : Value) (wr : World) : Prop :=
  ∃ (a' b' lim : Nat) (wb wp : Bool) (dk : Array Int), v1 = .int .i64 (a' : Int) ∧ v2 = .int .i64 (b' : Int) ∧ v3 = .int .i64 (lim : Int) ∧ v8 = .bool wb ∧ v9 = .bool wp ∧
    a' ≤ b' ∧ b' ≤ len ∧ b' - a' ≤ g ∧ b' - a' ≤ b - a ∧ lim ≤ limit ∧ St w0 blk off len dk wr ∧ Go.Sort.Below ltInt a' b' dk ∧ Fin d a b dk a' b'
def PdPost (w0 : World) (blk off len a b : Nat) (d : Array Int) (e : Ending) (w' : World) : Prop := e = .returned (.tuple #[]) ∧ Done w0 blk off len a b d w'
set_option maxHeartbeats 6400000 in
set_option maxRecDepth 1000000 in
theorem pdq_any (w0 : World) (blk off len cap : Nat) (R : Row64 w0 blk off len) : ∀ (N a b limit : Nat) (d : Array Int) (W : World), b - a < N → St w0 blk off len d W → a ≤ b → b ≤ len → limit ≤ 1000000 → Go.Sort.Below ltInt a b d →
    Calls Try.prog 26 #[.slice (some ⟨blk, off, none⟩) len cap, .int .i64 (a : Int), .int .i64 (b : Int), .int .i64 (limit : Int)] W (PdPost w0 blk off len a b d) := by
  have hsm := R.small
  have HR := Lib.hid R; clear R
  intro N
  induction N with
  | zero => intro a b limit d W h; exact absurd h (Nat.not_lt_zero _)
  | succ N ih =>
    have IH := Lib.hid ih; clear ih
    intro a b limit d W hN hS hab hb hlim hB
    have HS := Lib.hid hS; clear hS
    have HB := Lib.hid hB; clear hB
    go_enter Try.func26, Try.ntmps26
    go_wp2_with fail
    go_loopg [1, 2, 3, 8, 9] (b - a) (fun g v1 v2 v3 v8 v9 wr => PdRel w0 blk off len a b limit d g v1 v2 v3 v8 v9 wr)
    case atStart => exact ⟨a, b, limit, true, true, d, rfl, rfl, rfl, rfl, rfl, hab, hb, Nat.le_refl _, Nat.le_refl _, Nat.le_refl _, HS.out, HB.out, fun R p s => ⟨p, s⟩⟩
    case round =>
      clear HS HB
      obtain ⟨a', b', lim, wb, wp, dk, rfl, rfl, rfl, rfl, rfl, hab', hb', hg, hgN, hl, hs, hB, hF⟩ := hrel
      have Hs := Lib.hid hs; clear hs
      have HB := Lib.hid hB; clear hB
      have HF := Lib.hid hF; clear hF
      have hsz : b' ≤ dk.size := by rw [Hs.out.size]; exact hb'
      by_cases h12 : b' - a' ≤ 12
      · have h12z : decide ((b' : Int) - (a' : Int) ≤ 12) = true := by simp; omega
        have HI := Lib.hid (insertionSort_holds (lt := ltInt) swo_ltInt dk a' b' hab' hsz)
        go_wp2_with fail
        refine (insertion_any w0 blk off len cap a' b' HR.out dk _ Hs.out hab' hb').mono ?_
        rintro e w1 ⟨rfl, hs1⟩
        have Hs1 := Lib.hid hs1; clear hs1
        go_wp2_with fail
        refine bodyPost_ret (results_zero rfl _ _ _) rfl ⟨rfl, ?_⟩
        exact HF.out.done Hs1.out HI.out.1 HI.out.2
      · have h12z : decide ((b' : Int) - (a' : Int) ≤ 12) = false := by simp; omega
        by_cases hl0 : lim = 0
        · have hl0z : ((lim : Int) == 0) = true := by rw [beq_iff_eq]; omega
          have HI := Lib.hid (heapSort_holds (lt := ltInt) swo_ltInt dk a' b' hab' hsz)
          clear hl0
          go_wp2_with fail
          refine (heap_any w0 blk off len cap a' b' HR.out dk _ Hs.out (by omega) hb').mono ?_
          rintro e w1 ⟨rfl, hs1⟩
          have Hs1 := Lib.hid hs1; clear hs1
          go_wp2_with fail
          refine bodyPost_ret (results_zero rfl _ _ _) rfl ⟨rfl, ?_⟩
          exact HF.out.done Hs1.out HI.out.1 HI.out.2
        · have hl0z : ((lim : Int) == 0) = false := by rw [beq_eq_false_iff_ne]; omega
          have hl1 : 1 ≤ lim := by omega
          clear hl0
          have hw8 : a' + 8 ≤ b' := by omega
          go_upto_if 35 with fail
          go_cut [3] from 19 (fun s3 wc => ∃ (l : Nat) (d1 : Array Int), s3 = .int .i64 (l : Int) ∧ l ≤ lim ∧ St w0 blk off len d1 wc ∧ PermIn a' b' dk d1)
          case first =>
            cases wb
            · have HP := Lib.hid (breakPatterns_holds dk a' b' hab' hsz)
              go_wp2_with fail
              refine (break_any w0 blk off len cap a' b' HR.out dk _ Hs.out hw8 hb').mono ?_
              rintro e w1 ⟨rfl, hs1⟩
              have Hs1 := Lib.hid hs1; clear hs1
              go_wp2_with fail
              go_meet
              case rel => exact ⟨lim - 1, _, by congr 1; omega, by omega, Hs1.out, HP.out⟩
            · go_wp2_with fail
              go_meet
              case rel => exact ⟨lim, dk, rfl, Nat.le_refl _, Hs.out, permIn_refl _ _ _⟩
          case rest =>
            obtain ⟨lim1, d1, rfl, hlim1, hs1, hp1⟩ := hcut
            have Hs1 := Lib.hid hs1; clear hs1
            have HB1 := Lib.hid (HB.out.perm hsz hp1)
            have HF1 := Lib.hid (HF.out.perm hp1)
            have hsz1 : b' ≤ d1.size := by rw [Hs1.out.size]; exact hb'
            clear hp1 HB HF Hs
            have hc := choosePivot_holds ltInt d1 a' b' (by omega)
            have hcp := choosePivot_any w0 blk off len cap a' b' HR.out d1 wc Hs1.out hw8 hb'
            generalize choosePivot ltInt d1 a' b' = c at *
            obtain ⟨p, h⟩ := c
            simp only [] at hc hcp
            have HCP := Lib.hid hcp; clear hcp
            go_upto_if 50 with (go_at_call 31; refine HCP.out.mono ?_; rintro e w2 ⟨rfl, hs2⟩)
            have Hs2 := Lib.hid hs2; clear hs2
            go_cut [11, 12] from 19 (fun s11 s12 wc => ∃ (p' : Nat) (h' : Hint) (d2 : Array Int), s11 = .int .i64 (p' : Int) ∧ s12 = .int .i64 (hintCode h') ∧ a' ≤ p' ∧ p' < b' ∧ St w0 blk off len d2 wc ∧ PermIn a' b' d1 d2)
            case first =>
              by_cases hdec : h = .decreasing
              · subst hdec
                have HP := Lib.hid (reverseRange_holds d1 a' b' hab' hsz1)
                have hz : (hintCode .decreasing == 2) = true := rfl
                go_wp2_with fail
                refine (reverse_any w0 blk off len cap a' b' HR.out d1 _ Hs2.out (by omega) hb').mono ?_
                rintro e w3 ⟨rfl, hs3⟩
                have Hs3 := Lib.hid hs3; clear hs3
                go_wp2_with fail
                go_meet
                case rel => exact ⟨(b' - 1) - (p - a'), .increasing, _, by congr 1; omega, rfl, by omega, by omega, Hs3.out, HP.out⟩
              · have hz : (hintCode h == 2) = false := by cases h <;> first | rfl | exact absurd rfl hdec
                go_wp2_with fail
                go_meet
                case rel => exact ⟨p, h, d1, rfl, rfl, hc.1, hc.2, Hs2.out, permIn_refl _ _ _⟩
            case rest =>
              clear hc
              obtain ⟨p', h', d2, rfl, rfl, hp1, hp2, hs3, hpm⟩ := hcut
              have Hs3 := Lib.hid hs3; clear hs3
              have HB2 := Lib.hid (HB1.out.perm hsz1 hpm)
              have HF2 := Lib.hid (HF1.out.perm hpm)
              have hsz2 : b' ≤ d2.size := by rw [Hs3.out.size]; exact hb'
              clear hpm HB1 HF1 Hs1 Hs2 HCP
              go_upto_region 15 with fail
              go_cut [68] from 19 (fun s68 wx => ∃ t : Bool, s68 = .bool t ∧ wx = wc)
              case first =>
                cases wb <;> cases wp <;> cases h' <;> (go_wp2_with fail; go_meet; exact ⟨_, rfl, rfl⟩)
              case rest =>
                obtain ⟨t, rfl, rfl⟩ := hcut
                go_upto_if 68 with fail
                go_cut [] from 19 (fun wx => ∃ d3 : Array Int, St w0 blk off len d3 wx ∧ PermIn a' b' d2 d3)
                case first =>
                  cases t
                  · go_wp2_with fail
                    go_meet
                    case rel => exact ⟨d2, Hs3.out, permIn_refl _ _ _⟩
                  · have HP := partialInsertionSort_holds (lt := ltInt) swo_ltInt d2 a' b' (by omega) hsz2 HB2.out
                    have hpa := partial_any w0 blk off len cap a' b' HR.out d2 wc Hs3.out (by omega) hb'
                    generalize partialInsertionSort ltInt d2 a' b' = c at *
                    obtain ⟨d3, done⟩ := c
                    simp only [] at HP hpa
                    have HPA := Lib.hid hpa; clear hpa
                    have HPP := Lib.hid HP; clear HP
                    cases done
                    · go_wp2_with fail
                      refine HPA.out.mono ?_
                      rintro e w4 ⟨rfl, hs4⟩
                      have Hs4 := Lib.hid hs4; clear hs4
                      go_wp2_with fail
                      go_meet
                      case rel => exact ⟨d3, Hs4.out, HPP.out.1⟩
                    · go_wp2_with fail
                      refine HPA.out.mono ?_
                      rintro e w4 ⟨rfl, hs4⟩
                      have Hs4 := Lib.hid hs4; clear hs4
                      go_wp2_with fail
                      refine bodyPost_ret (results_zero rfl _ _ _) rfl ⟨rfl, ?_⟩
                      exact HF2.out.done Hs4.out HPP.out.1 (HPP.out.2 trivial)
                case rest =>
                  obtain ⟨d3, hs4, hpm⟩ := hcut
                  have Hs4 := Lib.hid hs4
                  have HB3 := Lib.hid (HB2.out.perm hsz2 hpm)
                  have HF3 := Lib.hid (HF2.out.perm hpm)
                  have hsz3 : b' ≤ d3.size := by rw [Hs4.out.size]; exact hb'
                  clear hpm HB2 HF2 Hs3
                  obtain ⟨G, HG, hcw, hfw⟩ := hs4.names HR.out
                  clear hs4
                  go_upto_region 17 with fail
                  go_cut [87] from 19 (fun s87 wx => ∃ t : Bool, s87 = .bool t ∧ (t = true → 0 < a' ∧ ltInt d3[a' - 1]! d3[p']! = false) ∧ St w0 blk off len d3 wx)
                  case first =>
                    by_cases ha0 : 0 < a'
                    · have ha0z : decide ((0 : Int) < (a' : Int)) = true := by simp; omega
                      cases hl : ltInt (G (a' - 1)) (G p')
                      · have HH := Lib.hid (show ltInt d3[a' - 1]! d3[p']! = false by rw [← HG.out, ← HG.out]; exact hl)
                        have HL := Lib.hid hl; clear hl
                        go_quiet ((go_at_call 34; exact quietHere (less_val _ _ _ _ HL.out) ⟨_, rfl⟩))
                        go_wp2_with fail
                        go_meet
                        case rel => exact ⟨true, rfl, fun _ => ⟨ha0, HH.out⟩, Hs4.out.drewN _⟩
                      · have HL := Lib.hid hl; clear hl
                        go_quiet ((go_at_call 34; exact quietHere (less_val _ _ _ _ HL.out) ⟨_, rfl⟩))
                        go_wp2_with fail
                        go_meet
                        case rel => exact ⟨false, rfl, (fun h => by cases h), Hs4.out.drewN _⟩
                    · have ha0z : decide ((0 : Int) < (a' : Int)) = false := by simp; omega
                      go_quiet (fail)
                      go_wp2_with fail
                      go_meet
                      case rel => exact ⟨false, rfl, (fun h => by cases h), Hs4.out.drewN _⟩
                  case rest =>
                    clear hcw hfw HG Hs4
                    obtain ⟨t, rfl, ht, hs5⟩ := hcut
                    have Hs5 := Lib.hid hs5; clear hs5
                    cases t
                    · clear ht
                      obtain ⟨mid, ap, d4, hx⟩ : ∃ mid ap d4, partition ltInt d3 a' b' p' = (mid, ap, d4) := ⟨_, _, _, rfl⟩
                      obtain ⟨r1, r2, r3, r4, r5, r6, r7⟩ := round_part swo_ltInt (partition_holds ltInt) hp1 hp2 hsz3 HB3.out hx
                      have hpa := partition_any w0 blk off len cap a' b' p' HR.out d3 wc Hs5.out hp1 hp2 hb'
                      rw [hx] at hpa
                      simp only [] at hpa
                      have HPA := Lib.hid hpa; clear hpa hx
                      have H4 := Lib.hid r4; have H5 := Lib.hid r5; have H6 := Lib.hid r6; have H7 := Lib.hid r7
                      clear r3 r4 r5 r6 r7
                      by_cases h4 : mid - a' < b' - mid
                      · have h4z : decide ((mid : Int) - (a' : Int) < (b' : Int) - (mid : Int)) = true := by simp; omega
                        go_wp2_with fail
                        refine HPA.out.mono ?_
                        rintro e w6 ⟨rfl, hs6⟩
                        have Hs6 := Lib.hid hs6; clear hs6
                        go_wp2_with fail
                        refine (IH.out a' mid lim1 d4 _ (by omega) Hs6.out (by omega) (by omega) (by omega) H4.out).mono ?_
                        rintro e w7 ⟨rfl, L, hs7, pL, sL⟩
                        have Hs7 := Lib.hid hs7; clear hs7
                        have H6L := Lib.hid (H6.out L pL sL)
                        have HFN := Lib.hid (show Fin d a b L (mid + 1) b' from fun R pR sR => HF3.out R (H6L.out.2 R pR sR).1 (H6L.out.2 R pR sR).2)
                        clear pL sL
                        go_wp2_with fail
                        go_roundg (b' - (mid + 1))
                        case measure => omega
                        case rel => exact ⟨mid + 1, b', lim1, _, ap, L, by go_num, rfl, rfl, rfl, rfl, by omega, hb', Nat.le_refl _, by omega, by omega, Hs7.out, H6L.out.1, HFN.out⟩
                      · have h4z : decide ((mid : Int) - (a' : Int) < (b' : Int) - (mid : Int)) = false := by simp; omega
                        go_wp2_with fail
                        refine HPA.out.mono ?_
                        rintro e w6 ⟨rfl, hs6⟩
                        have Hs6 := Lib.hid hs6; clear hs6
                        have hih := IH.out (mid + 1) b' lim1 d4 w6 (by omega) Hs6.out (by omega) hb' (by omega) H5.out
                        have e1 : ((mid + 1 : Nat) : Int) = (mid : Int) + 1 := by omega
                        rw [e1] at hih
                        clear e1
                        have HIH := Lib.hid hih; clear hih
                        go_wp2_with fail
                        refine HIH.out.mono ?_
                        rintro e w7 ⟨rfl, L, hs7, pL, sL⟩
                        have Hs7 := Lib.hid hs7; clear hs7
                        have H7L := Lib.hid (H7.out L pL sL)
                        have HFN := Lib.hid (show Fin d a b L a' mid from fun R pR sR => HF3.out R (H7L.out.2 R pR sR).1 (H7L.out.2 R pR sR).2)
                        clear pL sL
                        go_wp2_with fail
                        go_roundg (mid - a')
                        case measure => omega
                        case rel => exact ⟨a', mid, lim1, _, ap, L, rfl, rfl, rfl, rfl, rfl, by omega, by omega, Nat.le_refl _, by omega, by omega, Hs7.out, H7L.out.1, HFN.out⟩
                    · obtain ⟨ha0, hnl⟩ := ht rfl
                      clear ht
                      obtain ⟨mid, d4, hx⟩ : ∃ mid d4, partitionEqual ltInt d3 a' b' p' = (mid, d4) := ⟨_, _, rfl⟩
                      obtain ⟨r1, r2, r3, r4, r5⟩ := round_eq swo_ltInt (partitionEqual_holds ltInt) ha0 hp1 hp2 hsz3 HB3.out hnl hx
                      have hpa := partitionEqual_any w0 blk off len cap a' b' p' HR.out d3 wc Hs5.out hp1 hp2 hb'
                      rw [hx] at hpa
                      simp only [] at hpa
                      have HPA := Lib.hid hpa; clear hpa hx
                      have HFN := Lib.hid (show Fin d a b d4 mid b' from fun R pR sR => HF3.out R (r5 R pR sR).1 (r5 R pR sR).2)
                      have H4 := Lib.hid r4
                      clear r3 r4 r5 hnl
                      go_wp2_with fail
                      refine HPA.out.mono ?_
                      rintro e w6 ⟨rfl, hs6⟩
                      have Hs6 := Lib.hid hs6; clear hs6
                      go_wp2_with fail
                      go_roundg (b' - mid)
                      case measure => omega
                      case rel => exact ⟨mid, b', lim1, wb, wp, d4, rfl, rfl, rfl, rfl, rfl, r2, hb', Nat.le_refl _, by omega, by omega, Hs6.out, H4.out, HFN.out⟩
end Go.Proofs.Ytlcipcgeanipfaa
