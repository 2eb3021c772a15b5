/-
  The walk of PredictorSteps. Condition: arguments that can be read.
-/
import Derived.Test.YtanjggfcahjkfaaPdApart
namespace Go.Proofs.Ytanjggfcahjkfaa
open Go.RowKit

def SpR (W w0 : World) (size : Nat) (fl : List Ft) (vt vb vx vj : Value) (wr : World) : Prop :=
  ∃ j : Nat, j ≤ fl.length ∧ vj = .int .i64 (j : Int) ∧ vb = .int .i64 ((nBr (fl.take j) : Nat) : Int) ∧ vx = .int .i64 ((nWrong (List.replicate size 1) (fl.take j) : Nat) : Int) ∧
    RdS wr vt ((runT (List.replicate size 1) (fl.take j)).map nv) size ∧ Below w0.heap.size w0 wr ∧ Below W.heap.size W wr
theorem ft_at {fs : List F3} {j : Nat} {f : F3} (h : fs[j]? = some f) : (fs.map ft).take (j + 1) = (fs.map ft).take j ++ [(f.a, f.k)] := by
  rw [List.take_add_one, List.getElem?_map, h]
  rfl
set_option maxRecDepth 10000 in
set_option maxHeartbeats 1000000 in
theorem steps_any (A : Option Addr) (l : List Nat) (m c : Nat) (W : World) (hm : l.length = m) (hmc : m ≤ c) (hr : Rd W A (l.map bv)) (hl : ∀ x ∈ l, x < 256) :
    Calls Try.prog 4 #[.slice A m c] W (TrueP W) := by
  have Hm := Lib.hid hm; clear hm
  have Hr := Lib.hid hr; clear hr
  have Hl := Lib.hid hl; clear hl
  go_enter Try.func4, Try.ntmps4
  go_wp2_with fail
  refine (awake_16 _).mono ?_
  rintro e w1 ⟨rfl, hb1⟩
  have Hb1 := Lib.hid hb1; clear hb1
  go_wp2_with fail
  refine (new_any A l m c 300 w1 Hm.out hmc (Hr.out.below Hb1.out) (by decide)).mono ?_
  rintro e w2 ⟨g, l2, rfl, hg, hl2, hl2e, hc2, hb2⟩
  have Hb2 := Lib.hid (below_next Hb1.out hb2)
  have hgW : W.heap.size ≤ g := Nat.le_trans Hb1.out.size hg
  have Hl2 : Hid (∀ x ∈ l2, x < 256) := Lib.hid (by rw [hl2e]; exact fun x hx => Hl.out x (List.mem_of_mem_take hx))
  have Hc2 := Lib.hid hc2
  clear hb2 hl2e hc2 hg Hm Hr Hl
  go_wp2_with fail
  refine (drawn_any g l2 0 12 _ Hc2.out (by decide) (by omega) Hl2.out).mono ?_
  rintro e w3 ⟨r, k3, rfl, hr3, _, hc3, hg3⟩
  have hr12 : r < 12 := by have := hr3 (by omega); omega
  have Hc3 := Lib.hid hc3
  have Hb3 := Lib.hid (Hb2.out.trans (grown_any hg3 (fun k hk => by injection hk with hk; omega) Hb2.out.size))
  clear hr3 hc3 hg3
  go_wp2_with fail
  refine (trace_any g l2 k3 50 w3 Hc3.out (by omega) Hl2.out (by decide)).mono ?_
  rintro e w4 ⟨fs, v, rfl, hfn, hok, hd⟩
  have Hb4 := Lib.hid (dr_below hd Hb3.out hgW)
  obtain ⟨Af, cf, rfl, hcf, hrf⟩ := own_form hd.own
  obtain ⟨n, hn⟩ : ∃ n, fs.length = n := ⟨_, rfl⟩
  rw [hn] at hcf hfn
  have Hn := Lib.hid hn
  have Hok := Lib.hid hok
  have Hrf := Lib.hid hrf
  simp only [hn]
  clear hd hok hrf hn
  go_wp2_with fail
  have hs1 : (1 : Int) + (r : Int) = ((1 + r : Nat) : Int) := by omega
  rw [hs1]
  obtain ⟨size, hsz⟩ : ∃ size, 1 + r = size := ⟨_, rfl⟩
  rw [hsz]
  have hsz1 : 1 ≤ size := by omega
  have hsz2 : size ≤ 12 := by omega
  clear hs1 hsz hr12
  refine (pnew_any size w4).mono ?_
  rintro e w5 ⟨v, rfl, hr5, hb5⟩
  have hnew : newP (size : Int) = List.replicate size 1 := by
    unfold newP
    rw [if_pos (by omega)]
    simp
  rw [hnew, List.length_replicate] at hr5
  have Hr5 := Lib.hid hr5
  have Hb5 := Lib.hid (below_next Hb4.out hb5)
  have Hf5 := Lib.hid (Hrf.out.below hb5)
  clear hr5 hb5 Hrf hnew
  go_wp2_with fail
  have HFL : Hid ((fs.map ft).length = n) := Lib.hid (by rw [List.length_map, Hn.out])
  go_loopw [6, 7, 8, 9] (fun vt vb vx vj wr => SpR W w5 size (fs.map ft) vt vb vx vj wr) (fun _ _ _ vj _ => n - (intOf vj).toNat)
  case atStart => exact ⟨0, Nat.zero_le _, rfl, rfl, rfl, Hr5.out, Below.refl _ _, Hb5.out⟩
  case round =>
    obtain ⟨j, hj, rfl, rfl, rfl, hrt, hb0, hb⟩ := hrel
    rw [HFL.out] at hj
    have Hb := Lib.hid hb
    have Hb0 := Lib.hid hb0
    have Hrf := Lib.hid (Hf5.out.below hb0)
    have Hct : Hid (Ctrs (runT (List.replicate size 1) ((fs.map ft).take j))) := Lib.hid ((ctrs_new size).run _)
    have Hrl : Hid ((runT (List.replicate size 1) ((fs.map ft).take j)).length = size) := Lib.hid (by rw [runT_len, List.length_replicate])
    obtain ⟨B, hB⟩ : ∃ B, nBr ((fs.map ft).take j) = B := ⟨_, rfl⟩
    obtain ⟨X, hX⟩ : ∃ X, nWrong (List.replicate size 1) ((fs.map ft).take j) = X := ⟨_, rfl⟩
    have hBj : B ≤ j := by rw [← hB]; exact Nat.le_trans List.countP_le_length (List.length_take_le _ _)
    have hXB : X ≤ B := by rw [← hB, ← hX]; exact wrong_le_br _ _
    rw [hB, hX]
    have HB := Lib.hid hB
    have HX := Lib.hid hX
    obtain ⟨At, ct, rfl, hcn, hrt⟩ := hrt
    have Hrt := Lib.hid hrt
    clear hrt hb hb0 hB hX
    obtain ⟨t, ht⟩ : ∃ t, runT (List.replicate size 1) ((fs.map ft).take j) = t := ⟨_, rfl⟩
    rw [ht] at Hct Hrl Hrt
    have HT := Lib.hid ht
    clear ht
    by_cases hlt : j < n
    · obtain ⟨f, hf⟩ : ∃ f, fs[j]? = some f := ⟨fs[j]'(by rw [Hn.out]; exact hlt), List.getElem?_eq_getElem _⟩
      obtain ⟨ad, rfl, d0, d1, d2⟩ := ft_cells Hrf.out hf
      have HTk := Lib.hid (ft_at hf)
      have hok := Hok.out f (List.mem_of_getElem? hf)
      obtain ⟨fa, fz, fk⟩ := f
      simp only [] at d0 d2
      have hfk : fa < 80 := hok.1
      clear hf hok d1
      by_cases hbr : fk = 1 ∨ fk = 2
      · obtain ⟨pb, hpb⟩ : ∃ pb, prN t fa = pb := ⟨_, rfl⟩
        have HP : Hid (∀ q, Calls Try.prog 13 #[.slice At size ct, .int .i64 (fa : Int)] (wr.drewN q) fun e w' => e = .returned (.bool pb) ∧ ∃ m, w' = (wr.drewN q).drewN m) :=
          Lib.hid (fun q => predict_any pb t At size ct fa _ hpb Hrl.out hcn (Hrt.out.drewN q) hsz1 (by omega) Hct.out (by omega))
        have HU : Hid (∀ W : World, Rd W At (t.map nv) → Calls Try.prog 15 #[.slice At size ct, .int .i64 (fa : Int), .bool (decide (fk = 1))] W (IntsP (upT t fa (decide (fk = 1))) W)) :=
          Lib.hid (fun W hW => update_any t At size ct fa _ W Hrl.out hcn hW hsz1 (by omega) Hct.out (by omega))
        have HE : Hid (∀ (r : Nat) v5 w9 q, (r = X + if (pb != decide (fk = 1)) = true then 1 else 0) → RdS w9 v5 ((upT t fa (decide (fk = 1))).map nv) (upT t fa (decide (fk = 1))).length → Below (wr.drewN q).heap.size (wr.drewN q) w9 →
            SpR W w5 size (fs.map ft) v5 (.int .i64 ((B : Int) + 1)) (.int .i64 (r : Int)) (.int .i64 ((j : Int) + 1)) w9) := Lib.hid (by
          intro r v5 w9 q hr hrd hb9
          have hbr2 : isBr (fa, fk) = true := by rcases hbr with rfl | rfl <;> rfl
          have hdec : ((fk == 1) : Bool) = decide (fk = 1) := rfl
          have hb8 : Below wr.heap.size wr w9 := below_next (bel_q (Below.refl _ wr) q) hb9
          refine ⟨j + 1, by rw [HFL.out]; omega, by go_num, ?_, ?_, ?_, Hb0.out.trans (hb8.mono Hb0.out.size), Hb.out.trans (hb8.mono Hb.out.size)⟩
          · rw [HTk.out, nBr_snoc, HB.out, if_pos hbr2]
            go_num
          · rw [HTk.out, nWrong_snoc, HX.out, HT.out, hr]
            simp only [wrT, hbr2, Bool.true_and, hpb, hdec]
          · rw [HTk.out, runT_snoc, HT.out]
            unfold stT
            rw [if_pos hbr2]
            simp only [hdec]
            rw [upT_len, Hrl.out] at hrd
            exact hrd)
        clear HTk HT Hct Hrl hpb
        rcases hbr with rfl | rfl
        · cases pb with
          | true =>
            go_wp2_with fail
            go_quiet ((go_at_call 13; with_reducible exact Calls.quiet_of (HP.out _)))
            go_wp2_with fail
            obtain ⟨w6, hw6⟩ : ∃ w6, wr.drewN nq = w6 := ⟨_, rfl⟩
            rw [hw6]
            have q0 : w6.cell? (ad.add (j * 3)) = some (.int .i64 (fa : Int)) := by rw [← hw6]; exact d0
            have q2 : w6.cell? ⟨(ad.add (j * 3)).block, (ad.add (j * 3)).off + 2, none⟩ = some (.int .i64 ((1 : Nat) : Int)) := by rw [← hw6]; exact d2
            have HU2 := Lib.hid (HU.out w6.drew (by rw [← hw6]; exact ((Hrt.out.drewN nq).drew)))
            have Hw6 := Lib.hid hw6
            clear hw6 d0 d2
            go_still_tail 12, (by kernel_rfl)
            change wpList _ _ _ _ _ w6.drew
            go_wp2_with fail
            refine HU2.out.mono ?_
            rintro e w7 ⟨v5, rfl, hr5, hb5⟩
            have Hr5 := Lib.hid hr5
            have Hb5 := Lib.hid hb5
            clear hr5 hb5
            go_wp2_with fail
            exact ⟨HE.out X v5 w7 (nq + 1) (by simp) Hr5.out (by have := Hb5.out; rw [← Hw6.out] at this; exact this), by simp [intOf]; omega⟩
          | false =>
            go_wp2_with fail
            go_quiet ((go_at_call 13; with_reducible exact Calls.quiet_of (HP.out _)))
            go_wp2_with fail
            obtain ⟨w6, hw6⟩ : ∃ w6, wr.drewN nq = w6 := ⟨_, rfl⟩
            rw [hw6]
            have q0 : w6.cell? (ad.add (j * 3)) = some (.int .i64 (fa : Int)) := by rw [← hw6]; exact d0
            have q2 : w6.cell? ⟨(ad.add (j * 3)).block, (ad.add (j * 3)).off + 2, none⟩ = some (.int .i64 ((1 : Nat) : Int)) := by rw [← hw6]; exact d2
            have HU2 := Lib.hid (HU.out w6.drew (by rw [← hw6]; exact ((Hrt.out.drewN nq).drew)))
            have Hw6 := Lib.hid hw6
            clear hw6 d0 d2
            go_still_tail 12, (by kernel_rfl)
            change wpList _ _ _ _ _ w6.drew
            go_wp2_with fail
            refine HU2.out.mono ?_
            rintro e w7 ⟨v5, rfl, hr5, hb5⟩
            have Hr5 := Lib.hid hr5
            have Hb5 := Lib.hid hb5
            clear hr5 hb5
            go_wp2_with fail
            exact ⟨HE.out (X + 1) v5 w7 (nq + 1) (by simp) Hr5.out (by have := Hb5.out; rw [← Hw6.out] at this; exact this), by simp [intOf]; omega⟩
        · cases pb with
          | true =>
            go_wp2_with fail
            go_quiet ((go_at_call 13; with_reducible exact Calls.quiet_of (HP.out _)))
            go_wp2_with fail
            obtain ⟨w6, hw6⟩ : ∃ w6, wr.drewN nq = w6 := ⟨_, rfl⟩
            rw [hw6]
            have q0 : w6.cell? (ad.add (j * 3)) = some (.int .i64 (fa : Int)) := by rw [← hw6]; exact d0
            have q2 : w6.cell? ⟨(ad.add (j * 3)).block, (ad.add (j * 3)).off + 2, none⟩ = some (.int .i64 ((2 : Nat) : Int)) := by rw [← hw6]; exact d2
            have HU2 := Lib.hid (HU.out w6.drew (by rw [← hw6]; exact ((Hrt.out.drewN nq).drew)))
            have Hw6 := Lib.hid hw6
            clear hw6 d0 d2
            go_still_tail 12, (by kernel_rfl)
            change wpList _ _ _ _ _ w6.drew
            go_wp2_with fail
            refine HU2.out.mono ?_
            rintro e w7 ⟨v5, rfl, hr5, hb5⟩
            have Hr5 := Lib.hid hr5
            have Hb5 := Lib.hid hb5
            clear hr5 hb5
            go_wp2_with fail
            exact ⟨HE.out (X + 1) v5 w7 (nq + 1) (by simp) Hr5.out (by have := Hb5.out; rw [← Hw6.out] at this; exact this), by simp [intOf]; omega⟩
          | false =>
            go_wp2_with fail
            go_quiet ((go_at_call 13; with_reducible exact Calls.quiet_of (HP.out _)))
            go_wp2_with fail
            obtain ⟨w6, hw6⟩ : ∃ w6, wr.drewN nq = w6 := ⟨_, rfl⟩
            rw [hw6]
            have q0 : w6.cell? (ad.add (j * 3)) = some (.int .i64 (fa : Int)) := by rw [← hw6]; exact d0
            have q2 : w6.cell? ⟨(ad.add (j * 3)).block, (ad.add (j * 3)).off + 2, none⟩ = some (.int .i64 ((2 : Nat) : Int)) := by rw [← hw6]; exact d2
            have HU2 := Lib.hid (HU.out w6.drew (by rw [← hw6]; exact ((Hrt.out.drewN nq).drew)))
            have Hw6 := Lib.hid hw6
            clear hw6 d0 d2
            go_still_tail 12, (by kernel_rfl)
            change wpList _ _ _ _ _ w6.drew
            go_wp2_with fail
            refine HU2.out.mono ?_
            rintro e w7 ⟨v5, rfl, hr5, hb5⟩
            have Hr5 := Lib.hid hr5
            have Hb5 := Lib.hid hb5
            clear hr5 hb5
            go_wp2_with fail
            exact ⟨HE.out X v5 w7 (nq + 1) (by simp) Hr5.out (by have := Hb5.out; rw [← Hw6.out] at this; exact this), by simp [intOf]; omega⟩
      · have hk1 : ((fk : Int) != 1) = true := by simp; omega
        have hk2 : ((fk : Int) != 2) = true := by simp; omega
        have hno : isBr (fa, fk) = false := by
          have h1 : ¬ fk = 1 := fun e => hbr (.inl e)
          have h2 : ¬ fk = 2 := fun e => hbr (.inr e)
          simp [isBr, h1, h2]
        have HE : Hid (SpR W w5 size (fs.map ft) (.slice At size ct) (.int .i64 (B : Int)) (.int .i64 (X : Int)) (.int .i64 ((j : Int) + 1)) wr) := Lib.hid (by
          refine ⟨j + 1, by rw [HFL.out]; omega, by go_num, ?_, ?_, ?_, Hb0.out, Hb.out⟩
          · rw [HTk.out, nBr_snoc, HB.out, hno]
            simp
          · rw [HTk.out, nWrong_snoc, HX.out]
            simp [wrT, hno]
          · rw [HTk.out, runT_snoc, HT.out]
            unfold stT
            rw [hno]
            exact ⟨_, _, rfl, hcn, Hrt.out⟩)
        clear HTk HT Hct Hrl hno hbr
        go_wp2_with fail
        exact ⟨HE.out, by simp [intOf]; omega⟩
    · obtain rfl : j = n := by omega
      have hall : (fs.map ft).take j = fs.map ft := List.take_of_length_le (by have := HFL.out; omega)
      rw [hall] at HB HX
      have HK := Lib.hid (count_any size fs Af j cf wr Hn.out hcf Hrf.out (by omega) (by omega) (fun f hf => okF_small (Hok.out f hf)))
      have hws : wrongS size (fs.map ft) = X := by
        unfold wrongS
        rw [if_neg (by omega), HX.out]
      rw [HB.out, hws] at HK
      clear hall HT Hct Hrl hws
      go_wp2_with fail
      refine HK.out.mono ?_
      rintro e w6 ⟨rfl, hb6⟩
      have Hb6 := Lib.hid (Hb.out.trans (hb6.mono Hb.out.size))
      clear hb6 HK
      have hle : decide ((X : Int) ≤ (B : Int)) = true := by simp; omega
      go_wp2_with fail
      go_ret
      exact ⟨rfl, Hb6.out⟩
end Go.Proofs.Ytanjggfcahjkfaa
