/-
  The walk of the reference reader's called, given the walk of expr. No condition.
-/
import Derived.Test.YtmpnkbhlagalkaaGreatDoorRpCall0
namespace Go.Proofs.YtmpnkbhlagalkaaGreatDoor
open Go.RowKit

set_option maxRecDepth 100000 in
set_option maxHeartbeats 8000000 in
theorem called_r (E : R1) (he : SubR 17 E) : SubR 105 (calledR E) := by
  intro p tb s s' x w h hP
  obtain ⟨x1, s1, n1, hp1, hloop⟩ := calledR_start hP
  have HE0 := Lib.hid he
  have HPR := Lib.hid (primary_r E he)
  have HN := Lib.hid (now_r (w.alloc (.cells #[.int .i64 0, .int .i64 0, .int .i64 0, .int .i64 0, .string { data := #[] }, .slice none 0 0] 30)) (h.alloc _))
  have HA := Lib.hid h
  have HP1 := Lib.hid hp1
  have HL := Lib.hid hloop
  have plt := h.lt.1
  have tlt := h.lt.2.1
  have hb0 := (Below.refl _ w).alloc (Nat.le_refl _) (.cells #[.int .i64 0, .int .i64 0, .int .i64 0, .int .i64 0, .string { data := #[] }, .slice none 0 0] 30)
  have HZ0 := Lib.hid (heap_alloc_new w (.cells #[.int .i64 0, .int .i64 0, .int .i64 0, .int .i64 0, .string { data := #[] }, .slice none 0 0] 30))
  have HB0 := Lib.hid hb0
  clear he hP hp1 hloop h hb0
  go_enter Tryz.func105, Tryz.ntmps105
  go_wp2_with fail
  refine HN.out.mono ?_
  rintro e w1 ⟨rfl, hb1⟩
  unfold tokVR
  have hsz1 : w.heap.size + 1 ≤ w1.heap.size := by have := hb1.size; simpa using this
  have hbt := (Below.refl _ w1).alloc (Nat.le_refl _) (.cells #[.int .i64 ((hdR s).kind : Int), .int .i64 ((hdR s).line : Int), .int .i64 ((hdR s).value : Int), .string (nmB (hdR s).text)] 67)
  have hbw := (HB0.out.trans (hb1.mono (by simp))).trans (hbt.mono (by omega))
  have HG2 := Lib.hid (grown_of_below hbw (some p))
  have HZ2 := Lib.hid ((hbt.block w.heap.size (by omega)).trans ((hb1.block _ (by simp)).trans HZ0.out))
  have HT2 := Lib.hid (heap_alloc_new w1 (.cells #[.int .i64 ((hdR s).kind : Int), .int .i64 ((hdR s).line : Int), .int .i64 ((hdR s).value : Int), .string (nmB (hdR s).text)] 67))
  have hsz2 : w1.heap.size < (w1.alloc (.cells #[.int .i64 ((hdR s).kind : Int), .int .i64 ((hdR s).line : Int), .int .i64 ((hdR s).value : Int), .string (nmB (hdR s).text)] 67)).heap.size := by simp
  have HC1 := Lib.hid (HPR.out p tb s s1 x1 _ (HA.out.below hbw) HP1.out)
  clear hb1 HN hbt HZ0 HB0 hbw HPR HA HP1
  go_wp2_with fail
  obtain ⟨ub, hub⟩ : ∃ ub, ub = w1.heap.size := ⟨_, rfl⟩
  rw [← hub] at HT2 hsz1 hsz2 ⊢
  generalize w1.alloc (.cells #[.int .i64 ((hdR s).kind : Int), .int .i64 ((hdR s).line : Int), .int .i64 ((hdR s).value : Int), .string (nmB (hdR s).text)] 67) = w2 at *
  clear hub
  refine HC1.out.mono ?_
  rintro e w3 ⟨d1, k1, o1, a1, l1, t1, A1, n2, c1, rfl, hv1, hp3, hg3, hl1⟩
  have hba := (Below.refl _ w3).alloc (Nat.le_refl _) (.cells #[.int .i64 k1, .int .i64 o1, .int .i64 a1, .int .i64 l1, .string t1, .slice A1 n2 c1] 30)
  have hsz3 := hg3.size
  have HR : Hid (CalR E (decide ((hdR s).kind = 1)) p tb ub w3.heap.size (hdR s) x s s' w (w3.alloc (.cells #[.int .i64 k1, .int .i64 o1, .int .i64 a1, .int .i64 l1, .string t1, .slice A1 n2 c1] 30))) := Lib.hid ⟨n1, x1, s1, HL.out, xat_new (by omega) (hv1.keep (fun q hq => ⟨by omega, hq.2⟩) (fun _ _ => rfl)), hp3.alloc _, (HG2.out.trans hg3).trans (grown_of_below hba _), (hba.block _ (by omega)).trans (blk_keep hg3 (by omega) HZ2.out), (hba.block _ (by omega)).trans (blk_keep hg3 (by omega) HT2.out), hl1⟩
  clear HC1 HL hv1 hp3 hg3 hl1 hba HG2 HZ2 HT2
  go_wp2_with fail
  obtain ⟨xb, hxb⟩ : ∃ xb, xb = w3.heap.size := ⟨_, rfl⟩
  rw [← hxb] at HR hsz3 ⊢
  clear hxb
  go_loopw [5, 6] (fun _ _ wr => CalR E (decide ((hdR s).kind = 1)) p tb ub xb (hdR s) x s s' w wr) (fun _ _ wr => restLenR wr p)
  case atStart => exact HR.out
  case round =>
    obtain ⟨n, xx, ss, hloop, hx, hp, hg, hz, hu, hl⟩ := hrel
    clear HR
    obtain ⟨wo, rfl⟩ : ∃ wo : World, wo = wr := ⟨_, rfl⟩
    have HRL := Lib.hid hp.rest
    have HI := Lib.hid (is_r [40] wo hp)
    have HX := Lib.hid hx
    have HP := Lib.hid hp
    have HG := Lib.hid hg
    have HZ := Lib.hid hz
    have HU := Lib.hid hu
    have Hl := Lib.hid hl
    have HLP := Lib.hid hloop
    have hszr := hg.size
    clear hloop hx hp hg hz hl hu
    go_wp2_with fail
    refine HI.out.mono ?_
    rintro e w2 ⟨rfl, hb2⟩
    have HP2 := Lib.hid (HP.out.below hb2)
    have HX2 := Lib.hid (HX.out.below hb2)
    have HG2 := Lib.hid (HG.out.trans (grown_of_below hb2 _))
    have HZ2 := Lib.hid ((hb2.block _ (Array.getElem?_eq_some_iff.1 HZ.out).1).trans HZ.out)
    have HU2 := Lib.hid ((hb2.block _ (Array.getElem?_eq_some_iff.1 HU.out).1).trans HU.out)
    clear hb2 HI HX HP HG HZ HU
    cases hs : isR [40] ss with
    | true =>
      obtain ⟨m0, ys, sq, hargs, hcalls⟩ := callsR_yes HLP.out hs
      have HNow := Lib.hid (now_r w2 HP2.out)
      have HCL := Lib.hid hcalls
      have HAC := Lib.hid (argsR_cases hargs)
      have HV := Lib.hid hs
      clear hargs hcalls hs HLP
      go_wp2_with fail
      refine HNow.out.mono ?_
      rintro e w3 ⟨rfl, hb3⟩
      obtain ⟨a, c, N, hr⟩ := HP2.out.below hb3
      have e1 := hr.cells.2.1
      have f1 := hr.cells.2.2.2.2 1
      have hsm := hr.sm
      have hlt2 := hr.lt
      have hgs : w3.grownBy (w3.setCell ⟨p, 1, none⟩ (.int .i64 ((a : Int) + 1))) (some p) := set_grown w3 ⟨p, 1, none⟩ (.int .i64 ((a : Int) + 1))
      have h2 := isR_two hr.wf HV.out
      have hp4 : RA (w3.setCell ⟨p, 1, none⟩ (.int .i64 ((a : Int) + 1))) p tb (popR ss) := ⟨_, _, _, hr.popSet h2⟩
      have HA4 := Lib.hid (accept_r [41] _ hp4)
      have HX4 := Lib.hid ((HX2.out.below hb3).grown hgs (by omega))
      have hg4 := (HG2.out.trans (grown_of_below hb3 _)).trans hgs
      have HG4 := Lib.hid hg4
      have HZ4 := Lib.hid (blk_keep hgs (by omega) ((hb3.block _ (Array.getElem?_eq_some_iff.1 HZ2.out).1).trans HZ2.out))
      have HU4 := Lib.hid (blk_keep hgs (by omega) ((hb3.block _ (Array.getElem?_eq_some_iff.1 HU2.out).1).trans HU2.out))
      have hsz4 := hg4.size
      have h2' : 2 ≤ ss.rest.length := h2
      have H2 := Lib.hid h2'
      have hsmr := hp4.sm
      have HSM := Lib.hid hsmr
      unfold tokVR
      have hfd : ∀ w : World, (Instr.field 67 (.agg #[.int .i64 ((hdR ss).kind : Int), .int .i64 ((hdR ss).line : Int), .int .i64 ((hdR ss).value : Int), .string (nmB (hdR ss).text)]) 1).run Tryz.prog w = .ok (.int .i64 ((hdR ss).line : Int)) w := fun _ => by kernel_rfl
      clear hr hgs HNow hb3 h2 h2' hg4 HP2 HX2 HG2 HZ2 HU2 hp4 hsmr
      go_wp2_with fail
      clear e1 f1 hfd
      generalize w3.setCell ⟨p, 1, none⟩ (.int .i64 ((a : Int) + 1)) = w4 at *
      refine HA4.out.mono ?_
      rintro e w5 ⟨rfl, hp5, hg5⟩
      have HX5 := Lib.hid (HX4.out.grown hg5 (by omega))
      obtain ⟨bs, hbs⟩ : ∃ bs, bs = w5.heap.size := ⟨_, rfl⟩
      have hxl : xb < bs := by rw [hbs]; exact HX5.out.lt
      have HG5 := Lib.hid (HG4.out.trans hg5)
      have HZ5 := Lib.hid (blk_keep hg5 (by omega) HZ4.out)
      have HU5 := Lib.hid (blk_keep hg5 (by omega) HU4.out)
      have hsz5 := hg5.size
      clear HA4 hg5 HX4 HG4 HZ4 HU4
      rcases HAC.out with ⟨hv, rfl, rfl⟩ | ⟨hv, y, sy, n3, hq, hmore⟩
      · rw [accR_yes hv] at hp5
        have HXt := HX5
        have HPt := Lib.hid hp5
        have HGt := HG5
        have HZt := HZ5
        have HUt := HU5
        have Hlt := Lib.hid (show (popR (popR ss)).rest.length ≤ s.rest.length by rw [popR_len, popR_len]; have := Hl.out; omega)
        have Hls := Lib.hid (show (popR (popR ss)).rest.length < ss.rest.length by rw [popR_len, popR_len]; have := H2.out; omega)
        have HAr := Lib.hid (ArgRow.nil bs 0 w5)
        have Hys : Hid (([] : List Ex).length ≤ 1000000) := Lib.hid (by simp)
        clear hp5 HAC H2 HSM HV
        obtain ⟨hxlo, dx, kx, ox, ax, lx, tx, Ax, nx, cx, rx, vx⟩ := HXt.out
        have xlt := (Array.getElem?_eq_some_iff.1 rx).1
        have a0 := cell_of_row _ _ 0 _ _ _ rx
        have a1 := cell_of_row _ _ 1 _ _ _ rx
        have a2 := cell_of_row _ _ 2 _ _ _ rx
        have a3 := cell_of_row _ _ 3 _ _ _ rx
        have a4 := cell_of_row _ _ 4 _ _ _ rx
        have a5 := cell_of_row _ _ 5 _ _ _ rx
        have b0 := cell_of_row _ _ 0 _ _ _ HUt.out
        have RX := Lib.hid rx
        have VX := Lib.hid vx
        have SAME := Lib.hid (exV_same vx)
        clear rx vx HXt
        by_cases hk : kx = 13 ∧ (hdR s).kind = 1
        · obtain ⟨hk, hk1⟩ := hk
          rw [hk] at a0
          rw [hk1] at b0
          have HCL2 := Lib.hid (show callsR E (decide ((hdR s).kind = 1)) m0 (.mk 9 0 0 ((hdR ss).line : Int) tx []) (popR (popR ss)) = some (x, s') by
            have h := HCL.out
            rw [callR, if_pos ⟨by rw [SAME.out.1]; exact hk, by simp [hk1]⟩, SAME.out.2] at h
            exact h)
          clear hk hk1
          go_wp2_with (with_reducible refine rx_pause ?_)
          refine Pause.of (wpList_store_new _ rfl _ _ _ rfl xb _ rfl (by rfl) _ _ RX.out (by kernel_rfl) (by rfl) (by simp [Value.oneCell']) ?_)
          intro w9 hrow9 hg9
          have hst := cal_step (s := s) (tk := hdR s) (ub := ub) HCL2.out hxlo plt tlt (by omega) (show ExV (fun q => w.heap.size + 1 ≤ q ∧ q < w5.heap.size ∧ q ≠ xb) w5 (0 + 1) (.mk 9 0 0 ((hdR ss).line : Int) tx []) _ from ⟨none, 0, rfl, (HAr.out.row.2).keep (fun q hq => ⟨by omega, hq.2, by omega⟩) (fun _ _ => rfl)⟩) HPt.out HGt.out HZt.out HUt.out Hlt.out hrow9 hg9
          have HE := Lib.hid (And.intro hst.1 (Nat.lt_of_le_of_lt (Nat.le_of_eq hst.2) (show (popR (popR ss)).rest.length < restLenR wo p by rw [HRL.out]; exact Hls.out)))
          clear hst hrow9 hg9 a0 a1 a2 a3 a4 a5 b0
          go_wp2_with fail
          refine ⟨?_, HE.out.2⟩
          (repeat apply Exists.intro)
          exact ⟨HE.out.1, rfl⟩
        · have HCL2 := Lib.hid (show callsR E (decide ((hdR s).kind = 1)) m0 (.mk 10 0 0 ((hdR ss).line : Int) ⟨#[]⟩ (xx :: [])) (popR (popR ss)) = some (x, s') by
            have h := HCL.out
            rw [callR, if_neg (fun hh => hk ⟨by rw [← SAME.out.1]; exact hh.1, by simpa using hh.2⟩)] at h
            exact h)
          by_cases hk0 : kx = 13
          · have hk1 : (hdR s).kind ≠ 1 := fun h => hk ⟨hk0, h⟩
            have hk1' : (((hdR s).kind : Int) == 1) = false := by simp; omega
            rw [hk0] at a0
            have RX' := Lib.hid (by have h := RX.out; rw [hk0] at h; exact h)
            have VX' := Lib.hid (by have h := VX.out; rw [hk0] at h; exact h)
            clear hk hk0 hk1
            go_wp2_with (at_builtin; refine Pause.out ?_)
            refine Pause.of (wpList_append_consR w5 rfl (.tmp 55) (.tmp 56) rfl bs (0 + dx) none 0 0 [] [] xx _ _ _ _ _ _ _ _ (fun q => w.heap.size + 1 ≤ q ∧ q < w5.heap.size ∧ q ≠ xb) rfl rfl rfl (HAr.out.up dx) Hys.out (by have h := VX'.out.mono 0; rw [Nat.add_comm dx 0] at h; exact h) (fun q hq => hq.2.1) ?_)
            intro A8 m8 c8 w8 hm8 hr8 hb8
            have rx8 := (hb8.block _ xlt).trans RX'.out
            have HST := Lib.hid (fun w9 hrow9 hg9 => cal_step (s := s) (tk := hdR s) (ub := ub) (w9 := w9) HCL2.out hxlo plt tlt (by omega) (show ExV (fun q => w.heap.size + 1 ≤ q ∧ q < w8.heap.size ∧ q ≠ xb) w8 (0 + dx + 1) (.mk 10 0 0 ((hdR ss).line : Int) ⟨#[]⟩ (xx :: [])) (.agg #[.int .i64 10, .int .i64 0, .int .i64 0, .int .i64 ((hdR ss).line : Int), .string ⟨#[]⟩, .slice A8 m8 c8]) from ⟨A8, c8, by rw [← hm8], hr8.keep (fun q hq => by have := hb8.size; omega) (fun _ _ => rfl)⟩) (HPt.out.below hb8) (HGt.out.trans (grown_of_below hb8 _)) ((hb8.block _ (Array.getElem?_eq_some_iff.1 HZt.out).1).trans HZt.out) ((hb8.block _ (Array.getElem?_eq_some_iff.1 HUt.out).1).trans HUt.out) Hlt.out hrow9 hg9)
            have RX8 := Lib.hid rx8
            clear hm8 hr8 hb8 rx8 a0 a1 a2 a3 a4 a5 b0
            go_wp2_with (with_reducible refine rx_pause ?_)
            refine Pause.of (wpList_store_new _ rfl _ _ _ rfl xb _ rfl (by rfl) _ _ RX8.out (by kernel_rfl) (by rfl) (by simp [Value.oneCell']) ?_)
            intro w9 hrow9 hg9
            have hst := HST.out w9 hrow9 hg9
            have HE := Lib.hid (And.intro hst.1 (Nat.lt_of_le_of_lt (Nat.le_of_eq hst.2) (show (popR (popR ss)).rest.length < restLenR wo p by rw [HRL.out]; exact Hls.out)))
            clear hst hrow9 hg9 HST
            go_wp2_with fail
            refine ⟨?_, HE.out.2⟩
            (repeat apply Exists.intro)
            exact ⟨HE.out.1, rfl⟩
          · have hk0' : (kx == 13) = false := by simpa using hk0
            have RX' := RX
            have VX' := VX
            clear hk hk0
            go_wp2_with (at_builtin; refine Pause.out ?_)
            refine Pause.of (wpList_append_consR w5 rfl (.tmp 55) (.tmp 56) rfl bs (0 + dx) none 0 0 [] [] xx _ _ _ _ _ _ _ _ (fun q => w.heap.size + 1 ≤ q ∧ q < w5.heap.size ∧ q ≠ xb) rfl rfl rfl (HAr.out.up dx) Hys.out (by have h := VX'.out.mono 0; rw [Nat.add_comm dx 0] at h; exact h) (fun q hq => hq.2.1) ?_)
            intro A8 m8 c8 w8 hm8 hr8 hb8
            have rx8 := (hb8.block _ xlt).trans RX'.out
            have HST := Lib.hid (fun w9 hrow9 hg9 => cal_step (s := s) (tk := hdR s) (ub := ub) (w9 := w9) HCL2.out hxlo plt tlt (by omega) (show ExV (fun q => w.heap.size + 1 ≤ q ∧ q < w8.heap.size ∧ q ≠ xb) w8 (0 + dx + 1) (.mk 10 0 0 ((hdR ss).line : Int) ⟨#[]⟩ (xx :: [])) (.agg #[.int .i64 10, .int .i64 0, .int .i64 0, .int .i64 ((hdR ss).line : Int), .string ⟨#[]⟩, .slice A8 m8 c8]) from ⟨A8, c8, by rw [← hm8], hr8.keep (fun q hq => by have := hb8.size; omega) (fun _ _ => rfl)⟩) (HPt.out.below hb8) (HGt.out.trans (grown_of_below hb8 _)) ((hb8.block _ (Array.getElem?_eq_some_iff.1 HZt.out).1).trans HZt.out) ((hb8.block _ (Array.getElem?_eq_some_iff.1 HUt.out).1).trans HUt.out) Hlt.out hrow9 hg9)
            have RX8 := Lib.hid rx8
            clear hm8 hr8 hb8 rx8 a0 a1 a2 a3 a4 a5 b0
            go_wp2_with (with_reducible refine rx_pause ?_)
            refine Pause.of (wpList_store_new _ rfl _ _ _ rfl xb _ rfl (by rfl) _ _ RX8.out (by kernel_rfl) (by rfl) (by simp [Value.oneCell']) ?_)
            intro w9 hrow9 hg9
            have hst := HST.out w9 hrow9 hg9
            have HE := Lib.hid (And.intro hst.1 (Nat.lt_of_le_of_lt (Nat.le_of_eq hst.2) (show (popR (popR ss)).rest.length < restLenR wo p by rw [HRL.out]; exact Hls.out)))
            clear hst hrow9 hg9 HST
            go_wp2_with fail
            refine ⟨?_, HE.out.2⟩
            (repeat apply Exists.intro)
            exact ⟨HE.out.1, rfl⟩
      · rw [accR_no hv] at hp5
        have HXp := Lib.hid (HE0.out p tb (popR ss) sy y w5 hp5 hq)
        have HMR := Lib.hid hmore
        clear hp5 hq hmore HAC HV
        go_wp2_with fail
        refine HXp.out.mono ?_
        rintro e w6 ⟨d6, k6, o6, a6, l6, t6, A6, n6, c6, rfl, hv6, hp6, hg6, hl6⟩
        have hsz6 := hg6.size
        have HV6 := Lib.hid (hv6.keep (G := fun q => bs ≤ q ∧ q < w6.heap.size) (fun q hq => ⟨by omega, hq.2⟩) (fun _ _ => rfl))
        have HP6 := Lib.hid hp6
        have HG6 := Lib.hid hg6
        have HL6 := Lib.hid hl6
        clear hv6 hp6 hg6 hl6 HXp
        go_wp2_with (at_builtin; refine Pause.out ?_)
        refine Pause.of (wpList_append_ex w6 rfl (.tmp 26) (.tmp 29) rfl bs d6 (.slice none 0 0) [] [] y _ _ _ _ _ _ _ _ (fun q => bs ≤ q ∧ q < w6.heap.size) rfl rfl (ArgRow.nil _ _ _) (by simp) (by omega) HV6.out (fun b hb => ⟨hb.1, hb.2, by simp [Value.ownBlock]⟩) ?_)
        intro g cap w7 har7 hg7
        have hb7 : Below w6.heap.size w6 w7 := grown_any hg7 (fun k hk => by simp [Value.ownBlock] at hk) (Nat.le_refl _)
        have HST : Hid (MorR E bs p tb ys (popR ss) sq w5 (.slice (some ⟨g, 0, none⟩) 1 cap) w7) := Lib.hid ⟨n3, [y], sy, _, _, _, _, d6, rfl, rfl, HMR.out, har7, HP6.out.below hb7, HG6.out.trans (grown_of_below hb7 _), by simp; have := HL6.out; omega, HL6.out⟩
        clear har7 hg7 hb7 HV6 HP6 HG6 HL6 HMR
        go_wp2_with fail
        go_loopw [6] (fun v wq => MorR E bs p tb ys (popR ss) sq w5 v wq) (fun _ wq => restLenR wq p)
        case atStart => exact HST.out
        case round =>
          obtain ⟨n, xs, sx, L, A, m, c, d, rfl, hm, hmore, har, hp, hg, hlen, hle⟩ := hrel
          subst hm
          clear HST
          have HRQ := Lib.hid hp.rest
          have HA7 := Lib.hid (accept_r [44] _ hp)
          have HAR := Lib.hid har
          have HMR := Lib.hid hmore
          have HGq := Lib.hid hg
          have HLe := Lib.hid hle
          have hszq := hg.size
          have hwf := hp.wf
          have hpos := hp.wf.pos
          have hxs : xs.length ≤ 1000000 := by have := HSM.out; omega
          have HWF := Lib.hid hwf
          have HLn := Lib.hid hlen
          clear hmore har hp hg hle hwf hlen hpos
          go_wp2_with fail
          refine HA7.out.mono ?_
          rintro e w8 ⟨rfl, hp8, hg8⟩
          have HAR8 := Lib.hid (HAR.out.grown hg8 (by omega))
          have HG8 := Lib.hid (HGq.out.trans hg8)
          have hsz8 := hg8.size
          clear HA7 hg8 HAR HGq
          cases hv2 : isR [44] sx with
          | true =>
            obtain ⟨m9, y9, s9, hq9, hmore9⟩ := moreR_yes HMR.out hv2
            rw [accR_yes hv2] at hp8
            have H22 := Lib.hid (isR_two HWF.out hv2)
            have HXp := Lib.hid (HE0.out p tb (popR sx) s9 y9 w8 hp8 hq9)
            have HMR9 := Lib.hid hmore9
            clear hp8 hq9 hmore9 HMR
            go_wp2_with fail
            refine HXp.out.mono ?_
            rintro e w9 ⟨d9, k9, o9, a9, l9, t9, A9, n9, c9, rfl, hv9, hp9, hg9, hl9⟩
            have hsz9 := hg9.size
            have hou : ∀ b, (Value.slice A xs.length c).ownBlock = some b → b < w8.heap.size := fun b hb => (HAR8.out.own.lt b hb).2
            have HV9 := Lib.hid (((hv9.keep (G := fun q => w8.heap.size ≤ q ∧ q < w9.heap.size) (fun q hq => hq) (fun _ _ => rfl)).mono d))
            have HAR9 := Lib.hid ((HAR8.out.grown hg9 (by omega)).up d9)
            have HP9 := Lib.hid hp9
            have HG9 := Lib.hid (HG8.out.trans hg9)
            have HL9 := Lib.hid hl9
            have HOU := Lib.hid hou
            clear hv9 hp9 hg9 hl9 HXp HAR8 HG8 hou
            go_wp2_with (at_builtin; refine Pause.out ?_)
            refine Pause.of (wpList_append_ex w9 rfl (.tmp 33) (.tmp 36) rfl bs (d + d9) (.slice A xs.length c) xs L y9 _ _ _ _ _ _ _ _ (fun q => w8.heap.size ≤ q ∧ q < w9.heap.size) rfl rfl HAR9.out hxs (by omega) (by rw [Nat.add_comm]; exact HV9.out) (fun b hb => ⟨by omega, hb.2, fun e => by have := HOU.out b e; omega⟩) ?_)
            intro g9 cap9 wz harz hgz
            have hgz' : w9.grownBy wz (some p) ∨ True := .inr trivial
            have hbz : Below bs w9 wz := grown_any hgz (fun k hk => (HAR9.out.own.lt k hk).1) (by omega)
            have hpz := HP9.out.low hbz (by omega) (by omega)
            have h22 := H22.out
            have hl9 := HL9.out
            rw [popR_len] at hl9
            have HST : Hid (MorR E bs p tb ys (popR ss) sq w5 (.slice (some ⟨g9, 0, none⟩) (xs.length + 1) cap9) wz ∧ restLenR wz p < restLenR wr p) := Lib.hid ⟨⟨m9, xs ++ [y9], s9, _, _, _, _, d + d9, rfl, by simp, HMR9.out, harz, hpz, grown_low HG9.out hbz (by omega), by simp; have := HLn.out; omega, by have := HLe.out; omega⟩, by rw [hpz.rest, HRQ.out]; omega⟩
            clear harz hgz hgz' hbz hpz h22 hl9 HOU HL9 HP9 HAR9 HV9
            go_wp2_with fail
            exact HST.out
          | false =>
            obtain ⟨rfl, rfl⟩ := moreR_no HMR.out hv2
            rw [accR_no hv2] at hp8
            have HX8 := Lib.hid (expect_r [41] _ hp8)
            clear hp8 HMR
            go_wp2_with fail
            refine HX8.out.mono ?_
            rintro e wt ⟨⟨vt, rfl⟩, hpt, hgt⟩
            have hg5t := HG8.out.trans hgt
            have HXt := Lib.hid (HX5.out.grown hg5t (by omega))
            have HPt := Lib.hid hpt
            have HGt := Lib.hid (HG5.out.trans hg5t)
            have HZt := Lib.hid (blk_keep hg5t (by omega) HZ5.out)
            have HUt := Lib.hid (blk_keep hg5t (by omega) HU5.out)
            have hxl2 := expectR_len [41] sx
            have Hlt := Lib.hid (show (expectR [41] sx).rest.length ≤ s.rest.length by have := HLe.out; rw [popR_len] at this; have := Hl.out; omega)
            have Hls := Lib.hid (show (expectR [41] sx).rest.length < ss.rest.length by have := HLe.out; rw [popR_len] at this; have := H2.out; omega)
            have HAr := Lib.hid (HAR8.out.grown hgt (by omega))
            have Hys := Lib.hid hxs
            clear hpt hgt hg5t hxl2 HX8 HAR8 HG8 HX5 HG5 HZ5 HU5 H2 HSM HWF HLn HLe HRQ
            obtain ⟨hxlo, dx, kx, ox, ax, lx, tx, Ax, nx, cx, rx, vx⟩ := HXt.out
            have xlt := (Array.getElem?_eq_some_iff.1 rx).1
            have a0 := cell_of_row _ _ 0 _ _ _ rx
            have a1 := cell_of_row _ _ 1 _ _ _ rx
            have a2 := cell_of_row _ _ 2 _ _ _ rx
            have a3 := cell_of_row _ _ 3 _ _ _ rx
            have a4 := cell_of_row _ _ 4 _ _ _ rx
            have a5 := cell_of_row _ _ 5 _ _ _ rx
            have b0 := cell_of_row _ _ 0 _ _ _ HUt.out
            have RX := Lib.hid rx
            have VX := Lib.hid vx
            have SAME := Lib.hid (exV_same vx)
            clear rx vx HXt
            by_cases hk : kx = 13 ∧ (hdR s).kind = 1
            · obtain ⟨hk, hk1⟩ := hk
              rw [hk] at a0
              rw [hk1] at b0
              have HCL2 := Lib.hid (show callsR E (decide ((hdR s).kind = 1)) m0 (.mk 9 0 0 ((hdR ss).line : Int) tx ys) (expectR [41] sx) = some (x, s') by
                have h := HCL.out
                rw [callR, if_pos ⟨by rw [SAME.out.1]; exact hk, by simp [hk1]⟩, SAME.out.2] at h
                exact h)
              clear hk hk1
              go_wp2_with (with_reducible refine rx_pause ?_)
              refine Pause.of (wpList_store_new _ rfl _ _ _ rfl xb _ rfl (by rfl) _ _ RX.out (by kernel_rfl) (by rfl) (by simp [Value.oneCell']) ?_)
              intro w9 hrow9 hg9
              have hst := cal_step (s := s) (tk := hdR s) (ub := ub) HCL2.out hxlo plt tlt (by omega) (show ExV (fun q => w.heap.size + 1 ≤ q ∧ q < wt.heap.size ∧ q ≠ xb) wt (d + 1) (.mk 9 0 0 ((hdR ss).line : Int) tx ys) _ from ⟨A, c, rfl, (HAr.out.row.2).keep (fun q hq => ⟨by omega, hq.2, by omega⟩) (fun _ _ => rfl)⟩) HPt.out HGt.out HZt.out HUt.out Hlt.out hrow9 hg9
              have HE := Lib.hid (And.intro hst.1 (Nat.lt_of_le_of_lt (Nat.le_of_eq hst.2) (show (expectR [41] sx).rest.length < restLenR wo p by rw [HRL.out]; exact Hls.out)))
              clear hst hrow9 hg9 a0 a1 a2 a3 a4 a5 b0
              go_wp2_with fail
              refine ⟨?_, HE.out.2⟩
              (repeat apply Exists.intro)
              exact ⟨HE.out.1, rfl⟩
            · have HCL2 := Lib.hid (show callsR E (decide ((hdR s).kind = 1)) m0 (.mk 10 0 0 ((hdR ss).line : Int) ⟨#[]⟩ (xx :: ys)) (expectR [41] sx) = some (x, s') by
                have h := HCL.out
                rw [callR, if_neg (fun hh => hk ⟨by rw [← SAME.out.1]; exact hh.1, by simpa using hh.2⟩)] at h
                exact h)
              by_cases hk0 : kx = 13
              · have hk1 : (hdR s).kind ≠ 1 := fun h => hk ⟨hk0, h⟩
                have hk1' : (((hdR s).kind : Int) == 1) = false := by simp; omega
                rw [hk0] at a0
                have RX' := Lib.hid (by have h := RX.out; rw [hk0] at h; exact h)
                have VX' := Lib.hid (by have h := VX.out; rw [hk0] at h; exact h)
                clear hk hk0 hk1
                go_wp2_with (at_builtin; refine Pause.out ?_)
                refine Pause.of (wpList_append_consR wt rfl (.tmp 55) (.tmp 56) rfl bs (d + dx) A ys.length c ys L xx _ _ _ _ _ _ _ _ (fun q => w.heap.size + 1 ≤ q ∧ q < wt.heap.size ∧ q ≠ xb) rfl rfl rfl (HAr.out.up dx) Hys.out (by have h := VX'.out.mono d; rw [Nat.add_comm dx d] at h; exact h) (fun q hq => hq.2.1) ?_)
                intro A8 m8 c8 w8 hm8 hr8 hb8
                have rx8 := (hb8.block _ xlt).trans RX'.out
                have HST := Lib.hid (fun w9 hrow9 hg9 => cal_step (s := s) (tk := hdR s) (ub := ub) (w9 := w9) HCL2.out hxlo plt tlt (by omega) (show ExV (fun q => w.heap.size + 1 ≤ q ∧ q < w8.heap.size ∧ q ≠ xb) w8 (d + dx + 1) (.mk 10 0 0 ((hdR ss).line : Int) ⟨#[]⟩ (xx :: ys)) (.agg #[.int .i64 10, .int .i64 0, .int .i64 0, .int .i64 ((hdR ss).line : Int), .string ⟨#[]⟩, .slice A8 m8 c8]) from ⟨A8, c8, by rw [← hm8], hr8.keep (fun q hq => by have := hb8.size; omega) (fun _ _ => rfl)⟩) (HPt.out.below hb8) (HGt.out.trans (grown_of_below hb8 _)) ((hb8.block _ (Array.getElem?_eq_some_iff.1 HZt.out).1).trans HZt.out) ((hb8.block _ (Array.getElem?_eq_some_iff.1 HUt.out).1).trans HUt.out) Hlt.out hrow9 hg9)
                have RX8 := Lib.hid rx8
                clear hm8 hr8 hb8 rx8 a0 a1 a2 a3 a4 a5 b0
                go_wp2_with (with_reducible refine rx_pause ?_)
                refine Pause.of (wpList_store_new _ rfl _ _ _ rfl xb _ rfl (by rfl) _ _ RX8.out (by kernel_rfl) (by rfl) (by simp [Value.oneCell']) ?_)
                intro w9 hrow9 hg9
                have hst := HST.out w9 hrow9 hg9
                have HE := Lib.hid (And.intro hst.1 (Nat.lt_of_le_of_lt (Nat.le_of_eq hst.2) (show (expectR [41] sx).rest.length < restLenR wo p by rw [HRL.out]; exact Hls.out)))
                clear hst hrow9 hg9 HST
                go_wp2_with fail
                refine ⟨?_, HE.out.2⟩
                (repeat apply Exists.intro)
                exact ⟨HE.out.1, rfl⟩
              · have hk0' : (kx == 13) = false := by simpa using hk0
                have RX' := RX
                have VX' := VX
                clear hk hk0
                go_wp2_with (at_builtin; refine Pause.out ?_)
                refine Pause.of (wpList_append_consR wt rfl (.tmp 55) (.tmp 56) rfl bs (d + dx) A ys.length c ys L xx _ _ _ _ _ _ _ _ (fun q => w.heap.size + 1 ≤ q ∧ q < wt.heap.size ∧ q ≠ xb) rfl rfl rfl (HAr.out.up dx) Hys.out (by have h := VX'.out.mono d; rw [Nat.add_comm dx d] at h; exact h) (fun q hq => hq.2.1) ?_)
                intro A8 m8 c8 w8 hm8 hr8 hb8
                have rx8 := (hb8.block _ xlt).trans RX'.out
                have HST := Lib.hid (fun w9 hrow9 hg9 => cal_step (s := s) (tk := hdR s) (ub := ub) (w9 := w9) HCL2.out hxlo plt tlt (by omega) (show ExV (fun q => w.heap.size + 1 ≤ q ∧ q < w8.heap.size ∧ q ≠ xb) w8 (d + dx + 1) (.mk 10 0 0 ((hdR ss).line : Int) ⟨#[]⟩ (xx :: ys)) (.agg #[.int .i64 10, .int .i64 0, .int .i64 0, .int .i64 ((hdR ss).line : Int), .string ⟨#[]⟩, .slice A8 m8 c8]) from ⟨A8, c8, by rw [← hm8], hr8.keep (fun q hq => by have := hb8.size; omega) (fun _ _ => rfl)⟩) (HPt.out.below hb8) (HGt.out.trans (grown_of_below hb8 _)) ((hb8.block _ (Array.getElem?_eq_some_iff.1 HZt.out).1).trans HZt.out) ((hb8.block _ (Array.getElem?_eq_some_iff.1 HUt.out).1).trans HUt.out) Hlt.out hrow9 hg9)
                have RX8 := Lib.hid rx8
                clear hm8 hr8 hb8 rx8 a0 a1 a2 a3 a4 a5 b0
                go_wp2_with (with_reducible refine rx_pause ?_)
                refine Pause.of (wpList_store_new _ rfl _ _ _ rfl xb _ rfl (by rfl) _ _ RX8.out (by kernel_rfl) (by rfl) (by simp [Value.oneCell']) ?_)
                intro w9 hrow9 hg9
                have hst := HST.out w9 hrow9 hg9
                have HE := Lib.hid (And.intro hst.1 (Nat.lt_of_le_of_lt (Nat.le_of_eq hst.2) (show (expectR [41] sx).rest.length < restLenR wo p by rw [HRL.out]; exact Hls.out)))
                clear hst hrow9 hg9 HST
                go_wp2_with fail
                refine ⟨?_, HE.out.2⟩
                (repeat apply Exists.intro)
                exact ⟨HE.out.1, rfl⟩
    | false =>
      obtain ⟨rfl, rfl⟩ := callsR_no HLP.out hs
      obtain ⟨hxlo, dx, kx, ox, ax, lx, tx, Ax, nx, cx, rx, vx⟩ := HX2.out
      have a0 := cell_of_row _ _ 0 _ _ _ rx
      have a1 := cell_of_row _ _ 1 _ _ _ rx
      have a2 := cell_of_row _ _ 2 _ _ _ rx
      have a3 := cell_of_row _ _ 3 _ _ _ rx
      have a4 := cell_of_row _ _ 4 _ _ _ rx
      have a5 := cell_of_row _ _ 5 _ _ _ rx
      have VX := Lib.hid vx
      clear rx vx
      go_wp2_with (with_reducible refine rx_pause ?_)
      refine Pause.of (wpList_store_new _ rfl _ _ _ rfl w.heap.size _ rfl (by rfl) _ _ HZ2.out (by kernel_rfl) (by rfl) (by simp [Value.oneCell']) ?_)
      intro w9 hrow9 hg9
      have j0 := cell_of_row _ _ 0 _ _ _ hrow9
      have j1 := cell_of_row _ _ 1 _ _ _ hrow9
      have j2 := cell_of_row _ _ 2 _ _ _ hrow9
      have j3 := cell_of_row _ _ 3 _ _ _ hrow9
      have j4 := cell_of_row _ _ 4 _ _ _ hrow9
      have j5 := cell_of_row _ _ 5 _ _ _ hrow9
      have HH := Lib.hid (lev_end VX.out HP2.out HG2.out Hl.out plt tlt hg9)
      clear hrow9 hg9 a0 a1 a2 a3 a4 a5
      go_wp2_with fail
      exact bodyPost_ret (by simp [results, Tryz.results105, go_sem, j0, j1, j2, j3, j4, j5]) rfl HH.out
end Go.Proofs.YtmpnkbhlagalkaaGreatDoor
