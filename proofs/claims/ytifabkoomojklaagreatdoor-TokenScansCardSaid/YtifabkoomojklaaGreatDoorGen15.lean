/-
  The maker of sources: statements, given blocks and loops of less depth. Condition: at most a million codes.
-/
import Derived.Test.YtifabkoomojklaaGreatDoorGen14
namespace Go.Proofs.YtifabkoomojklaaGreatDoor
open Go.RowKit

set_option maxRecDepth 100000 in
set_option maxHeartbeats 16000000 in
theorem stmt_step (m g : Nat) (l : List Nat) (base d : Nat) (hd : d ≤ 5) (hB : ∀ d', d = d' + 1 → BlockCt m g l base d') (hL : 1 ≤ d → LoopCt m g l base d) : StmtCt m g l base d := by
  intro E bud w z hz hE hls hb0 hln
  have Hls := Lib.hid hls
  have HE := Lib.hid hE
  have Hb0 := Lib.hid hb0
  have Hln := Lib.hid hln
  have HBc := Lib.hid hB
  have HLc := Lib.hid hL
  have hz0 : 0 ≤ z := by omega
  have hz6 : z ≤ 6 := by omega
  have Hz := Lib.hid hz
  have hmb := hls.mb
  have hgm := hls.gb
  have hbs := hls.bs
  have hss := SS.start hls (.cells #[.int .i64 0, .int .i64 0, .string { data := #[] }, .slice none 0 0, .slice none 0 0, .slice none 0 0] 84)
  obtain ⟨_, _, _, _, _, _, c0, z1, z2, z3, z4, z5, z6, z7⟩ := hss.ls.gs.cells
  have Hss := Lib.hid hss
  clear z1 z2 z3 z4 z5 z6 z7 hss hls hE hb0 hln hB hL hz
  go_enter Tryz.func49, Tryz.ntmps49
  go_upto_region 1 with fail
  generalize hWe : w.alloc (.cells #[.int .i64 0, .int .i64 0, .string { data := #[] }, .slice none 0 0, .slice none 0 0, .slice none 0 0] 84) = W at *
  have HW := Lib.hid hWe.symm
  clear hWe
  have hnx := Lib.hid (ss_next Hss.out 10 10 rfl (by omega))
  go_wp2_with fail
  refine hnx.out.mono ?_
  rintro e w1 ⟨r, rfl, hr0, hss, hc, _⟩
  have hrb := hr0 (by omega)
  replace Hss := Lib.hid hss
  clear hnx hr0 hss hc
  clear c0
  have hcase : r = 0 ∨ r = 1 ∨ r = 2 ∨ r = 3 ∨ r = 4 ∨ r = 5 ∨ r = 6 ∨ r = 7 ∨ r = 8 ∨ r = 9 := by omega
  clear hrb
  rcases hcase with rfl | rfl | rfl | rfl | rfl | rfl | rfl | rfl | rfl | rfl
  · have hpk := Lib.hid ((ss_fresh Hss.out HE.out))
    go_wp2_with fail
    refine hpk.out.mono ?_
    rintro e w2 ⟨s, ok, rfl, hok, hss, hc⟩
    have HS := Lib.hid hok
    replace Hss := Lib.hid hss
    clear hpk hok hss hc
    cases ok with
    | true =>
      replace HS := Lib.hid (HS.out rfl)
      have hex := Lib.hid (ss_expr2 Hss.out HE.out)
      go_wp2_with fail
      refine hex.out.mono ?_
      rintro e w3 ⟨x, k, o, a, lf, s', A, n, c, rfl, hge, hx, hss, hc⟩
      have HG := Lib.hid hge
      have HX := Lib.hid hx
      replace Hss := Lib.hid hss
      clear hex hge hx hss hc
      have hon := Lib.hid (ss_one Hss.out HX.out 1 s)
      go_wp2_with fail
      refine hon.out.mono ?_
      rintro e w4 ⟨b, rfl, hr, hss, hc⟩
      have HR := Lib.hid hr
      replace Hss := Lib.hid hss
      clear hon hr hss hc HX
      go_wp2_with (with_reducible refine wpList_pause_store ?_)
      refine Pause.of (wpList_store_new _ rfl _ _ _ rfl w4.heap.size _ rfl (by rfl) _ _ (heap_alloc_new w4 _) (by kernel_rfl) (by rfl) (by simp [Value.oneCell']) ?_)
      intro w5 hrow5 hg5
      obtain ⟨hif, hc5, hmd⟩ := IfSt.make Hss.out hg5 hrow5
      have HI := Lib.hid hif
      have HRM := Lib.hid (HR.out.keep (fun b hb => (hmd b hb).1) (fun b hb => (hmd b hb).2))
      obtain ⟨gA, gc, fA, fc, lA, lc, y0, y1, y2, y3, y4, y5, y6, y7⟩ := hif.ss.ls.gs.cells
      clear hg5 hrow5 hif hc5 hmd HR y0 y1 y2 y4 y5 y6 y7
      go_wp2_with (at_builtin; refine Pause.out ?_)
      refine Pause.of (wpList_append_local w5 rfl (.tmp 37) (.tmp 39) rfl m g l E bud base _ s HI.out.ss.ls y3 rfl rfl HE.out.ln ?_)
      intro g' cap w6 old hm6 hf6 hls6 hc6
      have Hls6 := Lib.hid hls6
      have Hc6 := Lib.hid hc6
      clear hls6 hc6 y3
      go_upto_region 9 with fail
      generalize w6.setCell ⟨m, 3, none⟩ (.slice (some ⟨g', 0, none⟩) (E.locals.length + 1) cap) = w7 at *
      have hI7 := HI.out.step (E' := { E with locals := E.locals ++ [s] }) (bud' := bud) ⟨Hls6.out, HI.out.ss.chg.trans Hc6.out, HI.out.ss.bw⟩ Hc6.out
      have HRW : Hid (RowE (Made m W w7) w7 3 [x] (some ⟨b, 0, none⟩) 1) := Lib.hid (HRM.out.keep (fun b hb => (mad_step HI.out.ss Hc6.out b hb).1.1) (fun b hb => (mad_step HI.out.ss Hc6.out b hb).2))
      have e0 := cell_of_row _ _ 0 _ _ _ hI7.row
      have e1 := cell_of_row _ _ 1 _ _ _ hI7.row
      have e2 := cell_of_row _ _ 2 _ _ _ hI7.row
      have e3 := cell_of_row _ _ 3 _ _ _ hI7.row
      have e4 := cell_of_row _ _ 4 _ _ _ hI7.row
      have e5 := cell_of_row _ _ 5 _ _ _ hI7.row
      replace Hss := Lib.hid hI7.ss
      clear hm6 hf6 hI7
      have HB := Lib.hid (Hss.out.res HW.out Hls.out)
      go_wp2_with (with_reducible refine wpList_pause_store ?_)
      refine Pause.of (wpList_store_new _ rfl _ _ _ rfl w.heap.size _ rfl (by rfl) _ _ HB.out (by kernel_rfl) (by rfl) (by simp [Value.oneCell']) ?_)
      intro w9 hrow hg9
      have k0 := cell_of_row _ _ 0 _ _ _ hrow
      have k1 := cell_of_row _ _ 1 _ _ _ hrow
      have k2 := cell_of_row _ _ 2 _ _ _ hrow
      have k3 := cell_of_row _ _ 3 _ _ _ hrow
      have k4 := cell_of_row _ _ 4 _ _ _ hrow
      have k5 := cell_of_row _ _ 5 _ _ _ hrow
      have Hg9 := Lib.hid hg9
      clear hrow hg9
      have HH : Hid (StmtG m g l E bud base d w _ w9) := Lib.hid (ss_out Hss.out HW.out Hls.out ⟨rfl, rfl, HE.out.push HS.out (by have := Hln.out; have := Hb0.out; omega)⟩ Hb0.out (Int.le_refl _) (by have := Hln.out; simp; omega) Hg9.out (gst_one HG.out (.inl ⟨.inl rfl, HS.out⟩)) cnt_one (stV_one HRW.out))
      go_wp2_with fail
      refine bodyPost_ret ?_ rfl HH.out
      simp [results, Tryz.results49, go_sem, k0, k1, k2, k3, k4, k5]
    | false => have hex := Lib.hid (ss_expr2 Hss.out HE.out)
               go_wp2_with fail
               refine hex.out.mono ?_
               rintro e w3 ⟨x, k, o, a, lf, s', A, n, c, rfl, hge, hx, hss, hc⟩
               have HG := Lib.hid hge
               have HX := Lib.hid hx
               replace Hss := Lib.hid hss
               clear hex hge hx hss hc
               have hon := Lib.hid (ss_one Hss.out HX.out 7 ⟨#[]⟩)
               go_wp2_with fail
               refine hon.out.mono ?_
               rintro e w4 ⟨b, rfl, hr, hss, hc⟩
               have HR := Lib.hid hr
               replace Hss := Lib.hid hss
               clear hon hr hss hc HX
               have HB := Lib.hid (Hss.out.res HW.out Hls.out)
               go_wp2_with (with_reducible refine wpList_pause_store ?_)
               refine Pause.of (wpList_store_new _ rfl _ _ _ rfl w.heap.size _ rfl (by rfl) _ _ HB.out (by kernel_rfl) (by rfl) (by simp [Value.oneCell']) ?_)
               intro w9 hrow hg9
               have k0 := cell_of_row _ _ 0 _ _ _ hrow
               have k1 := cell_of_row _ _ 1 _ _ _ hrow
               have k2 := cell_of_row _ _ 2 _ _ _ hrow
               have k3 := cell_of_row _ _ 3 _ _ _ hrow
               have k4 := cell_of_row _ _ 4 _ _ _ hrow
               have k5 := cell_of_row _ _ 5 _ _ _ hrow
               have Hg9 := Lib.hid hg9
               clear hrow hg9
               have HH : Hid (StmtG m g l E bud base d w _ w9) := Lib.hid (ss_out1 (k := 7) (s := ⟨#[]⟩) Hss.out HW.out Hls.out HE.out Hb0.out Hln.out Hg9.out HG.out (.inr ⟨.inr (.inl rfl), rfl⟩) HR.out)
               go_wp2_with fail
               refine bodyPost_ret ?_ rfl HH.out
               simp [results, Tryz.results49, go_sem, k0, k1, k2, k3, k4, k5]
  · have hpk := Lib.hid ((ss_fresh Hss.out HE.out))
    go_wp2_with fail
    refine hpk.out.mono ?_
    rintro e w2 ⟨s, ok, rfl, hok, hss, hc⟩
    have HS := Lib.hid hok
    replace Hss := Lib.hid hss
    clear hpk hok hss hc
    cases ok with
    | true =>
      replace HS := Lib.hid (HS.out rfl)
      have hex := Lib.hid (ss_expr2 Hss.out HE.out)
      go_wp2_with fail
      refine hex.out.mono ?_
      rintro e w3 ⟨x, k, o, a, lf, s', A, n, c, rfl, hge, hx, hss, hc⟩
      have HG := Lib.hid hge
      have HX := Lib.hid hx
      replace Hss := Lib.hid hss
      clear hex hge hx hss hc
      have hon := Lib.hid (ss_one Hss.out HX.out 1 s)
      go_wp2_with fail
      refine hon.out.mono ?_
      rintro e w4 ⟨b, rfl, hr, hss, hc⟩
      have HR := Lib.hid hr
      replace Hss := Lib.hid hss
      clear hon hr hss hc HX
      go_wp2_with (with_reducible refine wpList_pause_store ?_)
      refine Pause.of (wpList_store_new _ rfl _ _ _ rfl w4.heap.size _ rfl (by rfl) _ _ (heap_alloc_new w4 _) (by kernel_rfl) (by rfl) (by simp [Value.oneCell']) ?_)
      intro w5 hrow5 hg5
      obtain ⟨hif, hc5, hmd⟩ := IfSt.make Hss.out hg5 hrow5
      have HI := Lib.hid hif
      have HRM := Lib.hid (HR.out.keep (fun b hb => (hmd b hb).1) (fun b hb => (hmd b hb).2))
      obtain ⟨gA, gc, fA, fc, lA, lc, y0, y1, y2, y3, y4, y5, y6, y7⟩ := hif.ss.ls.gs.cells
      clear hg5 hrow5 hif hc5 hmd HR y0 y1 y2 y4 y5 y6 y7
      go_wp2_with (at_builtin; refine Pause.out ?_)
      refine Pause.of (wpList_append_local w5 rfl (.tmp 37) (.tmp 39) rfl m g l E bud base _ s HI.out.ss.ls y3 rfl rfl HE.out.ln ?_)
      intro g' cap w6 old hm6 hf6 hls6 hc6
      have Hls6 := Lib.hid hls6
      have Hc6 := Lib.hid hc6
      clear hls6 hc6 y3
      go_upto_region 9 with fail
      generalize w6.setCell ⟨m, 3, none⟩ (.slice (some ⟨g', 0, none⟩) (E.locals.length + 1) cap) = w7 at *
      have hI7 := HI.out.step (E' := { E with locals := E.locals ++ [s] }) (bud' := bud) ⟨Hls6.out, HI.out.ss.chg.trans Hc6.out, HI.out.ss.bw⟩ Hc6.out
      have HRW : Hid (RowE (Made m W w7) w7 3 [x] (some ⟨b, 0, none⟩) 1) := Lib.hid (HRM.out.keep (fun b hb => (mad_step HI.out.ss Hc6.out b hb).1.1) (fun b hb => (mad_step HI.out.ss Hc6.out b hb).2))
      have e0 := cell_of_row _ _ 0 _ _ _ hI7.row
      have e1 := cell_of_row _ _ 1 _ _ _ hI7.row
      have e2 := cell_of_row _ _ 2 _ _ _ hI7.row
      have e3 := cell_of_row _ _ 3 _ _ _ hI7.row
      have e4 := cell_of_row _ _ 4 _ _ _ hI7.row
      have e5 := cell_of_row _ _ 5 _ _ _ hI7.row
      replace Hss := Lib.hid hI7.ss
      clear hm6 hf6 hI7
      have HB := Lib.hid (Hss.out.res HW.out Hls.out)
      go_wp2_with (with_reducible refine wpList_pause_store ?_)
      refine Pause.of (wpList_store_new _ rfl _ _ _ rfl w.heap.size _ rfl (by rfl) _ _ HB.out (by kernel_rfl) (by rfl) (by simp [Value.oneCell']) ?_)
      intro w9 hrow hg9
      have k0 := cell_of_row _ _ 0 _ _ _ hrow
      have k1 := cell_of_row _ _ 1 _ _ _ hrow
      have k2 := cell_of_row _ _ 2 _ _ _ hrow
      have k3 := cell_of_row _ _ 3 _ _ _ hrow
      have k4 := cell_of_row _ _ 4 _ _ _ hrow
      have k5 := cell_of_row _ _ 5 _ _ _ hrow
      have Hg9 := Lib.hid hg9
      clear hrow hg9
      have HH : Hid (StmtG m g l E bud base d w _ w9) := Lib.hid (ss_out Hss.out HW.out Hls.out ⟨rfl, rfl, HE.out.push HS.out (by have := Hln.out; have := Hb0.out; omega)⟩ Hb0.out (Int.le_refl _) (by have := Hln.out; simp; omega) Hg9.out (gst_one HG.out (.inl ⟨.inl rfl, HS.out⟩)) cnt_one (stV_one HRW.out))
      go_wp2_with fail
      refine bodyPost_ret ?_ rfl HH.out
      simp [results, Tryz.results49, go_sem, k0, k1, k2, k3, k4, k5]
    | false => have hex := Lib.hid (ss_expr2 Hss.out HE.out)
               go_wp2_with fail
               refine hex.out.mono ?_
               rintro e w3 ⟨x, k, o, a, lf, s', A, n, c, rfl, hge, hx, hss, hc⟩
               have HG := Lib.hid hge
               have HX := Lib.hid hx
               replace Hss := Lib.hid hss
               clear hex hge hx hss hc
               have hon := Lib.hid (ss_one Hss.out HX.out 7 ⟨#[]⟩)
               go_wp2_with fail
               refine hon.out.mono ?_
               rintro e w4 ⟨b, rfl, hr, hss, hc⟩
               have HR := Lib.hid hr
               replace Hss := Lib.hid hss
               clear hon hr hss hc HX
               have HB := Lib.hid (Hss.out.res HW.out Hls.out)
               go_wp2_with (with_reducible refine wpList_pause_store ?_)
               refine Pause.of (wpList_store_new _ rfl _ _ _ rfl w.heap.size _ rfl (by rfl) _ _ HB.out (by kernel_rfl) (by rfl) (by simp [Value.oneCell']) ?_)
               intro w9 hrow hg9
               have k0 := cell_of_row _ _ 0 _ _ _ hrow
               have k1 := cell_of_row _ _ 1 _ _ _ hrow
               have k2 := cell_of_row _ _ 2 _ _ _ hrow
               have k3 := cell_of_row _ _ 3 _ _ _ hrow
               have k4 := cell_of_row _ _ 4 _ _ _ hrow
               have k5 := cell_of_row _ _ 5 _ _ _ hrow
               have Hg9 := Lib.hid hg9
               clear hrow hg9
               have HH : Hid (StmtG m g l E bud base d w _ w9) := Lib.hid (ss_out1 (k := 7) (s := ⟨#[]⟩) Hss.out HW.out Hls.out HE.out Hb0.out Hln.out Hg9.out HG.out (.inr ⟨.inr (.inl rfl), rfl⟩) HR.out)
               go_wp2_with fail
               refine bodyPost_ret ?_ rfl HH.out
               simp [results, Tryz.results49, go_sem, k0, k1, k2, k3, k4, k5]
  · obtain ⟨_, _, _, _, lA, lc, z0, z1, z2, b3, z4, z5, z6, q3⟩ := Hss.out.ls.gs.cells
    obtain ⟨ln, hln⟩ : ∃ ln, ln = E.locals.length := ⟨_, rfl⟩
    have hcap : ln ≤ lc := by rw [hln]; exact q3.1
    have hlc : ln ≤ 1000 := by rw [hln]; exact HE.out.ln
    rw [← hln] at b3
    have HLL := Lib.hid hln
    have Q3 := Lib.hid q3
    clear hln z0 z1 z2 z4 z5 z6 q3
    by_cases h0 : 0 < ln
    · obtain ⟨rr, rfl, hrg, _⟩ := strs_some Q3.out (by rw [← HLL.out]; exact h0)
      obtain ⟨sn, hsn, hsm⟩ := locs_fn Q3.out
      rw [← HLL.out] at hsn hsm
      have Hsm := Lib.hid hsm
      have hmg := Hss.out.ls.gs.ne
      have hmw := Nat.lt_of_lt_of_le Hss.out.mW Hss.out.chg.size
      have HB := Lib.hid (Hss.out.res HW.out Hls.out)
      have hrw : rr < w1.heap.size := World.block_lt_of_cell? _ _ (hsn 0 h0)
      have hrb : rr ≠ w.heap.size := fun e => by
        have h1 := hsn 0 h0
        rw [e, cell_of_row _ _ 0 _ _ _ HB.out] at h1
        simp at h1
      have hmb2 : m ≠ w.heap.size := by omega
      have hdr := Hss.out.below (Below.refl _ w1).drew
      have HD := Lib.hid hdr.1
      have hnl := Lib.hid (ss_next hdr.1 ln ln rfl (by omega))
      have hS0 : w1.drew.cell? ⟨m, 3, none⟩ = some (.slice (some ⟨rr, 0, none⟩) ln lc) ∧ (∀ q, q < ln → w1.drew.cell? ⟨rr, q, none⟩ = some (.string (sn q))) := ⟨b3, hsn⟩
      clear hsm hsn hdr
      go_upto_region 12 with fail
      go_region_held3 (fun w' => w'.cell? ⟨m, 3, none⟩ = some (.slice (some ⟨rr, 0, none⟩) ln lc) ∧ (∀ q, q < ln → w'.cell? ⟨rr, q, none⟩ = some (.string (sn q))))
        (first | (with_reducible exact hS0) | (with_reducible exact hS2) | (with_reducible exact hS3) | (with_reducible exact hS4) | (with_reducible exact locS_set6 hmb2 hrb hS4))
        (first | (go_at_call 20; (with_reducible refine hnl.out.mono ?_); rintro e w2 ⟨q, rfl, hq1, hss2, hc2, hg2⟩; have hq : q < ln := (hq1 (by omega)); have hS2 := locS_grown hmg hrg hg2 hS0; have Hss2 := Lib.hid hss2; have HR2 := Lib.hid (cell_grown hg2 hrg (hS0.2 q hq)); clear hq1 hss2 hc2 hg2) | (go_at_call 57; (with_reducible refine (loc_expr Hss2.out HE.out hrg).mono ?_); rintro e w3 ⟨x, k, o, a, lf, s', A, n, c, rfl, hge, hx, hss3, hg3⟩; have hS3 := locS_grown hmg hrg hg3 hS2; have HG := Lib.hid hge; have HX := Lib.hid hx; have Hss3 := Lib.hid hss3; clear hge hx hss3 hg3) | (go_at_call 56; (with_reducible refine (loc_one Hss3.out HX.out 2 (sn q)).mono ?_); rintro e w4 ⟨b, rfl, hr, hss4, hb4⟩; have hS4 := locS_below hb4 hS3; have HR := Lib.hid hr; have Hss4 := Lib.hid hss4; have hb9 := hss4.res HW.out Hls.out; have kk0 := cell_of_row _ _ 0 _ _ _ hb9; have kk1 := cell_of_row _ _ 1 _ _ _ hb9; have kk2 := cell_of_row _ _ 2 _ _ _ hb9; have kk3 := cell_of_row _ _ 3 _ _ _ hb9; have kk4 := cell_of_row _ _ 4 _ _ _ hb9; have kk5 := cell_of_row _ _ 5 _ _ _ hb9; have kf0 := codes_frozen hb9 0; have kf1 := codes_frozen hb9 1; have kf2 := codes_frozen hb9 2; have kf3 := codes_frozen hb9 3; have kf4 := codes_frozen hb9 4; have kf5 := codes_frozen hb9 5; have HB9 := Lib.hid hb9; clear hr hss4 hb4 hb9))
      all_goals
        have h6 := row_set6 (.int .i64 2) (.int .i64 0) (.string (sn q)) (.slice (some ⟨b, 0, none⟩) 1 1) (.slice none 0 0) (.slice none 0 0) HB9.out
        generalize ((((((w4.setCell ⟨w.heap.size, 0, none⟩ (.int .i64 2)).setCell ⟨w.heap.size, 1, none⟩ (.int .i64 0)).setCell ⟨w.heap.size, 2, none⟩ (.string (sn q))).setCell ⟨w.heap.size, 3, none⟩ (.slice (some ⟨b, 0, none⟩) 1 1)).setCell ⟨w.heap.size, 4, none⟩ (.slice none 0 0)).setCell ⟨w.heap.size, 5, none⟩ (.slice none 0 0)) = w9 at *
        have k0 := cell_of_row _ _ 0 _ _ _ h6.1
        have k1 := cell_of_row _ _ 1 _ _ _ h6.1
        have k2 := cell_of_row _ _ 2 _ _ _ h6.1
        have k3 := cell_of_row _ _ 3 _ _ _ h6.1
        have k4 := cell_of_row _ _ 4 _ _ _ h6.1
        have k5 := cell_of_row _ _ 5 _ _ _ h6.1
        have HH : Hid (StmtG m g l E bud base d w _ w9) := Lib.hid (ss_out1 Hss4.out HW.out Hls.out HE.out Hb0.out Hln.out h6.2 HG.out (.inl ⟨.inr rfl, HE.out.ls _ (Hsm.out q hq)⟩) HR.out)
        clear h6 kk0 kk1 kk2 kk3 kk4 kk5 kf0 kf1 kf2 kf3 kf4 kf5
        go_wp2_with fail
        refine bodyPost_ret ?_ rfl HH.out
        simp [results, Tryz.results49, go_sem, k0, k1, k2, k3, k4, k5]
    · have hex := Lib.hid (ss_expr2 Hss.out HE.out)
      go_wp2_with fail
      refine hex.out.mono ?_
      rintro e w3 ⟨x, k, o, a, lf, s', A, n, c, rfl, hge, hx, hss, hc⟩
      have HG := Lib.hid hge
      have HX := Lib.hid hx
      replace Hss := Lib.hid hss
      clear hex hge hx hss hc
      have hon := Lib.hid (ss_one Hss.out HX.out 7 ⟨#[]⟩)
      go_wp2_with fail
      refine hon.out.mono ?_
      rintro e w4 ⟨b, rfl, hr, hss, hc⟩
      have HR := Lib.hid hr
      replace Hss := Lib.hid hss
      clear hon hr hss hc HX
      have HB := Lib.hid (Hss.out.res HW.out Hls.out)
      go_wp2_with (with_reducible refine wpList_pause_store ?_)
      refine Pause.of (wpList_store_new _ rfl _ _ _ rfl w.heap.size _ rfl (by rfl) _ _ HB.out (by kernel_rfl) (by rfl) (by simp [Value.oneCell']) ?_)
      intro w9 hrow hg9
      have k0 := cell_of_row _ _ 0 _ _ _ hrow
      have k1 := cell_of_row _ _ 1 _ _ _ hrow
      have k2 := cell_of_row _ _ 2 _ _ _ hrow
      have k3 := cell_of_row _ _ 3 _ _ _ hrow
      have k4 := cell_of_row _ _ 4 _ _ _ hrow
      have k5 := cell_of_row _ _ 5 _ _ _ hrow
      have Hg9 := Lib.hid hg9
      clear hrow hg9
      have HH : Hid (StmtG m g l E bud base d w _ w9) := Lib.hid (ss_out1 (k := 7) (s := ⟨#[]⟩) Hss.out HW.out Hls.out HE.out Hb0.out Hln.out Hg9.out HG.out (.inr ⟨.inr (.inl rfl), rfl⟩) HR.out)
      go_wp2_with fail
      refine bodyPost_ret ?_ rfl HH.out
      simp [results, Tryz.results49, go_sem, k0, k1, k2, k3, k4, k5]
  · have hpk := Lib.hid ((ss_pick Hss.out HE.out false))
    go_wp2_with fail
    refine hpk.out.mono ?_
    rintro e w2 ⟨s, ok, rfl, hok, hss, hc⟩
    have HS := Lib.hid hok
    replace Hss := Lib.hid hss
    clear hpk hok hss hc
    cases ok with
    | true =>
      replace HS := Lib.hid (HS.out rfl)
      have hex := Lib.hid (ss_expr2 Hss.out HE.out)
      go_wp2_with fail
      refine hex.out.mono ?_
      rintro e w3 ⟨x, k, o, a, lf, s', A, n, c, rfl, hge, hx, hss, hc⟩
      have HG := Lib.hid hge
      have HX := Lib.hid hx
      replace Hss := Lib.hid hss
      clear hex hge hx hss hc
      have hon := Lib.hid (ss_one Hss.out HX.out 2 s)
      go_wp2_with fail
      refine hon.out.mono ?_
      rintro e w4 ⟨b, rfl, hr, hss, hc⟩
      have HR := Lib.hid hr
      replace Hss := Lib.hid hss
      clear hon hr hss hc HX
      have HB := Lib.hid (Hss.out.res HW.out Hls.out)
      go_wp2_with (with_reducible refine wpList_pause_store ?_)
      refine Pause.of (wpList_store_new _ rfl _ _ _ rfl w.heap.size _ rfl (by rfl) _ _ HB.out (by kernel_rfl) (by rfl) (by simp [Value.oneCell']) ?_)
      intro w9 hrow hg9
      have k0 := cell_of_row _ _ 0 _ _ _ hrow
      have k1 := cell_of_row _ _ 1 _ _ _ hrow
      have k2 := cell_of_row _ _ 2 _ _ _ hrow
      have k3 := cell_of_row _ _ 3 _ _ _ hrow
      have k4 := cell_of_row _ _ 4 _ _ _ hrow
      have k5 := cell_of_row _ _ 5 _ _ _ hrow
      have Hg9 := Lib.hid hg9
      clear hrow hg9
      have HH : Hid (StmtG m g l E bud base d w _ w9) := Lib.hid (ss_out1 (k := 2) (s := s) Hss.out HW.out Hls.out HE.out Hb0.out Hln.out Hg9.out HG.out (.inl ⟨.inr rfl, HS.out⟩) HR.out)
      go_wp2_with fail
      refine bodyPost_ret ?_ rfl HH.out
      simp [results, Tryz.results49, go_sem, k0, k1, k2, k3, k4, k5]
    | false => have hex := Lib.hid (ss_expr2 Hss.out HE.out)
               go_wp2_with fail
               refine hex.out.mono ?_
               rintro e w3 ⟨x, k, o, a, lf, s', A, n, c, rfl, hge, hx, hss, hc⟩
               have HG := Lib.hid hge
               have HX := Lib.hid hx
               replace Hss := Lib.hid hss
               clear hex hge hx hss hc
               have hon := Lib.hid (ss_one Hss.out HX.out 7 ⟨#[]⟩)
               go_wp2_with fail
               refine hon.out.mono ?_
               rintro e w4 ⟨b, rfl, hr, hss, hc⟩
               have HR := Lib.hid hr
               replace Hss := Lib.hid hss
               clear hon hr hss hc HX
               have HB := Lib.hid (Hss.out.res HW.out Hls.out)
               go_wp2_with (with_reducible refine wpList_pause_store ?_)
               refine Pause.of (wpList_store_new _ rfl _ _ _ rfl w.heap.size _ rfl (by rfl) _ _ HB.out (by kernel_rfl) (by rfl) (by simp [Value.oneCell']) ?_)
               intro w9 hrow hg9
               have k0 := cell_of_row _ _ 0 _ _ _ hrow
               have k1 := cell_of_row _ _ 1 _ _ _ hrow
               have k2 := cell_of_row _ _ 2 _ _ _ hrow
               have k3 := cell_of_row _ _ 3 _ _ _ hrow
               have k4 := cell_of_row _ _ 4 _ _ _ hrow
               have k5 := cell_of_row _ _ 5 _ _ _ hrow
               have Hg9 := Lib.hid hg9
               clear hrow hg9
               have HH : Hid (StmtG m g l E bud base d w _ w9) := Lib.hid (ss_out1 (k := 7) (s := ⟨#[]⟩) Hss.out HW.out Hls.out HE.out Hb0.out Hln.out Hg9.out HG.out (.inr ⟨.inr (.inl rfl), rfl⟩) HR.out)
               go_wp2_with fail
               refine bodyPost_ret ?_ rfl HH.out
               simp [results, Tryz.results49, go_sem, k0, k1, k2, k3, k4, k5]
  · have hpk := Lib.hid ((ss_pick Hss.out HE.out true))
    go_wp2_with fail
    refine hpk.out.mono ?_
    rintro e w2 ⟨s, ok, rfl, hok, hss, hc⟩
    have HS := Lib.hid hok
    replace Hss := Lib.hid hss
    clear hpk hok hss hc
    cases ok with
    | true =>
      replace HS := Lib.hid (HS.out rfl)
      have hex := Lib.hid (ss_expr1 Hss.out HE.out)
      go_wp2_with fail
      refine hex.out.mono ?_
      rintro e w3 ⟨x, k, o, a, lf, s', A, n, c, rfl, hge, hx, hss, hc⟩
      have HG := Lib.hid hge
      have HX := Lib.hid hx
      replace Hss := Lib.hid hss
      clear hex hge hx hss hc
      have HG1 := HG
      have HX1 := HX
      have hex := Lib.hid (ss_expr2 Hss.out HE.out)
      clear HG HX
      go_wp2_with fail
      refine hex.out.mono ?_
      rintro e w4 ⟨x2, k2, o2, a2, lf2, s2, A2, n2, c2, rfl, hge, hx, hss, hc⟩
      have HG := Lib.hid hge
      have HX := Lib.hid hx
      replace HX1 := Lib.hid (Hss.out.tree hc HX1.out)
      replace Hss := Lib.hid hss
      clear hex hge hx hss hc
      have hb5 := (Below.refl _ w4).alloc (Nat.le_refl _) (.cells #[.int .i64 k, .int .i64 o, .int .i64 a, .int .i64 lf, .string s', .slice A n c, .int .i64 k2, .int .i64 o2, .int .i64 a2, .int .i64 lf2, .string s2, .slice A2 n2 c2] 90)
      have hal := heap_alloc_new w4 (.cells #[.int .i64 k, .int .i64 o, .int .i64 a, .int .i64 lf, .string s', .slice A n c, .int .i64 k2, .int .i64 o2, .int .i64 a2, .int .i64 lf2, .string s2, .slice A2 n2 c2] 90)
      have h5 := Hss.out.below hb5
      have hmw := Nat.lt_of_lt_of_le Hss.out.mW Hss.out.chg.size
      have hrow2 := row_two (Hss.out.tree h5.2 HX1.out) (Hss.out.tree h5.2 HX.out) (Hss.out.fresh (World.cell?_of_block (hb5.block m hmw)).symm (Nat.le_refl _) (by simp)) hal
      have HR := Lib.hid hrow2
      replace Hss := Lib.hid h5.1
      clear hb5 hal h5 hmw hrow2 HX HX1
      have HB := Lib.hid (Hss.out.res HW.out Hls.out)
      go_wp2_with (with_reducible refine wpList_pause_store ?_)
      refine Pause.of (wpList_store_new _ rfl _ _ _ rfl w.heap.size _ rfl (by rfl) _ _ HB.out (by kernel_rfl) (by rfl) (by simp [Value.oneCell']) ?_)
      intro w9 hrow hg9
      have k0 := cell_of_row _ _ 0 _ _ _ hrow
      have k1 := cell_of_row _ _ 1 _ _ _ hrow
      have k2 := cell_of_row _ _ 2 _ _ _ hrow
      have k3 := cell_of_row _ _ 3 _ _ _ hrow
      have k4 := cell_of_row _ _ 4 _ _ _ hrow
      have k5 := cell_of_row _ _ 5 _ _ _ hrow
      have Hg9 := Lib.hid hg9
      clear hrow hg9
      have HH : Hid (StmtG m g l E bud base d w _ w9) := Lib.hid (ss_out (x := .mk 3 0 s [x, x2] [] []) Hss.out HW.out Hls.out (Env.Like.refl HE.out) Hb0.out (Int.le_refl _) (by have := Hln.out; omega) Hg9.out ⟨rfl, by simpa using ⟨HG1.out, HG.out⟩, by simp, by simp, .inr (.inr (.inl ⟨rfl, HS.out, rfl, rfl, rfl⟩))⟩ cnt_one ⟨_, _, none, 0, none, 0, rfl, HR.out, rowS_nil, rowS_nil⟩)
      go_wp2_with fail
      refine bodyPost_ret ?_ rfl HH.out
      simp [results, Tryz.results49, go_sem, k0, k1, k2, k3, k4, k5]
    | false => have hex := Lib.hid (ss_expr2 Hss.out HE.out)
               go_wp2_with fail
               refine hex.out.mono ?_
               rintro e w3 ⟨x, k, o, a, lf, s', A, n, c, rfl, hge, hx, hss, hc⟩
               have HG := Lib.hid hge
               have HX := Lib.hid hx
               replace Hss := Lib.hid hss
               clear hex hge hx hss hc
               have hon := Lib.hid (ss_one Hss.out HX.out 7 ⟨#[]⟩)
               go_wp2_with fail
               refine hon.out.mono ?_
               rintro e w4 ⟨b, rfl, hr, hss, hc⟩
               have HR := Lib.hid hr
               replace Hss := Lib.hid hss
               clear hon hr hss hc HX
               have HB := Lib.hid (Hss.out.res HW.out Hls.out)
               go_wp2_with (with_reducible refine wpList_pause_store ?_)
               refine Pause.of (wpList_store_new _ rfl _ _ _ rfl w.heap.size _ rfl (by rfl) _ _ HB.out (by kernel_rfl) (by rfl) (by simp [Value.oneCell']) ?_)
               intro w9 hrow hg9
               have k0 := cell_of_row _ _ 0 _ _ _ hrow
               have k1 := cell_of_row _ _ 1 _ _ _ hrow
               have k2 := cell_of_row _ _ 2 _ _ _ hrow
               have k3 := cell_of_row _ _ 3 _ _ _ hrow
               have k4 := cell_of_row _ _ 4 _ _ _ hrow
               have k5 := cell_of_row _ _ 5 _ _ _ hrow
               have Hg9 := Lib.hid hg9
               clear hrow hg9
               have HH : Hid (StmtG m g l E bud base d w _ w9) := Lib.hid (ss_out1 (k := 7) (s := ⟨#[]⟩) Hss.out HW.out Hls.out HE.out Hb0.out Hln.out Hg9.out HG.out (.inr ⟨.inr (.inl rfl), rfl⟩) HR.out)
               go_wp2_with fail
               refine bodyPost_ret ?_ rfl HH.out
               simp [results, Tryz.results49, go_sem, k0, k1, k2, k3, k4, k5]
  · by_cases hzp : 0 < z
    · obtain ⟨d', hd'⟩ : ∃ d', d = d' + 1 := ⟨d - 1, by have := Hz.out; omega⟩
      subst hd'
      replace HBc := Lib.hid (HBc.out d' rfl)
      have hex := Lib.hid (ss_expr2 Hss.out HE.out)
      go_wp2_with fail
      refine hex.out.mono ?_
      rintro e w3 ⟨x, k, o, a, lf, s', A, n, c, rfl, hge, hx, hss, hc⟩
      have HG := Lib.hid hge
      have HX := Lib.hid hx
      replace Hss := Lib.hid hss
      clear hex hge hx hss hc
      have hon := Lib.hid (ss_one Hss.out HX.out 4 ⟨#[]⟩)
      go_wp2_with fail
      refine hon.out.mono ?_
      rintro e w4 ⟨b, rfl, hr, hss, hc⟩
      have HR := Lib.hid hr
      replace Hss := Lib.hid hss
      clear hon hr hss hc HX
      go_wp2_with (with_reducible refine wpList_pause_store ?_)
      refine Pause.of (wpList_store_new _ rfl _ _ _ rfl w4.heap.size _ rfl (by rfl) _ _ (heap_alloc_new w4 _) (by kernel_rfl) (by rfl) (by simp [Value.oneCell']) ?_)
      intro w5 hrow5 hg5
      obtain ⟨hif, hc5, hmd⟩ := IfSt.make Hss.out hg5 hrow5
      have HI := Lib.hid hif
      have HRM := Lib.hid (HR.out.keep (fun b hb => (hmd b hb).1) (fun b hb => (hmd b hb).2))
      have HT : Hid (RowS (Mad m W w4.heap.size w5) w5 3 0 [] none 0) := Lib.hid rowS_nil
      clear hg5 hrow5 hif hc5 hmd HR
      have hnx := Lib.hid (ss_next HI.out.ss 2 2 rfl (by omega))
      go_wp2_with fail
      refine hnx.out.mono ?_
      rintro e w6 ⟨r6, rfl, hr0, hss, hc, _⟩
      have hrb := hr0 (by omega)
      replace HRM := Lib.hid (HRM.out.keep (fun b hb => (mad_step HI.out.ss hc b hb).1) (fun b hb => (mad_step HI.out.ss hc b hb).2))
      replace HT := Lib.hid (HT.out.keep (fun b hb => (mad_step HI.out.ss hc b hb).1) (fun b hb => (mad_step HI.out.ss hc b hb).2))
      replace HI := Lib.hid (HI.out.step hss hc)
      clear hnx hr0 hss hc
      have hbl := Lib.hid (ss_block HBc.out HI.out.ss HE.out (z - 1) (1 + (r6 : Int)) (1 + r6) (by have := Hz.out; omega) (by omega) (by omega) Hb0.out (by have := Hln.out; omega))
      go_wp2_with fail
      refine hbl.out.mono ?_
      rintro e w7 ⟨E1, b1, ts, A1, c1, rfl, hlk, hss, hb1, hb2, hl1, hc, hgs, hcn, hrw, _⟩
      have hq := HI.out.lt
      have hqW := HI.out.qW
      replace HRM := Lib.hid (HRM.out.keep (fun b hb => (mad_step HI.out.ss hc b hb).1) (fun b hb => (mad_step HI.out.ss hc b hb).2))
      replace HT := Lib.hid (hrw.keep (G := Mad m W w4.heap.size w7) (fun b hb => ⟨⟨by have := hb.1; omega, hb.2.1, hb.2.2⟩, by have := hb.1; omega⟩) (fun _ _ => rfl))
      replace HI := Lib.hid (HI.out.step hss hc)
      have HLk := Lib.hid hlk
      have HB1 := Lib.hid hb1
      have HB2 := Lib.hid hb2
      have HL1 := Lib.hid hl1
      have HGs := Lib.hid hgs
      have HCn := Lib.hid hcn
      clear hbl hlk hss hb1 hb2 hl1 hc hgs hcn hrw hq hqW hrb
      have e4 := cell_of_row _ _ 4 _ _ _ HI.out.row
      have f4 := codes_frozen HI.out.row 4
      go_upto_region 26 with fail
      replace HRM := Lib.hid (HRM.out.keep (fun b hb => (mad_set HI.out 4 (.slice A1 ts.length c1) b hb).1) (fun b hb => (mad_set HI.out 4 (.slice A1 ts.length c1) b hb).2))
      replace HT := Lib.hid (HT.out.keep (fun b hb => (mad_set HI.out 4 (.slice A1 ts.length c1) b hb).1) (fun b hb => (mad_set HI.out 4 (.slice A1 ts.length c1) b hb).2))
      have hI8 : IfSt W m g l E1 b1 base w4.heap.size #[.int .i64 4, .int .i64 0, .string { data := #[] }, .slice (some ⟨b, 0, none⟩) 1 1, .slice A1 ts.length c1, .slice none 0 0] _ := HI.out.set 4 (.slice A1 ts.length c1)
      replace HI := Lib.hid hI8
      clear e4 f4 hI8
      generalize w7.setCell ⟨w4.heap.size, 4, none⟩ (.slice A1 ts.length c1) = w8 at *
      have hnx := Lib.hid (ss_next HI.out.ss 2 2 rfl (by omega))
      go_wp2_with fail
      refine hnx.out.mono ?_
      rintro e wa ⟨ra, rfl, hr0, hss, hc, _⟩
      have hrb := hr0 (by omega)
      replace HRM := Lib.hid (HRM.out.keep (fun b hb => (mad_step HI.out.ss hc b hb).1) (fun b hb => (mad_step HI.out.ss hc b hb).2))
      replace HT := Lib.hid (HT.out.keep (fun b hb => (mad_step HI.out.ss hc b hb).1) (fun b hb => (mad_step HI.out.ss hc b hb).2))
      replace HI := Lib.hid (HI.out.step hss hc)
      clear hnx hr0 hss hc
      by_cases hra : ra = 1
      · subst hra
        have HT1 := HT
        replace HT : Hid (RowS (Mad m W w4.heap.size wa) wa 3 0 [] none 0) := Lib.hid rowS_nil
        have hnx := Lib.hid (ss_next HI.out.ss 2 2 rfl (by omega))
        go_wp2_with fail
        refine hnx.out.mono ?_
        rintro e wb ⟨rb, rfl, hr0, hss, hc, _⟩
        have hrb := hr0 (by omega)
        replace HRM := Lib.hid (HRM.out.keep (fun b hb => (mad_step HI.out.ss hc b hb).1) (fun b hb => (mad_step HI.out.ss hc b hb).2))
        replace HT1 := Lib.hid (HT1.out.keep (fun b hb => (mad_step HI.out.ss hc b hb).1) (fun b hb => (mad_step HI.out.ss hc b hb).2))
        replace HI := Lib.hid (HI.out.step hss hc)
        clear hnx hr0 hss hc HT
        have hbl := Lib.hid (ss_block HBc.out HI.out.ss HLk.out.ok (z - 1) (1 + (rb : Int)) (1 + rb) (by have := Hz.out; omega) (by omega) (by omega) HB1.out HL1.out)
        go_wp2_with fail
        refine hbl.out.mono ?_
        rintro e wc ⟨E2, b2, us, A2, c2, rfl, hlk, hss, hb1, hb2, hl1, hc, hgs, hcn, hrw, _⟩
        have hq := HI.out.lt
        have hqW := HI.out.qW
        replace HRM := Lib.hid (HRM.out.keep (fun b hb => (mad_step HI.out.ss hc b hb).1) (fun b hb => (mad_step HI.out.ss hc b hb).2))
        replace HT1 := Lib.hid (HT1.out.keep (fun b hb => (mad_step HI.out.ss hc b hb).1) (fun b hb => (mad_step HI.out.ss hc b hb).2))
        have HT := Lib.hid (hrw.keep (G := Mad m W w4.heap.size wc) (fun b hb => ⟨⟨by have := hb.1; omega, hb.2.1, hb.2.2⟩, by have := hb.1; omega⟩) (fun _ _ => rfl))
        replace HI := Lib.hid (HI.out.step hss hc)
        have HLk2 := Lib.hid hlk
        have HB12 := Lib.hid hb1
        have HB22 := Lib.hid hb2
        have HL12 := Lib.hid hl1
        have HGs2 := Lib.hid hgs
        have HCn2 := Lib.hid hcn
        clear hbl hlk hss hb1 hb2 hl1 hc hgs hcn hrw hq hqW hrb
        have e5 := cell_of_row _ _ 5 _ _ _ HI.out.row
        have f5 := codes_frozen HI.out.row 5
        go_upto_region 28 with fail
        have HRW := Lib.hid (HRM.out.keep (fun b hb => (mad_set HI.out 5 (.slice A2 us.length c2) b hb).1.1) (fun b hb => (mad_set HI.out 5 (.slice A2 us.length c2) b hb).2))
        have HTW1 := Lib.hid (HT1.out.keep (fun b hb => (mad_set HI.out 5 (.slice A2 us.length c2) b hb).1.1) (fun b hb => (mad_set HI.out 5 (.slice A2 us.length c2) b hb).2))
        have HTW := Lib.hid (HT.out.keep (fun b hb => (mad_set HI.out 5 (.slice A2 us.length c2) b hb).1.1) (fun b hb => (mad_set HI.out 5 (.slice A2 us.length c2) b hb).2))
        have hI8 : IfSt W m g l E2 b2 base w4.heap.size #[.int .i64 4, .int .i64 0, .string { data := #[] }, .slice (some ⟨b, 0, none⟩) 1 1, .slice A1 ts.length c1, .slice A2 us.length c2] _ := HI.out.set 5 (.slice A2 us.length c2)
        replace HI := Lib.hid hI8
        clear e5 f5 hI8 HRM HT1 HT
        generalize wc.setCell ⟨w4.heap.size, 5, none⟩ (.slice A2 us.length c2) = wd at *
        have e0 := cell_of_row _ _ 0 _ _ _ HI.out.row
        have e1 := cell_of_row _ _ 1 _ _ _ HI.out.row
        have e2 := cell_of_row _ _ 2 _ _ _ HI.out.row
        have e3 := cell_of_row _ _ 3 _ _ _ HI.out.row
        have e4 := cell_of_row _ _ 4 _ _ _ HI.out.row
        have e5 := cell_of_row _ _ 5 _ _ _ HI.out.row
        have Hss := Lib.hid HI.out.ss
        clear HI
        have HB := Lib.hid (Hss.out.res HW.out Hls.out)
        go_wp2_with (with_reducible refine wpList_pause_store ?_)
        refine Pause.of (wpList_store_new _ rfl _ _ _ rfl w.heap.size _ rfl (by rfl) _ _ HB.out (by kernel_rfl) (by rfl) (by simp [Value.oneCell']) ?_)
        intro w9 hrow hg9
        have k0 := cell_of_row _ _ 0 _ _ _ hrow
        have k1 := cell_of_row _ _ 1 _ _ _ hrow
        have k2 := cell_of_row _ _ 2 _ _ _ hrow
        have k3 := cell_of_row _ _ 3 _ _ _ hrow
        have k4 := cell_of_row _ _ 4 _ _ _ hrow
        have k5 := cell_of_row _ _ 5 _ _ _ hrow
        have Hg9 := Lib.hid hg9
        clear hrow hg9
        have HH : Hid (StmtG m g l E bud base (d' + 1) w _ w9) := Lib.hid (ss_out (x := .mk 4 0 ⟨#[]⟩ [x] ts us) Hss.out HW.out Hls.out (HLk.out.trans HLk2.out) HB12.out (Int.le_trans HB22.out HB2.out) HL12.out Hg9.out ⟨rfl, by simpa using HG.out, HGs.out, HGs2.out, .inr (.inr (.inr (.inl ⟨rfl, rfl, rfl⟩)))⟩ (by have := HCn.out; have := HCn2.out; have := (cK_le 4 [x]).2; simp only [cntS]; omega) ⟨_, _, _, _, _, _, rfl, HRW.out, HTW1.out, HTW.out⟩)
        go_wp2_with fail
        refine bodyPost_ret ?_ rfl HH.out
        simp [results, Tryz.results49, go_sem, k0, k1, k2, k3, k4, k5]
      · have hra : ((ra : Int) == 1) = false := by simp; omega
        have e0 := cell_of_row _ _ 0 _ _ _ HI.out.row
        have e1 := cell_of_row _ _ 1 _ _ _ HI.out.row
        have e2 := cell_of_row _ _ 2 _ _ _ HI.out.row
        have e3 := cell_of_row _ _ 3 _ _ _ HI.out.row
        have e4 := cell_of_row _ _ 4 _ _ _ HI.out.row
        have e5 := cell_of_row _ _ 5 _ _ _ HI.out.row
        have Hss := Lib.hid HI.out.ss
        have HRW : Hid (RowE (Made m W wa) wa 3 [x] (some ⟨b, 0, none⟩) 1) := Lib.hid (HRM.out.keep (fun b hb => hb.1) (fun _ _ => rfl))
        have HTW := Lib.hid (HT.out.keep (G := Made m W wa) (fun b hb => hb.1) (fun _ _ => rfl))
        clear HRM HT HI
        have HB := Lib.hid (Hss.out.res HW.out Hls.out)
        go_wp2_with (with_reducible refine wpList_pause_store ?_)
        refine Pause.of (wpList_store_new _ rfl _ _ _ rfl w.heap.size _ rfl (by rfl) _ _ HB.out (by kernel_rfl) (by rfl) (by simp [Value.oneCell']) ?_)
        intro w9 hrow hg9
        have k0 := cell_of_row _ _ 0 _ _ _ hrow
        have k1 := cell_of_row _ _ 1 _ _ _ hrow
        have k2 := cell_of_row _ _ 2 _ _ _ hrow
        have k3 := cell_of_row _ _ 3 _ _ _ hrow
        have k4 := cell_of_row _ _ 4 _ _ _ hrow
        have k5 := cell_of_row _ _ 5 _ _ _ hrow
        have Hg9 := Lib.hid hg9
        clear hrow hg9
        have HH : Hid (StmtG m g l E bud base (d' + 1) w _ w9) := Lib.hid (ss_out (x := .mk 4 0 ⟨#[]⟩ [x] ts []) Hss.out HW.out Hls.out HLk.out HB1.out HB2.out HL1.out Hg9.out ⟨rfl, by simpa using HG.out, HGs.out, by simp, .inr (.inr (.inr (.inl ⟨rfl, rfl, rfl⟩)))⟩ (by have := HCn.out; have := (cK_le 4 [x]).2; simp only [cntS, List.map_nil, List.sum_nil]; omega) ⟨_, _, _, _, _, _, rfl, HRW.out, HTW.out, rowS_nil⟩)
        go_wp2_with fail
        refine bodyPost_ret ?_ rfl HH.out
        simp [results, Tryz.results49, go_sem, k0, k1, k2, k3, k4, k5]
    · have hex := Lib.hid (ss_expr2 Hss.out HE.out)
      go_wp2_with fail
      refine hex.out.mono ?_
      rintro e w3 ⟨x, k, o, a, lf, s', A, n, c, rfl, hge, hx, hss, hc⟩
      have HG := Lib.hid hge
      have HX := Lib.hid hx
      replace Hss := Lib.hid hss
      clear hex hge hx hss hc
      have hon := Lib.hid (ss_one Hss.out HX.out 7 ⟨#[]⟩)
      go_wp2_with fail
      refine hon.out.mono ?_
      rintro e w4 ⟨b, rfl, hr, hss, hc⟩
      have HR := Lib.hid hr
      replace Hss := Lib.hid hss
      clear hon hr hss hc HX
      have HB := Lib.hid (Hss.out.res HW.out Hls.out)
      go_wp2_with (with_reducible refine wpList_pause_store ?_)
      refine Pause.of (wpList_store_new _ rfl _ _ _ rfl w.heap.size _ rfl (by rfl) _ _ HB.out (by kernel_rfl) (by rfl) (by simp [Value.oneCell']) ?_)
      intro w9 hrow hg9
      have k0 := cell_of_row _ _ 0 _ _ _ hrow
      have k1 := cell_of_row _ _ 1 _ _ _ hrow
      have k2 := cell_of_row _ _ 2 _ _ _ hrow
      have k3 := cell_of_row _ _ 3 _ _ _ hrow
      have k4 := cell_of_row _ _ 4 _ _ _ hrow
      have k5 := cell_of_row _ _ 5 _ _ _ hrow
      have Hg9 := Lib.hid hg9
      clear hrow hg9
      have HH : Hid (StmtG m g l E bud base d w _ w9) := Lib.hid (ss_out1 (k := 7) (s := ⟨#[]⟩) Hss.out HW.out Hls.out HE.out Hb0.out Hln.out Hg9.out HG.out (.inr ⟨.inr (.inl rfl), rfl⟩) HR.out)
      go_wp2_with fail
      refine bodyPost_ret ?_ rfl HH.out
      simp [results, Tryz.results49, go_sem, k0, k1, k2, k3, k4, k5]
  · by_cases hzp : 0 < z
    · obtain ⟨d', hd'⟩ : ∃ d', d = d' + 1 := ⟨d - 1, by have := Hz.out; omega⟩
      subst hd'
      replace HBc := Lib.hid (HBc.out d' rfl)
      have hex := Lib.hid (ss_expr2 Hss.out HE.out)
      go_wp2_with fail
      refine hex.out.mono ?_
      rintro e w3 ⟨x, k, o, a, lf, s', A, n, c, rfl, hge, hx, hss, hc⟩
      have HG := Lib.hid hge
      have HX := Lib.hid hx
      replace Hss := Lib.hid hss
      clear hex hge hx hss hc
      have hon := Lib.hid (ss_one Hss.out HX.out 4 ⟨#[]⟩)
      go_wp2_with fail
      refine hon.out.mono ?_
      rintro e w4 ⟨b, rfl, hr, hss, hc⟩
      have HR := Lib.hid hr
      replace Hss := Lib.hid hss
      clear hon hr hss hc HX
      go_wp2_with (with_reducible refine wpList_pause_store ?_)
      refine Pause.of (wpList_store_new _ rfl _ _ _ rfl w4.heap.size _ rfl (by rfl) _ _ (heap_alloc_new w4 _) (by kernel_rfl) (by rfl) (by simp [Value.oneCell']) ?_)
      intro w5 hrow5 hg5
      obtain ⟨hif, hc5, hmd⟩ := IfSt.make Hss.out hg5 hrow5
      have HI := Lib.hid hif
      have HRM := Lib.hid (HR.out.keep (fun b hb => (hmd b hb).1) (fun b hb => (hmd b hb).2))
      have HT : Hid (RowS (Mad m W w4.heap.size w5) w5 3 0 [] none 0) := Lib.hid rowS_nil
      clear hg5 hrow5 hif hc5 hmd HR
      have hnx := Lib.hid (ss_next HI.out.ss 2 2 rfl (by omega))
      go_wp2_with fail
      refine hnx.out.mono ?_
      rintro e w6 ⟨r6, rfl, hr0, hss, hc, _⟩
      have hrb := hr0 (by omega)
      replace HRM := Lib.hid (HRM.out.keep (fun b hb => (mad_step HI.out.ss hc b hb).1) (fun b hb => (mad_step HI.out.ss hc b hb).2))
      replace HT := Lib.hid (HT.out.keep (fun b hb => (mad_step HI.out.ss hc b hb).1) (fun b hb => (mad_step HI.out.ss hc b hb).2))
      replace HI := Lib.hid (HI.out.step hss hc)
      clear hnx hr0 hss hc
      have hbl := Lib.hid (ss_block HBc.out HI.out.ss HE.out (z - 1) (1 + (r6 : Int)) (1 + r6) (by have := Hz.out; omega) (by omega) (by omega) Hb0.out (by have := Hln.out; omega))
      go_wp2_with fail
      refine hbl.out.mono ?_
      rintro e w7 ⟨E1, b1, ts, A1, c1, rfl, hlk, hss, hb1, hb2, hl1, hc, hgs, hcn, hrw, _⟩
      have hq := HI.out.lt
      have hqW := HI.out.qW
      replace HRM := Lib.hid (HRM.out.keep (fun b hb => (mad_step HI.out.ss hc b hb).1) (fun b hb => (mad_step HI.out.ss hc b hb).2))
      replace HT := Lib.hid (hrw.keep (G := Mad m W w4.heap.size w7) (fun b hb => ⟨⟨by have := hb.1; omega, hb.2.1, hb.2.2⟩, by have := hb.1; omega⟩) (fun _ _ => rfl))
      replace HI := Lib.hid (HI.out.step hss hc)
      have HLk := Lib.hid hlk
      have HB1 := Lib.hid hb1
      have HB2 := Lib.hid hb2
      have HL1 := Lib.hid hl1
      have HGs := Lib.hid hgs
      have HCn := Lib.hid hcn
      clear hbl hlk hss hb1 hb2 hl1 hc hgs hcn hrw hq hqW hrb
      have e4 := cell_of_row _ _ 4 _ _ _ HI.out.row
      have f4 := codes_frozen HI.out.row 4
      go_upto_region 26 with fail
      replace HRM := Lib.hid (HRM.out.keep (fun b hb => (mad_set HI.out 4 (.slice A1 ts.length c1) b hb).1) (fun b hb => (mad_set HI.out 4 (.slice A1 ts.length c1) b hb).2))
      replace HT := Lib.hid (HT.out.keep (fun b hb => (mad_set HI.out 4 (.slice A1 ts.length c1) b hb).1) (fun b hb => (mad_set HI.out 4 (.slice A1 ts.length c1) b hb).2))
      have hI8 : IfSt W m g l E1 b1 base w4.heap.size #[.int .i64 4, .int .i64 0, .string { data := #[] }, .slice (some ⟨b, 0, none⟩) 1 1, .slice A1 ts.length c1, .slice none 0 0] _ := HI.out.set 4 (.slice A1 ts.length c1)
      replace HI := Lib.hid hI8
      clear e4 f4 hI8
      generalize w7.setCell ⟨w4.heap.size, 4, none⟩ (.slice A1 ts.length c1) = w8 at *
      have hnx := Lib.hid (ss_next HI.out.ss 2 2 rfl (by omega))
      go_wp2_with fail
      refine hnx.out.mono ?_
      rintro e wa ⟨ra, rfl, hr0, hss, hc, _⟩
      have hrb := hr0 (by omega)
      replace HRM := Lib.hid (HRM.out.keep (fun b hb => (mad_step HI.out.ss hc b hb).1) (fun b hb => (mad_step HI.out.ss hc b hb).2))
      replace HT := Lib.hid (HT.out.keep (fun b hb => (mad_step HI.out.ss hc b hb).1) (fun b hb => (mad_step HI.out.ss hc b hb).2))
      replace HI := Lib.hid (HI.out.step hss hc)
      clear hnx hr0 hss hc
      by_cases hra : ra = 1
      · subst hra
        have HT1 := HT
        replace HT : Hid (RowS (Mad m W w4.heap.size wa) wa 3 0 [] none 0) := Lib.hid rowS_nil
        have hnx := Lib.hid (ss_next HI.out.ss 2 2 rfl (by omega))
        go_wp2_with fail
        refine hnx.out.mono ?_
        rintro e wb ⟨rb, rfl, hr0, hss, hc, _⟩
        have hrb := hr0 (by omega)
        replace HRM := Lib.hid (HRM.out.keep (fun b hb => (mad_step HI.out.ss hc b hb).1) (fun b hb => (mad_step HI.out.ss hc b hb).2))
        replace HT1 := Lib.hid (HT1.out.keep (fun b hb => (mad_step HI.out.ss hc b hb).1) (fun b hb => (mad_step HI.out.ss hc b hb).2))
        replace HI := Lib.hid (HI.out.step hss hc)
        clear hnx hr0 hss hc HT
        have hbl := Lib.hid (ss_block HBc.out HI.out.ss HLk.out.ok (z - 1) (1 + (rb : Int)) (1 + rb) (by have := Hz.out; omega) (by omega) (by omega) HB1.out HL1.out)
        go_wp2_with fail
        refine hbl.out.mono ?_
        rintro e wc ⟨E2, b2, us, A2, c2, rfl, hlk, hss, hb1, hb2, hl1, hc, hgs, hcn, hrw, _⟩
        have hq := HI.out.lt
        have hqW := HI.out.qW
        replace HRM := Lib.hid (HRM.out.keep (fun b hb => (mad_step HI.out.ss hc b hb).1) (fun b hb => (mad_step HI.out.ss hc b hb).2))
        replace HT1 := Lib.hid (HT1.out.keep (fun b hb => (mad_step HI.out.ss hc b hb).1) (fun b hb => (mad_step HI.out.ss hc b hb).2))
        have HT := Lib.hid (hrw.keep (G := Mad m W w4.heap.size wc) (fun b hb => ⟨⟨by have := hb.1; omega, hb.2.1, hb.2.2⟩, by have := hb.1; omega⟩) (fun _ _ => rfl))
        replace HI := Lib.hid (HI.out.step hss hc)
        have HLk2 := Lib.hid hlk
        have HB12 := Lib.hid hb1
        have HB22 := Lib.hid hb2
        have HL12 := Lib.hid hl1
        have HGs2 := Lib.hid hgs
        have HCn2 := Lib.hid hcn
        clear hbl hlk hss hb1 hb2 hl1 hc hgs hcn hrw hq hqW hrb
        have e5 := cell_of_row _ _ 5 _ _ _ HI.out.row
        have f5 := codes_frozen HI.out.row 5
        go_upto_region 28 with fail
        have HRW := Lib.hid (HRM.out.keep (fun b hb => (mad_set HI.out 5 (.slice A2 us.length c2) b hb).1.1) (fun b hb => (mad_set HI.out 5 (.slice A2 us.length c2) b hb).2))
        have HTW1 := Lib.hid (HT1.out.keep (fun b hb => (mad_set HI.out 5 (.slice A2 us.length c2) b hb).1.1) (fun b hb => (mad_set HI.out 5 (.slice A2 us.length c2) b hb).2))
        have HTW := Lib.hid (HT.out.keep (fun b hb => (mad_set HI.out 5 (.slice A2 us.length c2) b hb).1.1) (fun b hb => (mad_set HI.out 5 (.slice A2 us.length c2) b hb).2))
        have hI8 : IfSt W m g l E2 b2 base w4.heap.size #[.int .i64 4, .int .i64 0, .string { data := #[] }, .slice (some ⟨b, 0, none⟩) 1 1, .slice A1 ts.length c1, .slice A2 us.length c2] _ := HI.out.set 5 (.slice A2 us.length c2)
        replace HI := Lib.hid hI8
        clear e5 f5 hI8 HRM HT1 HT
        generalize wc.setCell ⟨w4.heap.size, 5, none⟩ (.slice A2 us.length c2) = wd at *
        have e0 := cell_of_row _ _ 0 _ _ _ HI.out.row
        have e1 := cell_of_row _ _ 1 _ _ _ HI.out.row
        have e2 := cell_of_row _ _ 2 _ _ _ HI.out.row
        have e3 := cell_of_row _ _ 3 _ _ _ HI.out.row
        have e4 := cell_of_row _ _ 4 _ _ _ HI.out.row
        have e5 := cell_of_row _ _ 5 _ _ _ HI.out.row
        have Hss := Lib.hid HI.out.ss
        clear HI
        have HB := Lib.hid (Hss.out.res HW.out Hls.out)
        go_wp2_with (with_reducible refine wpList_pause_store ?_)
        refine Pause.of (wpList_store_new _ rfl _ _ _ rfl w.heap.size _ rfl (by rfl) _ _ HB.out (by kernel_rfl) (by rfl) (by simp [Value.oneCell']) ?_)
        intro w9 hrow hg9
        have k0 := cell_of_row _ _ 0 _ _ _ hrow
        have k1 := cell_of_row _ _ 1 _ _ _ hrow
        have k2 := cell_of_row _ _ 2 _ _ _ hrow
        have k3 := cell_of_row _ _ 3 _ _ _ hrow
        have k4 := cell_of_row _ _ 4 _ _ _ hrow
        have k5 := cell_of_row _ _ 5 _ _ _ hrow
        have Hg9 := Lib.hid hg9
        clear hrow hg9
        have HH : Hid (StmtG m g l E bud base (d' + 1) w _ w9) := Lib.hid (ss_out (x := .mk 4 0 ⟨#[]⟩ [x] ts us) Hss.out HW.out Hls.out (HLk.out.trans HLk2.out) HB12.out (Int.le_trans HB22.out HB2.out) HL12.out Hg9.out ⟨rfl, by simpa using HG.out, HGs.out, HGs2.out, .inr (.inr (.inr (.inl ⟨rfl, rfl, rfl⟩)))⟩ (by have := HCn.out; have := HCn2.out; have := (cK_le 4 [x]).2; simp only [cntS]; omega) ⟨_, _, _, _, _, _, rfl, HRW.out, HTW1.out, HTW.out⟩)
        go_wp2_with fail
        refine bodyPost_ret ?_ rfl HH.out
        simp [results, Tryz.results49, go_sem, k0, k1, k2, k3, k4, k5]
      · have hra : ((ra : Int) == 1) = false := by simp; omega
        have e0 := cell_of_row _ _ 0 _ _ _ HI.out.row
        have e1 := cell_of_row _ _ 1 _ _ _ HI.out.row
        have e2 := cell_of_row _ _ 2 _ _ _ HI.out.row
        have e3 := cell_of_row _ _ 3 _ _ _ HI.out.row
        have e4 := cell_of_row _ _ 4 _ _ _ HI.out.row
        have e5 := cell_of_row _ _ 5 _ _ _ HI.out.row
        have Hss := Lib.hid HI.out.ss
        have HRW : Hid (RowE (Made m W wa) wa 3 [x] (some ⟨b, 0, none⟩) 1) := Lib.hid (HRM.out.keep (fun b hb => hb.1) (fun _ _ => rfl))
        have HTW := Lib.hid (HT.out.keep (G := Made m W wa) (fun b hb => hb.1) (fun _ _ => rfl))
        clear HRM HT HI
        have HB := Lib.hid (Hss.out.res HW.out Hls.out)
        go_wp2_with (with_reducible refine wpList_pause_store ?_)
        refine Pause.of (wpList_store_new _ rfl _ _ _ rfl w.heap.size _ rfl (by rfl) _ _ HB.out (by kernel_rfl) (by rfl) (by simp [Value.oneCell']) ?_)
        intro w9 hrow hg9
        have k0 := cell_of_row _ _ 0 _ _ _ hrow
        have k1 := cell_of_row _ _ 1 _ _ _ hrow
        have k2 := cell_of_row _ _ 2 _ _ _ hrow
        have k3 := cell_of_row _ _ 3 _ _ _ hrow
        have k4 := cell_of_row _ _ 4 _ _ _ hrow
        have k5 := cell_of_row _ _ 5 _ _ _ hrow
        have Hg9 := Lib.hid hg9
        clear hrow hg9
        have HH : Hid (StmtG m g l E bud base (d' + 1) w _ w9) := Lib.hid (ss_out (x := .mk 4 0 ⟨#[]⟩ [x] ts []) Hss.out HW.out Hls.out HLk.out HB1.out HB2.out HL1.out Hg9.out ⟨rfl, by simpa using HG.out, HGs.out, by simp, .inr (.inr (.inr (.inl ⟨rfl, rfl, rfl⟩)))⟩ (by have := HCn.out; have := (cK_le 4 [x]).2; simp only [cntS, List.map_nil, List.sum_nil]; omega) ⟨_, _, _, _, _, _, rfl, HRW.out, HTW.out, rowS_nil⟩)
        go_wp2_with fail
        refine bodyPost_ret ?_ rfl HH.out
        simp [results, Tryz.results49, go_sem, k0, k1, k2, k3, k4, k5]
    · have hex := Lib.hid (ss_expr2 Hss.out HE.out)
      go_wp2_with fail
      refine hex.out.mono ?_
      rintro e w3 ⟨x, k, o, a, lf, s', A, n, c, rfl, hge, hx, hss, hc⟩
      have HG := Lib.hid hge
      have HX := Lib.hid hx
      replace Hss := Lib.hid hss
      clear hex hge hx hss hc
      have hon := Lib.hid (ss_one Hss.out HX.out 7 ⟨#[]⟩)
      go_wp2_with fail
      refine hon.out.mono ?_
      rintro e w4 ⟨b, rfl, hr, hss, hc⟩
      have HR := Lib.hid hr
      replace Hss := Lib.hid hss
      clear hon hr hss hc HX
      have HB := Lib.hid (Hss.out.res HW.out Hls.out)
      go_wp2_with (with_reducible refine wpList_pause_store ?_)
      refine Pause.of (wpList_store_new _ rfl _ _ _ rfl w.heap.size _ rfl (by rfl) _ _ HB.out (by kernel_rfl) (by rfl) (by simp [Value.oneCell']) ?_)
      intro w9 hrow hg9
      have k0 := cell_of_row _ _ 0 _ _ _ hrow
      have k1 := cell_of_row _ _ 1 _ _ _ hrow
      have k2 := cell_of_row _ _ 2 _ _ _ hrow
      have k3 := cell_of_row _ _ 3 _ _ _ hrow
      have k4 := cell_of_row _ _ 4 _ _ _ hrow
      have k5 := cell_of_row _ _ 5 _ _ _ hrow
      have Hg9 := Lib.hid hg9
      clear hrow hg9
      have HH : Hid (StmtG m g l E bud base d w _ w9) := Lib.hid (ss_out1 (k := 7) (s := ⟨#[]⟩) Hss.out HW.out Hls.out HE.out Hb0.out Hln.out Hg9.out HG.out (.inr ⟨.inr (.inl rfl), rfl⟩) HR.out)
      go_wp2_with fail
      refine bodyPost_ret ?_ rfl HH.out
      simp [results, Tryz.results49, go_sem, k0, k1, k2, k3, k4, k5]
  · by_cases hzp : 0 < z
    · have hlp := Lib.hid (HLc.out (by have := Hz.out; omega) E bud w1 z Hz.out HE.out Hss.out.ls Hb0.out Hln.out)
      go_wp2_with fail
      refine hlp.out.mono ?_
      rintro e w2 ⟨E1, b1, x, v, rfl, hlk, hls1, hb1, hb2, hl1, hc, hgs, hcn, hv⟩
      obtain ⟨kk, ll, s, eA, en, ec, tA, tn, tc, uA, un, uc, rfl⟩ := stV_agg hv
      have hsz := Hss.out.chg.size
      have HV := Lib.hid (hv.keep (G := Made m W w2) (fun b hb => ⟨by have := hb.1; omega, hb.2.1, hb.2.2⟩) (fun _ _ => rfl))
      have HQ : Hid (E.Like E1 ∧ 0 ≤ b1 ∧ b1 ≤ bud ∧ (E1.locals.length : Int) + b1 ≤ 1000 ∧ GSt (d + 1) x ∧ (cntS (d + 1) x : Int) ≤ 11 + 11 * (bud - b1)) := Lib.hid ⟨hlk, hb1, hb2, hl1, hgs, hcn⟩
      have hss2 : SS W m g l E1 b1 base w2 := ⟨hls1, Hss.out.chg.trans hc, Hss.out.bw⟩
      replace Hss := Lib.hid hss2
      clear hlp hlk hls1 hb1 hb2 hl1 hc hgs hcn hv hsz hss2
      have HB := Lib.hid (Hss.out.res HW.out Hls.out)
      go_wp2_with (with_reducible refine wpList_pause_store ?_)
      refine Pause.of (wpList_store_new _ rfl _ _ _ rfl w.heap.size _ rfl (by rfl) _ _ HB.out (by kernel_rfl) (by rfl) (by simp [Value.oneCell']) ?_)
      intro w9 hrow hg9
      have k0 := cell_of_row _ _ 0 _ _ _ hrow
      have k1 := cell_of_row _ _ 1 _ _ _ hrow
      have k2 := cell_of_row _ _ 2 _ _ _ hrow
      have k3 := cell_of_row _ _ 3 _ _ _ hrow
      have k4 := cell_of_row _ _ 4 _ _ _ hrow
      have k5 := cell_of_row _ _ 5 _ _ _ hrow
      have Hg9 := Lib.hid hg9
      clear hrow hg9
      have HH : Hid (StmtG m g l E bud base d w _ w9) := Lib.hid (ss_out Hss.out HW.out Hls.out HQ.out.1 HQ.out.2.1 HQ.out.2.2.1 HQ.out.2.2.2.1 Hg9.out HQ.out.2.2.2.2.1 HQ.out.2.2.2.2.2 HV.out)
      go_wp2_with fail
      refine bodyPost_ret ?_ rfl HH.out
      simp [results, Tryz.results49, go_sem, k0, k1, k2, k3, k4, k5]
    · have hex := Lib.hid (ss_expr2 Hss.out HE.out)
      go_wp2_with fail
      refine hex.out.mono ?_
      rintro e w3 ⟨x, k, o, a, lf, s', A, n, c, rfl, hge, hx, hss, hc⟩
      have HG := Lib.hid hge
      have HX := Lib.hid hx
      replace Hss := Lib.hid hss
      clear hex hge hx hss hc
      have hon := Lib.hid (ss_one Hss.out HX.out 7 ⟨#[]⟩)
      go_wp2_with fail
      refine hon.out.mono ?_
      rintro e w4 ⟨b, rfl, hr, hss, hc⟩
      have HR := Lib.hid hr
      replace Hss := Lib.hid hss
      clear hon hr hss hc HX
      have HB := Lib.hid (Hss.out.res HW.out Hls.out)
      go_wp2_with (with_reducible refine wpList_pause_store ?_)
      refine Pause.of (wpList_store_new _ rfl _ _ _ rfl w.heap.size _ rfl (by rfl) _ _ HB.out (by kernel_rfl) (by rfl) (by simp [Value.oneCell']) ?_)
      intro w9 hrow hg9
      have k0 := cell_of_row _ _ 0 _ _ _ hrow
      have k1 := cell_of_row _ _ 1 _ _ _ hrow
      have k2 := cell_of_row _ _ 2 _ _ _ hrow
      have k3 := cell_of_row _ _ 3 _ _ _ hrow
      have k4 := cell_of_row _ _ 4 _ _ _ hrow
      have k5 := cell_of_row _ _ 5 _ _ _ hrow
      have Hg9 := Lib.hid hg9
      clear hrow hg9
      have HH : Hid (StmtG m g l E bud base d w _ w9) := Lib.hid (ss_out1 (k := 7) (s := ⟨#[]⟩) Hss.out HW.out Hls.out HE.out Hb0.out Hln.out Hg9.out HG.out (.inr ⟨.inr (.inl rfl), rfl⟩) HR.out)
      go_wp2_with fail
      refine bodyPost_ret ?_ rfl HH.out
      simp [results, Tryz.results49, go_sem, k0, k1, k2, k3, k4, k5]
  · have hnx := Lib.hid (ss_next Hss.out 3 3 rfl (by omega))
    go_wp2_with fail
    refine hnx.out.mono ?_
    rintro e w2 ⟨r2, rfl, hr0, hss, hc, _⟩
    have hrb := hr0 (by omega)
    replace Hss := Lib.hid hss
    clear hnx hr0 hss hc
    by_cases h0 : r2 = 0
    · subst h0
      have hex := Lib.hid (ss_expr2 Hss.out HE.out)
      go_wp2_with fail
      refine hex.out.mono ?_
      rintro e w3 ⟨x, k, o, a, lf, s', A, n, c, rfl, hge, hx, hss, hc⟩
      have HG := Lib.hid hge
      have HX := Lib.hid hx
      replace Hss := Lib.hid hss
      clear hex hge hx hss hc
      have hon := Lib.hid (ss_one Hss.out HX.out 6 ⟨#[]⟩)
      go_wp2_with fail
      refine hon.out.mono ?_
      rintro e w4 ⟨b, rfl, hr, hss, hc⟩
      have HR := Lib.hid hr
      replace Hss := Lib.hid hss
      clear hon hr hss hc HX
      have HB := Lib.hid (Hss.out.res HW.out Hls.out)
      go_wp2_with (with_reducible refine wpList_pause_store ?_)
      refine Pause.of (wpList_store_new _ rfl _ _ _ rfl w.heap.size _ rfl (by rfl) _ _ HB.out (by kernel_rfl) (by rfl) (by simp [Value.oneCell']) ?_)
      intro w9 hrow hg9
      have k0 := cell_of_row _ _ 0 _ _ _ hrow
      have k1 := cell_of_row _ _ 1 _ _ _ hrow
      have k2 := cell_of_row _ _ 2 _ _ _ hrow
      have k3 := cell_of_row _ _ 3 _ _ _ hrow
      have k4 := cell_of_row _ _ 4 _ _ _ hrow
      have k5 := cell_of_row _ _ 5 _ _ _ hrow
      have Hg9 := Lib.hid hg9
      clear hrow hg9
      have HH : Hid (StmtG m g l E bud base d w _ w9) := Lib.hid (ss_out1 (k := 6) (s := ⟨#[]⟩) Hss.out HW.out Hls.out HE.out Hb0.out Hln.out Hg9.out HG.out (.inr ⟨.inl rfl, rfl⟩) HR.out)
      go_wp2_with fail
      refine bodyPost_ret ?_ rfl HH.out
      simp [results, Tryz.results49, go_sem, k0, k1, k2, k3, k4, k5]
    · have h0 : ((r2 : Int) == 0) = false := by simp; omega
      have hex := Lib.hid (ss_call Hss.out HE.out)
      go_wp2_with fail
      refine hex.out.mono ?_
      rintro e w3 ⟨x, k, o, a, lf, s', A, n, c, rfl, hge, hx, hss, hc⟩
      have HG := Lib.hid hge
      have HX := Lib.hid hx
      replace Hss := Lib.hid hss
      clear hex hge hx hss hc
      have hon := Lib.hid (ss_one Hss.out HX.out 8 ⟨#[]⟩)
      go_wp2_with fail
      refine hon.out.mono ?_
      rintro e w4 ⟨b, rfl, hr, hss, hc⟩
      have HR := Lib.hid hr
      replace Hss := Lib.hid hss
      clear hon hr hss hc HX
      have HB := Lib.hid (Hss.out.res HW.out Hls.out)
      go_wp2_with (with_reducible refine wpList_pause_store ?_)
      refine Pause.of (wpList_store_new _ rfl _ _ _ rfl w.heap.size _ rfl (by rfl) _ _ HB.out (by kernel_rfl) (by rfl) (by simp [Value.oneCell']) ?_)
      intro w9 hrow hg9
      have k0 := cell_of_row _ _ 0 _ _ _ hrow
      have k1 := cell_of_row _ _ 1 _ _ _ hrow
      have k2 := cell_of_row _ _ 2 _ _ _ hrow
      have k3 := cell_of_row _ _ 3 _ _ _ hrow
      have k4 := cell_of_row _ _ 4 _ _ _ hrow
      have k5 := cell_of_row _ _ 5 _ _ _ hrow
      have Hg9 := Lib.hid hg9
      clear hrow hg9
      have HH : Hid (StmtG m g l E bud base d w _ w9) := Lib.hid (ss_out1 (k := 8) (s := ⟨#[]⟩) Hss.out HW.out Hls.out HE.out Hb0.out Hln.out Hg9.out HG.out (.inr ⟨.inr (.inr rfl), rfl⟩) HR.out)
      go_wp2_with fail
      refine bodyPost_ret ?_ rfl HH.out
      simp [results, Tryz.results49, go_sem, k0, k1, k2, k3, k4, k5]
  · have hex := Lib.hid (ss_expr2 Hss.out HE.out)
    go_wp2_with fail
    refine hex.out.mono ?_
    rintro e w3 ⟨x, k, o, a, lf, s', A, n, c, rfl, hge, hx, hss, hc⟩
    have HG := Lib.hid hge
    have HX := Lib.hid hx
    replace Hss := Lib.hid hss
    clear hex hge hx hss hc
    have hon := Lib.hid (ss_one Hss.out HX.out 7 ⟨#[]⟩)
    go_wp2_with fail
    refine hon.out.mono ?_
    rintro e w4 ⟨b, rfl, hr, hss, hc⟩
    have HR := Lib.hid hr
    replace Hss := Lib.hid hss
    clear hon hr hss hc HX
    have HB := Lib.hid (Hss.out.res HW.out Hls.out)
    go_wp2_with (with_reducible refine wpList_pause_store ?_)
    refine Pause.of (wpList_store_new _ rfl _ _ _ rfl w.heap.size _ rfl (by rfl) _ _ HB.out (by kernel_rfl) (by rfl) (by simp [Value.oneCell']) ?_)
    intro w9 hrow hg9
    have k0 := cell_of_row _ _ 0 _ _ _ hrow
    have k1 := cell_of_row _ _ 1 _ _ _ hrow
    have k2 := cell_of_row _ _ 2 _ _ _ hrow
    have k3 := cell_of_row _ _ 3 _ _ _ hrow
    have k4 := cell_of_row _ _ 4 _ _ _ hrow
    have k5 := cell_of_row _ _ 5 _ _ _ hrow
    have Hg9 := Lib.hid hg9
    clear hrow hg9
    have HH : Hid (StmtG m g l E bud base d w _ w9) := Lib.hid (ss_out1 (k := 7) (s := ⟨#[]⟩) Hss.out HW.out Hls.out HE.out Hb0.out Hln.out Hg9.out HG.out (.inr ⟨.inr (.inl rfl), rfl⟩) HR.out)
    go_wp2_with fail
    refine bodyPost_ret ?_ rfl HH.out
    simp [results, Tryz.results49, go_sem, k0, k1, k2, k3, k4, k5]
end Go.Proofs.YtifabkoomojklaaGreatDoor
