/-
  The maker of sources: loops, given blocks of less depth. Condition: at most a million codes.
-/
import Derived.Test.YtifabkoomojklaaGreatDoorGen16
namespace Go.Proofs.YtifabkoomojklaaGreatDoor
open Go.RowKit

theorem alloc_keep {w : World} {o o' : Obj} {q : Nat} (h : w.heap[q]? = some o') : (w.alloc o).heap[q]? = some o' := (heap_alloc_old w o (Array.getElem?_eq_some_iff.1 h).1).trans h
theorem below_keep {w w' : World} {o' : Obj} {q : Nat} (hb : Below w.heap.size w w') (h : w.heap[q]? = some o') : w'.heap[q]? = some o' := (hb.block q (Array.getElem?_eq_some_iff.1 h).1).trans h
theorem lo_all {d : Nat} {ts : List St} {a : St} (h : ∀ t ∈ ts, GSt d t) (ha : GSt d a) : ∀ t ∈ ts ++ [a], GSt d t := fun t ht => by
  rcases List.mem_append.1 ht with h' | h'
  · exact h t h'
  · simp at h'; subst h'; exact ha
theorem lo_cnt {d : Nat} {ts : List St} {c : Ex} {s : ByteArray} {es : List Ex} {b b1 : Int} (hes : incE es = true) (h : ((ts.map (cntS (d + 1))).sum : Int) ≤ 11 * (b - b1)) : (cntS (d + 1 + 1) (.mk 5 0 ⟨#[]⟩ [c] (ts ++ [.mk 2 0 s es [] []]) []) : Int) ≤ 11 + 11 * (b - b1) := by
  have h5 : cK 5 [c] = 10 := by unfold cK; rw [if_pos rfl]
  have h2 : cK 2 es = 1 := by simp [cK, hes]
  simp only [cntS, List.map_append, List.map_cons, List.map_nil, List.sum_append, List.sum_cons, List.sum_nil, h5, h2]
  omega
theorem lo_stv {F : Nat → Prop} {w : World} {d cap : Nat} {c : Ex} {ts : List St} {a : St} {A B : Option Addr} (hr : RowE F w 3 [c] A 1) (ht : RowS F w 3 d (ts ++ [a]) B cap) : StV F w 3 (d + 1) (.mk 5 0 ⟨#[]⟩ [c] (ts ++ [a]) []) (.agg #[.int .i64 5, .int .i64 0, .string ⟨#[]⟩, .slice A 1 1, .slice B (ts.length + 1) cap, .slice none 0 0]) :=
  ⟨A, 1, B, cap, none, 0, by simp, hr, ht, rowS_nil⟩
theorem lo_out {w W wc w9 : World} {o : Obj} {m g base d cap : Nat} {l : List Nat} {E E' : Env} {bud bud' : Int} {c : Ex} {s : ByteArray} {ts : List St} {A B : Option Addr} (h : SS W m g l E' bud' base wc) (hW : W = w.alloc o) (h0 : LS w m g l E bud base) (hl : E.Like E') (hb0 : 0 ≤ bud') (hbb : bud' ≤ bud) (hln : (E'.locals.length : Int) + bud' ≤ 1000)
    (hg : wc.grownBy w9 (some w.heap.size)) (hc : GE 2 c) (hs : GoodN s) (hgs : ∀ t ∈ ts, GSt (d + 1) t) (hcnt : ((ts.map (cntS (d + 1))).sum : Int) ≤ 11 * (bud - bud')) (hr : RowE (Made m W wc) wc 3 [c] A 1) (ht : RowS (Made m W wc) wc 3 (d + 1) (ts ++ [.mk 2 0 s [.mk 6 3 0 0 ⟨#[]⟩ [.mk 13 0 0 0 s [], .mk 1 0 1 0 ⟨#[]⟩ []]] [] []]) B cap) :
    StmtG m g l E bud base (d + 1) w (.returned (.agg #[.int .i64 5, .int .i64 0, .string ⟨#[]⟩, .slice A 1 1, .slice B (ts.length + 1) cap, .slice none 0 0])) w9 :=
  ss_out (x := .mk 5 0 ⟨#[]⟩ [c] (ts ++ [.mk 2 0 s [.mk 6 3 0 0 ⟨#[]⟩ [.mk 13 0 0 0 s [], .mk 1 0 1 0 ⟨#[]⟩ []]] [] []]) []) h hW h0 hl hb0 hbb hln hg
    ⟨rfl, by simpa using hc, lo_all hgs (gst_one (ge_bin (by omega) (by omega) hs) (.inl ⟨.inr rfl, hs⟩)), by simp, .inr (.inr (.inr (.inr (.inl ⟨rfl, rfl, rfl, rfl⟩))))⟩ (lo_cnt rfl hcnt) (lo_stv hr ht)
theorem lo_wrap {r : Nat} (h : r < 5) : IntKind.i64.wrap (1 + (r : Int)) = 1 + (r : Int) := by
  have hc : r = 0 ∨ r = 1 ∨ r = 2 ∨ r = 3 ∨ r = 4 := by omega
  rcases hc with rfl | rfl | rfl | rfl | rfl <;> decide
theorem lo_asg {d b2 : Nat} {w3 w4 : World} {s : ByteArray} {n8 : Nat} {t2 t3 : TypeId} (h83 : n8 ≤ w3.heap.size) (h2 : w4.heap[n8]? = some (.cells #[.int .i64 13, .int .i64 0, .int .i64 0, .int .i64 0, .string s, .slice none 0 0, .int .i64 1, .int .i64 0, .int .i64 1, .int .i64 0, .string ⟨#[]⟩, .slice none 0 0] t2 (0, 0)))
    (h3 : w4.heap[b2]? = some (.cells #[.int .i64 6, .int .i64 3, .int .i64 0, .int .i64 0, .string ⟨#[]⟩, .slice (some ⟨n8, 0, none⟩) 2 2] t3 (0, 0))) (hb : w3.heap.size ≤ b2) (hb2 : b2 < w4.heap.size) :
    StV (fun b => n8 ≤ b ∧ b < w4.heap.size) w4 3 (d + 1) (.mk 2 0 s [.mk 6 3 0 0 ⟨#[]⟩ [.mk 13 0 0 0 s [], .mk 1 0 1 0 ⟨#[]⟩ []]] [] []) (.agg #[.int .i64 2, .int .i64 0, .string s, .slice (some ⟨b2, 0, none⟩) 1 1, .slice none 0 0, .slice none 0 0]) :=
  stV_one (row_one (exV_bin ⟨Nat.le_refl _, (Array.getElem?_eq_some_iff.1 h2).1⟩ h2) (fun _ h => h) (fun _ _ => rfl) ⟨by omega, hb2⟩ h3)
theorem lo_far {W w8 w4 : World} {m g base n6 : Nat} {l : List Nat} {E : Env} {bud : Int} {v : Value} (ho : ∀ b, v.ownBlock = some b → n6 ≤ b ∧ b < w8.heap.size) (h : SS W m g l E bud base w8) (hb : Below w8.heap.size w8 w4) (h68 : n6 ≤ w8.heap.size) :
    ∀ b, (w8.heap.size ≤ b ∧ b < w4.heap.size) → n6 ≤ b ∧ b < w4.heap.size ∧ v.ownBlock ≠ some b ∧ lb w4 m ≠ some b := fun b hb' => by
  have hm := Nat.lt_of_lt_of_le h.mW h.chg.size
  have hl : lb w4 m = lb w8 m := lb_of (World.cell?_of_block (hb.block m hm))
  refine ⟨by omega, hb'.2, fun e => by have := (ho b e).2; omega, fun e => ?_⟩
  rw [hl] at e
  have := (h.ls.lbl b e).2
  omega
theorem r9_start {W wn w5 : World} {m g base : Nat} {l : List Nat} {E : Env} {bud : Int} {s : ByteArray} {o : Obj} (h : SS W m g l E bud base wn) (hg : (wn.alloc o).grownBy w5 (some wn.heap.size)) (hr : w5.heap[wn.heap.size]? = some (.cells #[.int .i64 13, .int .i64 0, .int .i64 0, .int .i64 0, .string s, .slice none 0 0] 90 (0, 0))) :
    R9 W m g l E bud base wn.heap.size s w5 w5 := by
  have hb : Below wn.heap.size wn w5 := ((Below.refl _ wn).alloc (Nat.le_refl _) o).trans (grown_any hg (fun k hk => by injection hk with hk; omega) (by simp))
  obtain ⟨hs, _⟩ := h.below hb
  have hm := Nat.lt_of_lt_of_le h.mW h.chg.size
  have hl : lb w5 m = lb wn m := lb_of (World.cell?_of_block (hb.block m hm))
  refine ⟨hs, hr, rfl, Nat.le_refl _, fun b hb' => (hs.ls.lbl b hb').2, h.chg.size, (Array.getElem?_eq_some_iff.1 hr).1, fun e => ?_⟩
  rw [hl] at e
  have := (h.ls.lbl _ e).2
  omega
set_option maxRecDepth 100000 in
set_option maxHeartbeats 16000000 in
theorem loop_step (m g : Nat) (l : List Nat) (base d' : Nat) (hd : d' ≤ 4) (hB : BlockCt m g l base d') : LoopCt m g l base (d' + 1) := by
  intro E bud w z hz hE hls hb0 hln
  have Hls := Lib.hid hls
  have HE := Lib.hid hE
  have Hb0 := Lib.hid hb0
  have Hln := Lib.hid hln
  have HBc := Lib.hid hB
  have hz0 : 1 ≤ z := by omega
  have hz6 : z ≤ 6 := by omega
  have Hz := Lib.hid hz
  have hmb := hls.mb
  have hgm := hls.gb
  have hbs := hls.bs
  have hss := SS.start hls (.cells #[.int .i64 0, .int .i64 0, .string { data := #[] }, .slice none 0 0, .slice none 0 0, .slice none 0 0] 84)
  have Hss := Lib.hid hss
  clear hss hls hE hb0 hln hB hz
  go_enter Tryz.func59, Tryz.ntmps59
  go_upto_region 1 with fail
  generalize hWe : w.alloc (.cells #[.int .i64 0, .int .i64 0, .string { data := #[] }, .slice none 0 0, .slice none 0 0, .slice none 0 0] 84) = W at *
  have HW := Lib.hid hWe.symm
  clear hWe
  have hpk := Lib.hid ((ss_pick Hss.out HE.out false))
  go_wp2_with fail
  refine hpk.out.mono ?_
  rintro e w2 ⟨s, ok, rfl, hok, hss, hc⟩
  have HS := Lib.hid hok
  replace Hss := Lib.hid hss
  clear hpk hok hss hc
  obtain ⟨_, _, _, _, lA, lc, y0, z1, z2, b3, z4, z5, z6, q3⟩ := Hss.out.ls.gs.cells
  obtain ⟨ln, hln⟩ : ∃ ln, ln = E.locals.length := ⟨_, rfl⟩
  have hcap : ln ≤ lc := by rw [hln]; exact q3.1
  have hlc : ln ≤ 1000 := by rw [hln]; exact HE.out.ln
  rw [← hln] at b3
  have HLL := Lib.hid hln
  have Q3 := Lib.hid q3
  clear hln z1 z2 z4 z5 z6 q3
  go_upto_region 2 with fail
  go_cut [28] from 10 (fun v wd => ∃ b : Bool, v = .bool b ∧ (b = true → 0 < E.locals.length) ∧ SS W m g l E bud base wd)
  case first =>
    by_cases h0 : 0 < ln
    · have hnx := Lib.hid (ss_next Hss.out 3 3 rfl (by omega))
      go_wp2_with fail
      refine hnx.out.mono ?_
      rintro e w3 ⟨r3, rfl, hr0, hss, hc, _⟩
      have hrb := hr0 (by omega)
      replace Hss := Lib.hid hss
      clear hnx hr0 hss hc
      clear b3 y0
      go_wp2_with fail
      go_meet
      case rel => exact ⟨_, rfl, fun _ => by rw [← HLL.out]; exact h0, Hss.out⟩
    · go_wp2_with fail
      go_meet
      case rel => exact ⟨_, rfl, fun h => by simp at h, Hss.out⟩
  case rest =>
  obtain ⟨vb, rfl, hvb, hss⟩ := hcut
  have Hss := Lib.hid hss
  have Hvb := Lib.hid hvb
  clear hvb hss b3 y0 HLL Q3 hcap hlc
  go_upto_if 28 with fail
  go_cut [5, 6] from 10 (fun v u wd => ∃ (s : ByteArray) (ok : Bool), v = .string s ∧ u = .bool ok ∧ (ok = true → GoodN s) ∧ SS W m g l E bud base wd)
  case first =>
    cases vb with
    | true =>
      obtain ⟨_, _, _, _, lA, lc, y0, z1, z2, b3, z4, z5, z6, q3⟩ := Hss.out.ls.gs.cells
      obtain ⟨ln, hln⟩ : ∃ ln, ln = E.locals.length := ⟨_, rfl⟩
      have hcap : ln ≤ lc := by rw [hln]; exact q3.1
      have hlc : ln ≤ 1000 := by rw [hln]; exact HE.out.ln
      rw [← hln] at b3
      have HLL := Lib.hid hln
      have Q3 := Lib.hid q3
      clear hln z1 z2 z4 z5 z6 q3
      have h0 : 0 < ln := by rw [HLL.out]; exact Hvb.out rfl
      obtain ⟨rr, rfl, hrg, _⟩ := strs_some Q3.out (by rw [← HLL.out]; exact h0)
      obtain ⟨sn, hsn, hsm⟩ := locs_fn Q3.out
      rw [← HLL.out] at hsn hsm
      have Hsm := Lib.hid hsm
      have hmg := Hss.out.ls.gs.ne
      have hdr := Hss.out.below (Below.refl _ wc).drew
      have hnl := Lib.hid (ss_next hdr.1 ln ln rfl (by omega))
      have hS0 : wc.drew.cell? ⟨m, 3, none⟩ = some (.slice (some ⟨rr, 0, none⟩) ln lc) ∧ (∀ q, q < ln → wc.drew.cell? ⟨rr, q, none⟩ = some (.string (sn q))) ∧ wc.drew.cell? ⟨m, 0, none⟩ = some (.pointer (some ⟨g, 0, none⟩)) := ⟨b3, hsn, y0⟩
      clear hdr hsn hsm
      go_upto_region 3 with fail
      go_region_held3 (fun w' => w'.cell? ⟨m, 3, none⟩ = some (.slice (some ⟨rr, 0, none⟩) ln lc) ∧ (∀ q, q < ln → w'.cell? ⟨rr, q, none⟩ = some (.string (sn q))) ∧ w'.cell? ⟨m, 0, none⟩ = some (.pointer (some ⟨g, 0, none⟩)))
        (first | (with_reducible exact hS0) | (with_reducible exact hS2))
        (first | (go_at_call 20; (with_reducible refine hnl.out.mono ?_); rintro e wa ⟨q, rfl, hq1, hss2, _, hg2⟩; have hq : q < ln := (hq1 (by omega)); have hS2 : wa.cell? ⟨m, 3, none⟩ = some (.slice (some ⟨rr, 0, none⟩) ln lc) ∧ (∀ q, q < ln → wa.cell? ⟨rr, q, none⟩ = some (.string (sn q))) ∧ wa.cell? ⟨m, 0, none⟩ = some (.pointer (some ⟨g, 0, none⟩)) := ⟨cell_grown hg2 hmg hS0.1, fun q hq => cell_grown hg2 hrg (hS0.2.1 q hq), cell_grown hg2 hmg hS0.2.2⟩; have Hss2 := Lib.hid hss2; clear hq1 hss2 hg2))
      all_goals
        go_wp2_with fail
        go_meet
        case rel => exact ⟨sn q, true, rfl, rfl, fun _ => HE.out.ls _ (Hsm.out q hq), Hss2.out⟩
    | false =>
      go_wp2_with fail
      go_meet
      case rel => exact ⟨s, ok, rfl, rfl, HS.out, Hss.out⟩
  case rest =>
    obtain ⟨s, ok, rfl, rfl, hok, hss⟩ := hcut
    have Hss := Lib.hid hss
    have HS := Lib.hid hok
    clear hok hss Hvb
    go_upto_region 4 with fail
    cases ok with
    | false => have hex := Lib.hid (ss_expr2 Hss.out HE.out)
               go_wp2_with fail
               refine hex.out.mono ?_
               rintro e w3 ⟨x, k, o, a, lf, s', A, n, c, rfl, hge, hx, hss, hc⟩
               have HG := Lib.hid hge
               have HX := Lib.hid hx
               replace Hss := Lib.hid hss
               clear hex hge hx hss hc
               have hon := Lib.hid (ss_one Hss.out HX.out 5 ⟨#[]⟩)
               go_wp2_with fail
               refine hon.out.mono ?_
               rintro e w4 ⟨b, rfl, hr, hss, hc⟩
               have HR := Lib.hid hr
               replace Hss := Lib.hid hss
               clear hon hr hss hc HX
               go_wp2_with (with_reducible refine wpList_pause_store ?_)
               refine Pause.of (wpList_store_new _ rfl _ _ _ rfl w4.heap.size _ rfl (by rfl) _ _ (heap_alloc_new w4 _) (by kernel_rfl) (by rfl) (by simp [Value.oneCell']) ?_)
               intro w5 hrow5 hg5
               obtain ⟨hif, hc5, hmd⟩ := IfSt.make Hss.out hg5 hrow5
               have HI := Lib.hid hif
               have HRM := Lib.hid (HR.out.keep (fun b hb => (hmd b hb).1) (fun b hb => (hmd b hb).2))
               have HT : Hid (RowS (Mad m W w4.heap.size w5) w5 3 0 [] none 0) := Lib.hid rowS_nil
               clear hg5 hrow5 hif hc5 hmd HR
               obtain ⟨_, _, _, _, _, _, y0, z1, z2, z3, z4, z5, z6, z7⟩ := HI.out.ss.ls.gs.cells
               clear z1 z2 z3 z4 z5 z6 z7
               have hnx := Lib.hid (ss_next HI.out.ss 2 2 rfl (by omega))
               go_wp2_with fail
               refine hnx.out.mono ?_
               rintro e w6 ⟨r6, rfl, hr0, hss, hc, _⟩
               have hrb := hr0 (by omega)
               replace HRM := Lib.hid (HRM.out.keep (fun b hb => (mad_step HI.out.ss hc b hb).1) (fun b hb => (mad_step HI.out.ss hc b hb).2))
               replace HT := Lib.hid (HT.out.keep (fun b hb => (mad_step HI.out.ss hc b hb).1) (fun b hb => (mad_step HI.out.ss hc b hb).2))
               replace HI := Lib.hid (HI.out.step hss hc)
               clear hnx hr0 hss hc
               clear y0
               have hbl := Lib.hid (ss_block HBc.out HI.out.ss HE.out (z - 1) (1 + (r6 : Int)) (1 + r6) (by have := Hz.out; omega) (by omega) (by omega) Hb0.out (by have := Hln.out; omega))
               go_wp2_with fail
               refine hbl.out.mono ?_
               rintro e w7 ⟨E1, b1, ts, A1, c1, rfl, hlk, hss, hb1, hb2, hl1, hc, hgs, hcn, hrw, _⟩
               have hq := HI.out.lt
               have hqW := HI.out.qW
               replace HRM := Lib.hid (HRM.out.keep (fun b hb => (mad_step HI.out.ss hc b hb).1) (fun b hb => (mad_step HI.out.ss hc b hb).2))
               replace HT := Lib.hid (hrw.keep (G := Mad m W w4.heap.size w7) (fun b hb => ⟨⟨by have := hb.1; omega, hb.2.1, hb.2.2⟩, by have := hb.1; omega⟩) (fun _ _ => rfl))
               replace HI := Lib.hid (HI.out.step hss hc)
               have HLk := Lib.hid hlk
               have HB1 := Lib.hid hb1
               have HB2 := Lib.hid hb2
               have HL1 := Lib.hid hl1
               have HGs := Lib.hid hgs
               have HCn := Lib.hid hcn
               clear hbl hlk hss hb1 hb2 hl1 hc hgs hcn hrw hq hqW hrb
               have e4 := cell_of_row _ _ 4 _ _ _ HI.out.row
               have f4 := codes_frozen HI.out.row 4
               go_upto_region 7 with fail
               have HRW := Lib.hid (HRM.out.keep (fun b hb => (mad_set HI.out 4 (.slice A1 ts.length c1) b hb).1.1) (fun b hb => (mad_set HI.out 4 (.slice A1 ts.length c1) b hb).2))
               have HTW := Lib.hid (HT.out.keep (fun b hb => (mad_set HI.out 4 (.slice A1 ts.length c1) b hb).1.1) (fun b hb => (mad_set HI.out 4 (.slice A1 ts.length c1) b hb).2))
               have hI8 : IfSt W m g l E1 b1 base w4.heap.size #[.int .i64 5, .int .i64 0, .string { data := #[] }, .slice (some ⟨b, 0, none⟩) 1 1, .slice A1 ts.length c1, .slice none 0 0] _ := HI.out.set 4 (.slice A1 ts.length c1)
               replace HI := Lib.hid hI8
               clear e4 f4 hI8 HRM HT
               generalize w7.setCell ⟨w4.heap.size, 4, none⟩ (.slice A1 ts.length c1) = w8 at *
               clear Hss
               have e0 := cell_of_row _ _ 0 _ _ _ HI.out.row
               have e1 := cell_of_row _ _ 1 _ _ _ HI.out.row
               have e2 := cell_of_row _ _ 2 _ _ _ HI.out.row
               have e3 := cell_of_row _ _ 3 _ _ _ HI.out.row
               have e4 := cell_of_row _ _ 4 _ _ _ HI.out.row
               have e5 := cell_of_row _ _ 5 _ _ _ HI.out.row
               have Hss := Lib.hid HI.out.ss
               clear HI
               have HB := Lib.hid (Hss.out.res HW.out Hls.out)
               go_wp2_with (with_reducible refine wpList_pause_store ?_)
               refine Pause.of (wpList_store_new _ rfl _ _ _ rfl w.heap.size _ rfl (by rfl) _ _ HB.out (by kernel_rfl) (by rfl) (by simp [Value.oneCell']) ?_)
               intro w9 hrow hg9
               have k0 := cell_of_row _ _ 0 _ _ _ hrow
               have k1 := cell_of_row _ _ 1 _ _ _ hrow
               have k2 := cell_of_row _ _ 2 _ _ _ hrow
               have k3 := cell_of_row _ _ 3 _ _ _ hrow
               have k4 := cell_of_row _ _ 4 _ _ _ hrow
               have k5 := cell_of_row _ _ 5 _ _ _ hrow
               have Hg9 := Lib.hid hg9
               clear hrow hg9
               have HH : Hid (StmtG m g l E bud base (d' + 1) w _ w9) := Lib.hid (ss_out (x := .mk 5 0 ⟨#[]⟩ [x] ts []) Hss.out HW.out Hls.out HLk.out HB1.out HB2.out HL1.out Hg9.out ⟨rfl, by simpa using HG.out, HGs.out, by simp, .inr (.inr (.inr (.inr (.inl ⟨rfl, rfl, rfl, rfl⟩))))⟩ (by have := HCn.out; have := (cK_le 5 [x]).2; simp only [cntS, List.map_nil, List.sum_nil]; omega) ⟨_, _, _, _, _, _, rfl, HRW.out, HTW.out, rowS_nil⟩)
               go_wp2_with fail
               refine bodyPost_ret ?_ rfl HH.out
               simp [results, Tryz.results59, go_sem, k0, k1, k2, k3, k4, k5]
    | true =>
      replace HS := Lib.hid (HS.out rfl)
      obtain ⟨_, _, _, _, _, _, y0, z1, z2, z3, z4, z5, z6, z7⟩ := Hss.out.ls.gs.cells
      clear z1 z2 z3 z4 z5 z6 z7
      have hnx := Lib.hid (ss_next Hss.out 8 8 rfl (by omega))
      go_wp2_with fail
      refine hnx.out.mono ?_
      rintro e wn ⟨rn, rfl, hr0, hss, hc, _⟩
      have hrb := hr0 (by omega)
      replace Hss := Lib.hid hss
      clear hnx hr0 hss hc
      clear y0
      by_cases h7 : rn = 7
      · subst h7
        have hex := Lib.hid (ss_expr2 Hss.out HE.out)
        go_wp2_with fail
        refine hex.out.mono ?_
        rintro e w3 ⟨x, k, o, a, lf, s', A, n, c, rfl, hge, hx, hss, hc⟩
        have HG := Lib.hid hge
        have HX := Lib.hid hx
        replace Hss := Lib.hid hss
        clear hex hge hx hss hc
        have hon := Lib.hid (ss_one Hss.out HX.out 5 ⟨#[]⟩)
        go_wp2_with fail
        refine hon.out.mono ?_
        rintro e w4 ⟨b, rfl, hr, hss, hc⟩
        have HR := Lib.hid hr
        replace Hss := Lib.hid hss
        clear hon hr hss hc HX
        go_wp2_with (with_reducible refine wpList_pause_store ?_)
        refine Pause.of (wpList_store_new _ rfl _ _ _ rfl w4.heap.size _ rfl (by rfl) _ _ (heap_alloc_new w4 _) (by kernel_rfl) (by rfl) (by simp [Value.oneCell']) ?_)
        intro w5 hrow5 hg5
        obtain ⟨hif, hc5, hmd⟩ := IfSt.make Hss.out hg5 hrow5
        have HI := Lib.hid hif
        have HRM := Lib.hid (HR.out.keep (fun b hb => (hmd b hb).1) (fun b hb => (hmd b hb).2))
        have HT : Hid (RowS (Mad m W w4.heap.size w5) w5 3 0 [] none 0) := Lib.hid rowS_nil
        clear hg5 hrow5 hif hc5 hmd HR
        obtain ⟨_, _, _, _, _, _, y0, z1, z2, z3, z4, z5, z6, z7⟩ := HI.out.ss.ls.gs.cells
        clear z1 z2 z3 z4 z5 z6 z7
        have hnx := Lib.hid (ss_next HI.out.ss 2 2 rfl (by omega))
        go_wp2_with fail
        refine hnx.out.mono ?_
        rintro e w6 ⟨r6, rfl, hr0, hss, hc, _⟩
        have hrb := hr0 (by omega)
        replace HRM := Lib.hid (HRM.out.keep (fun b hb => (mad_step HI.out.ss hc b hb).1) (fun b hb => (mad_step HI.out.ss hc b hb).2))
        replace HT := Lib.hid (HT.out.keep (fun b hb => (mad_step HI.out.ss hc b hb).1) (fun b hb => (mad_step HI.out.ss hc b hb).2))
        replace HI := Lib.hid (HI.out.step hss hc)
        clear hnx hr0 hss hc
        clear y0
        have hbl := Lib.hid (ss_block HBc.out HI.out.ss HE.out (z - 1) (1 + (r6 : Int)) (1 + r6) (by have := Hz.out; omega) (by omega) (by omega) Hb0.out (by have := Hln.out; omega))
        go_wp2_with fail
        refine hbl.out.mono ?_
        rintro e w7 ⟨E1, b1, ts, A1, c1, rfl, hlk, hss, hb1, hb2, hl1, hc, hgs, hcn, hrw, _⟩
        have hq := HI.out.lt
        have hqW := HI.out.qW
        replace HRM := Lib.hid (HRM.out.keep (fun b hb => (mad_step HI.out.ss hc b hb).1) (fun b hb => (mad_step HI.out.ss hc b hb).2))
        replace HT := Lib.hid (hrw.keep (G := Mad m W w4.heap.size w7) (fun b hb => ⟨⟨by have := hb.1; omega, hb.2.1, hb.2.2⟩, by have := hb.1; omega⟩) (fun _ _ => rfl))
        replace HI := Lib.hid (HI.out.step hss hc)
        have HLk := Lib.hid hlk
        have HB1 := Lib.hid hb1
        have HB2 := Lib.hid hb2
        have HL1 := Lib.hid hl1
        have HGs := Lib.hid hgs
        have HCn := Lib.hid hcn
        clear hbl hlk hss hb1 hb2 hl1 hc hgs hcn hrw hq hqW hrb
        have e4 := cell_of_row _ _ 4 _ _ _ HI.out.row
        have f4 := codes_frozen HI.out.row 4
        go_upto_region 7 with fail
        have HRW := Lib.hid (HRM.out.keep (fun b hb => (mad_set HI.out 4 (.slice A1 ts.length c1) b hb).1.1) (fun b hb => (mad_set HI.out 4 (.slice A1 ts.length c1) b hb).2))
        have HTW := Lib.hid (HT.out.keep (fun b hb => (mad_set HI.out 4 (.slice A1 ts.length c1) b hb).1.1) (fun b hb => (mad_set HI.out 4 (.slice A1 ts.length c1) b hb).2))
        have hI8 : IfSt W m g l E1 b1 base w4.heap.size #[.int .i64 5, .int .i64 0, .string { data := #[] }, .slice (some ⟨b, 0, none⟩) 1 1, .slice A1 ts.length c1, .slice none 0 0] _ := HI.out.set 4 (.slice A1 ts.length c1)
        replace HI := Lib.hid hI8
        clear e4 f4 hI8 HRM HT
        generalize w7.setCell ⟨w4.heap.size, 4, none⟩ (.slice A1 ts.length c1) = w8 at *
        clear Hss
        have e0 := cell_of_row _ _ 0 _ _ _ HI.out.row
        have e1 := cell_of_row _ _ 1 _ _ _ HI.out.row
        have e2 := cell_of_row _ _ 2 _ _ _ HI.out.row
        have e3 := cell_of_row _ _ 3 _ _ _ HI.out.row
        have e4 := cell_of_row _ _ 4 _ _ _ HI.out.row
        have e5 := cell_of_row _ _ 5 _ _ _ HI.out.row
        have Hss := Lib.hid HI.out.ss
        clear HI
        have HB := Lib.hid (Hss.out.res HW.out Hls.out)
        go_wp2_with (with_reducible refine wpList_pause_store ?_)
        refine Pause.of (wpList_store_new _ rfl _ _ _ rfl w.heap.size _ rfl (by rfl) _ _ HB.out (by kernel_rfl) (by rfl) (by simp [Value.oneCell']) ?_)
        intro w9 hrow hg9
        have k0 := cell_of_row _ _ 0 _ _ _ hrow
        have k1 := cell_of_row _ _ 1 _ _ _ hrow
        have k2 := cell_of_row _ _ 2 _ _ _ hrow
        have k3 := cell_of_row _ _ 3 _ _ _ hrow
        have k4 := cell_of_row _ _ 4 _ _ _ hrow
        have k5 := cell_of_row _ _ 5 _ _ _ hrow
        have Hg9 := Lib.hid hg9
        clear hrow hg9
        have HH : Hid (StmtG m g l E bud base (d' + 1) w _ w9) := Lib.hid (ss_out (x := .mk 5 0 ⟨#[]⟩ [x] ts []) Hss.out HW.out Hls.out HLk.out HB1.out HB2.out HL1.out Hg9.out ⟨rfl, by simpa using HG.out, HGs.out, by simp, .inr (.inr (.inr (.inr (.inl ⟨rfl, rfl, rfl, rfl⟩))))⟩ (by have := HCn.out; have := (cK_le 5 [x]).2; simp only [cntS, List.map_nil, List.sum_nil]; omega) ⟨_, _, _, _, _, _, rfl, HRW.out, HTW.out, rowS_nil⟩)
        go_wp2_with fail
        refine bodyPost_ret ?_ rfl HH.out
        simp [results, Tryz.results59, go_sem, k0, k1, k2, k3, k4, k5]
      · have h7 : ((rn : Int) == 7) = false := by simp; omega
        go_wp2_with (with_reducible refine wpList_pause_store ?_)
        refine Pause.of (wpList_store_new _ rfl _ _ _ rfl wn.heap.size _ rfl (by rfl) _ _ (heap_alloc_new wn _) (by kernel_rfl) (by rfl) (by simp [Value.oneCell']) ?_)
        intro w5 hrow5 hg5
        have hR5 := r9_start Hss.out hg5 hrow5
        have h85 := hR5.q85
        have hR0 := hR5.drew
        have hS0 := s9_of hR0
        clear hg5 hrow5
        go_upto_region 9 with fail
        dsimp only [Act.put]
        go_cut [9] from 10 (fun v wd => LoMid W m g l E bud base wn.heap.size s v wd)
        case first =>
          rename_i hJ hK
          have HS0 := Lib.hid hS0
          have hne5 : w5.heap.size ≠ g := by have := Hss.out.gW; have := hR5.ss.chg.size; omega
          clear hS0
          go_region_held3 (fun w' => w'.cell? ⟨wn.heap.size, 0, none⟩ = some (.int .i64 13) ∧ w'.cell? ⟨wn.heap.size, 1, none⟩ = some (.int .i64 0) ∧ w'.cell? ⟨wn.heap.size, 2, none⟩ = some (.int .i64 0) ∧ w'.cell? ⟨wn.heap.size, 3, none⟩ = some (.int .i64 0) ∧ w'.cell? ⟨wn.heap.size, 4, none⟩ = some (.string s) ∧ w'.cell? ⟨wn.heap.size, 5, none⟩ = some (.slice none 0 0) ∧ w'.cell? ⟨m, 0, none⟩ = some (.pointer (some ⟨g, 0, none⟩)) ∧ R9 W m g l E bud base wn.heap.size s w5 w')
            (first | (with_reducible exact HS0.out) | ((with_reducible refine s9_of ?_); (repeat (first | (with_reducible assumption) | (with_reducible refine R9.alloc ?_ _) | (with_reducible refine R9.drew ?_))); done) | ((with_reducible refine s9_of (R9.set6 ?_ ?_)); (repeat (first | (with_reducible assumption) | (with_reducible refine R9.alloc ?_ _))); (have := hR2.sz; have := hR3.sz; have := hR4.sz; omega)))
            (first | (go_at_call 20; (with_reducible refine (r9_next (W := W) (m := m) (g := g) (base := base) (l := l) (E := E) (bud := bud) (w5 := w5) (q8 := wn.heap.size) (s := s) ?_ 5 5 rfl (by omega) (by omega)).mono ?_); (repeat (first | (with_reducible assumption) | (with_reducible refine R9.alloc ?_ _) | (with_reducible refine R9.drew ?_))); rintro e w2 ⟨r5, rfl, hr5, hR2, hg2⟩; (try (have hz2 : w2.heap[w5.heap.size]? = some (.cells #[.int .i64 0, .int .i64 0, .string { data := #[] }, .slice none 0 0, .slice none 0 0, .slice none 0 0] 84 (0, 0)) := by with_reducible exact blk_keep hg2 hne5 (new_at rfl)))) | (go_at_call 74; (with_reducible refine (node9 (W := W) (m := m) (g := g) (base := base) (l := l) (E := E) (bud := bud) (w5 := w5) (q8 := wn.heap.size) (s := s) (row := #[.int .i64 13, .int .i64 0, .int .i64 0, .int .i64 0, .string s, .slice none 0 0, .int .i64 1, .int .i64 0, .int .i64 (IntKind.i64.wrap (1 + (r5 : Int))), .int .i64 0, .string { data := #[] }, .slice none 0 0]) (t := 90) 6 8 ?_ ?_).mono ?_); (repeat (first | (with_reducible assumption) | (with_reducible refine R9.alloc ?_ _) | (with_reducible refine R9.drew ?_))); (first | (with_reducible exact new_at rfl) | (with_reducible exact alloc_keep (new_at rfl)) | (with_reducible exact new_at (by simp)) | (with_reducible exact alloc_keep (new_at (by simp)))); rintro e w3 ⟨rfl, hR3, ha2, hb3⟩; (try (have hz3 : w3.heap[w5.heap.size]? = some (.cells #[.int .i64 0, .int .i64 0, .string { data := #[] }, .slice none 0 0, .slice none 0 0, .slice none 0 0] 84 (0, 0)) := by with_reducible exact below_keep hb3 (alloc_keep hz2))); (try (have hz3 : w3.heap[w2.heap.size]? = some (.cells #[.int .i64 0, .int .i64 0, .string { data := #[] }, .slice none 0 0, .slice none 0 0, .slice none 0 0] 84 (0, 0)) := by with_reducible exact below_keep hb3 (alloc_keep (new_at rfl)))); (try (have hz3 : w3.heap[w2.heap.size + 1]? = some (.cells #[.int .i64 0, .int .i64 0, .string { data := #[] }, .slice none 0 0, .slice none 0 0, .slice none 0 0] 84 (0, 0)) := by with_reducible exact below_keep hb3 (new_at (by simp))))) | (go_at_call 56; (with_reducible refine (one9 (W := W) (m := m) (g := g) (base := base) (l := l) (E := E) (bud := bud) (w5 := w5) (q8 := wn.heap.size) (s := s) (row := #[.int .i64 13, .int .i64 0, .int .i64 0, .int .i64 0, .string s, .slice none 0 0, .int .i64 1, .int .i64 0, .int .i64 (IntKind.i64.wrap (1 + (r5 : Int))), .int .i64 0, .string { data := #[] }, .slice none 0 0]) (t := 90) 5 ⟨#[]⟩ 6 8 ?_ ?_).mono ?_); (repeat (first | (with_reducible assumption) | (with_reducible refine R9.alloc ?_ _) | (with_reducible refine R9.drew ?_))); (try (first | (with_reducible exact ha2) | (with_reducible exact alloc_keep ha2))); rintro e w4 ⟨b, rfl, hb1, hrb, hR4, ha4, hb4⟩; (try (have hz4 := below_keep hb4 hz3; clear hz3; have kk0 := cell_of_row _ _ 0 _ _ _ hz4; have kk1 := cell_of_row _ _ 1 _ _ _ hz4; have kk2 := cell_of_row _ _ 2 _ _ _ hz4; have kk3 := cell_of_row _ _ 3 _ _ _ hz4; have kk4 := cell_of_row _ _ 4 _ _ _ hz4; have kk5 := cell_of_row _ _ 5 _ _ _ hz4; have kf0 := codes_frozen hz4 0; have kf1 := codes_frozen hz4 1; have kf2 := codes_frozen hz4 2; have kf3 := codes_frozen hz4 3; have kf4 := codes_frozen hz4 4; have kf5 := codes_frozen hz4 5)); (try (have hz4 : w4.heap[w3.heap.size]? = some (.cells #[.int .i64 0, .int .i64 0, .string { data := #[] }, .slice none 0 0, .slice none 0 0, .slice none 0 0] 84 (0, 0)) := (by with_reducible exact below_keep hb4 (new_at rfl)); have kk0 := cell_of_row _ _ 0 _ _ _ hz4; have kk1 := cell_of_row _ _ 1 _ _ _ hz4; have kk2 := cell_of_row _ _ 2 _ _ _ hz4; have kk3 := cell_of_row _ _ 3 _ _ _ hz4; have kk4 := cell_of_row _ _ 4 _ _ _ hz4; have kk5 := cell_of_row _ _ 5 _ _ _ hz4; have kf0 := codes_frozen hz4 0; have kf1 := codes_frozen hz4 1; have kf2 := codes_frozen hz4 2; have kf3 := codes_frozen hz4 3; have kf4 := codes_frozen hz4 4; have kf5 := codes_frozen hz4 5))))
          · have ha : IntKind.i64.wrap (1 + (r5 : Int)) = 1 + (r5 : Int) := lo_wrap hr5
            have hres := loMid_new (a := IntKind.i64.wrap (1 + (r5 : Int))) hR4 HS.out (by rw [ha]; omega) ha4 (by have := hR2.sz; omega) hrb (by have := hR3.sz; omega)
            have HRES := Lib.hid hres
            clear hres ha hR4 hR3 hR2 ha4 hrb hb1 hb4 hb3 hg2
            dsimp only [Exit.then]
            refine hK _ _ (Met.intro (hJ _ _ ?_))
            (repeat apply Exists.intro)
            refine ⟨?rel, rfl⟩
            case rel => exact HRES.out
          all_goals
            have ha : IntKind.i64.wrap (1 + (r5 : Int)) = 1 + (r5 : Int) := lo_wrap hr5
            have hres := loMid_of (a := IntKind.i64.wrap (1 + (r5 : Int))) hR4 HS.out (by rw [ha]; omega) ha4 (by have := hR2.sz; omega) hrb (by have := hR3.sz; (try simp at hb1); omega) hz4 (by have := hR2.sz; have := hR3.sz; omega)
            have HRES := Lib.hid hres
            clear hres ha hR4 hR3 hR2 ha4 hrb hb1 hb4 hb3 hg2
            dsimp only [Exit.then]
            refine hK _ _ (Met.intro (hJ _ _ ?_))
            (repeat apply Exists.intro)
            refine ⟨?rel, rfl⟩
            case rel => exact HRES.out
        case rest =>
          clear hS0 hR0 hR5
          obtain ⟨q, b, cnd, rfl, hif, hrow, hge, h8, h8q, h8W, h8l⟩ := hcut
          have HO := Lib.hid (O8.mk h8 h8W h8l)
          have HI := Lib.hid hif
          have HG := Lib.hid hge
          have HRM := Lib.hid hrow
          obtain ⟨_, _, _, _, _, _, y0, z1, z2, z3, z4, z5, z6, z7⟩ := hif.ss.ls.gs.cells
          clear z1 z2 z3 z4 z5 z6 z7 h8 h8W h8l hif hge hrow
          have hnx := Lib.hid (ss_next HI.out.ss 3 3 rfl (by omega))
          go_wp2_with fail
          refine hnx.out.mono ?_
          rintro e w6 ⟨r6, rfl, hr0, hss, hc, _⟩
          have hrb := hr0 (by omega)
          replace HRM : Hid (RowE (Low6 m W q w6.heap.size w6) w6 3 [cnd] (some ⟨b, 0, none⟩) 1) := Lib.hid (HRM.out.keep (fun b hb => ⟨(mad_step HI.out.ss hc b hb).1, (mad_step HI.out.ss hc b hb).1.1.2.1⟩) (fun b hb => (mad_step HI.out.ss hc b hb).2))
          replace HO := Lib.hid (HO.out.step HI.out.ss hc)
          replace HI := Lib.hid (HI.out.step hss hc)
          clear hnx hr0 hss hc y0
          have hbl := Lib.hid (ss_block HBc.out HI.out.ss HE.out (z - 1) (r6 : Int) r6 (by have := Hz.out; omega) rfl (by omega) Hb0.out (by have := Hln.out; omega))
          go_wp2_with fail
          refine hbl.out.mono ?_
          rintro e w7 ⟨E1, b1, ts, A1, c1, rfl, hlk, hss, hb1, hb2, hl1, hc, hgs, hcn, _, htl, L, hst⟩
          have hq6 := HI.out.lt
          have h67 := hc.size
          have h6W := HI.out.qW
          replace HRM := Lib.hid (HRM.out.keep (fun b hb => (⟨(mad_step HI.out.ss hc b hb.1).1, hb.2⟩ : Low6 m W q w6.heap.size w7 b)) (fun b hb => (mad_step HI.out.ss hc b hb.1).2))
          replace HO := Lib.hid (HO.out.step HI.out.ss hc)
          replace HI := Lib.hid (HI.out.step hss hc)
          have HQ : Hid (E.Like E1 ∧ 0 ≤ b1 ∧ b1 ≤ bud ∧ (E1.locals.length : Int) + b1 ≤ 1000 ∧ (∀ t ∈ ts, GSt (d' + 1) t) ∧ ((ts.map (cntS (d' + 1))).sum : Int) ≤ 11 * (bud - b1)) := Lib.hid ⟨hlk, hb1, hb2, hl1, hgs, hcn⟩
          have HST := Lib.hid hst
          clear hbl hlk hss hb1 hb2 hl1 hc hgs hcn hst hrb Hss
          have e4 := cell_of_row _ _ 4 _ _ _ HI.out.row
          have f4 := codes_frozen HI.out.row 4
          go_upto_region 11 with fail
          have hsg := set_grown w7 ⟨q, 4, none⟩ (.slice A1 ts.length c1)
          replace HRM := Lib.hid (HRM.out.keep (fun b hb => (⟨(mad_set HI.out 4 (.slice A1 ts.length c1) b hb.1).1, hb.2⟩ : Low6 m W q w6.heap.size (w7.setCell ⟨q, 4, none⟩ (.slice A1 ts.length c1)) b)) (fun b hb => (mad_set HI.out 4 (.slice A1 ts.length c1) b hb.1).2))
          replace HO := Lib.hid (HO.out.set hsg h8q (lb_set HI.out (.slice A1 ts.length c1)))
          replace HST := Lib.hid (HST.out.set hsg hq6 (lb_set HI.out (.slice A1 ts.length c1)))
          have hI8 : IfSt W m g l E1 b1 base q #[.int .i64 5, .int .i64 0, .string { data := #[] }, .slice (some ⟨b, 0, none⟩) 1 1, .slice A1 ts.length c1, .slice none 0 0] _ := HI.out.set 4 (.slice A1 ts.length c1)
          have h78 := hsg.size
          replace HI := Lib.hid hI8
          clear e4 f4 hI8 hsg
          generalize w7.setCell ⟨q, 4, none⟩ (.slice A1 ts.length c1) = w8 at *
          have e4 := cell_of_row _ _ 4 _ _ _ HI.out.row
          have x0 := cell_of_row _ _ 0 _ _ _ HO.out.row
          have x1 := cell_of_row _ _ 1 _ _ _ HO.out.row
          have x2 := cell_of_row _ _ 2 _ _ _ HO.out.row
          have x3 := cell_of_row _ _ 3 _ _ _ HO.out.row
          have x4 := cell_of_row _ _ 4 _ _ _ HO.out.row
          have x5 := cell_of_row _ _ 5 _ _ _ HO.out.row
          have hm6 : m < w6.heap.size := by have := HI.out.ss.mW; omega
          have hg6 : g < w6.heap.size := by omega
          have hOwn : ∀ b, (Value.slice A1 ts.length c1).ownBlock = some b → w6.heap.size ≤ b ∧ b < w8.heap.size := fun b hb => HST.out.own.lt b hb
          have HOwn := Lib.hid hOwn
          have hdr := (Below.refl w8.heap.size w8).drew
          have e4a := hold ((Below.refl _ w8).alloc (Nat.le_refl _) (.cells #[.int .i64 13, .int .i64 0, .int .i64 0, .int .i64 0, .string s, .slice none 0 0, .int .i64 1, .int .i64 0, .int .i64 1, .int .i64 0, .string { data := #[] }, .slice none 0 0] 90)) e4
          clear hOwn
          go_region_law (first | ((with_reducible refine step_append_st w4 rfl (.tmp 94) (.tmp 101) rfl m w6.heap.size 3 (d' + 1) (.slice A1 ts.length c1) ts L (.mk 2 0 s [.mk 6 3 0 0 ⟨#[]⟩ [.mk 13 0 0 0 s [], .mk 1 0 1 0 ⟨#[]⟩ []]] [] []) 2 0 s (some ⟨b2, 0, none⟩) none none 1 1 0 0 0 0 (fun b => w8.heap.size ≤ b ∧ b < w4.heap.size) rfl rfl HST4.out (by omega) (by omega) hm6 (fun b hb => (HI4.out.ss.ls.lbl b hb).2) HY HF ?_); intro g9 cap9 wx hst9 hg9; have hax := HI4.out.app hq6 (fun b hb => ⟨(HOwn.out b hb).1, HST4.out.sep b hb⟩) hg9; have HAX := Lib.hid hax; have HST9 := Lib.hid hst9; have ex4 := cell_of_row _ _ 4 _ _ _ hax.1.row; have fx4 := codes_frozen hax.1.row 4; clear hst9 hg9 hax) | (go_simp; go_at_call 74; (with_reducible refine (node_any 6 3 (some ⟨w8.heap.size, 0, none⟩) 2 2 _).mono ?_); rintro e w3 ⟨rfl, hb3⟩; have hw3 := below_next (hdr.alloc (Nat.le_refl _) _) hb3; have ha3 : w3.heap[w8.heap.size]? = some (.cells #[.int .i64 13, .int .i64 0, .int .i64 0, .int .i64 0, .string s, .slice none 0 0, .int .i64 1, .int .i64 0, .int .i64 1, .int .i64 0, .string { data := #[] }, .slice none 0 0] 90 (0, 0)) := (by with_reducible exact below_keep hb3 (new_at rfl)); have e43 := hold hw3 e4; dsimp only) | (go_simp; go_at_call 56; (with_reducible refine (one_any 2 s 6 3 0 0 ⟨#[]⟩ (some ⟨w8.heap.size, 0, none⟩) 2 2 _).mono ?_); rintro e w4 ⟨b2, hb21, hb22, rfl, hrb, hb4⟩; have hw4 := below_next hw3 hb4; have ha4 := below_keep hb4 ha3; have e44 := hold hw4 e4; have e44a := hold ((Below.refl _ w4).alloc (Nat.le_refl _) (.cells #[.int .i64 2, .int .i64 0, .string s, .slice (some ⟨b2, 0, none⟩) 1 1, .slice none 0 0, .slice none 0 0] 84)) e44; have hch := HI.out.ss.below hw4; have HST4 := Lib.hid (HST.out.chg hch.2 hm6 hg6); have HI4 := Lib.hid (HI.out.step hch.1 hch.2); have h84 := hw4.size; have HY := lo_asg (d := d') hw3.size ha4 hrb hb21 hb22; have HF := lo_far HOwn.out HI.out.ss hw4 (Nat.le_trans h67 h78); clear hch; dsimp only))
          all_goals
            have hw4c := (HI.out.ss.below hw4).2
            have hq7 := HI.out.qW
            have hR4 : RowE (Low6 m W q w6.heap.size w4) w4 3 [cnd] (some ⟨b, 0, none⟩) 1 := HRM.out.keep (fun b hb => ⟨(mad_step HI.out.ss hw4c b hb.1).1, hb.2⟩) (fun b hb => (mad_step HI.out.ss hw4c b hb.1).2)
            have hRx : RowE (Low6 m W q w6.heap.size wx) wx 3 [cnd] (some ⟨b, 0, none⟩) 1 := hR4.keep (fun b hb => (HAX.out.2.2 b hb).1) (fun b hb => (HAX.out.2.2 b hb).2)
            have hRy : RowE (Made m W (wx.setCell ⟨q, 4, none⟩ (.slice (some ⟨g9, 0, none⟩) (ts.length + 1) cap9))) (wx.setCell ⟨q, 4, none⟩ (.slice (some ⟨g9, 0, none⟩) (ts.length + 1) cap9)) 3 [cnd] (some ⟨b, 0, none⟩) 1 := hRx.keep (fun b hb => (mad_set HAX.out.1 4 (.slice (some ⟨g9, 0, none⟩) (ts.length + 1) cap9) b hb.1).1.1) (fun b hb => (mad_set HAX.out.1 4 (.slice (some ⟨g9, 0, none⟩) (ts.length + 1) cap9) b hb.1).2)
            have hIy : IfSt W m g l E1 b1 base q #[.int .i64 5, .int .i64 0, .string { data := #[] }, .slice (some ⟨b, 0, none⟩) 1 1, (.slice (some ⟨g9, 0, none⟩) (ts.length + 1) cap9), .slice none 0 0] (wx.setCell ⟨q, 4, none⟩ (.slice (some ⟨g9, 0, none⟩) (ts.length + 1) cap9)) := HAX.out.1.set 4 (.slice (some ⟨g9, 0, none⟩) (ts.length + 1) cap9)
            have hSy := (HST9.out.set (set_grown wx ⟨q, 4, none⟩ (.slice (some ⟨g9, 0, none⟩) (ts.length + 1) cap9)) hq6 (lb_set HAX.out.1 (.slice (some ⟨g9, 0, none⟩) (ts.length + 1) cap9))).row.2
            generalize wx.setCell ⟨q, 4, none⟩ (.slice (some ⟨g9, 0, none⟩) (ts.length + 1) cap9) = wy at *
            have HRW := Lib.hid hRy
            have HI9 := Lib.hid hIy
            have HTW : Hid (RowS (Made m W wy) wy 3 (d' + 1) (ts ++ [(.mk 2 0 s [.mk 6 3 0 0 ⟨#[]⟩ [.mk 13 0 0 0 s [], .mk 1 0 1 0 ⟨#[]⟩ []]] [] [])]) (some ⟨g9, 0, none⟩) cap9) := Lib.hid (hSy.keep (fun b hb => ⟨by have := hb.1; omega, hb.2.1, hb.2.2⟩) (fun _ _ => rfl))
            clear hw4c hR4 hRx hRy hIy hSy HRM HI HI4 HAX HST9 HST HY HF hw4 hw3 ha3 ha4 hb3 hb4 hrb e4 e4a e43 e44 e44a ex4 fx4 x0 x1 x2 x3 x4 x5 HST4 HO HOwn hdr hb21 hb22 h84
            have HI := HI9
            have e0 := cell_of_row _ _ 0 _ _ _ HI.out.row
            have e1 := cell_of_row _ _ 1 _ _ _ HI.out.row
            have e2 := cell_of_row _ _ 2 _ _ _ HI.out.row
            have e3 := cell_of_row _ _ 3 _ _ _ HI.out.row
            have e4 := cell_of_row _ _ 4 _ _ _ HI.out.row
            have e5 := cell_of_row _ _ 5 _ _ _ HI.out.row
            have Hss := Lib.hid HI.out.ss
            clear HI HI9
            have HB := Lib.hid (Hss.out.res HW.out Hls.out)
            go_wp2_with (with_reducible refine wpList_pause_store ?_)
            refine Pause.of (wpList_store_new _ rfl _ _ _ rfl w.heap.size _ rfl (by rfl) _ _ HB.out (by kernel_rfl) (by rfl) (by simp [Value.oneCell']) ?_)
            intro w9 hrow hg9
            have k0 := cell_of_row _ _ 0 _ _ _ hrow
            have k1 := cell_of_row _ _ 1 _ _ _ hrow
            have k2 := cell_of_row _ _ 2 _ _ _ hrow
            have k3 := cell_of_row _ _ 3 _ _ _ hrow
            have k4 := cell_of_row _ _ 4 _ _ _ hrow
            have k5 := cell_of_row _ _ 5 _ _ _ hrow
            have Hg9 := Lib.hid hg9
            clear hrow hg9
            have HH : Hid (StmtG m g l E bud base (d' + 1) w (.returned (.agg #[.int .i64 5, .int .i64 0, .string ⟨#[]⟩, .slice (some ⟨b, 0, none⟩) 1 1, .slice (some ⟨g9, 0, none⟩) (ts.length + 1) cap9, .slice none 0 0])) w9) := Lib.hid (lo_out Hss.out HW.out Hls.out HQ.out.1 HQ.out.2.1 HQ.out.2.2.1 HQ.out.2.2.2.1 Hg9.out HG.out HS.out HQ.out.2.2.2.2.1 HQ.out.2.2.2.2.2 HRW.out HTW.out)
            go_wp2_with fail
            refine bodyPost_ret ?_ rfl HH.out
            simp [results, Tryz.results59, go_sem, k0, k1, k2, k3, k4, k5]
end Go.Proofs.YtifabkoomojklaaGreatDoor
