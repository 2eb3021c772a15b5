/-
  The walks of the reference reader's compare and unary, given the walks of their operands. No condition.
-/
import Derived.Test.YtmpnkbhlagalkaaGreatDoorRpLev2
namespace Go.Proofs.YtmpnkbhlagalkaaGreatDoor
open Go.RowKit

/-- What operator has found ahead of an operand. -/
theorem un_yes {s s1 : RS} {o ln : Nat} (h : (∃ (i : Nat) (t : Bytes), ([[45], [33]] : List Bytes)[i]? = some t ∧ isR t s = true ∧ ([1, 2] : List Nat)[i]? = some o ∧ ln = (hdR s).line ∧ s1 = popR s) ∨ (seesR [[45], [33]] s = false ∧ o = 0 ∧ ln = 0 ∧ s1 = s)) (hs : seesR [[45], [33]] s = true) :
    ln = (hdR s).line ∧ s1 = popR s ∧ 0 < o ∧ (∃ t, isR t s = true) ∧ (o : Int) = unO (hdR s).text := by
  rcases h with ⟨i, t, hi, ht, ho, rfl, rfl⟩ | ⟨h, _⟩
  · match i, hi, ho with
    | 0, hi, ho => cases hi; cases ho; exact ⟨rfl, rfl, by decide, ⟨_, ht⟩, by rw [isR_text ht]; rfl⟩
    | 1, hi, ho => cases hi; cases ho; exact ⟨rfl, rfl, by decide, ⟨_, ht⟩, by rw [isR_text ht]; rfl⟩
    | n + 2, hi, _ => simp at hi
  · rw [hs] at h; cases h
/-- A sign's node, stored in the result's block. -/
theorem un_endR {p tb d : Nat} {s s2 : RS} {y : Ex} {k o l : Int} {nm : ByteArray} {w w4 w5 w9 : World} {k5 o5 a5 l5 : Int} {t5 : ByteArray} {A5 : Option Addr} {n5 c5 : Nat} {t : TypeId} (hv : ExV (fun q => w4.heap.size ≤ q ∧ q < w5.heap.size) w5 d y (.agg #[.int .i64 k5, .int .i64 o5, .int .i64 a5, .int .i64 l5, .string t5, .slice A5 n5 c5])) (h4 : w.heap.size < w4.heap.size) (h45 : w4.heap.size ≤ w5.heap.size) (h5 : RA w5 p tb s2) (hg : w.grownBy w5 (some p)) (hl : s2.rest.length ≤ s.rest.length) (hp : p < w.heap.size) (ht : tb < w.heap.size)
    (hg9 : (w5.alloc (.cells #[.int .i64 k5, .int .i64 o5, .int .i64 a5, .int .i64 l5, .string t5, .slice A5 n5 c5] t)).grownBy w9 (some w.heap.size)) :
    XRG p tb (.mk k o 0 l nm [y]) s s2 w (.returned (.agg #[.int .i64 k, .int .i64 o, .int .i64 0, .int .i64 l, .string nm, .slice (some ⟨w5.heap.size, 0, none⟩) 1 1])) w9 := by
  have hb := (Below.refl _ w5).alloc (Nat.le_refl _) (.cells #[.int .i64 k5, .int .i64 o5, .int .i64 a5, .int .i64 l5, .string t5, .slice A5 n5 c5] t)
  have hs5 := hg.size
  have hs9 := hg9.size
  simp at hs9
  have hr := blk_keep hg9 (by omega) (heap_alloc_new w5 (.cells #[.int .i64 k5, .int .i64 o5, .int .i64 a5, .int .i64 l5, .string t5, .slice A5 n5 c5] t))
  have hgw := (hg.trans (grown_of_below hb (some p)))
  refine ⟨d + 1, k, o, 0, l, nm, _, _, _, rfl, ⟨_, _, rfl, row_one hv (fun q hq => ⟨by omega, by omega⟩) (fun q hq => ?_) ⟨by omega, by omega⟩ hr⟩, (h5.below hb).other hg9 (by omega) (by omega), grown_new hgw hg9 (Nat.le_refl _), hl⟩
  exact (hg9.block q (by simp; omega) (fun e => by injection e with e; omega)).trans (hb.block q hq.2)
set_option maxRecDepth 100000 in
set_option maxHeartbeats 4000000 in
theorem compare_onceR (P : R1) (hsub : SubR 70 P) : SubR 56 (onceR P [[60], [60, 61], [61, 61], [33, 61]]) := by
  intro p tb s s' x w h hP
  obtain ⟨x1, s1, hp1, hcmp⟩ : ∃ x1 s1, P s = some (x1, s1) ∧ ((seesR [[60], [60, 61], [61, 61], [33, 61]] s1 = true ∧ ∃ y s2, P (popR s1) = some (y, s2) ∧ x = binP (hdR s1) x1 y ∧ s' = s2) ∨ (seesR [[60], [60, 61], [61, 61], [33, 61]] s1 = false ∧ x = x1 ∧ s' = s1)) := by
    unfold onceR at hP
    cases hp : P s with
    | none => rw [hp] at hP; cases hP
    | some q =>
      obtain ⟨x1, s1⟩ := q
      rw [hp] at hP
      refine ⟨x1, s1, rfl, ?_⟩
      cases hs : seesR [[60], [60, 61], [61, 61], [33, 61]] s1 with
      | true =>
        simp only [hs, if_true] at hP
        cases hp2 : P (popR s1) with
        | none => rw [hp2] at hP; cases hP
        | some q2 =>
          obtain ⟨y, s2⟩ := q2
          rw [hp2] at hP
          injection hP with hP
          injection hP with e1 e2
          exact .inl ⟨rfl, y, s2, rfl, e1.symm, e2.symm⟩
      | false =>
        simp only [hs, if_false, Bool.false_eq_true] at hP
        injection hP with hP
        injection hP with e1 e2
        exact .inr ⟨rfl, e1.symm, e2.symm⟩
  have HS := Lib.hid hsub
  have H1 := Lib.hid (hsub p tb s s1 x1 (w.alloc zeroE) (h.alloc _) hp1)
  have HC0 := Lib.hid hcmp
  have plt := h.lt.1
  have tlt := h.lt.2.1
  unfold zeroE at H1
  clear hsub hP hp1 hcmp h
  go_enter Tryz.func56, Tryz.ntmps56
  go_wp2_with fail
  refine H1.out.mono ?_
  rintro e w1 ⟨d1, k1, o1, a1, l1, t1, A1, n2, c1, rfl, hv1, hp1, hg1, hl1⟩
  obtain ⟨n, xx, ss, hlp, hx, hp, hg, hz, hl⟩ := lev_start (P := fun _ => none) (l := []) (n := 1) (s' := s1) rfl plt hv1 hp1 hg1 hl1
  obtain ⟨rfl, rfl⟩ := loopR_no hlp rfl
  have hsz1 : w.heap.size + 1 ≤ w1.heap.size := by have := hg1.size; simpa using this
  clear H1 hlp hv1 hp1 hg1 hl1
  have hW : (w1.alloc (.cells #[.int .i64 k1, .int .i64 o1, .int .i64 a1, .int .i64 l1, .string t1, .slice A1 n2 c1] 30)).heap.size = w1.heap.size + 1 := by simp
  have hb2 := ((Below.refl _ (w1.alloc (.cells #[.int .i64 k1, .int .i64 o1, .int .i64 a1, .int .i64 l1, .string t1, .slice A1 n2 c1] 30))).alloc (Nat.le_refl _) (.cells #[.string ⟨#[60]⟩, .string ⟨#[60, 61]⟩, .string ⟨#[61, 61]⟩, .string ⟨#[33, 61]⟩] 9)).alloc (by simp) (.cells #[.int .i64 8, .int .i64 9, .int .i64 10, .int .i64 11] 3)
  have htr := trow_at (w1.alloc (.cells #[.int .i64 k1, .int .i64 o1, .int .i64 a1, .int .i64 l1, .string t1, .slice A1 n2 c1] 30)) [[60], [60, 61], [61, 61], [33, 61]] 9 (.cells #[.int .i64 8, .int .i64 9, .int .i64 10, .int .i64 11] 3)
  have hir := irow_at (w1.alloc (.cells #[.int .i64 k1, .int .i64 o1, .int .i64 a1, .int .i64 l1, .string t1, .slice A1 n2 c1] 30)) [8, 9, 10, 11] 3 (.cells #[.string ⟨#[60]⟩, .string ⟨#[60, 61]⟩, .string ⟨#[61, 61]⟩, .string ⟨#[33, 61]⟩] 9)
  rw [hW] at htr hir
  have HOP := Lib.hid (operator_r [[60], [60, 61], [61, 61], [33, 61]] [8, 9, 10, 11] 4 (w1.heap.size + 1) (w1.heap.size + 1 + 1) 4 4 _ (hp.below hb2) rfl rfl (by omega) (Nat.le_refl _) (Nat.le_refl _) htr hir (by have := hp.lt.1; omega))
  have HX2 := Lib.hid (hx.below hb2)
  have HG2 := Lib.hid (hg.trans (grown_of_below hb2 _))
  have HZ2 := Lib.hid ((hb2.block _ (Array.getElem?_eq_some_iff.1 hz).1).trans hz)
  have Hl := Lib.hid hl
  have HW := Lib.hid hp.wf
  clear hx hp hg hz hl hb2 hW htr hir
  obtain ⟨xb, hxb⟩ : ∃ xb, xb = w1.heap.size := ⟨_, rfl⟩
  rw [← hxb] at HX2 hsz1
  go_wp2_with fail
  refine HOP.out.mono ?_
  rintro e w4 ⟨o, ln, sq, rfl, hp4, hg4, hcase⟩
  have HX4 := Lib.hid (HX2.out.grown hg4 (by omega))
  have HG4 := Lib.hid (HG2.out.trans hg4)
  have HZ4 := Lib.hid (blk_keep hg4 (by omega) HZ2.out)
  rw [← hxb]
  clear hg4 HOP HX2 HG2 HZ2 hxb
  rcases HC0.out with ⟨hs, y, s2, hsubp, rfl, rfl⟩ | ⟨hs, rfl, rfl⟩
  · obtain ⟨rfl, rfl, ho, ⟨tt, htt⟩, hbin⟩ := op_yes ops_compare hcase hs
    have HSP := Lib.hid hsubp
    have HBin := Lib.hid hbin
    have HP4 := Lib.hid hp4
    have H2 := Lib.hid (isR_two HW.out htt)
    have ho0 : 0 < (o : Int) := by omega
    have hsz4 := HG4.out.size
    clear hsubp hs hcase hbin hp4 htt HC0
    go_upto_region 4 with fail
    clear ho0
    obtain ⟨hxlo, dx, kx, ox, ax, lx, tx, Ax, nx, cx, rx, vx⟩ := HX4.out
    have xlt := (Array.getElem?_eq_some_iff.1 rx).1
    have a0 := cell_of_row _ _ 0 _ _ _ rx
    have a1 := cell_of_row _ _ 1 _ _ _ rx
    have a2 := cell_of_row _ _ 2 _ _ _ rx
    have a3 := cell_of_row _ _ 3 _ _ _ rx
    have a4 := cell_of_row _ _ 4 _ _ _ rx
    have a5 := cell_of_row _ _ 5 _ _ _ rx
    have RX := Lib.hid rx
    have VX := Lib.hid vx
    have HC := Lib.hid (HS.out p tb (popR s1) s' y w4.drew HP4.out.drew HSP.out)
    clear rx vx HX4
    go_region_with
      (first
        | (go_at_call 70; (with_reducible refine HC.out.mono ?_); rintro e w5 ⟨d5, k5, o5, a5', l5, t5, A5, n5, c5, rfl, hv5, hp5, hg5, hl5⟩; have hg5' := (grown_drew0 hg5); have rx5 := (blk_keep hg5' (by omega) RX.out); have b0 := (cell_of_row _ _ 0 _ _ _ rx5); have b1 := (cell_of_row _ _ 1 _ _ _ rx5); have b2 := (cell_of_row _ _ 2 _ _ _ rx5); have b3 := (cell_of_row _ _ 3 _ _ _ rx5); have b4 := (cell_of_row _ _ 4 _ _ _ rx5); have b5 := (cell_of_row _ _ 5 _ _ _ rx5); have HTW := Lib.hid (two_r (F := (fun q => w.heap.size + 1 ≤ q ∧ q < w5.heap.size ∧ q ≠ xb)) 6 (o : Int) ((hdR s1).line : Int) w5 (fun q hq => hq.2.1) (lev_x VX.out hg5' (by omega)) (lev_y hv5 (show w.heap.size + 1 ≤ w4.heap.size by omega) xlt)); have HP5 := Lib.hid hp5; have HG5 := Lib.hid (HG4.out.trans hg5'); have HZ5 := Lib.hid (blk_keep hg5' (by omega) HZ4.out); have Hl5 := Lib.hid hl5; have hszx : xb < w5.heap.size := Nat.lt_of_lt_of_le xlt hg5'.size; clear hg5 hg5' rx5 hv5 hp5 hl5)
        | (go_at_call 36; (with_reducible refine HTW.out.mono ?_); rintro e w6 ⟨d6, bb, rfl, hv6, hb6⟩; have rx6 := ((hb6.block _ (by omega)).trans HZ5.out); have g0 := (rp_fz rx6 0); have g1 := (rp_fz rx6 1); have g2 := (rp_fz rx6 2); have g3 := (rp_fz rx6 3); have g4 := (rp_fz rx6 4); have g5 := (rp_fz rx6 5); have q0 := (cell_of_row _ _ 0 _ _ _ rx6); have q1 := (cell_of_row _ _ 1 _ _ _ rx6); have q2 := (cell_of_row _ _ 2 _ _ _ rx6); have q3 := (cell_of_row _ _ 3 _ _ _ rx6); have q4 := (cell_of_row _ _ 4 _ _ _ rx6); have q5 := (cell_of_row _ _ 5 _ _ _ rx6); have RX6 := Lib.hid rx6; have HV6 := Lib.hid hv6; have HB6 := Lib.hid hb6; clear rx6 hv6 hb6))
    all_goals
      have h6 := row_set6 (.int .i64 6) (.int .i64 (o : Int)) (.int .i64 0) (.int .i64 ((hdR s1).line : Int)) (.string ⟨#[]⟩) (.slice (some ⟨bb, 0, none⟩) 2 2) RX6.out
      have hlen := Hl5.out
      rw [popR_len] at hlen
      have h2q := H2.out
      have hE := lev_end (s := s) (lev_two HV6.out HB6.out.size hszx (by omega)) (HP5.out.below HB6.out) (HG5.out.trans (grown_of_below HB6.out _)) (by have := Hl.out; omega) plt tlt h6.2
      rw [← HBin.out] at hE
      have HE := Lib.hid hE
      have j0 := cell_of_row _ _ 0 _ _ _ h6.1
      have j1 := cell_of_row _ _ 1 _ _ _ h6.1
      have j2 := cell_of_row _ _ 2 _ _ _ h6.1
      have j3 := cell_of_row _ _ 3 _ _ _ h6.1
      have j4 := cell_of_row _ _ 4 _ _ _ h6.1
      have j5 := cell_of_row _ _ 5 _ _ _ h6.1
      clear h6 hE hlen h2q
      clear q0 q1 q2 q3 q4 q5 g0 g1 g2 g3 g4 g5
      go_wp2_with fail
      exact bodyPost_ret (by simp [results, Tryz.results56, go_sem, j0, j1, j2, j3, j4, j5]) rfl HE.out
  · obtain ⟨rfl, rfl⟩ := op_no hcase hs
    obtain ⟨hxlo, dx, kx, ox, ax, lx, tx, Ax, nx, cx, rx, vx⟩ := HX4.out
    have a0 := cell_of_row _ _ 0 _ _ _ rx
    have a1 := cell_of_row _ _ 1 _ _ _ rx
    have a2 := cell_of_row _ _ 2 _ _ _ rx
    have a3 := cell_of_row _ _ 3 _ _ _ rx
    have a4 := cell_of_row _ _ 4 _ _ _ rx
    have a5 := cell_of_row _ _ 5 _ _ _ rx
    have VX := Lib.hid vx
    have HP2 := Lib.hid hp4
    clear rx vx hs hcase hp4
    go_wp2_with (with_reducible refine rx_pause ?_)
    refine Pause.of (wpList_store_new _ rfl _ _ _ rfl w.heap.size _ rfl (by rfl) _ _ HZ4.out (by kernel_rfl) (by rfl) (by simp [Value.oneCell']) ?_)
    intro w9 hrow9 hg9
    have j0 := cell_of_row _ _ 0 _ _ _ hrow9
    have j1 := cell_of_row _ _ 1 _ _ _ hrow9
    have j2 := cell_of_row _ _ 2 _ _ _ hrow9
    have j3 := cell_of_row _ _ 3 _ _ _ hrow9
    have j4 := cell_of_row _ _ 4 _ _ _ hrow9
    have j5 := cell_of_row _ _ 5 _ _ _ hrow9
    have HH := Lib.hid (lev_end VX.out HP2.out HG4.out Hl.out plt tlt hg9)
    clear hrow9 hg9 a0 a1 a2 a3 a4 a5
    go_wp2_with fail
    exact bodyPost_ret (by simp [results, Tryz.results56, go_sem, j0, j1, j2, j3, j4, j5]) rfl HH.out
set_option maxRecDepth 100000 in
set_option maxHeartbeats 4000000 in
theorem unary_allR (E : R1) (hc : SubR 105 (calledR E)) (n : Nat) : SubR 93 (unaryR E n) := by
  induction n with
  | zero => intro p tb s s' x w h hP; cases hP
  | succ n ih =>
    intro p tb s s' x w h hP
    have Ih := Lib.hid ih
    have HC := Lib.hid hc
    have plt := h.lt.1
    have tlt := h.lt.2.1
    have hW : (w.alloc zeroE).heap.size = w.heap.size + 1 := by simp
    have hb0 := (Below.refl _ w).alloc (Nat.le_refl _) zeroE
    have hb2 := ((Below.refl _ (w.alloc zeroE)).alloc (Nat.le_refl _) (.cells #[.string ⟨#[45]⟩, .string ⟨#[33]⟩] 9)).alloc (by simp) (.cells #[.int .i64 1, .int .i64 2] 3)
    have htr := trow_at (w.alloc zeroE) [[45], [33]] 9 (.cells #[.int .i64 1, .int .i64 2] 3)
    have hir := irow_at (w.alloc zeroE) [1, 2] 3 (.cells #[.string ⟨#[45]⟩, .string ⟨#[33]⟩] 9)
    rw [hW] at htr hir
    have HOP := Lib.hid (operator_r [[45], [33]] [1, 2] 2 (w.heap.size + 1) (w.heap.size + 1 + 1) 2 2 _ ((h.alloc zeroE).below hb2) rfl rfl (by omega) (Nat.le_refl _) (Nat.le_refl _) htr hir (by omega))
    have HG2 := Lib.hid ((grown_of_below hb0 (some p)).trans (grown_of_below hb2 _))
    have HZ2 := Lib.hid ((hb2.block w.heap.size (by simp)).trans (heap_alloc_new w zeroE))
    have HW := Lib.hid h.wf
    unfold zeroE at HOP HG2 HZ2
    clear ih hc hW hb0 hb2 htr hir h
    go_enter Tryz.func93, Tryz.ntmps93
    go_wp2_with fail
    refine HOP.out.mono ?_
    rintro e w4 ⟨o, ln, sq, rfl, hp4, hg4, hcase⟩
    have HG4 := Lib.hid (HG2.out.trans hg4)
    have HZ4 := Lib.hid (blk_keep hg4 (by omega) HZ2.out)
    have hsz4 : w.heap.size < w4.heap.size := (Array.getElem?_eq_some_iff.1 HZ4.out).1
    clear hg4 HOP HG2 HZ2
    cases hs : seesR [[45], [33]] s with
    | true =>
      obtain ⟨rfl, rfl, ho, ⟨tt, htt⟩, hop⟩ := un_yes hcase hs
      simp only [unaryR, hs, if_true] at hP
      cases hq : unaryR E n (popR s) with
      | none => rw [hq] at hP; cases hP
      | some q =>
        obtain ⟨y, s2⟩ := q
        rw [hq] at hP
        injection hP with hP
        injection hP with e1 e2
        subst e1 e2
        have HOp := Lib.hid hop
        have HU := Lib.hid (Ih.out p tb (popR s) s2 y w4 hp4 hq)
        have H2 := Lib.hid (isR_two HW.out htt)
        have ho0 : 0 < (o : Int) := by omega
        clear hq hs hcase hp4 htt hop Ih HC
        go_wp2_with fail
        refine HU.out.mono ?_
        rintro e w5 ⟨d5, k5, o5, a5, l5, t5, A5, n5, c5, rfl, hv5, hp5, hg5, hl5⟩
        have hlen := hl5
        rw [popR_len] at hlen
        have HL := Lib.hid hlen
        have HV5 := Lib.hid hv5
        have HP5 := Lib.hid hp5
        have HG5 := Lib.hid (HG4.out.trans hg5)
        have HZ5 := Lib.hid (blk_keep hg5 (by omega) HZ4.out)
        have hsz5 := hg5.size
        clear HU hv5 hp5 hg5 hl5 hlen HG4 HZ4
        go_wp2_with (with_reducible refine rx_pause ?_)
        refine Pause.of (wpList_store_new _ rfl _ _ _ rfl w.heap.size _ rfl (by rfl) _ _ ((((Below.refl _ w5).alloc (Nat.le_refl _) _).block _ (by omega)).trans HZ5.out) (by kernel_rfl) (by rfl) (by simp [Value.oneCell']) ?_)
        intro w9 hrow9 hg9
        have j0 := cell_of_row _ _ 0 _ _ _ hrow9
        have j1 := cell_of_row _ _ 1 _ _ _ hrow9
        have j2 := cell_of_row _ _ 2 _ _ _ hrow9
        have j3 := cell_of_row _ _ 3 _ _ _ hrow9
        have j4 := cell_of_row _ _ 4 _ _ _ hrow9
        have j5 := cell_of_row _ _ 5 _ _ _ hrow9
        have hH := (un_endR (s := s) (k := 5) (o := (o : Int)) (nm := ⟨#[]⟩) (l := ((hdR s).line : Int)) (t := 30) HV5.out (by omega) hsz5 HP5.out HG5.out (by have := HL.out; have := H2.out; omega) plt tlt hg9)
        rw [HOp.out] at hH
        have HH := Lib.hid hH
        have k1 := HOp.out
        clear hrow9 hg9 hH
        go_wp2_with fail
        exact bodyPost_ret (by simp [results, Tryz.results93, go_sem, k1, j0, j1, j2, j3, j4, j5]) rfl HH.out
    | false =>
      obtain ⟨rfl, rfl⟩ := op_no hcase hs
      simp only [unaryR, hs, if_false, Bool.false_eq_true] at hP
      have HU := Lib.hid (HC.out p tb sq s' x w4 hp4 hP)
      clear hs hcase hp4 Ih HC hP
      go_wp2_with fail
      refine HU.out.mono ?_
      rintro e w5 ⟨d5, k5, o5, a5, l5, t5, A5, n5, c5, rfl, hv5, hp5, hg5, hl5⟩
      have HZ5 := Lib.hid (blk_keep hg5 (by omega) HZ4.out)
      have HV5 := Lib.hid hv5
      have HP5 := Lib.hid hp5
      have HG5 := Lib.hid (HG4.out.trans hg5)
      have Hl5 := Lib.hid hl5
      clear HU hv5 hp5 hg5 hl5 HG4 HZ4
      go_wp2_with (with_reducible refine rx_pause ?_)
      refine Pause.of (wpList_store_new _ rfl _ _ _ rfl w.heap.size _ rfl (by rfl) _ _ HZ5.out (by kernel_rfl) (by rfl) (by simp [Value.oneCell']) ?_)
      intro w9 hrow9 hg9
      have j0 := cell_of_row _ _ 0 _ _ _ hrow9
      have j1 := cell_of_row _ _ 1 _ _ _ hrow9
      have j2 := cell_of_row _ _ 2 _ _ _ hrow9
      have j3 := cell_of_row _ _ 3 _ _ _ hrow9
      have j4 := cell_of_row _ _ 4 _ _ _ hrow9
      have j5 := cell_of_row _ _ 5 _ _ _ hrow9
      have HH := Lib.hid (lev_end (xb := w.heap.size) (HV5.out.keep (fun q hq => ⟨by omega, hq.2, by omega⟩) (fun _ _ => rfl)) HP5.out HG5.out Hl5.out plt tlt hg9)
      clear hrow9 hg9
      go_wp2_with fail
      exact bodyPost_ret (by simp [results, Tryz.results93, go_sem, j0, j1, j2, j3, j4, j5]) rfl HH.out
end Go.Proofs.YtmpnkbhlagalkaaGreatDoor
