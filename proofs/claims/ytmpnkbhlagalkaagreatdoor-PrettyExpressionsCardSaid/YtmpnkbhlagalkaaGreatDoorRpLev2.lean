/-
  The walks of the reference reader's levels with an operator: sum, term, compare, unary, given the walk of the operands. No condition.
-/
import Derived.Test.YtmpnkbhlagalkaaGreatDoorRpLev
namespace Go.Proofs.YtmpnkbhlagalkaaGreatDoor
open Go.RowKit

theorem trow_at (w : World) (l : List Bytes) (t : TypeId) (o : Obj) : TRowR ((w.alloc (.cells (l.map fun x => Value.string (nmB x)).toArray t)).alloc o) w.heap.size l := fun i x hi => by
  rw [cell_of_row _ _ i _ _ _ (alloc2_old w _ o)]
  simp [hi]
theorem irow_at (w : World) (l : List Nat) (t : TypeId) (o : Obj) : IRowR ((w.alloc o).alloc (.cells (l.map fun (x : Nat) => Value.int .i64 (x : Int)).toArray t)) (w.heap.size + 1) l := fun i x hi => by
  rw [cell_of_row _ _ i _ _ _ (alloc2_new w o _)]
  simp [hi]
/-- Signs and their operations. -/
def OpsOk (l : List Bytes) (ops : List Nat) (K : Int) : Prop := ∀ (i : Nat) (t : Bytes) (o : Nat), l[i]? = some t → ops[i]? = some o → binK t = K ∧ binO t = (o : Int) ∧ 0 < o
theorem ops_sum : OpsOk [[43], [45]] [3, 4] 6 := by
  intro i t o h1 h2
  match i, h1, h2 with
  | 0, h1, h2 => cases h1; cases h2; exact ⟨rfl, rfl, by decide⟩
  | 1, h1, h2 => cases h1; cases h2; exact ⟨rfl, rfl, by decide⟩
  | n + 2, h1, _ => simp at h1
theorem ops_term : OpsOk [[42], [47], [37]] [5, 6, 7] 6 := by
  intro i t o h1 h2
  match i, h1, h2 with
  | 0, h1, h2 => cases h1; cases h2; exact ⟨rfl, rfl, by decide⟩
  | 1, h1, h2 => cases h1; cases h2; exact ⟨rfl, rfl, by decide⟩
  | 2, h1, h2 => cases h1; cases h2; exact ⟨rfl, rfl, by decide⟩
  | n + 3, h1, _ => simp at h1
theorem ops_compare : OpsOk [[60], [60, 61], [61, 61], [33, 61]] [8, 9, 10, 11] 6 := by
  intro i t o h1 h2
  match i, h1, h2 with
  | 0, h1, h2 => cases h1; cases h2; exact ⟨rfl, rfl, by decide⟩
  | 1, h1, h2 => cases h1; cases h2; exact ⟨rfl, rfl, by decide⟩
  | 2, h1, h2 => cases h1; cases h2; exact ⟨rfl, rfl, by decide⟩
  | 3, h1, h2 => cases h1; cases h2; exact ⟨rfl, rfl, by decide⟩
  | n + 4, h1, _ => simp at h1
/-- What operator has found. -/
theorem op_yes {l : List Bytes} {ops : List Nat} {K : Int} {s s1 : RS} {o ln : Nat} (hok : OpsOk l ops K) (h : (∃ (i : Nat) (t : Bytes), l[i]? = some t ∧ isR t s = true ∧ ops[i]? = some o ∧ ln = (hdR s).line ∧ s1 = popR s) ∨ (seesR l s = false ∧ o = 0 ∧ ln = 0 ∧ s1 = s)) (hs : seesR l s = true) :
    ln = (hdR s).line ∧ s1 = popR s ∧ 0 < o ∧ (∃ t, isR t s = true) ∧ ∀ x y, binP (hdR s) x y = .mk K (o : Int) 0 ((hdR s).line : Int) ⟨#[]⟩ [x, y] := by
  rcases h with ⟨i, t, hi, ht, ho, rfl, rfl⟩ | ⟨h, _⟩
  · obtain ⟨hK, hO, h0⟩ := hok i t o hi ho
    exact ⟨rfl, rfl, h0, ⟨t, ht⟩, fun x y => lev_bin (isR_text ht) hK hO⟩
  · rw [hs] at h; cases h
theorem op_no {l : List Bytes} {ops : List Nat} {s s1 : RS} {o ln : Nat} (h : (∃ (i : Nat) (t : Bytes), l[i]? = some t ∧ isR t s = true ∧ ops[i]? = some o ∧ ln = (hdR s).line ∧ s1 = popR s) ∨ (seesR l s = false ∧ o = 0 ∧ ln = 0 ∧ s1 = s)) (hs : seesR l s = false) : o = 0 ∧ s1 = s := by
  rcases h with ⟨i, t, hi, ht, _⟩ | ⟨_, h1, _, h2⟩
  · have : seesR l s = true := by
      rw [seesR, List.any_eq_true]
      exact ⟨t, List.mem_of_getElem? hi, ht⟩
    rw [hs] at this; cases this
  · exact ⟨h1, h2⟩
set_option maxRecDepth 100000 in
set_option maxHeartbeats 4000000 in
theorem sum_levR (P : R1) (hsub : SubR 80 P) : SubR 70 (levelR P [[43], [45]]) := by
  intro p tb s s' x w h hP
  obtain ⟨x1, s1, n1, hp1, hloop⟩ := levelR_start hP
  have HS := Lib.hid hsub
  have H1 := Lib.hid (hsub p tb s s1 x1 (w.alloc zeroE) (h.alloc _) hp1)
  have HL := Lib.hid hloop
  have plt := h.lt.1
  have tlt := h.lt.2.1
  unfold zeroE at H1
  clear hsub hP hp1 hloop h
  go_enter Tryz.func70, Tryz.ntmps70
  go_wp2_with fail
  refine H1.out.mono ?_
  rintro e w1 ⟨d1, k1, o1, a1, l1, t1, A1, n2, c1, rfl, hv1, hp1, hg1, hl1⟩
  have HR : Hid (LevR P [[43], [45]] p tb w1.heap.size x s s' w (w1.alloc (.cells #[.int .i64 k1, .int .i64 o1, .int .i64 a1, .int .i64 l1, .string t1, .slice A1 n2 c1] 30))) := Lib.hid (lev_start HL.out plt hv1 hp1 hg1 hl1)
  have hsz1 : w.heap.size + 1 ≤ w1.heap.size := by have := hg1.size; simpa using this
  clear H1 HL hv1 hp1 hg1 hl1
  go_wp2_with fail
  obtain ⟨xb, hxb⟩ : ∃ xb, xb = w1.heap.size := ⟨_, rfl⟩
  rw [← hxb] at HR hsz1 ⊢
  clear hxb
  go_loopw [4, 5] (fun _ _ wr => LevR P [[43], [45]] p tb xb x s s' w wr) (fun _ _ wr => restLenR wr p)
  case atStart => exact HR.out
  case round =>
    obtain ⟨n, xx, ss, hloop, hx, hp, hg, hz, hl⟩ := hrel
    clear HR
    have HRL := Lib.hid hp.rest
    have hb2 := ((Below.refl _ wr).alloc (Nat.le_refl _) (.cells #[.string ⟨#[43]⟩, .string ⟨#[45]⟩] 9)).alloc (by simp) (.cells #[.int .i64 3, .int .i64 4] 3)
    have HOP := Lib.hid (operator_r [[43], [45]] [3, 4] 2 wr.heap.size (wr.heap.size + 1) 2 2 _ (hp.below hb2) rfl rfl (by omega) (Nat.le_refl _) (Nat.le_refl _) (trow_at wr [[43], [45]] 9 _) (irow_at wr [3, 4] 3 _) (by have := hp.lt.1; omega))
    have HX2 := Lib.hid (hx.below hb2)
    have HG2 := Lib.hid (hg.trans (grown_of_below hb2 _))
    have HZ2 := Lib.hid ((hb2.block _ (Array.getElem?_eq_some_iff.1 hz).1).trans hz)
    have Hl := Lib.hid hl
    have HLP := Lib.hid hloop
    have HW := Lib.hid hp.wf
    have hszr := hg.size
    clear hloop hx hp hg hz hl hb2
    go_wp2_with fail
    refine HOP.out.mono ?_
    rintro e w4 ⟨o, ln, sq, rfl, hp4, hg4, hcase⟩
    have HX4 := Lib.hid (HX2.out.grown hg4 (by omega))
    have HG4 := Lib.hid (HG2.out.trans hg4)
    have HZ4 := Lib.hid (blk_keep hg4 (by omega) HZ2.out)
    clear hg4 HOP HX2 HG2 HZ2
    cases hs : seesR [[43], [45]] ss with
    | true =>
      obtain ⟨rfl, rfl, ho, ⟨tt, htt⟩, hbin⟩ := op_yes ops_sum hcase hs
      obtain ⟨m, y, s2, rfl, hsubp, hloop2⟩ := loopR_yes HLP.out hs
      rw [hbin] at hloop2
      have HSP := Lib.hid hsubp
      have HL2 := Lib.hid hloop2
      have HP4 := Lib.hid hp4
      have H2 := Lib.hid (isR_two HW.out htt)
      have ho0 : ((o : Int) == 0) = false := by simp; omega
      have hsz4 := HG4.out.size
      clear hsubp hloop2 hs HLP hcase hbin hp4 htt
      go_upto_region 5 with fail
      clear ho0
      obtain ⟨hxlo, dx, kx, ox, ax, lx, tx, Ax, nx, cx, rx, vx⟩ := HX4.out
      have xlt := (Array.getElem?_eq_some_iff.1 rx).1
      have a0 := cell_of_row _ _ 0 _ _ _ rx
      have a1 := cell_of_row _ _ 1 _ _ _ rx
      have a2 := cell_of_row _ _ 2 _ _ _ rx
      have a3 := cell_of_row _ _ 3 _ _ _ rx
      have a4 := cell_of_row _ _ 4 _ _ _ rx
      have a5 := cell_of_row _ _ 5 _ _ _ rx
      have RX := Lib.hid rx
      have VX := Lib.hid vx
      have HC := Lib.hid (HS.out p tb (popR ss) s2 y w4.drew HP4.out.drew HSP.out)
      clear rx vx HX4
      go_region_with
        (first
          | (go_at_call 80; (with_reducible refine HC.out.mono ?_); rintro e w5 ⟨d5, k5, o5, a5', l5, t5, A5, n5, c5, rfl, hv5, hp5, hg5, hl5⟩; have hg5' := (grown_drew0 hg5); have rx5 := (blk_keep hg5' (by omega) RX.out); have b0 := (cell_of_row _ _ 0 _ _ _ rx5); have b1 := (cell_of_row _ _ 1 _ _ _ rx5); have b2 := (cell_of_row _ _ 2 _ _ _ rx5); have b3 := (cell_of_row _ _ 3 _ _ _ rx5); have b4 := (cell_of_row _ _ 4 _ _ _ rx5); have b5 := (cell_of_row _ _ 5 _ _ _ rx5); have HTW := Lib.hid (two_r (F := (fun q => w.heap.size + 1 ≤ q ∧ q < w5.heap.size ∧ q ≠ xb)) 6 (o : Int) ((hdR ss).line : Int) w5 (fun q hq => hq.2.1) (lev_x VX.out hg5' (by omega)) (lev_y hv5 (show w.heap.size + 1 ≤ w4.heap.size by omega) xlt)); have RX5 := Lib.hid rx5; have HP5 := Lib.hid hp5; have HG5 := Lib.hid (HG4.out.trans hg5'); have HZ5 := Lib.hid (blk_keep hg5' (by omega) HZ4.out); have Hl5 := Lib.hid hl5; have hszx : xb < w5.heap.size := Nat.lt_of_lt_of_le xlt hg5'.size; clear hg5 hg5' rx5 hv5 hp5 hl5)
          | (go_at_call 36; (with_reducible refine HTW.out.mono ?_); rintro e w6 ⟨d6, bb, rfl, hv6, hb6⟩; have rx6 := ((hb6.block _ (by omega)).trans RX5.out); have g0 := (rp_fz rx6 0); have g1 := (rp_fz rx6 1); have g2 := (rp_fz rx6 2); have g3 := (rp_fz rx6 3); have g4 := (rp_fz rx6 4); have g5 := (rp_fz rx6 5); have q0 := (cell_of_row _ _ 0 _ _ _ rx6); have q1 := (cell_of_row _ _ 1 _ _ _ rx6); have q2 := (cell_of_row _ _ 2 _ _ _ rx6); have q3 := (cell_of_row _ _ 3 _ _ _ rx6); have q4 := (cell_of_row _ _ 4 _ _ _ rx6); have q5 := (cell_of_row _ _ 5 _ _ _ rx6); have RX6 := Lib.hid rx6; have HV6 := Lib.hid hv6; have HB6 := Lib.hid hb6; clear rx6 hv6 hb6))
      all_goals
        have h6 := row_set6 (.int .i64 6) (.int .i64 (o : Int)) (.int .i64 0) (.int .i64 ((hdR ss).line : Int)) (.string ⟨#[]⟩) (.slice (some ⟨bb, 0, none⟩) 2 2) RX6.out
        have hlen := Hl5.out
        rw [popR_len] at hlen
        have h2q := H2.out
        have hE := lev_step (P := P) (l := [[43], [45]]) (s := s) HL2.out hxlo plt tlt (lev_two HV6.out HB6.out.size hszx (by omega)) (HP5.out.below HB6.out) (HG5.out.trans (grown_of_below HB6.out _)) ((HB6.out.block _ (Array.getElem?_eq_some_iff.1 HZ5.out).1).trans HZ5.out) (by have := Hl.out; omega) h6.1 h6.2
        have HE := Lib.hid (And.intro hE.1 (Nat.lt_of_le_of_lt (Nat.le_of_eq hE.2) (show s2.rest.length < restLenR wr p by rw [HRL.out]; omega)))
        clear h6 hE hlen h2q
        clear q0 q1 q2 q3 q4 q5 g0 g1 g2 g3 g4 g5
        go_wp2_with fail
        exact HE.out
    | false =>
      obtain ⟨rfl, rfl⟩ := op_no hcase hs
      obtain ⟨rfl, rfl⟩ := loopR_no HLP.out hs
      have HP2 := Lib.hid hp4
      have HG2 := HG4
      have HZ2 := HZ4
      have HX2 := HX4
      clear hcase hp4 HG4 HZ4 HX4
      obtain ⟨hxlo, dx, kx, ox, ax, lx, tx, Ax, nx, cx, rx, vx⟩ := HX2.out
      have a0 := cell_of_row _ _ 0 _ _ _ rx
      have a1 := cell_of_row _ _ 1 _ _ _ rx
      have a2 := cell_of_row _ _ 2 _ _ _ rx
      have a3 := cell_of_row _ _ 3 _ _ _ rx
      have a4 := cell_of_row _ _ 4 _ _ _ rx
      have a5 := cell_of_row _ _ 5 _ _ _ rx
      have VX := Lib.hid vx
      clear rx vx hs
      go_wp2_with (with_reducible refine rx_pause ?_)
      refine Pause.of (wpList_store_new _ rfl _ _ _ rfl w.heap.size _ rfl (by rfl) _ _ HZ2.out (by kernel_rfl) (by rfl) (by simp [Value.oneCell']) ?_)
      intro w9 hrow9 hg9
      have j0 := cell_of_row _ _ 0 _ _ _ hrow9
      have j1 := cell_of_row _ _ 1 _ _ _ hrow9
      have j2 := cell_of_row _ _ 2 _ _ _ hrow9
      have j3 := cell_of_row _ _ 3 _ _ _ hrow9
      have j4 := cell_of_row _ _ 4 _ _ _ hrow9
      have j5 := cell_of_row _ _ 5 _ _ _ hrow9
      have HH := Lib.hid (lev_end VX.out HP2.out HG2.out Hl.out plt tlt hg9)
      clear hrow9 hg9 a0 a1 a2 a3 a4 a5
      go_wp2_with fail
      exact bodyPost_ret (by simp [results, Tryz.results70, go_sem, j0, j1, j2, j3, j4, j5]) rfl HH.out
set_option maxRecDepth 100000 in
set_option maxHeartbeats 4000000 in
theorem term_levR (P : R1) (hsub : SubR 93 P) : SubR 80 (levelR P [[42], [47], [37]]) := by
  intro p tb s s' x w h hP
  obtain ⟨x1, s1, n1, hp1, hloop⟩ := levelR_start hP
  have HS := Lib.hid hsub
  have H1 := Lib.hid (hsub p tb s s1 x1 (w.alloc zeroE) (h.alloc _) hp1)
  have HL := Lib.hid hloop
  have plt := h.lt.1
  have tlt := h.lt.2.1
  unfold zeroE at H1
  clear hsub hP hp1 hloop h
  go_enter Tryz.func80, Tryz.ntmps80
  go_wp2_with fail
  refine H1.out.mono ?_
  rintro e w1 ⟨d1, k1, o1, a1, l1, t1, A1, n2, c1, rfl, hv1, hp1, hg1, hl1⟩
  have HR : Hid (LevR P [[42], [47], [37]] p tb w1.heap.size x s s' w (w1.alloc (.cells #[.int .i64 k1, .int .i64 o1, .int .i64 a1, .int .i64 l1, .string t1, .slice A1 n2 c1] 30))) := Lib.hid (lev_start HL.out plt hv1 hp1 hg1 hl1)
  have hsz1 : w.heap.size + 1 ≤ w1.heap.size := by have := hg1.size; simpa using this
  clear H1 HL hv1 hp1 hg1 hl1
  go_wp2_with fail
  obtain ⟨xb, hxb⟩ : ∃ xb, xb = w1.heap.size := ⟨_, rfl⟩
  rw [← hxb] at HR hsz1 ⊢
  clear hxb
  go_loopw [4, 5] (fun _ _ wr => LevR P [[42], [47], [37]] p tb xb x s s' w wr) (fun _ _ wr => restLenR wr p)
  case atStart => exact HR.out
  case round =>
    obtain ⟨n, xx, ss, hloop, hx, hp, hg, hz, hl⟩ := hrel
    clear HR
    have HRL := Lib.hid hp.rest
    have hb2 := ((Below.refl _ wr).alloc (Nat.le_refl _) (.cells #[.string ⟨#[42]⟩, .string ⟨#[47]⟩, .string ⟨#[37]⟩] 9)).alloc (by simp) (.cells #[.int .i64 5, .int .i64 6, .int .i64 7] 3)
    have HOP := Lib.hid (operator_r [[42], [47], [37]] [5, 6, 7] 3 wr.heap.size (wr.heap.size + 1) 3 3 _ (hp.below hb2) rfl rfl (by omega) (Nat.le_refl _) (Nat.le_refl _) (trow_at wr [[42], [47], [37]] 9 _) (irow_at wr [5, 6, 7] 3 _) (by have := hp.lt.1; omega))
    have HX2 := Lib.hid (hx.below hb2)
    have HG2 := Lib.hid (hg.trans (grown_of_below hb2 _))
    have HZ2 := Lib.hid ((hb2.block _ (Array.getElem?_eq_some_iff.1 hz).1).trans hz)
    have Hl := Lib.hid hl
    have HLP := Lib.hid hloop
    have HW := Lib.hid hp.wf
    have hszr := hg.size
    clear hloop hx hp hg hz hl hb2
    go_wp2_with fail
    refine HOP.out.mono ?_
    rintro e w4 ⟨o, ln, sq, rfl, hp4, hg4, hcase⟩
    have HX4 := Lib.hid (HX2.out.grown hg4 (by omega))
    have HG4 := Lib.hid (HG2.out.trans hg4)
    have HZ4 := Lib.hid (blk_keep hg4 (by omega) HZ2.out)
    clear hg4 HOP HX2 HG2 HZ2
    cases hs : seesR [[42], [47], [37]] ss with
    | true =>
      obtain ⟨rfl, rfl, ho, ⟨tt, htt⟩, hbin⟩ := op_yes ops_term hcase hs
      obtain ⟨m, y, s2, rfl, hsubp, hloop2⟩ := loopR_yes HLP.out hs
      rw [hbin] at hloop2
      have HSP := Lib.hid hsubp
      have HL2 := Lib.hid hloop2
      have HP4 := Lib.hid hp4
      have H2 := Lib.hid (isR_two HW.out htt)
      have ho0 : ((o : Int) == 0) = false := by simp; omega
      have hsz4 := HG4.out.size
      clear hsubp hloop2 hs HLP hcase hbin hp4 htt
      go_upto_region 5 with fail
      clear ho0
      obtain ⟨hxlo, dx, kx, ox, ax, lx, tx, Ax, nx, cx, rx, vx⟩ := HX4.out
      have xlt := (Array.getElem?_eq_some_iff.1 rx).1
      have a0 := cell_of_row _ _ 0 _ _ _ rx
      have a1 := cell_of_row _ _ 1 _ _ _ rx
      have a2 := cell_of_row _ _ 2 _ _ _ rx
      have a3 := cell_of_row _ _ 3 _ _ _ rx
      have a4 := cell_of_row _ _ 4 _ _ _ rx
      have a5 := cell_of_row _ _ 5 _ _ _ rx
      have RX := Lib.hid rx
      have VX := Lib.hid vx
      have HC := Lib.hid (HS.out p tb (popR ss) s2 y w4.drew HP4.out.drew HSP.out)
      clear rx vx HX4
      go_region_with
        (first
          | (go_at_call 93; (with_reducible refine HC.out.mono ?_); rintro e w5 ⟨d5, k5, o5, a5', l5, t5, A5, n5, c5, rfl, hv5, hp5, hg5, hl5⟩; have hg5' := (grown_drew0 hg5); have rx5 := (blk_keep hg5' (by omega) RX.out); have b0 := (cell_of_row _ _ 0 _ _ _ rx5); have b1 := (cell_of_row _ _ 1 _ _ _ rx5); have b2 := (cell_of_row _ _ 2 _ _ _ rx5); have b3 := (cell_of_row _ _ 3 _ _ _ rx5); have b4 := (cell_of_row _ _ 4 _ _ _ rx5); have b5 := (cell_of_row _ _ 5 _ _ _ rx5); have HTW := Lib.hid (two_r (F := (fun q => w.heap.size + 1 ≤ q ∧ q < w5.heap.size ∧ q ≠ xb)) 6 (o : Int) ((hdR ss).line : Int) w5 (fun q hq => hq.2.1) (lev_x VX.out hg5' (by omega)) (lev_y hv5 (show w.heap.size + 1 ≤ w4.heap.size by omega) xlt)); have RX5 := Lib.hid rx5; have HP5 := Lib.hid hp5; have HG5 := Lib.hid (HG4.out.trans hg5'); have HZ5 := Lib.hid (blk_keep hg5' (by omega) HZ4.out); have Hl5 := Lib.hid hl5; have hszx : xb < w5.heap.size := Nat.lt_of_lt_of_le xlt hg5'.size; clear hg5 hg5' rx5 hv5 hp5 hl5)
          | (go_at_call 36; (with_reducible refine HTW.out.mono ?_); rintro e w6 ⟨d6, bb, rfl, hv6, hb6⟩; have rx6 := ((hb6.block _ (by omega)).trans RX5.out); have g0 := (rp_fz rx6 0); have g1 := (rp_fz rx6 1); have g2 := (rp_fz rx6 2); have g3 := (rp_fz rx6 3); have g4 := (rp_fz rx6 4); have g5 := (rp_fz rx6 5); have q0 := (cell_of_row _ _ 0 _ _ _ rx6); have q1 := (cell_of_row _ _ 1 _ _ _ rx6); have q2 := (cell_of_row _ _ 2 _ _ _ rx6); have q3 := (cell_of_row _ _ 3 _ _ _ rx6); have q4 := (cell_of_row _ _ 4 _ _ _ rx6); have q5 := (cell_of_row _ _ 5 _ _ _ rx6); have RX6 := Lib.hid rx6; have HV6 := Lib.hid hv6; have HB6 := Lib.hid hb6; clear rx6 hv6 hb6))
      all_goals
        have h6 := row_set6 (.int .i64 6) (.int .i64 (o : Int)) (.int .i64 0) (.int .i64 ((hdR ss).line : Int)) (.string ⟨#[]⟩) (.slice (some ⟨bb, 0, none⟩) 2 2) RX6.out
        have hlen := Hl5.out
        rw [popR_len] at hlen
        have h2q := H2.out
        have hE := lev_step (P := P) (l := [[42], [47], [37]]) (s := s) HL2.out hxlo plt tlt (lev_two HV6.out HB6.out.size hszx (by omega)) (HP5.out.below HB6.out) (HG5.out.trans (grown_of_below HB6.out _)) ((HB6.out.block _ (Array.getElem?_eq_some_iff.1 HZ5.out).1).trans HZ5.out) (by have := Hl.out; omega) h6.1 h6.2
        have HE := Lib.hid (And.intro hE.1 (Nat.lt_of_le_of_lt (Nat.le_of_eq hE.2) (show s2.rest.length < restLenR wr p by rw [HRL.out]; omega)))
        clear h6 hE hlen h2q
        clear q0 q1 q2 q3 q4 q5 g0 g1 g2 g3 g4 g5
        go_wp2_with fail
        exact HE.out
    | false =>
      obtain ⟨rfl, rfl⟩ := op_no hcase hs
      obtain ⟨rfl, rfl⟩ := loopR_no HLP.out hs
      have HP2 := Lib.hid hp4
      have HG2 := HG4
      have HZ2 := HZ4
      have HX2 := HX4
      clear hcase hp4 HG4 HZ4 HX4
      obtain ⟨hxlo, dx, kx, ox, ax, lx, tx, Ax, nx, cx, rx, vx⟩ := HX2.out
      have a0 := cell_of_row _ _ 0 _ _ _ rx
      have a1 := cell_of_row _ _ 1 _ _ _ rx
      have a2 := cell_of_row _ _ 2 _ _ _ rx
      have a3 := cell_of_row _ _ 3 _ _ _ rx
      have a4 := cell_of_row _ _ 4 _ _ _ rx
      have a5 := cell_of_row _ _ 5 _ _ _ rx
      have VX := Lib.hid vx
      clear rx vx hs
      go_wp2_with (with_reducible refine rx_pause ?_)
      refine Pause.of (wpList_store_new _ rfl _ _ _ rfl w.heap.size _ rfl (by rfl) _ _ HZ2.out (by kernel_rfl) (by rfl) (by simp [Value.oneCell']) ?_)
      intro w9 hrow9 hg9
      have j0 := cell_of_row _ _ 0 _ _ _ hrow9
      have j1 := cell_of_row _ _ 1 _ _ _ hrow9
      have j2 := cell_of_row _ _ 2 _ _ _ hrow9
      have j3 := cell_of_row _ _ 3 _ _ _ hrow9
      have j4 := cell_of_row _ _ 4 _ _ _ hrow9
      have j5 := cell_of_row _ _ 5 _ _ _ hrow9
      have HH := Lib.hid (lev_end VX.out HP2.out HG2.out Hl.out plt tlt hg9)
      clear hrow9 hg9 a0 a1 a2 a3 a4 a5
      go_wp2_with fail
      exact bodyPost_ret (by simp [results, Tryz.results80, go_sem, j0, j1, j2, j3, j4, j5]) rfl HH.out
end Go.Proofs.YtmpnkbhlagalkaaGreatDoor
