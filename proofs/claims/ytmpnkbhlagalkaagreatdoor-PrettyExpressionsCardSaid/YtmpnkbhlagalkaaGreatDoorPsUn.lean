/-
  The walk of unary, given the walk of called. No condition.
-/
import Derived.Test.YtmpnkbhlagalkaaGreatDoorPsLev
namespace Go.Proofs.YtmpnkbhlagalkaaGreatDoor
open Go.RowKit

theorem codes_fz {w : World} {g : Nat} {cs : Array Value} {t : TypeId} (h : w.heap[g]? = some (.cells cs t (0, 0))) (i : Nat) : w.frozen? ⟨g, i, none⟩ = false := by simp [World.frozen?, h]
theorem undrew {w w' : World} {q : Nat} {row : Option Nat} (h : (w.drewN q).grownBy w' row) : w.grownBy w' row := ⟨h.os, h.tape, h.output, h.size, h.block⟩
theorem un_out {lo dx : Nat} {w : World} {x : Ex} {k o l : Int} {nm : ByteArray} {c0 c1 c2 c3 c4 c5 : Value} {t : TypeId} (hlo : lo ≤ w.heap.size)
    (hx : ExV (fun q => lo ≤ q ∧ q < w.heap.size) w dx x (.agg #[c0, c1, c2, c3, c4, c5])) :
    XAt lo ((w.alloc (.cells #[c0, c1, c2, c3, c4, c5] t)).alloc (.cells #[.int .i64 k, .int .i64 o, .int .i64 0, .int .i64 l, .string nm, .slice (some ⟨w.heap.size, 0, none⟩) 1 1] 30)) (w.heap.size + 1) (.mk k o 0 l nm [x]) := by
  have hb := ((Below.refl _ w).alloc (Nat.le_refl _) (.cells #[c0, c1, c2, c3, c4, c5] t)).alloc (by simp) (.cells #[.int .i64 k, .int .i64 o, .int .i64 0, .int .i64 l, .string nm, .slice (some ⟨w.heap.size, 0, none⟩) 1 1] 30)
  have r1 := alloc2_old w (.cells #[c0, c1, c2, c3, c4, c5] t) (.cells #[.int .i64 k, .int .i64 o, .int .i64 0, .int .i64 l, .string nm, .slice (some ⟨w.heap.size, 0, none⟩) 1 1] 30)
  have r2 := alloc2_new w (.cells #[c0, c1, c2, c3, c4, c5] t) (.cells #[.int .i64 k, .int .i64 o, .int .i64 0, .int .i64 l, .string nm, .slice (some ⟨w.heap.size, 0, none⟩) 1 1] 30)
  exact ⟨by omega, dx + 1, k, o, 0, l, nm, _, _, _, r2, _, _, rfl, row_one hx (fun q hq => ⟨hq.1, Nat.lt_of_lt_of_le hq.2 hb.size⟩) (fun q hq => hb.block q hq.2) ⟨hlo, by simp; omega⟩ r1⟩
/-- The operand of a sign, ahead of the node that is made of it. -/
theorem un_end {p tb : Nat} {s s1 s2 : PS} {x : Ex} {k o l : Int} {nm : ByteArray} {w w1 w3 : World} {dx : Nat} {c0 c1 c2 c3 c4 c5 : Value} {t : TypeId} (hg : w.grownBy w1 (some p)) (hl : s1.rest.length ≤ s.rest.length) (hx : ExV (fun q => w1.heap.size ≤ q ∧ q < w3.heap.size) w3 dx x (.agg #[c0, c1, c2, c3, c4, c5])) (hp3 : PA w3 p tb s2) (hg3 : w1.grownBy w3 (some p)) (hl3 : s2.rest.length ≤ s1.rest.length) :
    ExG p tb (.mk k o 0 l nm [x]) s s2 w (.returned (.pointer (some ⟨w3.heap.size + 1, 0, none⟩))) ((w3.alloc (.cells #[c0, c1, c2, c3, c4, c5] t)).alloc (.cells #[.int .i64 k, .int .i64 o, .int .i64 0, .int .i64 l, .string nm, .slice (some ⟨w3.heap.size, 0, none⟩) 1 1] 30)) := by
  have h1 := hg.size
  have h3 := hg3.size
  have hb := ((Below.refl _ w3).alloc (Nat.le_refl _) (.cells #[c0, c1, c2, c3, c4, c5] t)).alloc (by simp) (.cells #[.int .i64 k, .int .i64 o, .int .i64 0, .int .i64 l, .string nm, .slice (some ⟨w3.heap.size, 0, none⟩) 1 1] 30)
  exact ⟨_, rfl, un_out (by omega) (hx.keep (fun q hq => ⟨by omega, hq.2⟩) (fun _ _ => rfl)), hp3.below hb, (hg.trans hg3).trans (grown_of_below hb _), by omega⟩
set_option maxRecDepth 100000 in
set_option maxHeartbeats 2000000 in
theorem unary_any (E : P1) (hc : SubCt 102 (calledP E)) (n : Nat) : SubCt 87 (unaryP E n) := by
  induction n with
  | zero => intro p tb s s' x w h hP; cases hP
  | succ n ih =>
    intro p tb s s' x w h hP
    have Ih := Lib.hid ih
    have HC := Lib.hid hc
    have c0 := h
    obtain ⟨off, c, m, hr⟩ := c0
    have hcap := hr.cap
    have c0 := hr.cells.1
    have l0 := hr.hd.2.1
    have hplt := hr.plt
    clear ih hc hr
    cases hs : seesP [[45]] s with
    | true =>
      simp only [unaryP, hs, if_true] at hP
      cases hq : unaryP E n (popP s) with
      | none => rw [hq] at hP; cases hP
      | some q =>
        obtain ⟨y, s2⟩ := q
        rw [hq] at hP
        injection hP with hP
        injection hP with e1 e2
        subst e1 e2
        have HQ := Lib.hid hq
        have HA := Lib.hid (fun q => accepts_yes [45] ⟨#[45]⟩ (w.drewN q) rfl (by decide) (h.keep rfl rfl) hs)
        clear hq hs h
        go_enter Tryz.func87, Tryz.ntmps87
        go_wp2_with fail
        go_quiet (fail)
        go_wp2_with fail
        refine (HA.out _).mono ?_
        rintro e w1 ⟨rfl, hp1, hg1⟩
        have HU := Lib.hid (Ih.out p tb (popP s) s2 y w1 hp1 HQ.out)
        have HG := Lib.hid (undrew hg1)
        clear HA hp1 hg1
        go_wp2_with fail
        refine HU.out.mono ?_
        rintro e w3 ⟨b3, rfl, hx3, hp3, hg3, hl3⟩
        obtain ⟨_, dx, kx, ox, ax, lx, sx, Ax, nx, cx, rx, vx⟩ := hx3
        have a0 := cell_of_row _ _ 0 _ _ _ rx
        have a1 := cell_of_row _ _ 1 _ _ _ rx
        have a2 := cell_of_row _ _ 2 _ _ _ rx
        have a3 := cell_of_row _ _ 3 _ _ _ rx
        have a4 := cell_of_row _ _ 4 _ _ _ rx
        have a5 := cell_of_row _ _ 5 _ _ _ rx
        have HE := Lib.hid (un_end (t := 30) (k := 5) (o := 1) (l := ((hdT s).line : Int)) (nm := ⟨#[]⟩) (s := s) HG.out (by rw [pop_len]; omega) vx hp3 hg3 hl3)
        clear HU rx vx hp3 hg3 hl3
        go_wp2_with fail
        go_ret
        exact HE.out
    | false =>
      have hs45 := hs
      cases hs2 : seesP [[33]] s with
      | true =>
        simp only [unaryP, hs45, hs2, if_true, if_false, Bool.false_eq_true] at hP
        cases hq : unaryP E n (popP s) with
        | none => rw [hq] at hP; cases hP
        | some q =>
          obtain ⟨y, s2⟩ := q
          rw [hq] at hP
          injection hP with hP
          injection hP with e1 e2
          subst e1 e2
          have HQ := Lib.hid hq
          have HA := Lib.hid (fun q => accepts_no [45] ⟨#[45]⟩ (w.drewN q) rfl (h.keep rfl rfl) hs)
          have HS2 := Lib.hid hs2
          clear hq hs h hs45 hs2
          go_enter Tryz.func87, Tryz.ntmps87
          go_wp2_with fail
          go_quiet (fail)
          go_wp2_with fail
          refine (HA.out _).mono ?_
          rintro e w1 ⟨rfl, hp1, hg1⟩
          have HA2 := Lib.hid (accepts_yes [33] ⟨#[33]⟩ w1 rfl (by decide) hp1 HS2.out)
          have HG0 := Lib.hid (undrew hg1)
          clear HA hp1 hg1
          go_wp2_with fail
          refine HA2.out.mono ?_
          rintro e w2 ⟨rfl, hp2, hg2⟩
          have HU := Lib.hid (Ih.out p tb (popP s) s2 y w2 hp2 HQ.out)
          have HG := Lib.hid (HG0.out.trans hg2)
          clear HA2 hp2 hg2
          go_wp2_with fail
          refine HU.out.mono ?_
          rintro e w3 ⟨b3, rfl, hx3, hp3, hg3, hl3⟩
          obtain ⟨_, dx, kx, ox, ax, lx, sx, Ax, nx, cx, rx, vx⟩ := hx3
          have a0 := cell_of_row _ _ 0 _ _ _ rx
          have a1 := cell_of_row _ _ 1 _ _ _ rx
          have a2 := cell_of_row _ _ 2 _ _ _ rx
          have a3 := cell_of_row _ _ 3 _ _ _ rx
          have a4 := cell_of_row _ _ 4 _ _ _ rx
          have a5 := cell_of_row _ _ 5 _ _ _ rx
          have HE := Lib.hid (un_end (t := 30) (k := 5) (o := 2) (l := ((hdT s).line : Int)) (nm := ⟨#[]⟩) (s := s) HG.out (by rw [pop_len]; omega) vx hp3 hg3 hl3)
          clear HU rx vx hp3 hg3 hl3
          go_wp2_with fail
          go_ret
          exact HE.out
      | false =>
        simp only [unaryP, hs45, hs2, if_false, Bool.false_eq_true] at hP
        have HQ := Lib.hid hP
        have HA := Lib.hid (fun q => accepts_no [45] ⟨#[45]⟩ (w.drewN q) rfl (h.keep rfl rfl) hs)
        have HS2 := Lib.hid hs2
        clear hP hs h hs45 hs2
        go_enter Tryz.func87, Tryz.ntmps87
        go_wp2_with fail
        go_quiet (fail)
        go_wp2_with fail
        refine (HA.out _).mono ?_
        rintro e w1 ⟨rfl, hp1, hg1⟩
        have HA2 := Lib.hid (accepts_no [33] ⟨#[33]⟩ w1 rfl hp1 HS2.out)
        have HG0 := Lib.hid (undrew hg1)
        clear HA hp1 hg1
        go_wp2_with fail
        refine HA2.out.mono ?_
        rintro e w2 ⟨rfl, hp2, hg2⟩
        have HU := Lib.hid (HC.out p tb s s' x w2 hp2 HQ.out)
        have HG := Lib.hid (HG0.out.trans hg2)
        have hsz := (HG0.out.trans hg2).size
        clear HA2 hp2 hg2
        go_wp2_with fail
        refine HU.out.mono ?_
        rintro e w3 ⟨b3, rfl, hx3, hp3, hg3, hl3⟩
        have HE : Hid (ExG p tb x s s' w (.returned (.pointer (some ⟨b3, 0, none⟩))) w3) := Lib.hid ⟨b3, rfl, hx3.lo hsz, hp3, HG.out.trans hg3, hl3⟩
        clear HU hx3 hp3 hg3 hl3
        go_wp2_with fail
        go_ret
        exact HE.out
end Go.Proofs.YtmpnkbhlagalkaaGreatDoor
