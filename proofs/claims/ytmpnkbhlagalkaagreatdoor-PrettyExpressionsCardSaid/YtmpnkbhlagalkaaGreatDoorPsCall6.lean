/-
  The walk of called: calls one behind the other, given the walk of expr; of expr at every depth. No condition.
-/
import Derived.Test.YtmpnkbhlagalkaaGreatDoorPsCall5
namespace Go.Proofs.YtmpnkbhlagalkaaGreatDoor
open Go.RowKit

theorem calls_yes {E : P1} {bare : Bool} {n : Nat} {x xr : Ex} {s sr : PS} (h : callsP E bare n x s = some (xr, sr)) (hs : seesP [[40]] s = true) : ∃ m y s2, n = m + 1 ∧ callP E x (bare && x.kind == 13) s = some (y, s2) ∧ callsP E bare m y s2 = some (xr, sr) := by
  cases n with
  | zero => cases h
  | succ m =>
    obtain ⟨k, o, a, l, nm, xs⟩ := x
    unfold callsP at h
    rw [if_pos hs] at h
    simp only [] at h
    cases hq : callP E (.mk k o a l nm xs) (bare && k == 13) s with
    | none => rw [hq] at h; cases h
    | some q => rw [hq] at h; exact ⟨m, q.1, q.2, rfl, hq, h⟩
theorem calls_no {E : P1} {bare : Bool} {n : Nat} {x xr : Ex} {s sr : PS} (h : callsP E bare n x s = some (xr, sr)) (hs : seesP [[40]] s = false) : xr = x ∧ sr = s := by
  cases n with
  | zero => cases h
  | succ m =>
    unfold callsP at h
    rw [if_neg (by rw [hs]; decide)] at h
    injection h with h
    injection h with h1 h2
    exact ⟨h1.symm, h2.symm⟩
theorem called_start {E : P1} {xr : Ex} {s sr : PS} (h : calledP E s = some (xr, sr)) : ∃ x1 s1 n, primaryP E s = some (x1, s1) ∧ callsP E ((hdT s).kind == 1) n x1 s1 = some (xr, sr) := by
  unfold calledP at h
  cases hp : primaryP E s with
  | none => rw [hp] at h; cases h
  | some q => rw [hp] at h; exact ⟨q.1, q.2, _, rfl, h⟩
theorem XAt.kind {lo b : Nat} {w : World} {x : Ex} (h : XAt lo w b x) : w.cell? ⟨b, 0, none⟩ = some (.int .i64 x.kind) := by
  obtain ⟨_, d, k, o, a, l, s, A, n, c, hr, hv⟩ := h
  obtain ⟨k', o', a', l', s', A', n', c', e, hk⟩ := exV_agg hv
  injection e with e
  injection e with e
  injection e with e0 e
  injection e with e1 e
  injection e with e2 e
  injection e with e3 e
  injection e with e4 e
  injection e with e5 _
  rw [hk k (by rw [e1, e2, e3, e4, e5])]
  exact cell_of_row _ _ 0 _ _ _ hr
/-- The calls under way. -/
def CalP (E : P1) (bare : Bool) (p tb : Nat) (x : Ex) (s s' : PS) (w : World) (v : Value) (wr : World) : Prop :=
  ∃ b n xx ss, v = .pointer (some ⟨b, 0, none⟩) ∧ callsP E bare n xx ss = some (x, s') ∧ XAt w.heap.size wr b xx ∧ PA wr p tb ss ∧ w.grownBy wr (some p) ∧ ss.rest.length ≤ s.rest.length
set_option maxRecDepth 100000 in
set_option maxHeartbeats 2000000 in
theorem called_any (E : P1) (he : SubCt 12 E) : SubCt 102 (calledP E) := by
  intro p tb s s' x w h hP
  obtain ⟨x1, s1, n1, hp, hloop⟩ := called_start hP
  have HS := Lib.hid he
  have HC := Lib.hid (primary_any E he p tb s s1 x1 w h hp)
  have hplt := h.lt.1
  obtain ⟨off, c, m, hr⟩ := h
  have hcap := hr.cap
  have c0 := hr.cells.1
  have k0 := hr.hd.1
  clear he hr hP hp
  obtain ⟨BARE, hBARE⟩ : ∃ B, B = ((hdT s).kind == 1) := ⟨_, rfl⟩
  rw [← hBARE] at hloop
  have hbv : (((hdT s).kind : Int) == 1) = BARE := by
    rw [hBARE]
    cases hq : ((hdT s).kind == 1) with
    | true =>
      have h1 : (hdT s).kind = 1 := by simpa using hq
      rw [h1]
      rfl
    | false =>
      have h1 : ¬ (hdT s).kind = 1 := by simpa using hq
      simp
      omega
  have HL := Lib.hid hloop
  clear hBARE hloop
  go_enter Tryz.func102, Tryz.ntmps102
  go_wp2_with fail
  refine HC.out.mono ?_
  rintro e w1 ⟨b1, rfl, hx1, hp1, hg1, hl1⟩
  have HR : Hid (CalP E BARE p tb x s s' w (.pointer (some ⟨b1, 0, none⟩)) w1) := Lib.hid ⟨b1, n1, x1, s1, rfl, HL.out, hx1, hp1, hg1, hl1⟩
  clear HC HL hx1 hp1 hg1 hl1
  go_wp2_with fail
  clear hbv
  go_loopw [4] (fun v wr => CalP E BARE p tb x s s' w v wr) (fun _ wr => restLen wr p)
  case atStart => exact HR.out
  case round =>
    obtain ⟨b, n, xx, ss, rfl, hloop, hx, hp, hg, hl⟩ := hrel
    clear HR
    have hsz := hg.size
    have hb := (Below.refl _ wr).alloc (Nat.le_refl _) (.cells #[.string ⟨#[40]⟩] 9)
    have HRL := Lib.hid hp.rest
    cases hs : seesP [[40]] ss with
    | true =>
      obtain ⟨m, y, s2, rfl, hcall, hloop2⟩ := calls_yes hloop hs
      have HSE := Lib.hid (sees_any true [[40]] wr.heap.size 1 1 _ (hp.below hb) hs rfl (Nat.le_refl _) (by omega) (trow_new wr [[40]] 9))
      have kx := (hx.below hb).kind
      have HX := Lib.hid (hx.below hb)
      have HP := Lib.hid (hp.below hb)
      have HG := Lib.hid (hg.trans (grown_of_below hb (some p)))
      have HL2 := Lib.hid hloop2
      have HCA := Lib.hid hcall
      have Hl := Lib.hid hl
      have H40 := Lib.hid hs
      clear hloop hx hp hg hloop2 hcall hl hs
      cases BARE with
      | false =>
        have HC := Lib.hid (callV_any E HS.out _ HP.out HX.out hplt H40.out (by have := HCA.out; rw [Bool.false_and] at this; exact this))
        clear hb
        go_wp2_with fail
        refine HSE.out.mono ?_
        rintro e w2 ⟨rfl, rfl⟩
        go_wp2_with fail
        refine HC.out.mono ?_
        rintro e w3 ⟨b3, rfl, hx3, hp3, hg3, hl3⟩
        have HE : Hid (CalP E false p tb x s s' w (.pointer (some ⟨b3, 0, none⟩)) w3 ∧ restLen w3 p < restLen wr p) := Lib.hid ⟨⟨b3, m, y, s2, rfl, HL2.out, hx3, hp3, HG.out.trans hg3, by have := Hl.out; omega⟩, by rw [hp3.rest, HRL.out]; exact hl3⟩
        clear HC hx3 hp3 hg3 hl3
        go_wp2_with fail
        exact HE.out
      | true =>
        cases hk : (xx.kind == 13) with
        | true =>
          have HC := Lib.hid (callN_any E HS.out _ HP.out HX.out hplt H40.out (by have := HCA.out; rw [hk] at this; exact this))
          clear hb
          go_wp2_with fail
          refine HSE.out.mono ?_
          rintro e w2 ⟨rfl, rfl⟩
          go_wp2_with fail
          refine HC.out.mono ?_
          rintro e w3 ⟨b3, rfl, hx3, hp3, hg3, hl3⟩
          have HE : Hid (CalP E true p tb x s s' w (.pointer (some ⟨b3, 0, none⟩)) w3 ∧ restLen w3 p < restLen wr p) := Lib.hid ⟨⟨b3, m, y, s2, rfl, HL2.out, hx3, hp3, HG.out.trans hg3, by have := Hl.out; omega⟩, by rw [hp3.rest, HRL.out]; exact hl3⟩
          clear HC hx3 hp3 hg3 hl3
          go_wp2_with fail
          exact HE.out
        | false =>
          have HC := Lib.hid (callV_any E HS.out _ HP.out HX.out hplt H40.out (by have := HCA.out; rw [hk] at this; exact this))
          clear hb
          go_wp2_with fail
          refine HSE.out.mono ?_
          rintro e w2 ⟨rfl, rfl⟩
          go_wp2_with fail
          refine HC.out.mono ?_
          rintro e w3 ⟨b3, rfl, hx3, hp3, hg3, hl3⟩
          have HE : Hid (CalP E true p tb x s s' w (.pointer (some ⟨b3, 0, none⟩)) w3 ∧ restLen w3 p < restLen wr p) := Lib.hid ⟨⟨b3, m, y, s2, rfl, HL2.out, hx3, hp3, HG.out.trans hg3, by have := Hl.out; omega⟩, by rw [hp3.rest, HRL.out]; exact hl3⟩
          clear HC hx3 hp3 hg3 hl3
          go_wp2_with fail
          exact HE.out
    | false =>
      obtain ⟨rfl, rfl⟩ := calls_no hloop hs
      have HSE := Lib.hid (sees_any false [[40]] wr.heap.size 1 1 _ (hp.below hb) hs rfl (Nat.le_refl _) (by omega) (trow_new wr [[40]] 9))
      have HE : Hid (ExG p tb x s s' w (.returned (.pointer (some ⟨b, 0, none⟩))) _) := Lib.hid ⟨b, rfl, hx.below hb, hp.below hb, hg.trans (grown_of_below hb (some p)), hl⟩
      clear hloop hs hx hp hg hb hl
      go_wp2_with fail
      refine HSE.out.mono ?_
      rintro e w2 ⟨rfl, rfl⟩
      go_wp2_with fail
      go_ret
      exact HE.out
theorem expr_any : ∀ d, SubCt 12 (exprP d)
  | 0 => fun p tb s s' x w h hP => by cases hP
  | d + 1 => by
    have hc := called_any (exprP d) (expr_any d)
    have hu : SubCt 87 (unaryQ (exprP d)) := fun p tb s s' x w h hP => unary_any (exprP d) hc (s.rest.length + 1) p tb s s' x w h hP
    exact expr_level _ (and_level _ (compare_level _ (sum_level _ (term_level _ hu))))
end Go.Proofs.YtmpnkbhlagalkaaGreatDoor
