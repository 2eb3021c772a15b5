/-
  The walks of the parser's levels: operands with signs between them, given the walk of the operands. No condition.
-/
import Derived.Test.YtmpnkbhlagalkaaGreatDoorPsBin
namespace Go.Proofs.YtmpnkbhlagalkaaGreatDoor
open Go.RowKit

/-- A tree is handed back, and the parser stands at s'. -/
def ExG (p tb : Nat) (x : Ex) (s s' : PS) (w : World) (e : Ending) (w' : World) : Prop := ∃ b, e = .returned (.pointer (some ⟨b, 0, none⟩)) ∧ XAt w.heap.size w' b x ∧ PA w' p tb s' ∧ w.grownBy w' (some p) ∧ s'.rest.length ≤ s.rest.length
/-- A method does on memory what the plain parser does. -/
def SubCt (f : FuncId) (P : P1) : Prop := ∀ (p tb : Nat) (s s' : PS) (x : Ex) (w : World), PA w p tb s → P s = some (x, s') → Calls Tryz.prog f #[.pointer (some ⟨p, 0, none⟩)] w (ExG p tb x s s' w)
/-- How many tokens are left, as memory says it. -/
def restLen (w : World) (p : Nat) : Nat := match w.cell? ⟨p, 0, none⟩ with | some (.slice _ n _) => n | _ => 0
theorem PA.rest {w : World} {p tb : Nat} {s : PS} (h : PA w p tb s) : restLen w p = s.rest.length := by
  obtain ⟨off, c, n, h⟩ := h
  simp [restLen, h.cells.1, h.len]
theorem trow_new (w : World) (l : List Bytes) (t : TypeId) : TRow (w.alloc (.cells (l.map fun x => Value.string (nmB x)).toArray t)) w.heap.size l := fun i x hi => by
  rw [cell_of_row _ _ i _ _ _ (heap_alloc_new w _)]
  simp [hi]
theorem sees_mem {l m : List Bytes} {s : PS} (h : seesP l s = true) (hl : ∀ x ∈ l, x ∈ m) : (hdT s).text ∈ m := by
  simp only [seesP, List.contains_iff_mem] at h
  exact hl _ h
theorem loop_yes {P : P1} {l : List Bytes} {n : Nat} {x xr : Ex} {s sr : PS} (h : loopP P l n x s = some (xr, sr)) (hs : seesP l s = true) : ∃ m y s2, n = m + 1 ∧ P (popP s) = some (y, s2) ∧ loopP P l m (binP (hdT s) x y) s2 = some (xr, sr) := by
  cases n with
  | zero => cases h
  | succ m =>
    simp only [loopP, hs, if_true] at h
    cases hp : P (popP s) with
    | none => rw [hp] at h; cases h
    | some q => rw [hp] at h; exact ⟨m, q.1, q.2, rfl, rfl, h⟩
theorem loop_no {P : P1} {l : List Bytes} {n : Nat} {x xr : Ex} {s sr : PS} (h : loopP P l n x s = some (xr, sr)) (hs : seesP l s = false) : xr = x ∧ sr = s := by
  cases n with
  | zero => cases h
  | succ m =>
    simp only [loopP, hs] at h
    injection h with h
    injection h with h1 h2
    exact ⟨h1.symm, h2.symm⟩
theorem level_start {P : P1} {l : List Bytes} {xr : Ex} {s sr : PS} (h : levelP P l s = some (xr, sr)) : ∃ x1 s1 n, P s = some (x1, s1) ∧ loopP P l n x1 s1 = some (xr, sr) := by
  unfold levelP at h
  cases hp : P s with
  | none => rw [hp] at h; cases h
  | some q => rw [hp] at h; exact ⟨q.1, q.2, _, rfl, h⟩
/-- What a loop of a level carries. -/
def LevRel (P : P1) (l : List Bytes) (p tb : Nat) (x : Ex) (s s' : PS) (w : World) (v : Value) (wr : World) : Prop :=
  ∃ b n xx ss, v = .pointer (some ⟨b, 0, none⟩) ∧ loopP P l n xx ss = some (x, s') ∧ XAt w.heap.size wr b xx ∧ PA wr p tb ss ∧ w.grownBy wr (some p) ∧ ss.rest.length ≤ s.rest.length
theorem XAt.lo {lo lo' : Nat} {w : World} {b : Nat} {x : Ex} (h : XAt lo w b x) (hl : lo' ≤ lo) : XAt lo' w b x := h.keep hl (Nat.le_refl _) (fun _ _ _ => rfl)
set_option maxRecDepth 100000 in
set_option maxHeartbeats 2000000 in
theorem term_level (P : P1) (hsub : SubCt 87 P) : SubCt 74 (levelP P [[42], [47], [37]]) := by
  intro p tb s s' x w h hP
  obtain ⟨x1, s1, n1, hp1, hloop⟩ := level_start hP
  have HS := Lib.hid hsub
  have H1 := Lib.hid (hsub p tb s s1 x1 w h hp1)
  have HL := Lib.hid hloop
  have hplt := h.lt.1
  clear hsub hP hp1 hloop h
  go_enter Tryz.func74, Tryz.ntmps74
  go_wp2_with fail
  refine H1.out.mono ?_
  rintro e w1 ⟨b1, rfl, hx1, hp1, hg1, hl1⟩
  have HR : Hid (LevRel P [[42], [47], [37]] p tb x s s' w (.pointer (some ⟨b1, 0, none⟩)) w1) := Lib.hid ⟨b1, n1, x1, s1, rfl, HL.out, hx1, hp1, hg1, hl1⟩
  clear H1 HL hx1 hp1 hg1 hl1
  go_wp2_with fail
  go_loopw [3] (fun v wr => LevRel P [[42], [47], [37]] p tb x s s' w v wr) (fun _ wr => restLen wr p)
  case atStart => exact HR.out
  case round =>
    obtain ⟨b, n, xx, ss, rfl, hloop, hx, hp, hg, hl⟩ := hrel
    clear HR
    have hsz := hg.size
    have hb := (Below.refl _ wr).alloc (Nat.le_refl _) (.cells #[.string ⟨#[42]⟩, .string ⟨#[47]⟩, .string ⟨#[37]⟩] 9)
    have HRL := Lib.hid hp.rest
    cases hs : seesP [[42], [47], [37]] ss with
    | true =>
      obtain ⟨m, y, s2, rfl, hsubp, hloop2⟩ := loop_yes hloop hs
      have h2 := sees_two hp.wf (by decide) hs
      have HM := Lib.hid (sees_mem (m := signsE) hs (by decide))
      have HSE := Lib.hid (sees_any true [[42], [47], [37]] wr.heap.size 3 3 _ (hp.below hb) hs rfl (Nat.le_refl _) (by omega) (trow_new wr [[42], [47], [37]] 9))
      have HN := Lib.hid (next_any _ (hp.below hb) h2)
      have HX := Lib.hid (hx.below hb)
      have HG := Lib.hid (hg.trans (grown_of_below hb (some p)))
      have HL2 := Lib.hid hloop2
      have HSP := Lib.hid hsubp
      have Hl := Lib.hid hl
      have H2 := Lib.hid h2
      have hszb := hb.size
      clear hloop hs hx hp hg hb hloop2 hsubp hl h2
      go_wp2_with fail
      refine HSE.out.mono ?_
      rintro e w2 ⟨rfl, rfl⟩
      go_wp2_with fail
      refine HN.out.mono ?_
      rintro e w2 ⟨rfl, hp2, hg2⟩
      have HC := Lib.hid (HS.out p tb (popP ss) s2 y w2 hp2 HSP.out)
      have HX2 := Lib.hid (HX.out.grown hg2 hplt)
      have HG2 := Lib.hid (HG.out.trans hg2)
      have hsz2 := hg2.size
      clear HSE HN hp2 hg2 HX HG HSP
      unfold tokV
      go_wp2_with fail
      refine HC.out.mono ?_
      rintro e w3 ⟨b3, rfl, hx3, hp3, hg3, hl3⟩
      have hsz3 := hg3.size
      have HB := Lib.hid (binary_any (hdT ss) w3 HM.out (lo := w.heap.size) (by omega) (HX2.out.grown hg3 hplt) (hx3.lo (by omega)))
      have HP3 := Lib.hid hp3
      have HG3 := Lib.hid (HG2.out.trans hg3)
      have Hl3 := Lib.hid hl3
      unfold tokV at HB
      clear HC hx3 hp3 hg3 hl3 HX2 HG2
      go_wp2_with fail
      refine HB.out.mono ?_
      rintro e w4 ⟨b4, rfl, hx4, hb4⟩
      have hlen : s2.rest.length < ss.rest.length := by
        have h1 := Hl3.out
        rw [pop_len] at h1
        have := H2.out
        omega
      have HE : Hid (LevRel P [[42], [47], [37]] p tb x s s' w (.pointer (some ⟨b4, 0, none⟩)) w4 ∧ restLen w4 p < restLen wr p) := Lib.hid ⟨⟨b4, m, _, s2, rfl, HL2.out, hx4, HP3.out.below hb4, HG3.out.trans (grown_of_below hb4 _), by have := Hl.out; omega⟩, by rw [(HP3.out.below hb4).rest, HRL.out]; exact hlen⟩
      clear HB hx4 hb4 hlen
      go_wp2_with fail
      exact HE.out
    | false =>
      obtain ⟨rfl, rfl⟩ := loop_no hloop hs
      have HSE := Lib.hid (sees_any false [[42], [47], [37]] wr.heap.size 3 3 _ (hp.below hb) hs rfl (Nat.le_refl _) (by omega) (trow_new wr [[42], [47], [37]] 9))
      have HE : Hid (ExG p tb x s s' w (.returned (.pointer (some ⟨b, 0, none⟩))) _) := Lib.hid ⟨b, rfl, hx.below hb, hp.below hb, hg.trans (grown_of_below hb (some p)), hl⟩
      clear hloop hs hx hp hg hb hl
      go_wp2_with fail
      refine HSE.out.mono ?_
      rintro e w2 ⟨rfl, rfl⟩
      go_wp2_with fail
      go_ret
      exact HE.out
set_option maxRecDepth 100000 in
set_option maxHeartbeats 2000000 in
theorem sum_level (P : P1) (hsub : SubCt 74 P) : SubCt 64 (levelP P [[43], [45]]) := by
  intro p tb s s' x w h hP
  obtain ⟨x1, s1, n1, hp1, hloop⟩ := level_start hP
  have HS := Lib.hid hsub
  have H1 := Lib.hid (hsub p tb s s1 x1 w h hp1)
  have HL := Lib.hid hloop
  have hplt := h.lt.1
  clear hsub hP hp1 hloop h
  go_enter Tryz.func64, Tryz.ntmps64
  go_wp2_with fail
  refine H1.out.mono ?_
  rintro e w1 ⟨b1, rfl, hx1, hp1, hg1, hl1⟩
  have HR : Hid (LevRel P [[43], [45]] p tb x s s' w (.pointer (some ⟨b1, 0, none⟩)) w1) := Lib.hid ⟨b1, n1, x1, s1, rfl, HL.out, hx1, hp1, hg1, hl1⟩
  clear H1 HL hx1 hp1 hg1 hl1
  go_wp2_with fail
  go_loopw [3] (fun v wr => LevRel P [[43], [45]] p tb x s s' w v wr) (fun _ wr => restLen wr p)
  case atStart => exact HR.out
  case round =>
    obtain ⟨b, n, xx, ss, rfl, hloop, hx, hp, hg, hl⟩ := hrel
    clear HR
    have hsz := hg.size
    have hb := (Below.refl _ wr).alloc (Nat.le_refl _) (.cells #[.string ⟨#[43]⟩, .string ⟨#[45]⟩] 9)
    have HRL := Lib.hid hp.rest
    cases hs : seesP [[43], [45]] ss with
    | true =>
      obtain ⟨m, y, s2, rfl, hsubp, hloop2⟩ := loop_yes hloop hs
      have h2 := sees_two hp.wf (by decide) hs
      have HM := Lib.hid (sees_mem (m := signsE) hs (by decide))
      have HSE := Lib.hid (sees_any true [[43], [45]] wr.heap.size 2 2 _ (hp.below hb) hs rfl (Nat.le_refl _) (by omega) (trow_new wr [[43], [45]] 9))
      have HN := Lib.hid (next_any _ (hp.below hb) h2)
      have HX := Lib.hid (hx.below hb)
      have HG := Lib.hid (hg.trans (grown_of_below hb (some p)))
      have HL2 := Lib.hid hloop2
      have HSP := Lib.hid hsubp
      have Hl := Lib.hid hl
      have H2 := Lib.hid h2
      have hszb := hb.size
      clear hloop hs hx hp hg hb hloop2 hsubp hl h2
      go_wp2_with fail
      refine HSE.out.mono ?_
      rintro e w2 ⟨rfl, rfl⟩
      go_wp2_with fail
      refine HN.out.mono ?_
      rintro e w2 ⟨rfl, hp2, hg2⟩
      have HC := Lib.hid (HS.out p tb (popP ss) s2 y w2 hp2 HSP.out)
      have HX2 := Lib.hid (HX.out.grown hg2 hplt)
      have HG2 := Lib.hid (HG.out.trans hg2)
      have hsz2 := hg2.size
      clear HSE HN hp2 hg2 HX HG HSP
      unfold tokV
      go_wp2_with fail
      refine HC.out.mono ?_
      rintro e w3 ⟨b3, rfl, hx3, hp3, hg3, hl3⟩
      have hsz3 := hg3.size
      have HB := Lib.hid (binary_any (hdT ss) w3 HM.out (lo := w.heap.size) (by omega) (HX2.out.grown hg3 hplt) (hx3.lo (by omega)))
      have HP3 := Lib.hid hp3
      have HG3 := Lib.hid (HG2.out.trans hg3)
      have Hl3 := Lib.hid hl3
      unfold tokV at HB
      clear HC hx3 hp3 hg3 hl3 HX2 HG2
      go_wp2_with fail
      refine HB.out.mono ?_
      rintro e w4 ⟨b4, rfl, hx4, hb4⟩
      have hlen : s2.rest.length < ss.rest.length := by
        have h1 := Hl3.out
        rw [pop_len] at h1
        have := H2.out
        omega
      have HE : Hid (LevRel P [[43], [45]] p tb x s s' w (.pointer (some ⟨b4, 0, none⟩)) w4 ∧ restLen w4 p < restLen wr p) := Lib.hid ⟨⟨b4, m, _, s2, rfl, HL2.out, hx4, HP3.out.below hb4, HG3.out.trans (grown_of_below hb4 _), by have := Hl.out; omega⟩, by rw [(HP3.out.below hb4).rest, HRL.out]; exact hlen⟩
      clear HB hx4 hb4 hlen
      go_wp2_with fail
      exact HE.out
    | false =>
      obtain ⟨rfl, rfl⟩ := loop_no hloop hs
      have HSE := Lib.hid (sees_any false [[43], [45]] wr.heap.size 2 2 _ (hp.below hb) hs rfl (Nat.le_refl _) (by omega) (trow_new wr [[43], [45]] 9))
      have HE : Hid (ExG p tb x s s' w (.returned (.pointer (some ⟨b, 0, none⟩))) _) := Lib.hid ⟨b, rfl, hx.below hb, hp.below hb, hg.trans (grown_of_below hb (some p)), hl⟩
      clear hloop hs hx hp hg hb hl
      go_wp2_with fail
      refine HSE.out.mono ?_
      rintro e w2 ⟨rfl, rfl⟩
      go_wp2_with fail
      go_ret
      exact HE.out
set_option maxRecDepth 100000 in
set_option maxHeartbeats 2000000 in
theorem and_level (P : P1) (hsub : SubCt 44 P) : SubCt 22 (levelP P [[38, 38]]) := by
  intro p tb s s' x w h hP
  obtain ⟨x1, s1, n1, hp1, hloop⟩ := level_start hP
  have HS := Lib.hid hsub
  have H1 := Lib.hid (hsub p tb s s1 x1 w h hp1)
  have HL := Lib.hid hloop
  have hplt := h.lt.1
  clear hsub hP hp1 hloop h
  go_enter Tryz.func22, Tryz.ntmps22
  go_wp2_with fail
  refine H1.out.mono ?_
  rintro e w1 ⟨b1, rfl, hx1, hp1, hg1, hl1⟩
  have HR : Hid (LevRel P [[38, 38]] p tb x s s' w (.pointer (some ⟨b1, 0, none⟩)) w1) := Lib.hid ⟨b1, n1, x1, s1, rfl, HL.out, hx1, hp1, hg1, hl1⟩
  clear H1 HL hx1 hp1 hg1 hl1
  go_wp2_with fail
  go_loopw [3] (fun v wr => LevRel P [[38, 38]] p tb x s s' w v wr) (fun _ wr => restLen wr p)
  case atStart => exact HR.out
  case round =>
    obtain ⟨b, n, xx, ss, rfl, hloop, hx, hp, hg, hl⟩ := hrel
    clear HR
    have hsz := hg.size
    have hb := (Below.refl _ wr).alloc (Nat.le_refl _) (.cells #[.string ⟨#[38, 38]⟩] 9)
    have HRL := Lib.hid hp.rest
    cases hs : seesP [[38, 38]] ss with
    | true =>
      obtain ⟨m, y, s2, rfl, hsubp, hloop2⟩ := loop_yes hloop hs
      have h2 := sees_two hp.wf (by decide) hs
      have HM := Lib.hid (sees_mem (m := signsE) hs (by decide))
      have HSE := Lib.hid (sees_any true [[38, 38]] wr.heap.size 1 1 _ (hp.below hb) hs rfl (Nat.le_refl _) (by omega) (trow_new wr [[38, 38]] 9))
      have HN := Lib.hid (next_any _ (hp.below hb) h2)
      have HX := Lib.hid (hx.below hb)
      have HG := Lib.hid (hg.trans (grown_of_below hb (some p)))
      have HL2 := Lib.hid hloop2
      have HSP := Lib.hid hsubp
      have Hl := Lib.hid hl
      have H2 := Lib.hid h2
      have hszb := hb.size
      clear hloop hs hx hp hg hb hloop2 hsubp hl h2
      go_wp2_with fail
      refine HSE.out.mono ?_
      rintro e w2 ⟨rfl, rfl⟩
      go_wp2_with fail
      refine HN.out.mono ?_
      rintro e w2 ⟨rfl, hp2, hg2⟩
      have HC := Lib.hid (HS.out p tb (popP ss) s2 y w2 hp2 HSP.out)
      have HX2 := Lib.hid (HX.out.grown hg2 hplt)
      have HG2 := Lib.hid (HG.out.trans hg2)
      have hsz2 := hg2.size
      clear HSE HN hp2 hg2 HX HG HSP
      unfold tokV
      go_wp2_with fail
      refine HC.out.mono ?_
      rintro e w3 ⟨b3, rfl, hx3, hp3, hg3, hl3⟩
      have hsz3 := hg3.size
      have HB := Lib.hid (binary_any (hdT ss) w3 HM.out (lo := w.heap.size) (by omega) (HX2.out.grown hg3 hplt) (hx3.lo (by omega)))
      have HP3 := Lib.hid hp3
      have HG3 := Lib.hid (HG2.out.trans hg3)
      have Hl3 := Lib.hid hl3
      unfold tokV at HB
      clear HC hx3 hp3 hg3 hl3 HX2 HG2
      go_wp2_with fail
      refine HB.out.mono ?_
      rintro e w4 ⟨b4, rfl, hx4, hb4⟩
      have hlen : s2.rest.length < ss.rest.length := by
        have h1 := Hl3.out
        rw [pop_len] at h1
        have := H2.out
        omega
      have HE : Hid (LevRel P [[38, 38]] p tb x s s' w (.pointer (some ⟨b4, 0, none⟩)) w4 ∧ restLen w4 p < restLen wr p) := Lib.hid ⟨⟨b4, m, _, s2, rfl, HL2.out, hx4, HP3.out.below hb4, HG3.out.trans (grown_of_below hb4 _), by have := Hl.out; omega⟩, by rw [(HP3.out.below hb4).rest, HRL.out]; exact hlen⟩
      clear HB hx4 hb4 hlen
      go_wp2_with fail
      exact HE.out
    | false =>
      obtain ⟨rfl, rfl⟩ := loop_no hloop hs
      have HSE := Lib.hid (sees_any false [[38, 38]] wr.heap.size 1 1 _ (hp.below hb) hs rfl (Nat.le_refl _) (by omega) (trow_new wr [[38, 38]] 9))
      have HE : Hid (ExG p tb x s s' w (.returned (.pointer (some ⟨b, 0, none⟩))) _) := Lib.hid ⟨b, rfl, hx.below hb, hp.below hb, hg.trans (grown_of_below hb (some p)), hl⟩
      clear hloop hs hx hp hg hb hl
      go_wp2_with fail
      refine HSE.out.mono ?_
      rintro e w2 ⟨rfl, rfl⟩
      go_wp2_with fail
      go_ret
      exact HE.out
set_option maxRecDepth 100000 in
set_option maxHeartbeats 2000000 in
theorem expr_level (P : P1) (hsub : SubCt 22 P) : SubCt 12 (levelP P [[124, 124]]) := by
  intro p tb s s' x w h hP
  obtain ⟨x1, s1, n1, hp1, hloop⟩ := level_start hP
  have HS := Lib.hid hsub
  have H1 := Lib.hid (hsub p tb s s1 x1 w h hp1)
  have HL := Lib.hid hloop
  have hplt := h.lt.1
  clear hsub hP hp1 hloop h
  go_enter Tryz.func12, Tryz.ntmps12
  go_wp2_with fail
  refine H1.out.mono ?_
  rintro e w1 ⟨b1, rfl, hx1, hp1, hg1, hl1⟩
  have HR : Hid (LevRel P [[124, 124]] p tb x s s' w (.pointer (some ⟨b1, 0, none⟩)) w1) := Lib.hid ⟨b1, n1, x1, s1, rfl, HL.out, hx1, hp1, hg1, hl1⟩
  clear H1 HL hx1 hp1 hg1 hl1
  go_wp2_with fail
  go_loopw [3] (fun v wr => LevRel P [[124, 124]] p tb x s s' w v wr) (fun _ wr => restLen wr p)
  case atStart => exact HR.out
  case round =>
    obtain ⟨b, n, xx, ss, rfl, hloop, hx, hp, hg, hl⟩ := hrel
    clear HR
    have hsz := hg.size
    have hb := (Below.refl _ wr).alloc (Nat.le_refl _) (.cells #[.string ⟨#[124, 124]⟩] 9)
    have HRL := Lib.hid hp.rest
    cases hs : seesP [[124, 124]] ss with
    | true =>
      obtain ⟨m, y, s2, rfl, hsubp, hloop2⟩ := loop_yes hloop hs
      have h2 := sees_two hp.wf (by decide) hs
      have HM := Lib.hid (sees_mem (m := signsE) hs (by decide))
      have HSE := Lib.hid (sees_any true [[124, 124]] wr.heap.size 1 1 _ (hp.below hb) hs rfl (Nat.le_refl _) (by omega) (trow_new wr [[124, 124]] 9))
      have HN := Lib.hid (next_any _ (hp.below hb) h2)
      have HX := Lib.hid (hx.below hb)
      have HG := Lib.hid (hg.trans (grown_of_below hb (some p)))
      have HL2 := Lib.hid hloop2
      have HSP := Lib.hid hsubp
      have Hl := Lib.hid hl
      have H2 := Lib.hid h2
      have hszb := hb.size
      clear hloop hs hx hp hg hb hloop2 hsubp hl h2
      go_wp2_with fail
      refine HSE.out.mono ?_
      rintro e w2 ⟨rfl, rfl⟩
      go_wp2_with fail
      refine HN.out.mono ?_
      rintro e w2 ⟨rfl, hp2, hg2⟩
      have HC := Lib.hid (HS.out p tb (popP ss) s2 y w2 hp2 HSP.out)
      have HX2 := Lib.hid (HX.out.grown hg2 hplt)
      have HG2 := Lib.hid (HG.out.trans hg2)
      have hsz2 := hg2.size
      clear HSE HN hp2 hg2 HX HG HSP
      unfold tokV
      go_wp2_with fail
      refine HC.out.mono ?_
      rintro e w3 ⟨b3, rfl, hx3, hp3, hg3, hl3⟩
      have hsz3 := hg3.size
      have HB := Lib.hid (binary_any (hdT ss) w3 HM.out (lo := w.heap.size) (by omega) (HX2.out.grown hg3 hplt) (hx3.lo (by omega)))
      have HP3 := Lib.hid hp3
      have HG3 := Lib.hid (HG2.out.trans hg3)
      have Hl3 := Lib.hid hl3
      unfold tokV at HB
      clear HC hx3 hp3 hg3 hl3 HX2 HG2
      go_wp2_with fail
      refine HB.out.mono ?_
      rintro e w4 ⟨b4, rfl, hx4, hb4⟩
      have hlen : s2.rest.length < ss.rest.length := by
        have h1 := Hl3.out
        rw [pop_len] at h1
        have := H2.out
        omega
      have HE : Hid (LevRel P [[124, 124]] p tb x s s' w (.pointer (some ⟨b4, 0, none⟩)) w4 ∧ restLen w4 p < restLen wr p) := Lib.hid ⟨⟨b4, m, _, s2, rfl, HL2.out, hx4, HP3.out.below hb4, HG3.out.trans (grown_of_below hb4 _), by have := Hl.out; omega⟩, by rw [(HP3.out.below hb4).rest, HRL.out]; exact hlen⟩
      clear HB hx4 hb4 hlen
      go_wp2_with fail
      exact HE.out
    | false =>
      obtain ⟨rfl, rfl⟩ := loop_no hloop hs
      have HSE := Lib.hid (sees_any false [[124, 124]] wr.heap.size 1 1 _ (hp.below hb) hs rfl (Nat.le_refl _) (by omega) (trow_new wr [[124, 124]] 9))
      have HE : Hid (ExG p tb x s s' w (.returned (.pointer (some ⟨b, 0, none⟩))) _) := Lib.hid ⟨b, rfl, hx.below hb, hp.below hb, hg.trans (grown_of_below hb (some p)), hl⟩
      clear hloop hs hx hp hg hb hl
      go_wp2_with fail
      refine HSE.out.mono ?_
      rintro e w2 ⟨rfl, rfl⟩
      go_wp2_with fail
      go_ret
      exact HE.out
theorem once_no {P : P1} {l : List Bytes} {xr : Ex} {s sr : PS} (h : onceP P l s = some (xr, sr)) : ∃ x1 s1, P s = some (x1, s1) ∧ ((seesP l s1 = true ∧ ∃ y s2, P (popP s1) = some (y, s2) ∧ xr = binP (hdT s1) x1 y ∧ sr = s2) ∨ (seesP l s1 = false ∧ xr = x1 ∧ sr = s1)) := by
  unfold onceP at h
  cases hp : P s with
  | none => rw [hp] at h; cases h
  | some q =>
    obtain ⟨x1, s1⟩ := q
    rw [hp] at h
    refine ⟨x1, s1, rfl, ?_⟩
    cases hs : seesP l s1 with
    | true =>
      simp only [hs, if_true] at h
      cases hq : P (popP s1) with
      | none => rw [hq] at h; cases h
      | some r =>
        rw [hq] at h
        injection h with h
        injection h with h1 h2
        exact .inl ⟨rfl, r.1, r.2, rfl, h1.symm, h2.symm⟩
    | false =>
      simp only [hs] at h
      injection h with h
      injection h with h1 h2
      exact .inr ⟨rfl, h1.symm, h2.symm⟩
set_option maxRecDepth 100000 in
set_option maxHeartbeats 2000000 in
theorem compare_level (P : P1) (hsub : SubCt 64 P) : SubCt 44 (onceP P [[60], [60, 61], [61, 61], [33, 61]]) := by
  intro p tb s s' x w h hP
  obtain ⟨xx, ss, hp1, hcase⟩ := once_no hP
  have HS := Lib.hid hsub
  have H1 := Lib.hid (hsub p tb s ss xx w h hp1)
  have HC1 := Lib.hid hcase
  have hplt := h.lt.1
  clear hsub hP hp1 hcase h
  go_enter Tryz.func44, Tryz.ntmps44
  go_wp2_with fail
  refine H1.out.mono ?_
  rintro e wr ⟨b, rfl, hx, hp, hg, hl⟩
  have hsz := hg.size
  have hb := (Below.refl _ wr).alloc (Nat.le_refl _) (.cells #[.string ⟨#[60]⟩, .string ⟨#[60, 61]⟩, .string ⟨#[61, 61]⟩, .string ⟨#[33, 61]⟩] 9)
  clear H1
  rcases HC1.out with ⟨hs, y, s2, hsubp, rfl, rfl⟩ | ⟨hs, rfl, rfl⟩
  · clear HC1
    have h2 := sees_two hp.wf (by decide) hs
    have HM := Lib.hid (sees_mem (m := signsE) hs (by decide))
    have HSE := Lib.hid (sees_any true [[60], [60, 61], [61, 61], [33, 61]] wr.heap.size 4 4 _ (hp.below hb) hs rfl (Nat.le_refl _) (by omega) (trow_new wr [[60], [60, 61], [61, 61], [33, 61]] 9))
    have HN := Lib.hid (next_any _ (hp.below hb) h2)
    have HX := Lib.hid (hx.below hb)
    have HG := Lib.hid (hg.trans (grown_of_below hb (some p)))
    have HSP := Lib.hid hsubp
    have Hl := Lib.hid hl
    have hszb := hb.size
    clear hs hx hp hg hb hsubp hl h2
    go_wp2_with fail
    refine HSE.out.mono ?_
    rintro e w2 ⟨rfl, rfl⟩
    go_wp2_with fail
    refine HN.out.mono ?_
    rintro e w2 ⟨rfl, hp2, hg2⟩
    have HC := Lib.hid (HS.out p tb (popP ss) s' y w2 hp2 HSP.out)
    have HX2 := Lib.hid (HX.out.grown hg2 hplt)
    have HG2 := Lib.hid (HG.out.trans hg2)
    have hsz2 := hg2.size
    clear HSE HN hp2 hg2 HX HG HSP
    unfold tokV
    go_wp2_with fail
    refine HC.out.mono ?_
    rintro e w3 ⟨b3, rfl, hx3, hp3, hg3, hl3⟩
    have hsz3 := hg3.size
    have HB := Lib.hid (binary_any (hdT ss) w3 HM.out (lo := w.heap.size) (by omega) (HX2.out.grown hg3 hplt) (hx3.lo (by omega)))
    have HP3 := Lib.hid hp3
    have HG3 := Lib.hid (HG2.out.trans hg3)
    have Hl3 := Lib.hid hl3
    unfold tokV at HB
    clear HC hx3 hp3 hg3 hl3 HX2 HG2
    go_wp2_with fail
    refine HB.out.mono ?_
    rintro e w4 ⟨b4, rfl, hx4, hb4⟩
    have HE : Hid (ExG p tb (binP (hdT ss) xx y) s s' w (.returned (.pointer (some ⟨b4, 0, none⟩))) w4) := Lib.hid ⟨b4, rfl, hx4, HP3.out.below hb4, HG3.out.trans (grown_of_below hb4 _), by
      have h1 := Hl3.out
      rw [pop_len] at h1
      have := Hl.out
      omega⟩
    clear HB hx4 hb4
    go_wp2_with fail
    go_ret
    exact HE.out
  · clear HC1
    have HSE := Lib.hid (sees_any false [[60], [60, 61], [61, 61], [33, 61]] wr.heap.size 4 4 _ (hp.below hb) hs rfl (Nat.le_refl _) (by omega) (trow_new wr [[60], [60, 61], [61, 61], [33, 61]] 9))
    have HE : Hid (ExG p tb x s s' w (.returned (.pointer (some ⟨b, 0, none⟩))) _) := Lib.hid ⟨b, rfl, hx.below hb, hp.below hb, hg.trans (grown_of_below hb (some p)), hl⟩
    clear hs hx hp hg hb hl
    go_wp2_with fail
    refine HSE.out.mono ?_
    rintro e w2 ⟨rfl, rfl⟩
    go_wp2_with fail
    go_ret
    exact HE.out
end Go.Proofs.YtmpnkbhlagalkaaGreatDoor
