/-
  The walks of the parser's small methods: refuse, accepts, demand, expect, name, ended. No condition.
-/
import Derived.Test.YtnmgmfjoifglbaaDoorPsNext
import Derived.RegionTactic
import Derived.ChangeAlike
import Derived.BigRegion
namespace Go.Proofs.YtnmgmfjoifglbaaDoor
open Go.RowKit

/-- Nothing is handed back, and the parser stands at s'. -/
def VoidG (p tb : Nat) (s' : PS) (w : World) (e : Ending) (w' : World) : Prop := (∃ v, e = .returned v) ∧ PA w' p tb s' ∧ w.grownBy w' (some p)
theorem PR.setref {w : World} {p tb off c n : Nat} {s : PS} (r : Nat) (h : PR w p tb off c n s) : PR (w.setCell ⟨p, 1, none⟩ (.int .i64 (r : Int))) p tb off c n { s with ref := r } := by
  obtain ⟨T, hr⟩ := h.row
  exact ⟨h.wf, h.ne, h.len, h.cap, h.sm, ⟨T, row_set _ hr⟩, fun k t hk => (h.tok k t hk).keep ((set_grown w ⟨p, 1, none⟩ _).block tb h.tlt (fun e => by injection e with e; exact h.ne e))⟩
theorem refuse_end {w : World} {p tb off c n : Nat} {s : PS} (h : PR w p tb off c n { s with ref := (refuseP s).ref }) : PA (w.setCell ⟨p, 0, none⟩ (.slice (some ⟨tb, off + n * 4, none⟩) 1 (c - n))) p tb (refuseP s) := by
  have hl : s.rest.length = n + 1 := h.len
  have e : refuseP { s with ref := (refuseP s).ref } = refuseP s := by
    by_cases h0 : s.ref = 0 <;> simp [refuseP, hdT, h0]
  have h2 := h.refuse (r := (refuseP s).ref) (w' := w.setCell ⟨p, 0, none⟩ (.slice (some ⟨tb, off + n * 4, none⟩) 1 (c - n))) (by rw [e]) (h.slice (off' := off + n * 4) (n' := 1) (c' := c - n)) ((set_grown w ⟨p, 0, none⟩ _).block tb h.tlt (fun e => by injection e with e; exact h.ne e))
  rw [e] at h2
  exact ⟨_, _, _, h2⟩
theorem PA.drew {w : World} {p tb : Nat} {s : PS} (h : PA w p tb s) : PA w.drew p tb s := h.keep rfl rfl
theorem grown_drew {w w' : World} {row : Option Nat} (h : w.grownBy w' row) : w.grownBy w'.drew row := ⟨h.os, h.tape, h.output, h.size, h.block⟩
set_option maxRecDepth 100000 in
set_option maxHeartbeats 1000000 in
theorem refuse_any {p tb : Nat} {s : PS} (w : World) (h : PA w p tb s) : Calls Tryd.prog 12 #[.pointer (some ⟨p, 0, none⟩)] w (VoidG p tb (refuseP s) w) := by
  obtain ⟨off, c, n, h⟩ := h
  have hcap := h.cap
  have hsm := h.sm
  have hp := h.plt
  have ht := h.tlt
  have hl := h.hd.2.1
  obtain ⟨c0, c1, c2, fz⟩ := h.cells
  have f0 := fz 0
  have f1 := fz 1
  have HP := Lib.hid h
  clear fz h
  by_cases h0 : s.ref = 0
  · have hr : (refuseP s).ref = (hdT s).line := by simp [refuseP, h0]
    rw [h0] at c1
    have P1 := HP.out.setref (hdT s).line
    obtain ⟨d0, d1, d2, fd⟩ := P1.cells
    have g0 := fd 0
    have HE : Hid (PA _ p tb (refuseP s)) := Lib.hid (refuse_end (s := s) (by rw [hr]; exact P1))
    have HG := Lib.hid ((set_grown w ⟨p, 1, none⟩ (.int .i64 ((hdT s).line : Int))).trans (set_grown _ ⟨p, 0, none⟩ (.slice (some ⟨tb, off + n * 4, none⟩) 1 (c - n))))
    clear P1 fd hr h0
    go_enter Tryd.func12, Tryd.ntmps12
    go_wp2_with fail
    go_region
    all_goals refine bodyPost_ret (results_none rfl _ _ _) rfl ?_
    all_goals exact ⟨⟨_, rfl⟩, HE.out.drew, grown_drew HG.out⟩
  · have hr : (refuseP s).ref = s.ref := by simp [refuseP, h0]
    have hne : ((s.ref : Int) == 0) = false := by simp; omega
    have HE : Hid (PA _ p tb (refuseP s)) := Lib.hid (refuse_end (s := s) (by rw [hr]; exact HP.out))
    have HG := Lib.hid (set_grown w ⟨p, 0, none⟩ (.slice (some ⟨tb, off + n * 4, none⟩) 1 (c - n)))
    clear hr h0
    go_enter Tryd.func12, Tryd.ntmps12
    go_wp2_with fail
    go_region
    all_goals refine bodyPost_ret (results_none rfl _ _ _) rfl ?_
    all_goals exact ⟨⟨_, rfl⟩, HE.out.drew, grown_drew HG.out⟩
/-- Whether a text came next, and the parser stands at s'. -/
def AccG (p tb : Nat) (b : Bool) (s' : PS) (w : World) (e : Ending) (w' : World) : Prop := e = .returned (.bool b) ∧ PA w' p tb s' ∧ w.grownBy w' (some p)
theorem trow_one (w : World) (x : Bytes) (t : TypeId) : TRow (w.alloc (.cells #[.string (nmB x)] t)) w.heap.size [x] := fun i y hi => by
  match i, hi with
  | 0, hi =>
    injection hi with hi
    subst hi
    exact cell_of_row _ _ 0 _ _ _ (heap_alloc_new w _)
  | i + 1, hi => simp at hi
set_option maxRecDepth 100000 in
set_option maxHeartbeats 1000000 in
theorem accepts_yes {p tb : Nat} {s : PS} (x : Bytes) (t : ByteArray) (w : World) (ht : t = nmB x) (hx : x ≠ []) (h : PA w p tb s) (hs : seesP [x] s = true) : Calls Tryd.prog 52 #[.pointer (some ⟨p, 0, none⟩), .string t] w (AccG p tb true (popP s) w) := by
  have h2 := sees_two h.wf (l := [x]) (by simpa using hx) hs
  have hb := (Below.refl _ w).alloc (Nat.le_refl _) (.cells #[.string t] 9)
  have HS := Lib.hid (sees_any true [x] w.heap.size 1 1 _ (h.below hb) hs rfl (Nat.le_refl _) (by omega) (by rw [ht]; exact trow_one w x 9))
  have HN := Lib.hid (next_any _ (h.below hb) h2)
  have HB := Lib.hid hb
  clear h hs hb h2 ht hx
  go_enter Tryd.func52, Tryd.ntmps52
  go_wp2_with fail
  refine HS.out.mono ?_
  rintro e w1 ⟨rfl, rfl⟩
  go_wp2_with fail
  refine HN.out.mono ?_
  rintro e w1 ⟨rfl, hp, hg⟩
  have HP := Lib.hid hp
  have HG := Lib.hid ((grown_of_below HB.out (some p)).trans hg)
  clear hp hg
  go_wp2_with fail
  go_ret
  exact ⟨rfl, HP.out, HG.out⟩
set_option maxRecDepth 100000 in
set_option maxHeartbeats 1000000 in
theorem accepts_no {p tb : Nat} {s : PS} (x : Bytes) (t : ByteArray) (w : World) (ht : t = nmB x) (h : PA w p tb s) (hs : seesP [x] s = false) : Calls Tryd.prog 52 #[.pointer (some ⟨p, 0, none⟩), .string t] w (AccG p tb false s w) := by
  have hb := (Below.refl _ w).alloc (Nat.le_refl _) (.cells #[.string t] 9)
  have HS := Lib.hid (sees_any false [x] w.heap.size 1 1 _ (h.below hb) hs rfl (Nat.le_refl _) (by omega) (by rw [ht]; exact trow_one w x 9))
  have HP := Lib.hid (h.below hb)
  have HB := Lib.hid hb
  clear h hs hb ht
  go_enter Tryd.func52, Tryd.ntmps52
  go_wp2_with fail
  refine HS.out.mono ?_
  rintro e w1 ⟨rfl, rfl⟩
  go_wp2_with fail
  go_ret
  exact ⟨rfl, HP.out, grown_of_below HB.out _⟩
theorem demand_any {p tb : Nat} {s : PS} (x : Bytes) (t : ByteArray) (w : World) (ht : t = nmB x) (hx : x ≠ []) (h : PA w p tb s) : Calls Tryd.prog 64 #[.pointer (some ⟨p, 0, none⟩), .string t] w (VoidG p tb (demandP x s) w) := by
  cases hs : seesP [x] s with
  | true =>
    have HA := Lib.hid (accepts_yes x t w ht hx h hs)
    have e : demandP x s = popP s := by simp [demandP, hs]
    rw [e]
    clear h hs e ht hx
    go_enter Tryd.func64, Tryd.ntmps64
    go_wp2_with fail
    refine HA.out.mono ?_
    rintro e w1 ⟨rfl, hp, hg⟩
    have HP := Lib.hid hp
    have HG := Lib.hid hg
    clear hp hg
    go_wp2_with fail
    refine bodyPost_ret (results_none rfl _ _ _) rfl ?_
    exact ⟨⟨_, rfl⟩, HP.out, HG.out⟩
  | false =>
    have HA := Lib.hid (accepts_no x t w ht h hs)
    have e : demandP x s = refuseP s := by simp [demandP, hs]
    rw [e]
    clear h hs e ht hx
    go_enter Tryd.func64, Tryd.ntmps64
    go_wp2_with fail
    refine HA.out.mono ?_
    rintro e w1 ⟨rfl, hp, hg⟩
    have HR := Lib.hid (refuse_any _ hp)
    have HG := Lib.hid hg
    clear hp hg
    go_wp2_with fail
    refine HR.out.mono ?_
    rintro e w2 ⟨⟨v, rfl⟩, hp, hg⟩
    have HP := Lib.hid hp
    have HG2 := Lib.hid (HG.out.trans hg)
    clear hp hg
    go_wp2_with fail
    refine bodyPost_ret (results_none rfl _ _ _) rfl ?_
    exact ⟨⟨_, rfl⟩, HP.out, HG2.out⟩
theorem kindB (k j : Nat) : ((k : Int) == (j : Int)) = decide (k = j) := by
  rw [Bool.eq_iff_iff]
  simp
  omega
theorem ended_any {p tb : Nat} {s : PS} (w : World) (h : PA w p tb s) : Calls Tryd.prog 11 #[.pointer (some ⟨p, 0, none⟩)] w (RetB (decide ((hdT s).kind = 0)) w) := by
  obtain ⟨off, c, n, h⟩ := h
  have h0 := h.cells.1
  have h1 := h.hd.1
  have hcap := h.cap
  clear h
  go_enter Tryd.func11, Tryd.ntmps11
  go_wp2_with fail
  go_ret
  exact ⟨congrArg (fun b => Ending.returned (.bool b)) (kindB _ 0), rfl⟩
end Go.Proofs.YtnmgmfjoifglbaaDoor
