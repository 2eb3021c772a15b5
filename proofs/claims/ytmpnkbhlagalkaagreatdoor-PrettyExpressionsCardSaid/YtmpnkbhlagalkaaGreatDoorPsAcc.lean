/-
  The walks of the parser's small methods: refuse, accepts, demand, expect, name, ended. No condition.
-/
import Derived.Test.YtmpnkbhlagalkaaGreatDoorPsNext
import Derived.RegionTactic
import Derived.ChangeAlike
import Derived.BigRegion
namespace Go.Proofs.YtmpnkbhlagalkaaGreatDoor
open Go.RowKit

/-- Nothing is handed back, and the parser stands at s'. -/
def VoidG (p tb : Nat) (s' : PS) (w : World) (e : Ending) (w' : World) : Prop := (∃ v, e = .returned v) ∧ PA w' p tb s' ∧ w.grownBy w' (some p)
theorem PR.setref {w : World} {p tb off c n : Nat} {s : PS} (r : Nat) (h : PR w p tb off c n s) : PR (w.setCell ⟨p, 1, none⟩ (.int .i64 (r : Int))) p tb off c n { s with ref := r } := by
  obtain ⟨T, hr⟩ := h.row
  exact ⟨h.wf, h.ne, h.len, h.cap, h.sm, ⟨T, row_set _ hr⟩, fun k t hk => (h.tok k t hk).keep ((set_grown w ⟨p, 1, none⟩ _).block tb h.tlt (fun e => by injection e with e; exact h.ne e))⟩
theorem refuse_end {w : World} {p tb off c n : Nat} {s : PS} (h : PR w p tb off c n { s with ref := (refuseP s).ref }) : PA (w.setCell ⟨p, 0, none⟩ (.slice (some ⟨tb, off + n * 4, none⟩) 1 (c - n))) p tb (refuseP s) := by
  have hl : s.rest.length = n + 1 := h.len
  have e : refuseP { s with ref := (refuseP s).ref } = refuseP s := by
    by_cases h0 : s.ref = 0 <;> simp [refuseP, hdT, h0]
  have h2 := h.refuse (r := (refuseP s).ref) (w' := w.setCell ⟨p, 0, none⟩ (.slice (some ⟨tb, off + n * 4, none⟩) 1 (c - n))) (by rw [e]) (h.slice (off' := off + n * 4) (n' := 1) (c' := c - n)) ((set_grown w ⟨p, 0, none⟩ _).block tb h.tlt (fun e => by injection e with e; exact h.ne e))
  rw [e] at h2
  exact ⟨_, _, _, h2⟩
theorem PA.drew {w : World} {p tb : Nat} {s : PS} (h : PA w p tb s) : PA w.drew p tb s := h.keep rfl rfl
theorem grown_drew {w w' : World} {row : Option Nat} (h : w.grownBy w' row) : w.grownBy w'.drew row := ⟨h.os, h.tape, h.output, h.size, h.block⟩
set_option maxRecDepth 100000 in
set_option maxHeartbeats 1000000 in
theorem refuse_any {p tb : Nat} {s : PS} (w : World) (h : PA w p tb s) : Calls Tryz.prog 21 #[.pointer (some ⟨p, 0, none⟩)] w (VoidG p tb (refuseP s) w) := by
  obtain ⟨off, c, n, h⟩ := h
  have hcap := h.cap
  have hsm := h.sm
  have hp := h.plt
  have ht := h.tlt
  have hl := h.hd.2.1
  obtain ⟨c0, c1, c2, fz⟩ := h.cells
  have f0 := fz 0
  have f1 := fz 1
  have HP := Lib.hid h
  clear fz h
  by_cases h0 : s.ref = 0
  · have hr : (refuseP s).ref = (hdT s).line := by simp [refuseP, h0]
    rw [h0] at c1
    have P1 := HP.out.setref (hdT s).line
    obtain ⟨d0, d1, d2, fd⟩ := P1.cells
    have g0 := fd 0
    have HE : Hid (PA _ p tb (refuseP s)) := Lib.hid (refuse_end (s := s) (by rw [hr]; exact P1))
    have HG := Lib.hid ((set_grown w ⟨p, 1, none⟩ (.int .i64 ((hdT s).line : Int))).trans (set_grown _ ⟨p, 0, none⟩ (.slice (some ⟨tb, off + n * 4, none⟩) 1 (c - n))))
    clear P1 fd hr h0
    go_enter Tryz.func21, Tryz.ntmps21
    go_wp2_with fail
    go_region
    all_goals refine bodyPost_ret (results_none rfl _ _ _) rfl ?_
    all_goals exact ⟨⟨_, rfl⟩, HE.out.drew, grown_drew HG.out⟩
  · have hr : (refuseP s).ref = s.ref := by simp [refuseP, h0]
    have hne : ((s.ref : Int) == 0) = false := by simp; omega
    have HE : Hid (PA _ p tb (refuseP s)) := Lib.hid (refuse_end (s := s) (by rw [hr]; exact HP.out))
    have HG := Lib.hid (set_grown w ⟨p, 0, none⟩ (.slice (some ⟨tb, off + n * 4, none⟩) 1 (c - n)))
    clear hr h0
    go_enter Tryz.func21, Tryz.ntmps21
    go_wp2_with fail
    go_region
    all_goals refine bodyPost_ret (results_none rfl _ _ _) rfl ?_
    all_goals exact ⟨⟨_, rfl⟩, HE.out.drew, grown_drew HG.out⟩
/-- Whether a text came next, and the parser stands at s'. -/
def AccG (p tb : Nat) (b : Bool) (s' : PS) (w : World) (e : Ending) (w' : World) : Prop := e = .returned (.bool b) ∧ PA w' p tb s' ∧ w.grownBy w' (some p)
theorem trow_one (w : World) (x : Bytes) (t : TypeId) : TRow (w.alloc (.cells #[.string (nmB x)] t)) w.heap.size [x] := fun i y hi => by
  match i, hi with
  | 0, hi =>
    injection hi with hi
    subst hi
    exact cell_of_row _ _ 0 _ _ _ (heap_alloc_new w _)
  | i + 1, hi => simp at hi
set_option maxRecDepth 100000 in
set_option maxHeartbeats 1000000 in
theorem accepts_yes {p tb : Nat} {s : PS} (x : Bytes) (t : ByteArray) (w : World) (ht : t = nmB x) (hx : x ≠ []) (h : PA w p tb s) (hs : seesP [x] s = true) : Calls Tryz.prog 101 #[.pointer (some ⟨p, 0, none⟩), .string t] w (AccG p tb true (popP s) w) := by
  have h2 := sees_two h.wf (l := [x]) (by simpa using hx) hs
  have hb := (Below.refl _ w).alloc (Nat.le_refl _) (.cells #[.string t] 9)
  have HS := Lib.hid (sees_any true [x] w.heap.size 1 1 _ (h.below hb) hs rfl (Nat.le_refl _) (by omega) (by rw [ht]; exact trow_one w x 9))
  have HN := Lib.hid (next_any _ (h.below hb) h2)
  have HB := Lib.hid hb
  clear h hs hb h2 ht hx
  go_enter Tryz.func101, Tryz.ntmps101
  go_wp2_with fail
  refine HS.out.mono ?_
  rintro e w1 ⟨rfl, rfl⟩
  go_wp2_with fail
  refine HN.out.mono ?_
  rintro e w1 ⟨rfl, hp, hg⟩
  have HP := Lib.hid hp
  have HG := Lib.hid ((grown_of_below HB.out (some p)).trans hg)
  clear hp hg
  go_wp2_with fail
  go_ret
  exact ⟨rfl, HP.out, HG.out⟩
set_option maxRecDepth 100000 in
set_option maxHeartbeats 1000000 in
theorem accepts_no {p tb : Nat} {s : PS} (x : Bytes) (t : ByteArray) (w : World) (ht : t = nmB x) (h : PA w p tb s) (hs : seesP [x] s = false) : Calls Tryz.prog 101 #[.pointer (some ⟨p, 0, none⟩), .string t] w (AccG p tb false s w) := by
  have hb := (Below.refl _ w).alloc (Nat.le_refl _) (.cells #[.string t] 9)
  have HS := Lib.hid (sees_any false [x] w.heap.size 1 1 _ (h.below hb) hs rfl (Nat.le_refl _) (by omega) (by rw [ht]; exact trow_one w x 9))
  have HP := Lib.hid (h.below hb)
  have HB := Lib.hid hb
  clear h hs hb ht
  go_enter Tryz.func101, Tryz.ntmps101
  go_wp2_with fail
  refine HS.out.mono ?_
  rintro e w1 ⟨rfl, rfl⟩
  go_wp2_with fail
  go_ret
  exact ⟨rfl, HP.out, grown_of_below HB.out _⟩
theorem demand_any {p tb : Nat} {s : PS} (x : Bytes) (t : ByteArray) (w : World) (ht : t = nmB x) (hx : x ≠ []) (h : PA w p tb s) : Calls Tryz.prog 117 #[.pointer (some ⟨p, 0, none⟩), .string t] w (VoidG p tb (demandP x s) w) := by
  cases hs : seesP [x] s with
  | true =>
    have HA := Lib.hid (accepts_yes x t w ht hx h hs)
    have e : demandP x s = popP s := by simp [demandP, hs]
    rw [e]
    clear h hs e ht hx
    go_enter Tryz.func117, Tryz.ntmps117
    go_wp2_with fail
    refine HA.out.mono ?_
    rintro e w1 ⟨rfl, hp, hg⟩
    have HP := Lib.hid hp
    have HG := Lib.hid hg
    clear hp hg
    go_wp2_with fail
    refine bodyPost_ret (results_none rfl _ _ _) rfl ?_
    exact ⟨⟨_, rfl⟩, HP.out, HG.out⟩
  | false =>
    have HA := Lib.hid (accepts_no x t w ht h hs)
    have e : demandP x s = refuseP s := by simp [demandP, hs]
    rw [e]
    clear h hs e ht hx
    go_enter Tryz.func117, Tryz.ntmps117
    go_wp2_with fail
    refine HA.out.mono ?_
    rintro e w1 ⟨rfl, hp, hg⟩
    have HR := Lib.hid (refuse_any _ hp)
    have HG := Lib.hid hg
    clear hp hg
    go_wp2_with fail
    refine HR.out.mono ?_
    rintro e w2 ⟨⟨v, rfl⟩, hp, hg⟩
    have HP := Lib.hid hp
    have HG2 := Lib.hid (HG.out.trans hg)
    clear hp hg
    go_wp2_with fail
    refine bodyPost_ret (results_none rfl _ _ _) rfl ?_
    exact ⟨⟨_, rfl⟩, HP.out, HG2.out⟩
theorem kindB (k j : Nat) : ((k : Int) == (j : Int)) = decide (k = j) := by
  rw [Bool.eq_iff_iff]
  simp
  omega
theorem ended_any {p tb : Nat} {s : PS} (w : World) (h : PA w p tb s) : Calls Tryz.prog 20 #[.pointer (some ⟨p, 0, none⟩)] w (RetB (decide ((hdT s).kind = 0)) w) := by
  obtain ⟨off, c, n, h⟩ := h
  have h0 := h.cells.1
  have h1 := h.hd.1
  have hcap := h.cap
  clear h
  go_enter Tryz.func20, Tryz.ntmps20
  go_wp2_with fail
  go_ret
  exact ⟨congrArg (fun b => Ending.returned (.bool b)) (kindB _ 0), rfl⟩
set_option maxRecDepth 100000 in
set_option maxHeartbeats 1000000 in
theorem expect_yes {p tb : Nat} {s : PS} (k : Nat) (w : World) (h : PA w p tb s) (hk : (hdT s).kind = k) (h0 : k ≠ 0) : Calls Tryz.prog 121 #[.pointer (some ⟨p, 0, none⟩), .int .i64 (k : Int)] w (NextG p tb (hdT s) (popP s) w) := by
  have h2 := h.wf.two (.inr (by omega))
  have hb := (Below.refl _ w).alloc (Nat.le_refl _) (.cells #[.int .i64 0, .int .i64 0, .int .i64 0, .string { data := #[] }] 67)
  have HN := Lib.hid (next_any _ (h.below hb) h2)
  have HZ := Lib.hid (heap_alloc_new w (.cells #[.int .i64 0, .int .i64 0, .int .i64 0, .string { data := #[] }] 67))
  obtain ⟨off, c, n, hr⟩ := h.below hb
  have c0 := hr.cells.1
  have d0 := hr.hd.1
  have hcap := hr.cap
  have hplt := h.lt.1
  have htlt := h.lt.2.1
  rw [hk] at d0
  have HB := Lib.hid hb
  clear hr hb h h2 hk h0
  go_enter Tryz.func121, Tryz.ntmps121
  go_wp2_with fail
  refine HN.out.mono ?_
  rintro e w2 ⟨rfl, hp, hg⟩
  have HZ2 := Lib.hid (blk_keep hg (by omega) HZ.out)
  have HP := Lib.hid hp
  have HG := Lib.hid ((grown_of_below HB.out (some p)).trans hg)
  clear HN hp hg HZ
  unfold tokV
  go_wp2_with (with_reducible refine pause_tok ?_)
  refine Pause.of (wpList_store_new _ rfl _ _ _ rfl _ _ rfl (by rfl) _ _ HZ2.out (by kernel_rfl) (by rfl) (by simp [Value.oneCell']) ?_)
  intro w5 hrow5 hg5
  have j0 := cell_of_row _ _ 0 _ _ _ hrow5
  have j1 := cell_of_row _ _ 1 _ _ _ hrow5
  have j2 := cell_of_row _ _ 2 _ _ _ hrow5
  have j3 := cell_of_row _ _ 3 _ _ _ hrow5
  have HH : Hid (NextG p tb (hdT s) (popP s) w (.returned (tokV (hdT s))) w5) := Lib.hid ⟨rfl, HP.out.other hg5 (by omega) (by omega), grown_new HG.out hg5 (Nat.le_refl _)⟩
  clear hrow5 hg5
  go_wp2_with fail
  exact bodyPost_ret (by simp [results, Tryz.results121, go_sem, tokV, j0, j1, j2, j3]) rfl HH.out
set_option maxRecDepth 100000 in
set_option maxHeartbeats 1000000 in
theorem expect_no {p tb : Nat} {s : PS} (k : Nat) (w : World) (h : PA w p tb s) (hk : (hdT s).kind ≠ k) : Calls Tryz.prog 121 #[.pointer (some ⟨p, 0, none⟩), .int .i64 (k : Int)] w (NextG p tb noT (refuseP s) w) := by
  have hb := (Below.refl _ w).alloc (Nat.le_refl _) (.cells #[.int .i64 0, .int .i64 0, .int .i64 0, .string { data := #[] }] 67)
  have HN := Lib.hid (refuse_any _ (h.below hb))
  have HZ := Lib.hid (heap_alloc_new w (.cells #[.int .i64 0, .int .i64 0, .int .i64 0, .string { data := #[] }] 67))
  obtain ⟨off, c, n, hr⟩ := h.below hb
  have c0 := hr.cells.1
  have d0 := hr.hd.1
  have hcap := hr.cap
  have hplt := h.lt.1
  have htlt := h.lt.2.1
  have hne : (((hdT s).kind : Int) != (k : Int)) = true := by rw [bne, kindB]; simpa using hk
  have HB := Lib.hid hb
  clear hr hb h hk
  go_enter Tryz.func121, Tryz.ntmps121
  go_wp2_with fail
  refine HN.out.mono ?_
  rintro e w2 ⟨⟨v, rfl⟩, hp, hg⟩
  have HZ2 := Lib.hid (blk_keep hg (by omega) HZ.out)
  have HP := Lib.hid hp
  have HG := Lib.hid ((grown_of_below HB.out (some p)).trans hg)
  clear HN hp hg HZ
  go_wp2_with (with_reducible refine pause_tok ?_)
  refine Pause.of (wpList_store_new _ rfl _ _ _ rfl _ _ rfl (by rfl) _ _ HZ2.out (by kernel_rfl) (by rfl) (by simp [Value.oneCell']) ?_)
  intro w5 hrow5 hg5
  have j0 := cell_of_row _ _ 0 _ _ _ hrow5
  have j1 := cell_of_row _ _ 1 _ _ _ hrow5
  have j2 := cell_of_row _ _ 2 _ _ _ hrow5
  have j3 := cell_of_row _ _ 3 _ _ _ hrow5
  have HH : Hid (NextG p tb noT (refuseP s) w (.returned (tokV noT)) w5) := Lib.hid ⟨rfl, HP.out.other hg5 (by omega) (by omega), grown_new HG.out hg5 (Nat.le_refl _)⟩
  clear hrow5 hg5
  go_wp2_with fail
  exact bodyPost_ret (by simp [results, Tryz.results121, go_sem, tokV, noT, nmB, j0, j1, j2, j3]) rfl HH.out
theorem expect_any {p tb : Nat} {s : PS} (k : Nat) (z : Int) (hz : z = (k : Int)) (w : World) (h : PA w p tb s) (h0 : k ≠ 0) : Calls Tryz.prog 121 #[.pointer (some ⟨p, 0, none⟩), .int .i64 z] w (NextG p tb (expectP k s).1 (expectP k s).2 w) := by
  subst hz
  by_cases hk : (hdT s).kind = k
  · have e : expectP k s = (hdT s, popP s) := by simp [expectP, hk]
    rw [e]
    exact expect_yes k w h hk h0
  · have e : expectP k s = (noT, refuseP s) := by simp [expectP, hk]
    rw [e]
    exact expect_no k w h hk
/-- A name is handed back, and the parser stands at s'. -/
def NameG (p tb : Nat) (t : Bytes) (s' : PS) (w : World) (e : Ending) (w' : World) : Prop := e = .returned (.string (nmB t)) ∧ PA w' p tb s' ∧ w.grownBy w' (some p)
set_option maxRecDepth 100000 in
theorem name_any {p tb : Nat} {s : PS} (w : World) (h : PA w p tb s) : Calls Tryz.prog 116 #[.pointer (some ⟨p, 0, none⟩)] w (NameG p tb (expectP 1 s).1.text (expectP 1 s).2 w) := by
  have HE := Lib.hid (expect_any 1 1 rfl w h (by decide))
  generalize (expectP 1 s).1 = t at *
  generalize (expectP 1 s).2 = s' at *
  have hfd : ∀ w : World, (Instr.field 67 (.agg #[.int .i64 (t.kind : Int), .int .i64 (t.line : Int), .int .i64 (t.value : Int), .string (nmB t.text)]) 3).run Tryz.prog w = .ok (.string (nmB t.text)) w := fun _ => by kernel_rfl
  clear h
  go_enter Tryz.func116, Tryz.ntmps116
  go_wp2_with fail
  refine HE.out.mono ?_
  rintro e w2 ⟨rfl, hp, hg⟩
  have HP := Lib.hid hp
  have HG := Lib.hid hg
  clear HE hp hg
  unfold tokV
  go_wp2_with fail
  go_ret
  exact ⟨rfl, HP.out, HG.out⟩
theorem expect_len (k : Nat) (s : PS) (h : 0 < s.rest.length) : (expectP k s).2.rest.length ≤ s.rest.length := by
  unfold expectP
  split
  · simp only [pop_len]; omega
  · simp only [refuse_len s h]; omega
end Go.Proofs.YtmpnkbhlagalkaaGreatDoor
