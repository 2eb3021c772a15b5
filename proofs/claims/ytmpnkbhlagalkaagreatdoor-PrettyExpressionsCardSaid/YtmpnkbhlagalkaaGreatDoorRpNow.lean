/-
  The walks of the reference reader's small methods: now, is, accept, expect, kind, operator; two. No condition.
-/
import Derived.Test.YtmpnkbhlagalkaaGreatDoorRpMath
import Derived.RegionTactic
import Derived.ChangeAlike
import Derived.BigRegion
namespace Go.Proofs.YtmpnkbhlagalkaaGreatDoor
open Go.RowKit

def tokVR (t : Tok) : Value := .agg #[.int .i64 (t.kind : Int), .int .i64 (t.line : Int), .int .i64 (t.value : Int), .string (nmB t.text)]
/-- The next token is handed back. -/
def NowG (s : RS) (w : World) (e : Ending) (w' : World) : Prop := e = .returned (tokVR (hdR s)) ∧ Below w.heap.size w w'
theorem rp_fz {w : World} {g : Nat} {cs : Array Value} {t : TypeId} (h : w.heap[g]? = some (.cells cs t (0, 0))) (i : Nat) : w.frozen? ⟨g, i, none⟩ = false := by simp [World.frozen?, h]
theorem below_drew {B : Nat} {w w' : World} (h : Below B w w') : Below B w w'.drew := ⟨h.os, h.tape, h.output, h.size, h.block⟩
theorem set4r (w' : World) (b : Nat) (v0 v1 v2 v3 : Value) : w'.grownBy ((((w'.setCell ⟨b, 0, none⟩ v0).setCell ⟨b, 1, none⟩ v1).setCell ⟨b, 2, none⟩ v2).setCell ⟨b, 3, none⟩ v3) (some b) := (((set_grown w' ⟨b, 0, none⟩ v0).trans (set_grown _ ⟨b, 1, none⟩ v1)).trans (set_grown _ ⟨b, 2, none⟩ v2)).trans (set_grown _ ⟨b, 3, none⟩ v3)
theorem row_set4 {w : World} {b : Nat} {c0 c1 c2 c3 : Value} {t : TypeId} (v0 v1 v2 v3 : Value) (h : w.heap[b]? = some (.cells #[c0, c1, c2, c3] t (0, 0))) :
    ((((w.setCell ⟨b, 0, none⟩ v0).setCell ⟨b, 1, none⟩ v1).setCell ⟨b, 2, none⟩ v2).setCell ⟨b, 3, none⟩ v3).heap[b]? = some (.cells #[v0, v1, v2, v3] t (0, 0)) :=
  row_set (i := 3) v3 (row_set (i := 2) v2 (row_set (i := 1) v1 (row_set (i := 0) v0 h)))
set_option maxRecDepth 100000 in
set_option maxHeartbeats 1000000 in
theorem now_r {p tb : Nat} {s : RS} (w : World) (h : RA w p tb s) : Calls Tryz.prog 35 #[.pointer (some ⟨p, 0, none⟩)] w (NowG s w) := by
  obtain ⟨a, c, N, h⟩ := h
  have hlt := h.lt
  have hcap := h.cap
  have hsm := h.sm
  have plt := h.plt
  have tlt := h.tlt
  have hb1 := (Below.refl _ w).alloc (Nat.le_refl _) (.cells #[.int .i64 0, .int .i64 0, .int .i64 0, .string { data := #[] }] 67)
  have P1 := h.keep (hb1.block _ plt) (hb1.block _ tlt)
  obtain ⟨c0, c1, c2, c3, fz⟩ := P1.cells
  obtain ⟨k0, k1, k2, k3⟩ := P1.hd
  have hrow := heap_alloc_new w (.cells #[.int .i64 0, .int .i64 0, .int .i64 0, .string { data := #[] }] 67)
  have f0 := rp_fz hrow 0
  have f1 := rp_fz hrow 1
  have f2 := rp_fz hrow 2
  have f3 := rp_fz hrow 3
  have hrow4 := heap_alloc_new w (.cells #[.int .i64 ((hdR s).kind : Int), .int .i64 ((hdR s).line : Int), .int .i64 ((hdR s).value : Int), .string (nmB (hdR s).text)] 67)
  have hb4 := (Below.refl _ w).alloc (Nat.le_refl _) (.cells #[.int .i64 ((hdR s).kind : Int), .int .i64 ((hdR s).line : Int), .int .i64 ((hdR s).value : Int), .string (nmB (hdR s).text)] 67)
  have j0 := cell_of_row _ _ 0 _ _ _ hrow4
  have j1 := cell_of_row _ _ 1 _ _ _ hrow4
  have j2 := cell_of_row _ _ 2 _ _ _ hrow4
  have j3 := cell_of_row _ _ 3 _ _ _ hrow4
  have HB := Lib.hid hb4
  clear hrow4 hb4 h P1 fz hrow hb1
  go_enter Tryz.func35, Tryz.ntmps35
  go_wp2_with fail
  go_region
  go_wp2_with fail
  exact bodyPost_ret (by simp [results, Tryz.results35, go_sem, tokVR, j0, j1, j2, j3]) rfl ⟨rfl, below_drew HB.out⟩
/-- A Bool is handed back; memory has grown at most. -/
def RBG (x : Bool) (w : World) (e : Ending) (w' : World) : Prop := e = .returned (.bool x) ∧ Below w.heap.size w w'
theorem kindZ (k n : Nat) : ((k : Int) == (n : Int)) = decide (k = n) := by
  rw [Bool.eq_iff_iff]
  simp
  omega
theorem txS (a b : Bytes) : ((nmB a).toList == (nmB b).toList) = decide (a = b) := by
  rw [Lib.toList_data, Lib.toList_data, Bool.eq_iff_iff]
  simp [nmB]
set_option maxRecDepth 100000 in
set_option maxHeartbeats 1000000 in
theorem is_r {p tb : Nat} {s : RS} (t : Bytes) (w : World) (h : RA w p tb s) : Calls Tryz.prog 34 #[.pointer (some ⟨p, 0, none⟩), .string (nmB t)] w (RBG (isR t s) w) := by
  have HN := Lib.hid (now_r w h)
  obtain ⟨a, c, N, hr⟩ := h
  have plt := hr.plt
  have HR := Lib.hid hr
  have hk3 : (((hdR s).kind : Int) == 3) = decide ((hdR s).kind = 3) := kindZ _ 3
  have hk4 : (((hdR s).kind : Int) == 4) = decide ((hdR s).kind = 4) := kindZ _ 4
  have ht := txS (hdR s).text t
  have HD : Hid (isR t s = (!s.bad && ((decide ((hdR s).kind = 3) || decide ((hdR s).kind = 4)) && decide ((hdR s).text = t)))) := Lib.hid rfl
  clear hr
  go_enter Tryz.func34, Tryz.ntmps34
  go_wp2_with fail
  refine HN.out.mono ?_
  rintro e w1 ⟨rfl, hb1⟩
  unfold tokVR
  have c2 := (HR.out.keep ((hb1.alloc hb1.size (.cells #[.int .i64 ((hdR s).kind : Int), .int .i64 ((hdR s).line : Int), .int .i64 ((hdR s).value : Int), .string (nmB (hdR s).text)] 67)).block _ HR.out.plt) ((hb1.alloc hb1.size _).block _ HR.out.tlt)).cells.2.2.1
  have HB := Lib.hid hb1
  clear hb1 HN
  have HD := HD.out
  generalize s.bad = b at c2 HD
  clear HR
  generalize decide ((hdR s).kind = 3) = d3 at hk3 HD
  generalize decide ((hdR s).kind = 4) = d4 at hk4 HD
  generalize decide ((hdR s).text = t) = dt at ht HD
  have HD := Lib.hid HD
  cases b with
  | true =>
    go_wp2_with fail
    go_ret
    exact ⟨by rw [HD.out]; simp, HB.out.alloc HB.out.size _⟩
  | false =>
    cases d3 with
    | true =>
      clear hk4
      go_wp2_with fail
      go_ret
      exact ⟨by rw [HD.out]; simp, HB.out.alloc HB.out.size _⟩
    | false =>
      cases d4 with
      | true =>
        go_wp2_with fail
        go_ret
        exact ⟨by rw [HD.out]; simp, HB.out.alloc HB.out.size _⟩
      | false =>
        go_wp2_with fail
        go_ret
        exact ⟨by rw [HD.out]; simp, HB.out.alloc HB.out.size _⟩
/-- A Bool is handed back, and the reader stands at s'. -/
def AccRG (p tb : Nat) (b : Bool) (s' : RS) (w : World) (e : Ending) (w' : World) : Prop := e = .returned (.bool b) ∧ RA w' p tb s' ∧ w.grownBy w' (some p)
/-- Nothing is handed back, and the reader stands at s'. -/
def VoidRG (p tb : Nat) (s' : RS) (w : World) (e : Ending) (w' : World) : Prop := (∃ v, e = .returned v) ∧ RA w' p tb s' ∧ w.grownBy w' (some p)
theorem RR.popSet {w : World} {p tb a c N : Nat} {s : RS} (h : RR w p tb a c N s) (h2 : 2 ≤ s.rest.length) : RR (w.setCell ⟨p, 1, none⟩ (.int .i64 ((a : Int) + 1))) p tb (a + 1) c N (popR s) :=
  h.pop h2 (by
    obtain ⟨T, hr⟩ := h.row
    exact ⟨T, row_set (i := 1) (.int .i64 ((a : Int) + 1)) hr⟩) ((set_grown w ⟨p, 1, none⟩ _).block tb h.tlt (fun e => by injection e with e; exact h.ne e))
theorem RR.badSet {w : World} {p tb a c N : Nat} {s : RS} (h : RR w p tb a c N s) : RR (w.setCell ⟨p, 2, none⟩ (.bool true)) p tb a c N (badR s) :=
  h.setBad (by
    obtain ⟨T, hr⟩ := h.row
    exact ⟨T, row_set (i := 2) (.bool true) hr⟩) ((set_grown w ⟨p, 2, none⟩ _).block tb h.tlt (fun e => by injection e with e; exact h.ne e))
theorem accR_yes {t : Bytes} {s : RS} (h : isR t s = true) : accR t s = popR s := by simp [accR, h]
theorem accR_no {t : Bytes} {s : RS} (h : isR t s = false) : accR t s = s := by simp [accR, h]
set_option maxRecDepth 100000 in
set_option maxHeartbeats 1000000 in
theorem accept_r {p tb : Nat} {s : RS} (t : Bytes) (w : World) (h : RA w p tb s) : Calls Tryz.prog 112 #[.pointer (some ⟨p, 0, none⟩), .string (nmB t)] w (AccRG p tb (isR t s) (accR t s) w) := by
  have HI := Lib.hid (is_r t w h)
  obtain ⟨a, c, N, hr⟩ := h
  have plt := hr.plt
  have hsm := hr.sm
  have hlt := hr.lt
  have HR := Lib.hid hr
  have HW := Lib.hid hr.wf
  clear hr
  go_enter Tryz.func112, Tryz.ntmps112
  go_wp2_with fail
  refine HI.out.mono ?_
  rintro e w1 ⟨rfl, hb1⟩
  have h1 := HR.out.keep (hb1.block _ HR.out.plt) (hb1.block _ HR.out.tlt)
  have c1 := h1.cells.2.1
  have f1 := h1.cells.2.2.2.2 1
  have H1 := Lib.hid h1
  have HB := Lib.hid hb1
  clear hb1 h1 HI HR
  cases hv : isR t s with
  | true =>
    have HV := Lib.hid hv
    have HE : Hid (RA (w1.setCell ⟨p, 1, none⟩ (.int .i64 ((a : Int) + 1))) p tb (accR t s)) := Lib.hid (by rw [accR_yes hv]; exact ⟨_, _, _, H1.out.popSet (isR_two HW.out hv)⟩)
    have HG := Lib.hid ((grown_of_below HB.out (some p)).trans (set_grown w1 ⟨p, 1, none⟩ (.int .i64 ((a : Int) + 1))))
    clear hv
    go_wp2_with fail
    go_ret
    exact ⟨by rw [HV.out]; rfl, HE.out, HG.out⟩
  | false =>
    have HV := Lib.hid hv
    have HE : Hid (RA w1 p tb (accR t s)) := Lib.hid (by rw [accR_no hv]; exact ⟨_, _, _, H1.out⟩)
    clear hv
    go_wp2_with fail
    go_ret
    exact ⟨by rw [HV.out]; rfl, HE.out, grown_of_below HB.out _⟩
set_option maxRecDepth 100000 in
set_option maxHeartbeats 1000000 in
theorem expect_r {p tb : Nat} {s : RS} (t : Bytes) (w : World) (h : RA w p tb s) : Calls Tryz.prog 113 #[.pointer (some ⟨p, 0, none⟩), .string (nmB t)] w (VoidRG p tb (expectR t s) w) := by
  have HI := Lib.hid (accept_r t w h)
  go_enter Tryz.func113, Tryz.ntmps113
  clear h
  go_wp2_with fail
  refine HI.out.mono ?_
  rintro e w1 ⟨rfl, hp1, hg1⟩
  cases hv : isR t s with
  | true =>
    rw [accR_yes hv] at hp1
    have HE : Hid (RA w1 p tb (expectR t s)) := Lib.hid (by simpa [expectR, hv] using hp1)
    have HG := Lib.hid hg1
    clear hp1 hg1 hv HI
    go_wp2_with fail
    refine bodyPost_ret (results_none rfl _ _ _) rfl ⟨⟨_, rfl⟩, HE.out, HG.out⟩
  | false =>
    rw [accR_no hv] at hp1
    obtain ⟨a, c, N, hr⟩ := hp1
    have c2 := hr.cells.2.2.1
    have f2 := hr.cells.2.2.2.2 2
    have HE : Hid (RA (w1.setCell ⟨p, 2, none⟩ (.bool true)) p tb (expectR t s)) := Lib.hid ⟨a, c, N, by simpa [expectR, hv] using hr.badSet⟩
    have HG := Lib.hid (hg1.trans (set_grown w1 ⟨p, 2, none⟩ (.bool true)))
    clear hr hg1 hv HI
    go_wp2_with fail
    refine bodyPost_ret (results_none rfl _ _ _) rfl ⟨⟨_, rfl⟩, HE.out, HG.out⟩
/-- A store of a token that stands still. -/
theorem rp_pause {P : Program} {w : World} {ops : Array Oper} {rest : List Oper} {d : Option Tmp} {ty : TypeId} {x y : Operand} {pos : String} {af : Array Edge} {gd : Option (Nat × Bool)} {a : Act} {Q : Exit → Act → World → Prop}
    (h : Pause (wpList P ops Q ({ dst := d, op := .store 67 x y, type := ty, pos := pos, after := af, guard := gd } :: rest) a w)) : wpList P ops Q ({ dst := d, op := .store 67 x y, type := ty, pos := pos, after := af, guard := gd } :: rest) a w := h
/-- A token is handed back, and the reader stands at s'. -/
def TokRG (p tb : Nat) (t : Tok) (s' : RS) (w : World) (e : Ending) (w' : World) : Prop := e = .returned (tokVR t) ∧ RA w' p tb s' ∧ w.grownBy w' (some p)
def tokZ : Obj := .cells #[.int .i64 0, .int .i64 0, .int .i64 0, .string { data := #[] }] 67
set_option maxRecDepth 100000 in
set_option maxHeartbeats 1000000 in
theorem kind_r {p tb : Nat} {s : RS} (k : Nat) (w : World) (h : RA w p tb s) (hk0 : k ≠ 0) : Calls Tryz.prog 120 #[.pointer (some ⟨p, 0, none⟩), .int .i64 (k : Int)] w (TokRG p tb (kindR k s).1 (kindR k s).2 w) := by
  have HN := Lib.hid (now_r (w.alloc (.cells #[.int .i64 0, .int .i64 0, .int .i64 0, .string { data := #[] }] 67)) (h.alloc _))
  obtain ⟨a, c, N, hr⟩ := h
  have plt := hr.plt
  have tlt := hr.tlt
  have hsm := hr.sm
  have hlt := hr.lt
  have HR := Lib.hid hr
  have hb0 := (Below.refl _ w).alloc (Nat.le_refl _) (.cells #[.int .i64 0, .int .i64 0, .int .i64 0, .string { data := #[] }] 67)
  have HZ0 := Lib.hid (heap_alloc_new w (.cells #[.int .i64 0, .int .i64 0, .int .i64 0, .string { data := #[] }] 67))
  have HB0 := Lib.hid hb0
  clear hr hb0
  go_enter Tryz.func120, Tryz.ntmps120
  go_wp2_with fail
  refine HN.out.mono ?_
  rintro e w1 ⟨rfl, hb1⟩
  unfold tokVR
  have hsz1 : w.heap.size + 1 ≤ w1.heap.size := by have := hb1.size; simpa using this
  have HB1 := Lib.hid (HB0.out.trans (hb1.mono (by simp)))
  have HZ1 := Lib.hid ((hb1.block _ (by simp)).trans HZ0.out)
  clear hb1 HN
  go_wp2_with (with_reducible refine rp_pause ?_)
  refine Pause.of (wpList_store_new _ rfl _ _ _ rfl w1.heap.size _ rfl (by rfl) _ _ (heap_alloc_new w1 _) (by kernel_rfl) (by rfl) (by simp [Value.oneCell']) ?_)
  intro w2 hrow2 hg2
  have hba := (Below.refl _ w1).alloc (Nat.le_refl _) (.cells #[.int .i64 0, .int .i64 0, .int .i64 0, .string { data := #[] }] 67)
  have hb2 : Below w1.heap.size w1 w2 := hba.trans (grown_any hg2 (fun k hk => by injection hk with hk; omega) (by simp))
  have hbw : Below w.heap.size w w2 := HB1.out.trans (hb2.mono (by omega))
  have h2 := HR.out.keep (hbw.block _ plt) (hbw.block _ tlt)
  have hz2 := (hb2.block w.heap.size (by omega)).trans HZ1.out
  have r0 := cell_of_row _ _ 0 _ _ _ hrow2
  have r1 := cell_of_row _ _ 1 _ _ _ hrow2
  have r2 := cell_of_row _ _ 2 _ _ _ hrow2
  have r3 := cell_of_row _ _ 3 _ _ _ hrow2
  have c1 := h2.cells.2.1
  have c2 := h2.cells.2.2.1
  have f1 := h2.cells.2.2.2.2 1
  have f2 := h2.cells.2.2.2.2 2
  have hsz2 := hb2.size
  have H2 := Lib.hid h2
  have HBW := Lib.hid hbw
  have HZ2 := Lib.hid hz2
  have HRow := Lib.hid hrow2
  clear hrow2 hg2 hba hb2 hbw h2 hz2 HZ1 HZ0 HB0 HB1 HR
  dsimp only [Act.put]
  by_cases hc : s.bad = true ∨ (hdR s).kind ≠ k
  · have E1 : Hid (kindR k s = (noT, badR s)) := Lib.hid (by simp only [kindR, if_pos hc])
    have hq : w2.grownBy (w2.setCell ⟨p, 2, none⟩ (.bool true)) (some p) := set_grown w2 ⟨p, 2, none⟩ (.bool true)
    have HZ3 := Lib.hid (blk_keep hq (by omega) HZ2.out)
    have HE3 := Lib.hid (H2.out.badSet)
    have HG3 := Lib.hid ((grown_of_below HBW.out (some p)).trans hq)
    have hz3 : w.heap.size < (w2.setCell ⟨p, 2, none⟩ (.bool true)).heap.size := by have := hq.size; omega
    clear hq
    have hnk : s.bad = false → ((((hdR s).kind : Int) != (k : Int)) = true) := fun hb => by
      rcases hc with hc | hc
      · rw [hb] at hc; cases hc
      · simp; omega
    generalize s.bad = b at c2 hnk
    clear hc
    cases b with
    | true =>
      clear hnk
      go_wp2_with (with_reducible refine rp_pause ?_)
      refine Pause.of (wpList_store_new _ rfl _ _ _ rfl w.heap.size _ rfl (by rfl) _ _ HZ3.out (by kernel_rfl) (by rfl) (by simp [Value.oneCell']) ?_)
      intro w5 hrow5 hg5
      have j0 := cell_of_row _ _ 0 _ _ _ hrow5
      have j1 := cell_of_row _ _ 1 _ _ _ hrow5
      have j2 := cell_of_row _ _ 2 _ _ _ hrow5
      have j3 := cell_of_row _ _ 3 _ _ _ hrow5
      have HH : Hid (TokRG p tb (kindR k s).1 (kindR k s).2 w (.returned (tokVR noT)) w5) := Lib.hid (by rw [E1.out]; exact ⟨rfl, RA.other ⟨_, _, _, HE3.out⟩ hg5 (by omega) (by omega), grown_new HG3.out hg5 (Nat.le_refl _)⟩)
      clear hrow5 hg5
      go_wp2_with fail
      exact bodyPost_ret (by simp [results, Tryz.results120, go_sem, tokVR, noT, nmB, j0, j1, j2, j3]) rfl HH.out
    | false =>
      have hnk := hnk rfl
      go_wp2_with (with_reducible refine rp_pause ?_)
      refine Pause.of (wpList_store_new _ rfl _ _ _ rfl w.heap.size _ rfl (by rfl) _ _ HZ3.out (by kernel_rfl) (by rfl) (by simp [Value.oneCell']) ?_)
      intro w5 hrow5 hg5
      have j0 := cell_of_row _ _ 0 _ _ _ hrow5
      have j1 := cell_of_row _ _ 1 _ _ _ hrow5
      have j2 := cell_of_row _ _ 2 _ _ _ hrow5
      have j3 := cell_of_row _ _ 3 _ _ _ hrow5
      have HH : Hid (TokRG p tb (kindR k s).1 (kindR k s).2 w (.returned (tokVR noT)) w5) := Lib.hid (by rw [E1.out]; exact ⟨rfl, RA.other ⟨_, _, _, HE3.out⟩ hg5 (by omega) (by omega), grown_new HG3.out hg5 (Nat.le_refl _)⟩)
      clear hrow5 hg5
      go_wp2_with fail
      exact bodyPost_ret (by simp [results, Tryz.results120, go_sem, tokVR, noT, nmB, j0, j1, j2, j3]) rfl HH.out
  · have hb : s.bad = false := by
      cases e : s.bad with
      | false => rfl
      | true => exact absurd (.inl e) hc
    have hk : (hdR s).kind = k := by
      by_cases e : (hdR s).kind = k
      · exact e
      · exact absurd (.inr e) hc
    have E1 : Hid (kindR k s = (hdR s, popR s)) := Lib.hid (by simp only [kindR, if_neg hc])
    have hq : w2.grownBy (w2.setCell ⟨p, 1, none⟩ (.int .i64 ((a : Int) + 1))) (some p) := set_grown w2 ⟨p, 1, none⟩ (.int .i64 ((a : Int) + 1))
    have HZ3 := Lib.hid (blk_keep hq (by omega) HZ2.out)
    have HE3 := Lib.hid (H2.out.popSet (kind_two H2.out.wf (by omega)))
    have HG3 := Lib.hid ((grown_of_below HBW.out (some p)).trans hq)
    have hz3 : w.heap.size < (w2.setCell ⟨p, 1, none⟩ (.int .i64 ((a : Int) + 1))).heap.size := by have := hq.size; omega
    have hrow3 := blk_keep hq (by omega) HRow.out
    have q0 := cell_of_row _ _ 0 _ _ _ hrow3
    have q1 := cell_of_row _ _ 1 _ _ _ hrow3
    have q2 := cell_of_row _ _ 2 _ _ _ hrow3
    have q3 := cell_of_row _ _ 3 _ _ _ hrow3
    have hnk : ((((hdR s).kind : Int) != (k : Int)) = false) := by simp [hk]
    rw [hb] at c2
    clear hq hc hk hb hrow3
    go_wp2_with (with_reducible refine rp_pause ?_)
    refine Pause.of (wpList_store_new _ rfl _ _ _ rfl w.heap.size _ rfl (by rfl) _ _ HZ3.out (by kernel_rfl) (by rfl) (by simp [Value.oneCell']) ?_)
    intro w5 hrow5 hg5
    have j0 := cell_of_row _ _ 0 _ _ _ hrow5
    have j1 := cell_of_row _ _ 1 _ _ _ hrow5
    have j2 := cell_of_row _ _ 2 _ _ _ hrow5
    have j3 := cell_of_row _ _ 3 _ _ _ hrow5
    have HH : Hid (TokRG p tb (kindR k s).1 (kindR k s).2 w (.returned (tokVR (hdR s))) w5) := Lib.hid (by rw [E1.out]; exact ⟨rfl, RA.other ⟨_, _, _, HE3.out⟩ hg5 (by omega) (by omega), grown_new HG3.out hg5 (Nat.le_refl _)⟩)
    clear hrow5 hg5
    go_wp2_with fail
    exact bodyPost_ret (by simp [results, Tryz.results120, go_sem, tokVR, nmB, j0, j1, j2, j3]) rfl HH.out
end Go.Proofs.YtmpnkbhlagalkaaGreatDoor
