/-
  The walk of ParseExpr where a text is refused. Conditions: the text has at most api.MaxSource bytes; the library's two errors lie where they were laid.
-/
import Derived.Test.YtdnaknpifinfdaaGreatDoorPsWhole
namespace Go.Proofs.YtdnaknpifinfdaaGreatDoor
open Go.RowKit

/-- What is refused: a token is left, or one was refused before. -/
def endP (s : PS) : PS := if (hdT s).kind = 0 then s else refuseP s
/-- The ending of a text that is refused. -/
def BadG (n : Nat) (w : World) (e : Ending) (w' : World) : Prop := e = .returned (.tuple #[.agg #[.int .i64 0, .int .i64 0, .int .i64 0, .int .i64 0, .string { data := #[] }, .slice none 0 0], .int .i64 (n : Int), .int .i64 7]) ∧ Below w.heap.size w w'
set_option maxRecDepth 100000 in
set_option maxHeartbeats 2000000 in
theorem whole_bad (s : ByteArray) (w : World) (hs : s.size ≤ 65536) (he : Errs w) (ts : List Tok) (d : Nat) (x : Ex) (s' : PS) (h1 : scan 1 s.data.toList = .ok ts) (h2 : exprP d ⟨ts, 0, 0⟩ = some (x, s')) (N : Nat) (h3 : (endP s').ref = N) (h4 : 0 < N) :
    Calls Tryz.prog 11 #[.string s, .func (.func 12) #[] #[]] w (BadG N w) := by
  have hb1 := (Below.refl _ w).alloc (Nat.le_refl _) (.cells #[.int .i64 0, .int .i64 0, .int .i64 0, .int .i64 0, .string { data := #[] }, .slice none 0 0] 31)
  have hz := heap_alloc_new w (.cells #[.int .i64 0, .int .i64 0, .int .i64 0, .int .i64 0, .string { data := #[] }, .slice none 0 0] 31)
  have hl : s.data.toList.length = s.size := by simp
  have hsc : scanT s.data.toList = .ok ts := by rw [scanT, if_neg (by omega), h1]
  have HSC := Lib.hid (scan_any s _ hs (he.below hb1))
  rw [hsc] at HSC
  have hts : ts.length ≤ 1000000 := by have := (scan_size _ _ _ _ (Nat.le_refl _) h1).2; omega
  have HWF := Lib.hid (wft_scan h1)
  have HP := Lib.hid h2
  have HF := Lib.hid h3
  have hpos2 : (0 : Int) < (N : Int) := by omega
  have HB1 := Lib.hid hb1
  have HZ := Lib.hid hz
  clear hb1 hz hl hsc h1 h2 h3 h4 he
  go_enter Tryz.func11, Tryz.ntmps11
  go_wp2_with fail
  refine HSC.out.mono ?_
  rintro e w2 ⟨v, rfl, hown, hb2⟩
  obtain ⟨g, c, hv, hbg, hgl, hpa⟩ := pa_start hown HWF.out hts
  have h3 := hpa 54
  have hb3 := (Below.refl _ w2).alloc (Nat.le_refl _) (.cells #[v, .int .i64 0, .int .i64 0] 54)
  have hb02 := below_next HB1.out (hb2.mono (by simp))
  have hz2 := (hb2.block _ (by simp)).trans HZ.out
  rw [hv] at h3 hb3
  have HC := Lib.hid (expr_any d _ _ _ _ _ _ h3 HP.out)
  have HB3 := Lib.hid (below_next hb02 hb3)
  have HZ3 := Lib.hid ((hb3.block _ (Array.getElem?_eq_some_iff.1 hz2).1).trans hz2)
  have hsz := hb02.size
  have hsz2 := (Array.getElem?_eq_some_iff.1 hz2).1
  subst hv
  clear HSC hown hb2 hpa h3 hb3 hb02 hz2
  go_wp2_with fail
  refine HC.out.mono ?_
  rintro e w4 ⟨b, rfl, hx, hp, hg, _⟩
  have HEN := Lib.hid (ended_any _ hp)
  by_cases hk : (hdT s').kind = 0
  · have e0 : endP s' = s' := by simp [endP, hk]
    rw [e0] at HF
    rw [show decide ((hdT s').kind = 0) = true from by rw [hk]; rfl] at HEN
    have HP4 := Lib.hid hp
    have HG4 := Lib.hid hg
    clear HC hp hg hx hk
    go_wp2_with fail
    refine HEN.out.mono ?_
    rintro e w4' ⟨rfl, rfl⟩
    have hpE := HP4.out
    have hgE := HG4.out
    clear HEN HP4 HG4
    have hp' := hpE
    obtain ⟨off', c', n', hr⟩ := hp'
    have c1 := hr.cells.2.1
    have hz4 := blk_keep hgE (by omega) HZ3.out
    have z0 := cell_of_row _ _ 0 _ _ _ hz4
    have z1 := cell_of_row _ _ 1 _ _ _ hz4
    have z2 := cell_of_row _ _ 2 _ _ _ hz4
    have z3 := cell_of_row _ _ 3 _ _ _ hz4
    have z4 := cell_of_row _ _ 4 _ _ _ hz4
    have z5 := cell_of_row _ _ 5 _ _ _ hz4
    have fz : ∀ i, w4.frozen? ⟨w.heap.size, i, none⟩ = false := codes_fz hz4
    have f0 := fz 0
    have f1 := fz 1
    have f2 := fz 2
    have f3 := fz 3
    have f4 := fz 4
    have f5 := fz 5
    have HB4 := Lib.hid (HB3.out.trans (grown_any hgE (fun k hk => by injection hk with hk; omega) (by have := HB3.out.size; omega)))
    have HZ4 := Lib.hid hz4
    rw [HF.out] at c1
    clear hpE hgE hr fz hz4
    go_wp2_with fail
    go_region
    all_goals go_wp2_with fail
    have h6 := row_set6 (.int .i64 0) (.int .i64 0) (.int .i64 0) (.int .i64 0) (.string { data := #[] }) (.slice none 0 0) HZ4.out
    have j0 := cell_of_row _ _ 0 _ _ _ h6.1
    have j1 := cell_of_row _ _ 1 _ _ _ h6.1
    have j2 := cell_of_row _ _ 2 _ _ _ h6.1
    have j3 := cell_of_row _ _ 3 _ _ _ h6.1
    have j4 := cell_of_row _ _ 4 _ _ _ h6.1
    have j5 := cell_of_row _ _ 5 _ _ _ h6.1
    have HH : Hid (BadG N w (.returned (.tuple #[.agg #[.int .i64 0, .int .i64 0, .int .i64 0, .int .i64 0, .string { data := #[] }, .slice none 0 0], .int .i64 (N : Int), .int .i64 7])) (World.drew _)) := Lib.hid ⟨rfl, (HB4.out.trans (grown_any h6.2 (fun k hk => by injection hk with hk; omega) (by have := HB4.out.size; omega))).drew⟩
    clear h6
    all_goals exact bodyPost_ret (by simp [results, Tryz.results11, go_sem, World.cell?_drew, j0, j1, j2, j3, j4, j5]) rfl HH.out
  · have e0 : endP s' = refuseP s' := by simp [endP, hk]
    rw [e0] at HF
    rw [show decide ((hdT s').kind = 0) = false from by simpa using hk] at HEN
    have HR := Lib.hid (refuse_any _ hp)
    have HG4 := Lib.hid hg
    clear HC hp hg hx hk
    go_wp2_with fail
    refine HEN.out.mono ?_
    rintro e w4' ⟨rfl, rfl⟩
    go_wp2_with fail
    refine HR.out.mono ?_
    rintro e w5 ⟨⟨v, rfl⟩, hpE, hg5⟩
    have hgE := HG4.out.trans hg5
    clear HEN HR HG4 hg5
    have hp' := hpE
    obtain ⟨off', c', n', hr⟩ := hp'
    have c1 := hr.cells.2.1
    have hz4 := blk_keep hgE (by omega) HZ3.out
    have z0 := cell_of_row _ _ 0 _ _ _ hz4
    have z1 := cell_of_row _ _ 1 _ _ _ hz4
    have z2 := cell_of_row _ _ 2 _ _ _ hz4
    have z3 := cell_of_row _ _ 3 _ _ _ hz4
    have z4 := cell_of_row _ _ 4 _ _ _ hz4
    have z5 := cell_of_row _ _ 5 _ _ _ hz4
    have fz : ∀ i, w5.frozen? ⟨w.heap.size, i, none⟩ = false := codes_fz hz4
    have f0 := fz 0
    have f1 := fz 1
    have f2 := fz 2
    have f3 := fz 3
    have f4 := fz 4
    have f5 := fz 5
    have HB4 := Lib.hid (HB3.out.trans (grown_any hgE (fun k hk => by injection hk with hk; omega) (by have := HB3.out.size; omega)))
    have HZ4 := Lib.hid hz4
    rw [HF.out] at c1
    clear hpE hgE hr fz hz4
    go_wp2_with fail
    go_region
    all_goals go_wp2_with fail
    have h6 := row_set6 (.int .i64 0) (.int .i64 0) (.int .i64 0) (.int .i64 0) (.string { data := #[] }) (.slice none 0 0) HZ4.out
    have j0 := cell_of_row _ _ 0 _ _ _ h6.1
    have j1 := cell_of_row _ _ 1 _ _ _ h6.1
    have j2 := cell_of_row _ _ 2 _ _ _ h6.1
    have j3 := cell_of_row _ _ 3 _ _ _ h6.1
    have j4 := cell_of_row _ _ 4 _ _ _ h6.1
    have j5 := cell_of_row _ _ 5 _ _ _ h6.1
    have HH : Hid (BadG N w (.returned (.tuple #[.agg #[.int .i64 0, .int .i64 0, .int .i64 0, .int .i64 0, .string { data := #[] }, .slice none 0 0], .int .i64 (N : Int), .int .i64 7])) (World.drew _)) := Lib.hid ⟨rfl, (HB4.out.trans (grown_any h6.2 (fun k hk => by injection hk with hk; omega) (by have := HB4.out.size; omega))).drew⟩
    clear h6
    all_goals exact bodyPost_ret (by simp [results, Tryz.results11, go_sem, World.cell?_drew, j0, j1, j2, j3, j4, j5]) rfl HH.out
set_option maxRecDepth 100000 in
set_option maxHeartbeats 2000000 in
theorem parse_ok (s : ByteArray) (w : World) (hs : s.size ≤ 65536) (he : Errs w) (ts : List Tok) (d : Nat) (x : Ex) (s' : PS) (h1 : scan 1 s.data.toList = .ok ts) (h2 : exprP d ⟨ts, 0, 0⟩ = some (x, s')) (h3 : (hdT s').kind = 0) (h4 : s'.ref = 0) (h5 : s'.out = 0) :
    Calls Tryz.prog 8 #[.string s] w (ParsedG x w) := by
  have hb1 := (Below.refl _ w).alloc (Nat.le_refl _) (.cells #[.int .i64 0, .int .i64 0, .int .i64 0, .int .i64 0, .string { data := #[] }, .slice none 0 0] 31)
  have HZ := Lib.hid (heap_alloc_new w (.cells #[.int .i64 0, .int .i64 0, .int .i64 0, .int .i64 0, .string { data := #[] }, .slice none 0 0] 31))
  have HW := Lib.hid (whole_ok s _ hs (he.below hb1) ts d x s' h1 h2 h3 h4 h5)
  have HB1 := Lib.hid hb1
  clear hb1 he hs h1 h2 h3 h4 h5
  go_enter Tryz.func8, Tryz.ntmps8
  go_wp2_with fail
  refine HW.out.mono ?_
  rintro e w2 ⟨dx, kx, ox, ax, lx, sx, Ax, nx, cx, rfl, hx, hb2⟩
  have hz2 := (hb2.block _ (by simp)).trans HZ.out
  have HB2 := Lib.hid (below_next HB1.out hb2)
  have hsz := hb2.size
  have HZ2 := Lib.hid hz2
  clear HW hb2 hz2
  go_wp2_with (with_reducible refine pause_ex ?_)
  refine Pause.of (wpList_store_new _ rfl _ _ _ rfl _ _ rfl (by rfl) _ _ HZ2.out (by kernel_rfl) (by rfl) (by simp [Value.oneCell']) ?_)
  intro w5 hrow5 hg5
  have j0 := cell_of_row _ _ 0 _ _ _ hrow5
  have j1 := cell_of_row _ _ 1 _ _ _ hrow5
  have j2 := cell_of_row _ _ 2 _ _ _ hrow5
  have j3 := cell_of_row _ _ 3 _ _ _ hrow5
  have j4 := cell_of_row _ _ 4 _ _ _ hrow5
  have j5 := cell_of_row _ _ 5 _ _ _ hrow5
  have hs1 : (w.alloc (.cells #[.int .i64 0, .int .i64 0, .int .i64 0, .int .i64 0, .string { data := #[] }, .slice none 0 0] 31)).heap.size = w.heap.size + 1 := by simp
  have HH : Hid (ParsedG x w (.returned (.tuple #[.agg #[.int .i64 kx, .int .i64 ox, .int .i64 ax, .int .i64 lx, .string sx, .slice Ax nx cx], .int .i64 0, .int .i64 0])) w5) := Lib.hid ⟨dx, _, _, _, _, _, _, _, _, rfl, Lib.hid (hx.out.keep (fun q hq => ⟨by omega, Nat.lt_of_lt_of_le hq.2 hg5.size⟩) (fun q hq => hg5.block q hq.2 (fun e => by injection e with e; omega))), HB2.out.trans (grown_any hg5 (fun k hk => by injection hk with hk; omega) (by have := HB2.out.size; omega))⟩
  clear hrow5 hg5 hs1
  go_wp2_with fail
  exact bodyPost_ret (by simp [results, Tryz.results8, go_sem, j0, j1, j2, j3, j4, j5]) rfl HH.out
set_option maxRecDepth 100000 in
set_option maxHeartbeats 2000000 in
theorem parse_bad (s : ByteArray) (w : World) (hs : s.size ≤ 65536) (he : Errs w) (ts : List Tok) (d : Nat) (x : Ex) (s' : PS) (h1 : scan 1 s.data.toList = .ok ts) (h2 : exprP d ⟨ts, 0, 0⟩ = some (x, s')) (N : Nat) (h3 : (endP s').ref = N) (h4 : 0 < N) :
    Calls Tryz.prog 8 #[.string s] w (BadG N w) := by
  have hb1 := (Below.refl _ w).alloc (Nat.le_refl _) (.cells #[.int .i64 0, .int .i64 0, .int .i64 0, .int .i64 0, .string { data := #[] }, .slice none 0 0] 31)
  have HZ := Lib.hid (heap_alloc_new w (.cells #[.int .i64 0, .int .i64 0, .int .i64 0, .int .i64 0, .string { data := #[] }, .slice none 0 0] 31))
  have HW := Lib.hid (whole_bad s _ hs (he.below hb1) ts d x s' h1 h2 N h3 h4)
  have HB1 := Lib.hid hb1
  clear hb1 he hs h1 h2 h3 h4
  go_enter Tryz.func8, Tryz.ntmps8
  go_wp2_with fail
  refine HW.out.mono ?_
  rintro e w2 ⟨rfl, hb2⟩
  have hz2 := (hb2.block _ (by simp)).trans HZ.out
  have HB2 := Lib.hid (below_next HB1.out hb2)
  have hsz := hb2.size
  have HZ2 := Lib.hid hz2
  clear HW hb2 hz2
  go_wp2_with (with_reducible refine pause_ex ?_)
  refine Pause.of (wpList_store_new _ rfl _ _ _ rfl _ _ rfl (by rfl) _ _ HZ2.out (by kernel_rfl) (by rfl) (by simp [Value.oneCell']) ?_)
  intro w5 hrow5 hg5
  have j0 := cell_of_row _ _ 0 _ _ _ hrow5
  have j1 := cell_of_row _ _ 1 _ _ _ hrow5
  have j2 := cell_of_row _ _ 2 _ _ _ hrow5
  have j3 := cell_of_row _ _ 3 _ _ _ hrow5
  have j4 := cell_of_row _ _ 4 _ _ _ hrow5
  have j5 := cell_of_row _ _ 5 _ _ _ hrow5
  have HH : Hid (BadG N w (.returned (.tuple #[.agg #[.int .i64 0, .int .i64 0, .int .i64 0, .int .i64 0, .string { data := #[] }, .slice none 0 0], .int .i64 (N : Int), .int .i64 7])) w5) := Lib.hid ⟨rfl, HB2.out.trans (grown_any hg5 (fun k hk => by injection hk with hk; omega) (by have := HB2.out.size; omega))⟩
  clear hrow5 hg5
  go_wp2_with fail
  exact bodyPost_ret (by simp [results, Tryz.results8, go_sem, j0, j1, j2, j3, j4, j5]) rfl HH.out
end Go.Proofs.YtdnaknpifinfdaaGreatDoor
