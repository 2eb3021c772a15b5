/-
  The parser of expressions whole: whole, ParseExpr at texts that are read and that are refused; the plain comparison of trees. Condition: the library's two errors lie where they were laid.
-/
import Derived.Test.YtmpnkbhlagalkaaGreatDoorPsCall6
import Derived.Deep.QuietTactic
import Derived.BigQuiet
namespace Go.Proofs.YtmpnkbhlagalkaaGreatDoor
open Go.RowKit

/-- A tree is handed back. -/
def ParsedG (x : Ex) (w : World) (e : Ending) (w' : World) : Prop := ∃ d k o a l nm A n c, e = .returned (.tuple #[.agg #[.int .i64 k, .int .i64 o, .int .i64 a, .int .i64 l, .string nm, .slice A n c], .int .i64 0, .int .i64 0]) ∧ Hid (ExV (fun q => w.heap.size ≤ q ∧ q < w'.heap.size) w' d x (.agg #[.int .i64 k, .int .i64 o, .int .i64 a, .int .i64 l, .string nm, .slice A n c])) ∧ Below w.heap.size w w'
/-- A text is refused. -/
def RefusedG (n : Nat) (w : World) (e : Ending) (w' : World) : Prop := e = .returned (.tuple #[.agg #[.int .i64 0, .int .i64 0, .int .i64 0, .int .i64 0, .string { data := #[] }, .slice none 0 0], .int .i64 (n : Int), .int .i64 7]) ∧ Below w.heap.size w w'
theorem pa_start {w : World} {base : Nat} {v : Value} {ts : List Tok} (hown : w.ownsRow base 67 4 v ts.length (tks ts)) (hwf : WFt ts) (hlen : ts.length ≤ 1000000) : ∃ g c, v = .slice (some ⟨g, 0, none⟩) ts.length c ∧ base ≤ g ∧ g < w.heap.size ∧ ∀ T : TypeId, PA (w.alloc (.cells #[v, .int .i64 0, .int .i64 0] T)) w.heap.size g ⟨ts, 0, 0⟩ := by
  have hpos := hwf.pos
  obtain ⟨g, c, hv, hb, hc, hg, _⟩ := own_lit hown (k := 0) (List.getElem?_eq_getElem hpos)
  refine ⟨g, c, hv, hb, hg, fun T => ⟨0, c, ts.length - 1, hwf, by omega, ?_, ?_, ?_, ⟨T, ?_⟩, fun k t hk => ?_⟩⟩
  · show ts.length = ts.length - 1 + 1
    omega
  · omega
  · omega
  · rw [heap_alloc_new, hv]
    have e : ts.length = ts.length - 1 + 1 := by omega
    rw [← e]
    rfl
  · obtain ⟨g', c', hv', _, _, _, h0, h1, h2, h3⟩ := own_lit hown hk
    rw [hv] at hv'
    injection hv' with e1 e2 e3
    injection e1 with e1
    injection e1 with e1
    subst e1
    have hb := (Below.refl _ w).alloc (Nat.le_refl _) (.cells #[v, .int .i64 0, .int .i64 0] T)
    have hT : TokAt w g (k * 4) t := ⟨h0, h1, h2, h3⟩
    rw [Nat.zero_add]
    exact hT.keep (hb.block g hg)
/-- A store of an expression that stands still. -/
theorem pause_ex {P : Program} {w : World} {ops : Array Oper} {rest : List Oper} {d : Option Tmp} {ty : TypeId} {x y : Operand} {pos : String} {af : Array Edge} {gd : Option (Nat × Bool)} {a : Act} {Q : Exit → Act → World → Prop}
    (h : Pause (wpList P ops Q ({ dst := d, op := .store 30 x y, type := ty, pos := pos, after := af, guard := gd } :: rest) a w)) : wpList P ops Q ({ dst := d, op := .store 30 x y, type := ty, pos := pos, after := af, guard := gd } :: rest) a w := h
set_option maxRecDepth 100000 in
set_option maxHeartbeats 2000000 in
theorem whole_ok (s : ByteArray) (w : World) (hs : s.size ≤ 65536) (he : Errs w) (ts : List Tok) (d : Nat) (x : Ex) (s' : PS) (h1 : scan 1 s.data.toList = .ok ts) (h2 : exprP d ⟨ts, 0, 0⟩ = some (x, s')) (h3 : (hdT s').kind = 0) (h4 : s'.ref = 0) (h5 : s'.out = 0) :
    Calls Tryz.prog 11 #[.string s, .func (.func 12) #[] #[]] w (ParsedG x w) := by
  have hb1 := (Below.refl _ w).alloc (Nat.le_refl _) (.cells #[.int .i64 0, .int .i64 0, .int .i64 0, .int .i64 0, .string { data := #[] }, .slice none 0 0] 30)
  have hz := heap_alloc_new w (.cells #[.int .i64 0, .int .i64 0, .int .i64 0, .int .i64 0, .string { data := #[] }, .slice none 0 0] 30)
  have hl : s.data.toList.length = s.size := by simp
  have hsc : scanT s.data.toList = .ok ts := by rw [scanT, if_neg (by omega), h1]
  have HSC := Lib.hid (scan_any s _ hs (he.below hb1))
  rw [hsc] at HSC
  have hts : ts.length ≤ 1000000 := by have := (scan_size _ _ _ _ (Nat.le_refl _) h1).2; omega
  have HWF := Lib.hid (wft_scan h1)
  have HP := Lib.hid h2
  have HK := Lib.hid h3
  have HF := Lib.hid h4
  have HO := Lib.hid h5
  have HB1 := Lib.hid hb1
  have HZ := Lib.hid hz
  clear hb1 hz hl hsc h1 h2 h3 h4 h5 he
  go_enter Tryz.func11, Tryz.ntmps11
  go_wp2_with fail
  refine HSC.out.mono ?_
  rintro e w2 ⟨v, rfl, hown, hb2⟩
  obtain ⟨g, c, hv, hbg, hgl, hpa⟩ := pa_start hown HWF.out hts
  have h3 := hpa 62
  have hb3 := (Below.refl _ w2).alloc (Nat.le_refl _) (.cells #[v, .int .i64 0, .int .i64 0] 62)
  have hb02 := below_next HB1.out (hb2.mono (by simp))
  have hz2 := (hb2.block _ (by simp)).trans HZ.out
  rw [hv] at h3 hb3
  have HC := Lib.hid (expr_any d _ _ _ _ _ _ h3 HP.out)
  have HB3 := Lib.hid (below_next hb02 hb3)
  have HZ3 := Lib.hid ((hb3.block _ (Array.getElem?_eq_some_iff.1 hz2).1).trans hz2)
  have hsz := hb02.size
  have hsz2 := (Array.getElem?_eq_some_iff.1 hz2).1
  subst hv
  clear HSC hown hb2 hpa h3 hb3 hb02 hz2
  go_wp2_with fail
  refine HC.out.mono ?_
  rintro e w4 ⟨b, rfl, hx, hp, hg, _⟩
  obtain ⟨_, dx, kx, ox, ax, lx, sx, Ax, nx, cx, rx, vx⟩ := hx
  have hp' := hp
  obtain ⟨off', c', n', hr⟩ := hp'
  have c1 := hr.cells.2.1
  have c2 := hr.cells.2.2.1
  rw [HF.out] at c1
  rw [HO.out] at c2
  have HEN := Lib.hid (ended_any _ hp)
  rw [show decide ((hdT s').kind = 0) = true from by rw [HK.out]; rfl] at HEN
  have a0 := cell_of_row _ _ 0 _ _ _ rx
  have a1 := cell_of_row _ _ 1 _ _ _ rx
  have a2 := cell_of_row _ _ 2 _ _ _ rx
  have a3 := cell_of_row _ _ 3 _ _ _ rx
  have a4 := cell_of_row _ _ 4 _ _ _ rx
  have a5 := cell_of_row _ _ 5 _ _ _ rx
  have hz4 := blk_keep hg (by omega) HZ3.out
  have HB4 := Lib.hid (HB3.out.trans (grown_any hg (fun k hk => by injection hk with hk; omega) (by have := HB3.out.size; omega)))
  have hsz4 := hg.size
  have hsz3 : (w2.alloc (.cells #[.slice (some ⟨g, 0, none⟩) ts.length c, .int .i64 0, .int .i64 0] 62)).heap.size = w2.heap.size + 1 := by simp
  have HZ4 := Lib.hid hz4
  have HV := Lib.hid vx
  have H3 := Lib.hid hsz3
  clear HC hp hr hg vx rx hz4 hsz3
  go_wp2_with fail
  refine HEN.out.mono ?_
  rintro e w4' ⟨rfl, rfl⟩
  clear HEN
  go_wp2_with (with_reducible refine pause_ex ?_)
  refine Pause.of (wpList_store_new _ rfl _ _ _ rfl _ _ rfl (by rfl) _ _ HZ4.out (by kernel_rfl) (by rfl) (by simp [Value.oneCell']) ?_)
  intro w5 hrow5 hg5
  have j0 := cell_of_row _ _ 0 _ _ _ hrow5
  have j1 := cell_of_row _ _ 1 _ _ _ hrow5
  have j2 := cell_of_row _ _ 2 _ _ _ hrow5
  have j3 := cell_of_row _ _ 3 _ _ _ hrow5
  have j4 := cell_of_row _ _ 4 _ _ _ hrow5
  have j5 := cell_of_row _ _ 5 _ _ _ hrow5
  have HH : Hid (ParsedG x w (.returned (.tuple #[.agg #[.int .i64 kx, .int .i64 ox, .int .i64 ax, .int .i64 lx, .string sx, .slice Ax nx cx], .int .i64 0, .int .i64 0])) w5) := Lib.hid ⟨dx, _, _, _, _, _, _, _, _, rfl, Lib.hid (HV.out.keep (fun q hq => ⟨by have := H3.out; omega, Nat.lt_of_lt_of_le hq.2 hg5.size⟩) (fun q hq => hg5.block q hq.2 (fun e => by injection e with e; have := H3.out; omega))), HB4.out.trans (grown_any hg5 (fun k hk => by injection hk with hk; omega) (by have := HB4.out.size; omega))⟩
  clear hrow5 hg5
  go_wp2_with fail
  exact bodyPost_ret (by simp [results, Tryz.results11, go_sem, j0, j1, j2, j3, j4, j5]) rfl HH.out
end Go.Proofs.YtmpnkbhlagalkaaGreatDoor
namespace Go.Proofs.YtmpnkbhlagalkaaGreatDoor
open Go.RowKit

/-- What is refused: a token is left, or one was refused before. -/
def endP (s : PS) : PS := if (hdT s).kind = 0 then s else refuseP s
/-- The ending of a text that is refused. -/
def BadG (n : Nat) (w : World) (e : Ending) (w' : World) : Prop := e = .returned (.tuple #[.agg #[.int .i64 0, .int .i64 0, .int .i64 0, .int .i64 0, .string { data := #[] }, .slice none 0 0], .int .i64 (n : Int), .int .i64 7]) ∧ Below w.heap.size w w'
set_option maxRecDepth 100000 in
set_option maxHeartbeats 2000000 in
theorem whole_bad (s : ByteArray) (w : World) (hs : s.size ≤ 65536) (he : Errs w) (ts : List Tok) (d : Nat) (x : Ex) (s' : PS) (h1 : scan 1 s.data.toList = .ok ts) (h2 : exprP d ⟨ts, 0, 0⟩ = some (x, s')) (N : Nat) (h3 : (endP s').ref = N) (h4 : 0 < N) :
    Calls Tryz.prog 11 #[.string s, .func (.func 12) #[] #[]] w (BadG N w) := by
  have hb1 := (Below.refl _ w).alloc (Nat.le_refl _) (.cells #[.int .i64 0, .int .i64 0, .int .i64 0, .int .i64 0, .string { data := #[] }, .slice none 0 0] 30)
  have hz := heap_alloc_new w (.cells #[.int .i64 0, .int .i64 0, .int .i64 0, .int .i64 0, .string { data := #[] }, .slice none 0 0] 30)
  have hl : s.data.toList.length = s.size := by simp
  have hsc : scanT s.data.toList = .ok ts := by rw [scanT, if_neg (by omega), h1]
  have HSC := Lib.hid (scan_any s _ hs (he.below hb1))
  rw [hsc] at HSC
  have hts : ts.length ≤ 1000000 := by have := (scan_size _ _ _ _ (Nat.le_refl _) h1).2; omega
  have HWF := Lib.hid (wft_scan h1)
  have HP := Lib.hid h2
  have HF := Lib.hid h3
  have hpos2 : (0 : Int) < (N : Int) := by omega
  have HB1 := Lib.hid hb1
  have HZ := Lib.hid hz
  clear hb1 hz hl hsc h1 h2 h3 h4 he
  go_enter Tryz.func11, Tryz.ntmps11
  go_wp2_with fail
  refine HSC.out.mono ?_
  rintro e w2 ⟨v, rfl, hown, hb2⟩
  obtain ⟨g, c, hv, hbg, hgl, hpa⟩ := pa_start hown HWF.out hts
  have h3 := hpa 62
  have hb3 := (Below.refl _ w2).alloc (Nat.le_refl _) (.cells #[v, .int .i64 0, .int .i64 0] 62)
  have hb02 := below_next HB1.out (hb2.mono (by simp))
  have hz2 := (hb2.block _ (by simp)).trans HZ.out
  rw [hv] at h3 hb3
  have HC := Lib.hid (expr_any d _ _ _ _ _ _ h3 HP.out)
  have HB3 := Lib.hid (below_next hb02 hb3)
  have HZ3 := Lib.hid ((hb3.block _ (Array.getElem?_eq_some_iff.1 hz2).1).trans hz2)
  have hsz := hb02.size
  have hsz2 := (Array.getElem?_eq_some_iff.1 hz2).1
  subst hv
  clear HSC hown hb2 hpa h3 hb3 hb02 hz2
  go_wp2_with fail
  refine HC.out.mono ?_
  rintro e w4 ⟨b, rfl, hx, hp, hg, _⟩
  have HEN := Lib.hid (ended_any _ hp)
  by_cases hk : (hdT s').kind = 0
  · have e0 : endP s' = s' := by simp [endP, hk]
    rw [e0] at HF
    rw [show decide ((hdT s').kind = 0) = true from by rw [hk]; rfl] at HEN
    have HP4 := Lib.hid hp
    have HG4 := Lib.hid hg
    clear HC hp hg hx hk
    go_wp2_with fail
    refine HEN.out.mono ?_
    rintro e w4' ⟨rfl, rfl⟩
    have hpE := HP4.out
    have hgE := HG4.out
    clear HEN HP4 HG4
    have hp' := hpE
    obtain ⟨off', c', n', hr⟩ := hp'
    have c1 := hr.cells.2.1
    have hz4 := blk_keep hgE (by omega) HZ3.out
    have z0 := cell_of_row _ _ 0 _ _ _ hz4
    have z1 := cell_of_row _ _ 1 _ _ _ hz4
    have z2 := cell_of_row _ _ 2 _ _ _ hz4
    have z3 := cell_of_row _ _ 3 _ _ _ hz4
    have z4 := cell_of_row _ _ 4 _ _ _ hz4
    have z5 := cell_of_row _ _ 5 _ _ _ hz4
    have fz : ∀ i, w4.frozen? ⟨w.heap.size, i, none⟩ = false := codes_fz hz4
    have f0 := fz 0
    have f1 := fz 1
    have f2 := fz 2
    have f3 := fz 3
    have f4 := fz 4
    have f5 := fz 5
    have HB4 := Lib.hid (HB3.out.trans (grown_any hgE (fun k hk => by injection hk with hk; omega) (by have := HB3.out.size; omega)))
    have HZ4 := Lib.hid hz4
    rw [HF.out] at c1
    clear hpE hgE hr fz hz4
    go_wp2_with fail
    go_region
    all_goals go_wp2_with fail
    have h6 := row_set6 (.int .i64 0) (.int .i64 0) (.int .i64 0) (.int .i64 0) (.string { data := #[] }) (.slice none 0 0) HZ4.out
    have j0 := cell_of_row _ _ 0 _ _ _ h6.1
    have j1 := cell_of_row _ _ 1 _ _ _ h6.1
    have j2 := cell_of_row _ _ 2 _ _ _ h6.1
    have j3 := cell_of_row _ _ 3 _ _ _ h6.1
    have j4 := cell_of_row _ _ 4 _ _ _ h6.1
    have j5 := cell_of_row _ _ 5 _ _ _ h6.1
    have HH : Hid (BadG N w (.returned (.tuple #[.agg #[.int .i64 0, .int .i64 0, .int .i64 0, .int .i64 0, .string { data := #[] }, .slice none 0 0], .int .i64 (N : Int), .int .i64 7])) (World.drew _)) := Lib.hid ⟨rfl, (HB4.out.trans (grown_any h6.2 (fun k hk => by injection hk with hk; omega) (by have := HB4.out.size; omega))).drew⟩
    clear h6
    all_goals exact bodyPost_ret (by simp [results, Tryz.results11, go_sem, World.cell?_drew, j0, j1, j2, j3, j4, j5]) rfl HH.out
  · have e0 : endP s' = refuseP s' := by simp [endP, hk]
    rw [e0] at HF
    rw [show decide ((hdT s').kind = 0) = false from by simpa using hk] at HEN
    have HR := Lib.hid (refuse_any _ hp)
    have HG4 := Lib.hid hg
    clear HC hp hg hx hk
    go_wp2_with fail
    refine HEN.out.mono ?_
    rintro e w4' ⟨rfl, rfl⟩
    go_wp2_with fail
    refine HR.out.mono ?_
    rintro e w5 ⟨⟨v, rfl⟩, hpE, hg5⟩
    have hgE := HG4.out.trans hg5
    clear HEN HR HG4 hg5
    have hp' := hpE
    obtain ⟨off', c', n', hr⟩ := hp'
    have c1 := hr.cells.2.1
    have hz4 := blk_keep hgE (by omega) HZ3.out
    have z0 := cell_of_row _ _ 0 _ _ _ hz4
    have z1 := cell_of_row _ _ 1 _ _ _ hz4
    have z2 := cell_of_row _ _ 2 _ _ _ hz4
    have z3 := cell_of_row _ _ 3 _ _ _ hz4
    have z4 := cell_of_row _ _ 4 _ _ _ hz4
    have z5 := cell_of_row _ _ 5 _ _ _ hz4
    have fz : ∀ i, w5.frozen? ⟨w.heap.size, i, none⟩ = false := codes_fz hz4
    have f0 := fz 0
    have f1 := fz 1
    have f2 := fz 2
    have f3 := fz 3
    have f4 := fz 4
    have f5 := fz 5
    have HB4 := Lib.hid (HB3.out.trans (grown_any hgE (fun k hk => by injection hk with hk; omega) (by have := HB3.out.size; omega)))
    have HZ4 := Lib.hid hz4
    rw [HF.out] at c1
    clear hpE hgE hr fz hz4
    go_wp2_with fail
    go_region
    all_goals go_wp2_with fail
    have h6 := row_set6 (.int .i64 0) (.int .i64 0) (.int .i64 0) (.int .i64 0) (.string { data := #[] }) (.slice none 0 0) HZ4.out
    have j0 := cell_of_row _ _ 0 _ _ _ h6.1
    have j1 := cell_of_row _ _ 1 _ _ _ h6.1
    have j2 := cell_of_row _ _ 2 _ _ _ h6.1
    have j3 := cell_of_row _ _ 3 _ _ _ h6.1
    have j4 := cell_of_row _ _ 4 _ _ _ h6.1
    have j5 := cell_of_row _ _ 5 _ _ _ h6.1
    have HH : Hid (BadG N w (.returned (.tuple #[.agg #[.int .i64 0, .int .i64 0, .int .i64 0, .int .i64 0, .string { data := #[] }, .slice none 0 0], .int .i64 (N : Int), .int .i64 7])) (World.drew _)) := Lib.hid ⟨rfl, (HB4.out.trans (grown_any h6.2 (fun k hk => by injection hk with hk; omega) (by have := HB4.out.size; omega))).drew⟩
    clear h6
    all_goals exact bodyPost_ret (by simp [results, Tryz.results11, go_sem, World.cell?_drew, j0, j1, j2, j3, j4, j5]) rfl HH.out
set_option maxRecDepth 100000 in
set_option maxHeartbeats 2000000 in
theorem parse_ok (s : ByteArray) (w : World) (hs : s.size ≤ 65536) (he : Errs w) (ts : List Tok) (d : Nat) (x : Ex) (s' : PS) (h1 : scan 1 s.data.toList = .ok ts) (h2 : exprP d ⟨ts, 0, 0⟩ = some (x, s')) (h3 : (hdT s').kind = 0) (h4 : s'.ref = 0) (h5 : s'.out = 0) :
    Calls Tryz.prog 7 #[.string s] w (ParsedG x w) := by
  have hb1 := (Below.refl _ w).alloc (Nat.le_refl _) (.cells #[.int .i64 0, .int .i64 0, .int .i64 0, .int .i64 0, .string { data := #[] }, .slice none 0 0] 30)
  have HZ := Lib.hid (heap_alloc_new w (.cells #[.int .i64 0, .int .i64 0, .int .i64 0, .int .i64 0, .string { data := #[] }, .slice none 0 0] 30))
  have HW := Lib.hid (whole_ok s _ hs (he.below hb1) ts d x s' h1 h2 h3 h4 h5)
  have HB1 := Lib.hid hb1
  clear hb1 he hs h1 h2 h3 h4 h5
  go_enter Tryz.func7, Tryz.ntmps7
  go_wp2_with fail
  refine HW.out.mono ?_
  rintro e w2 ⟨dx, kx, ox, ax, lx, sx, Ax, nx, cx, rfl, hx, hb2⟩
  have hz2 := (hb2.block _ (by simp)).trans HZ.out
  have HB2 := Lib.hid (below_next HB1.out hb2)
  have hsz := hb2.size
  have HZ2 := Lib.hid hz2
  clear HW hb2 hz2
  go_wp2_with (with_reducible refine pause_ex ?_)
  refine Pause.of (wpList_store_new _ rfl _ _ _ rfl _ _ rfl (by rfl) _ _ HZ2.out (by kernel_rfl) (by rfl) (by simp [Value.oneCell']) ?_)
  intro w5 hrow5 hg5
  have j0 := cell_of_row _ _ 0 _ _ _ hrow5
  have j1 := cell_of_row _ _ 1 _ _ _ hrow5
  have j2 := cell_of_row _ _ 2 _ _ _ hrow5
  have j3 := cell_of_row _ _ 3 _ _ _ hrow5
  have j4 := cell_of_row _ _ 4 _ _ _ hrow5
  have j5 := cell_of_row _ _ 5 _ _ _ hrow5
  have hs1 : (w.alloc (.cells #[.int .i64 0, .int .i64 0, .int .i64 0, .int .i64 0, .string { data := #[] }, .slice none 0 0] 30)).heap.size = w.heap.size + 1 := by simp
  have HH : Hid (ParsedG x w (.returned (.tuple #[.agg #[.int .i64 kx, .int .i64 ox, .int .i64 ax, .int .i64 lx, .string sx, .slice Ax nx cx], .int .i64 0, .int .i64 0])) w5) := Lib.hid ⟨dx, _, _, _, _, _, _, _, _, rfl, Lib.hid (hx.out.keep (fun q hq => ⟨by omega, Nat.lt_of_lt_of_le hq.2 hg5.size⟩) (fun q hq => hg5.block q hq.2 (fun e => by injection e with e; omega))), HB2.out.trans (grown_any hg5 (fun k hk => by injection hk with hk; omega) (by have := HB2.out.size; omega))⟩
  clear hrow5 hg5 hs1
  go_wp2_with fail
  exact bodyPost_ret (by simp [results, Tryz.results7, go_sem, j0, j1, j2, j3, j4, j5]) rfl HH.out
set_option maxRecDepth 100000 in
set_option maxHeartbeats 2000000 in
theorem parse_bad (s : ByteArray) (w : World) (hs : s.size ≤ 65536) (he : Errs w) (ts : List Tok) (d : Nat) (x : Ex) (s' : PS) (h1 : scan 1 s.data.toList = .ok ts) (h2 : exprP d ⟨ts, 0, 0⟩ = some (x, s')) (N : Nat) (h3 : (endP s').ref = N) (h4 : 0 < N) :
    Calls Tryz.prog 7 #[.string s] w (BadG N w) := by
  have hb1 := (Below.refl _ w).alloc (Nat.le_refl _) (.cells #[.int .i64 0, .int .i64 0, .int .i64 0, .int .i64 0, .string { data := #[] }, .slice none 0 0] 30)
  have HZ := Lib.hid (heap_alloc_new w (.cells #[.int .i64 0, .int .i64 0, .int .i64 0, .int .i64 0, .string { data := #[] }, .slice none 0 0] 30))
  have HW := Lib.hid (whole_bad s _ hs (he.below hb1) ts d x s' h1 h2 N h3 h4)
  have HB1 := Lib.hid hb1
  clear hb1 he hs h1 h2 h3 h4
  go_enter Tryz.func7, Tryz.ntmps7
  go_wp2_with fail
  refine HW.out.mono ?_
  rintro e w2 ⟨rfl, hb2⟩
  have hz2 := (hb2.block _ (by simp)).trans HZ.out
  have HB2 := Lib.hid (below_next HB1.out hb2)
  have hsz := hb2.size
  have HZ2 := Lib.hid hz2
  clear HW hb2 hz2
  go_wp2_with (with_reducible refine pause_ex ?_)
  refine Pause.of (wpList_store_new _ rfl _ _ _ rfl _ _ rfl (by rfl) _ _ HZ2.out (by kernel_rfl) (by rfl) (by simp [Value.oneCell']) ?_)
  intro w5 hrow5 hg5
  have j0 := cell_of_row _ _ 0 _ _ _ hrow5
  have j1 := cell_of_row _ _ 1 _ _ _ hrow5
  have j2 := cell_of_row _ _ 2 _ _ _ hrow5
  have j3 := cell_of_row _ _ 3 _ _ _ hrow5
  have j4 := cell_of_row _ _ 4 _ _ _ hrow5
  have j5 := cell_of_row _ _ 5 _ _ _ hrow5
  have HH : Hid (BadG N w (.returned (.tuple #[.agg #[.int .i64 0, .int .i64 0, .int .i64 0, .int .i64 0, .string { data := #[] }, .slice none 0 0], .int .i64 (N : Int), .int .i64 7])) w5) := Lib.hid ⟨rfl, HB2.out.trans (grown_any hg5 (fun k hk => by injection hk with hk; omega) (by have := HB2.out.size; omega))⟩
  clear hrow5 hg5
  go_wp2_with fail
  exact bodyPost_ret (by simp [results, Tryz.results7, go_sem, j0, j1, j2, j3, j4, j5]) rfl HH.out
end Go.Proofs.YtmpnkbhlagalkaaGreatDoor
namespace Go.Proofs.YtmpnkbhlagalkaaGreatDoor
open Go.RowKit

/-- A bool is handed back; nothing but orders was drawn. -/
abbrev RetQ (b : Bool) (w : World) (e : Ending) (w' : World) : Prop := e = .returned (.bool b) ∧ ∃ q, w' = w.drewN q
def eq1 (ln : Bool) (f : List Ex → List Ex → Bool) : Ex → Ex → Bool
  | .mk k o a l s az, .mk k' o' a' l' s' bs => decide (k = k') && decide (o = o') && decide (a = a') && decide (s.data.toList = s'.data.toList) && (!ln || decide (l = l')) && f az bs
/-- Whether two rows of expressions are equal, with or without their lines. -/
def eqX (ln : Bool) : Nat → List Ex → List Ex → Bool
  | 0, xs, ys => decide (xs.length = ys.length)
  | d + 1, xs, ys => decide (xs.length = ys.length) && (xs.zip ys).all fun p => eq1 ln (eqX ln d) p.1 p.2
def LenOk : Nat → List Ex → Prop
  | 0, xs => xs.length ≤ 1000000
  | d + 1, xs => xs.length ≤ 1000000 ∧ ∀ x ∈ xs, LenOk d x.args
theorem LenOk.le {d : Nat} {xs : List Ex} (h : LenOk d xs) : xs.length ≤ 1000000 := by
  cases d with
  | zero => exact h
  | succ d => exact h.1
theorem quiet_q {P : Program} {f : FuncId} {args : Array Value} {w : World} {q x : Nat} {v : Value} (h : Calls P f args (w.drewN (q + x)) fun e w' => e = .returned v ∧ ∃ m, w' = (w.drewN (q + x)).drewN m) : Calls P f args (w.drewN (q + x)) fun e w'' => e = .returned v ∧ ∃ m, w'' = w.drewN (q + m) :=
  h.mono fun _ _ ⟨he, m, hm⟩ => ⟨he, x + m, by rw [hm, World.drewN_drewN, Nat.add_assoc]⟩
theorem eqX_len {ln : Bool} {d : Nat} {xs ys : List Ex} (h : xs.length ≠ ys.length) : eqX ln d xs ys = false := by
  cases d <;> simp [eqX, h]
theorem eqX_yes {ln : Bool} {d : Nat} {xs ys : List Ex} (h : xs.length = ys.length) (ha : ∀ (j : Nat) (x y : Ex), xs[j]? = some x → ys[j]? = some y → eq1 ln (eqX ln (d - 1)) x y = true) : eqX ln d xs ys = true := by
  cases d with
  | zero => simp [eqX, h]
  | succ d =>
    simp only [eqX, h, decide_true, Bool.true_and, List.all_eq_true]
    rintro ⟨x, y⟩ hm
    obtain ⟨j, hj, e⟩ := List.mem_iff_getElem.1 hm
    rw [List.getElem_zip] at e
    injection e with e1 e2
    rw [List.length_zip] at hj
    exact ha j x y (by rw [← e1]; exact List.getElem?_eq_getElem _) (by rw [← e2]; exact List.getElem?_eq_getElem _)
theorem eqX_no {ln : Bool} {d j : Nat} {xs ys : List Ex} {x y : Ex} (h1 : xs[j]? = some x) (h2 : ys[j]? = some y) (h : eq1 ln (eqX ln d) x y = false) : eqX ln (d + 1) xs ys = false := by
  by_cases hl : xs.length = ys.length
  · simp only [eqX, hl, decide_true, Bool.true_and]
    rw [← Bool.not_eq_true, List.all_eq_true]
    intro ha
    have := ha (x, y) (by
      refine List.mem_iff_getElem?.2 ⟨j, ?_⟩
      rw [List.getElem?_zip_eq_some]
      exact ⟨h1, h2⟩)
    rw [h] at this
    cases this
  · exact eqX_len hl
theorem bytesNe {a b : ByteArray} (h : ¬ a.data.toList = b.data.toList) : (a.toList == b.toList) = false := by
  rw [beq_eq_false_iff_ne]
  intro e
  rw [Lib.toList_data, Lib.toList_data] at e
  exact h e
theorem bytesEq {a b : ByteArray} (h : a.data.toList = b.data.toList) : a = b := by
  cases a with
  | mk a => cases b with
    | mk b => congr 1; exact Array.toList_inj.1 h
theorem rowE_at {F : Nat → Prop} {w : World} {d k : Nat} {xs : List Ex} {A : Option Addr} {c : Nat} {x : Ex} (h : RowE F w (d + 1) xs A c) (hx : xs[k]? = some x) : ∃ g off k' o a l s az A' c', A = some ⟨g, off, none⟩ ∧ x = .mk k' o a l s az ∧ w.cell? ⟨g, off + k * 6, none⟩ = some (.int .i64 k') ∧ w.cell? ⟨g, off + k * 6 + 1, none⟩ = some (.int .i64 o) ∧ w.cell? ⟨g, off + k * 6 + 2, none⟩ = some (.int .i64 a) ∧ w.cell? ⟨g, off + k * 6 + 3, none⟩ = some (.int .i64 l) ∧ w.cell? ⟨g, off + k * 6 + 4, none⟩ = some (.string s) ∧ w.cell? ⟨g, off + k * 6 + 5, none⟩ = some (.slice A' az.length c') ∧ RowE F w d az A' c' := by
  obtain ⟨g, off, c0, c1, c2, c3, c4, c5, hA, _, h0, h1, h2, h3, h4, h5, hv⟩ := h.2 k x hx
  match x, hv with
  | .mk k' o a l s az, ⟨A', c', hv, hr⟩ =>
    injection hv with hv
    injection hv with hv
    injection hv with e0 hv
    injection hv with e1 hv
    injection hv with e2 hv
    injection hv with e3 hv
    injection hv with e4 hv
    injection hv with e5 _
    subst e0 e1 e2 e3 e4 e5
    exact ⟨g, off, k', o, a, l, s, az, A', c', hA, rfl, h0, h1, h2, h3, h4, h5, hr⟩
end Go.Proofs.YtmpnkbhlagalkaaGreatDoor
