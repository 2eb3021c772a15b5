/-
  A run's call of a function without parameters and locals; within. Conditions: as a block's; the depth is below its limit.
-/
import Derived.Test.YtjmbllbnlnjanaaEvB
import Derived.Laws.MakeOwn
import Derived.Laws.IdiomCopy
import Derived.Lib.MinMax
namespace Go.Proofs.Ytjmbllbnlnjanaa
open Go.RowKit

theorem cell2_ro {w2 : World} {p B : Nat} {r : Rn} {outs : List Int} {v0 v1 a b : Value} {T : TypeId} (hZ : w2.heap[B]? = some (.cells #[a, b] T (0, 0))) (hr : RnO p r outs w2) (hp : p ≠ B) (hov : r.ov.ownBlock ≠ some B) :
    ((w2.setCell ⟨B, 0, none⟩ v0).setCell ⟨B, 1, none⟩ v1).drew.cell? ⟨B, 0, none⟩ = some v0 ∧ ((w2.setCell ⟨B, 0, none⟩ v0).setCell ⟨B, 1, none⟩ v1).drew.cell? ⟨B, 1, none⟩ = some v1 ∧ RnO p r outs ((w2.setCell ⟨B, 0, none⟩ v0).setCell ⟨B, 1, none⟩ v1).drew := by
  have h1 : ((w2.setCell ⟨B, 0, none⟩ v0).setCell ⟨B, 1, none⟩ v1).heap[B]? = some (.cells #[v0, v1] T (0, 0)) := row_set (i := 1) v1 (row_set (i := 0) v0 hZ)
  have hg1 : w2.grownBy ((w2.setCell ⟨B, 0, none⟩ v0).setCell ⟨B, 1, none⟩ v1) (some B) := (set_grown w2 ⟨B, 0, none⟩ v0).trans (set_grown _ ⟨B, 1, none⟩ v1)
  have hg9 : w2.grownBy ((w2.setCell ⟨B, 0, none⟩ v0).setCell ⟨B, 1, none⟩ v1).drew (some B) := hg1.trans (grown_of_below (below_drew (Below.refl _ _)) (some B))
  obtain ⟨hp2, L, hg⟩ := hr
  have hr1 : RnP p r ((w2.setCell ⟨B, 0, none⟩ v0).setCell ⟨B, 1, none⟩ v1).drew := blk_keep hg9 (by omega) hp2
  exact ⟨cell_of_row _ _ 0 _ _ _ h1, cell_of_row _ _ 1 _ _ _ h1, hr1, L, mrow_keep hg hg9 hov⟩
theorem below_set2 {p b : Nat} {w W : World} (h : Below p w W) (hp : p ≤ b) (hw : p ≤ w.heap.size) (v0 v1 : Value) : Below p w ((W.setCell ⟨b, 0, none⟩ v0).setCell ⟨b, 1, none⟩ v1).drew := by
  have hg : W.grownBy ((W.setCell ⟨b, 0, none⟩ v0).setCell ⟨b, 1, none⟩ v1) (some b) := (set_grown W ⟨b, 0, none⟩ v0).trans (set_grown _ ⟨b, 1, none⟩ v1)
  exact below_drew (h.trans (grown_any hg (fun k hk => by injection hk with hk; omega) (Nat.le_trans hw h.size)))
set_option maxRecDepth 10000 in
set_option maxHeartbeats 4000000 in
theorem call_ev {F : Nat → Prop} {p D gf gb nf fc n c : Nat} {l : List (Int × Ex)} {r : Rn} {outs o2 : List Int} {z kk s1 : Int} {lA : Option Addr} {ll lc : Nat} (w : World) (hfn : r.fn = .slice (some ⟨gf, 0, none⟩) nf fc) (hnf : 1 ≤ nf) (hlv : r.lv = .slice lA ll lc)
    (c0 : w.cell? ⟨gf, 0, none⟩ = some (.int .i64 0)) (c1 : w.cell? ⟨gf, 1, none⟩ = some (.int .i64 0)) (c2 : w.cell? ⟨gf, 2, none⟩ = some (.slice (some ⟨gb, 0, none⟩) n c)) (hgf : gf < p)
    (hd0 : 0 ≤ r.dp) (hd : r.dp < r.ld) (hd2 : r.ld ≤ 1000) (hn : n = l.length) (hn2 : n ≤ 1000000) (hrow : RowB F w D l gb) (hkd : ∀ y ∈ l, (y.1 = 6 ∨ y.1 = 7) ∧ arX y.2 = true) (hr : RnO p r outs w) (hFg : F gb) (hF : ∀ b, F b → b < p) (hok : RnOk r)
    (hrun : runB r.ls l r.st outs = some (z, kk, s1, o2)) (ho : o2.length < 4096) :
    Calls Try.prog 36 #[.pointer (some ⟨p, 0, none⟩), .int .i64 0, .slice none 0 0] w (fun e w' => e = .returned (.tuple #[.int .i64 z, .agg #[.int .i64 (if kk = 1 then 0 else kk), .int .i64 0]]) ∧ (∃ ov, RnO p { r with st := s1, ov := ov } o2 w') ∧ Below p w w') := by
  have plt : p < w.heap.size := (Array.getElem?_eq_some_iff.1 hr.1).1
  obtain ⟨sz, fn, ls, ld, st, dp, inp, ov, gv, lv⟩ := r
  dsimp only at hfn hlv hd0 hd hd2
  subst hfn hlv
  have hb1 := (Below.refl _ w).alloc (Nat.le_refl _) (.cells #[.int .i64 0, .int .i64 0] 86)
  have hZ1 := heap_alloc_new w (.cells #[.int .i64 0, .int .i64 0] 86)
  have hr1 := hr.below hb1
  have c3' := cell_of_row _ _ 3 _ _ _ hr1.1
  have c5' := cell_of_row _ _ 5 _ _ _ hr1.1
  have HR1 := Lib.hid hr1
  have HR0 := Lib.hid hr
  have HZ1 := Lib.hid hZ1
  have HB1 := Lib.hid hb1
  have HRow := Lib.hid hrow
  have HKd := Lib.hid hkd
  have HFg := Lib.hid hFg
  have HF := Lib.hid hF
  have HOk := Lib.hid hok
  have HRun := Lib.hid hrun
  have HN := Lib.hid hn
  have d0 := hold hb1 c0
  have d1 := hold hb1 c1
  have d2 := hold hb1 c2
  have HC := Lib.hid (And.intro c0 (And.intro c1 c2))
  have c1' := cell_of_row _ _ 1 _ _ _ hr1.1
  have c9' := cell_of_row _ _ 9 _ _ _ hr1.1
  have hgw : gf < w.heap.size := by omega
  have b1 := cell_of_row _ _ 1 _ _ _ hr.1
  have b9 := cell_of_row _ _ 9 _ _ _ hr.1
  have hnf1 : 0 < nf := hnf
  clear hr hb1 hZ1 hr1 hrow hkd hFg hF hok hrun hn d0 d1 d2
  go_enter Try.func36, Try.ntmps36
  go_wp2_with fail
  go_quiet (fail)
  go_wp2_with fail
  go_region
  have hb3 := (below_dn2 HB1.out (nq + 1)).alloc (below_dn2 HB1.out (nq + 1)).size (.cells #[.int .i64 0, .int .i64 0, .slice (some ⟨gb, 0, none⟩) n c] 114)
  have hZ3 : (((w.alloc (.cells #[.int .i64 0, .int .i64 0] 86)).drewN (nq + 1)).alloc (.cells #[.int .i64 0, .int .i64 0, .slice (some ⟨gb, 0, none⟩) n c] 114)).heap[w.heap.size]? = some (.cells #[.int .i64 0, .int .i64 0] 86 (0, 0)) := alloc2_old w _ _
  have hF3 : (((w.alloc (.cells #[.int .i64 0, .int .i64 0] 86)).drewN (nq + 1)).alloc (.cells #[.int .i64 0, .int .i64 0, .slice (some ⟨gb, 0, none⟩) n c] 114)).heap[w.heap.size + 1]? = some (.cells #[.int .i64 0, .int .i64 0, .slice (some ⟨gb, 0, none⟩) n c] 114 (0, 0)) := alloc2_new w _ _
  obtain ⟨W3, hW3⟩ : ∃ W3, W3 = ((w.alloc (.cells #[.int .i64 0, .int .i64 0] 86)).drewN (nq + 1)).alloc (.cells #[.int .i64 0, .int .i64 0, .slice (some ⟨gb, 0, none⟩) n c] 114) := ⟨_, rfl⟩
  rw [← hW3] at hb3 hZ3 hF3 ⊢
  clear hW3
  have hro3 := HR0.out.below hb3
  have g1 := cell_of_row _ _ 1 _ _ _ hF3
  have p9 := cell_of_row _ _ 9 _ _ _ hro3.1
  have q9 := rp_fz hro3.1 9
  have HB3 := Lib.hid hb3
  have HZ3 := Lib.hid hZ3
  have HF3 := Lib.hid hF3
  have HR3 := Lib.hid hro3
  have g2 := cell_of_row _ _ 2 _ _ _ hF3
  obtain ⟨ii, hii, hiz, his, hib⟩ := info_parts infoIntR
  have hmk := run_makeSlice (P := Try.prog) (w := W3) 23 3 ii (.int .i64 0) Try.underlying23 hii hiz .i64 .i64 0 0 (by decide) (by decide) (by simp) (by simp) (by decide)
  have hcp : ∀ (W : World) (a : Option Addr), (Builtin.copy_ #[23, 23] 3 #[.slice a 0 0, .slice none 0 0]).run Try.prog W = .ok (.int .i64 0) W := fun W a => run_copy_none W _ _ _ 3 a none 0 0 0 0 Try.underlying23 (by rw [hii]; simp [his]) rfl
  have hb4 := (Below.refl _ W3).alloc (Nat.le_refl _) (.cells (madeCells #[.int .i64 0] 0) 3)
  have hro4 := hro3.below hb4
  have hpr4 : RnP p ⟨sz, .slice (some ⟨gf, 0, none⟩) nf fc, ls, ld, st, dp, inp, ov, gv, .slice lA ll lc⟩ (W3.alloc (.cells (madeCells #[.int .i64 0] 0) 3)) := hro4.1
  have p9' := cell_of_row _ _ 9 _ _ _ hpr4
  have q9' := rp_fz hpr4 9
  have hg5 : (W3.alloc (.cells (madeCells #[.int .i64 0] 0) 3)).grownBy ((W3.alloc (.cells (madeCells #[.int .i64 0] 0) 3)).setCell ⟨p, 9, none⟩ (.slice (some ⟨W3.heap.size, 0, none⟩) 0 0)) (some p) := set_grown _ ⟨p, 9, none⟩ _
  have hpr5 : RnP p ⟨sz, .slice (some ⟨gf, 0, none⟩) nf fc, ls, ld, st, dp, inp, ov, gv, .slice (some ⟨W3.heap.size, 0, none⟩) 0 0⟩ ((W3.alloc (.cells (madeCells #[.int .i64 0] 0) 3)).setCell ⟨p, 9, none⟩ (.slice (some ⟨W3.heap.size, 0, none⟩) 0 0)) := row_set (i := 9) _ hpr4
  have p9'' := cell_of_row _ _ 9 _ _ _ hpr5
  have HR5 := Lib.hid (hro4.grown hg5 hpr5 rfl)
  have HB5 := Lib.hid (And.intro hb4 hg5)
  clear hb4 hro4 hpr4 hg5 hpr5
  clear hb3 hZ3 hF3 hro3 b1 b9 c1' c9' c3' c5' HR1 HZ1 HB1 p9 q9
  go_upto_region 6 with fail
  obtain ⟨W4, hW4⟩ : ∃ W4, W4 = W3.alloc (.cells (madeCells #[.int .i64 0] 0) 3) := ⟨_, rfl⟩
  rw [← hW4] at HR5 HB5 p9' q9' p9'' ⊢
  clear hW4 hmk
  obtain ⟨W5, hW5⟩ : ∃ W5, W5 = W4.setCell ⟨p, 9, none⟩ (.slice (some ⟨W3.heap.size, 0, none⟩) 0 0) := ⟨_, rfl⟩
  rw [← hW5] at HR5 HB5 p9'' ⊢
  clear hW5 p9' q9' g1 g2
  obtain ⟨hb34, hg45⟩ := HB5.out
  have hs34 := hb34.size
  have hs45 := hg45.size
  have hs3 := HB3.out.size
  have hs3' : w.heap.size + 1 < W3.heap.size := (Array.getElem?_eq_some_iff.1 HF3.out).1
  have hF5 := blk_keep hg45 (by omega) ((hb34.block _ (by omega)).trans HF3.out)
  have hZ5 := blk_keep hg45 (by omega) ((hb34.block _ (by omega)).trans HZ3.out)
  have hpr5 := HR5.out.1
  have x5 := cell_of_row _ _ 5 _ _ _ hpr5
  have y5 := rp_fz hpr5 5
  have hg6 : W5.grownBy (W5.setCell ⟨p, 5, none⟩ (.int .i64 (dp + 1))) (some p) := set_grown W5 ⟨p, 5, none⟩ _
  have hpr6 : RnP p ⟨sz, .slice (some ⟨gf, 0, none⟩) nf fc, ls, ld, st, dp + 1, inp, ov, gv, .slice (some ⟨W3.heap.size, 0, none⟩) 0 0⟩ (W5.setCell ⟨p, 5, none⟩ (.int .i64 (dp + 1))) := row_set (i := 5) _ hpr5
  have hro6 := HR5.out.grown hg6 hpr6 rfl
  have hF6 := blk_keep hg6 (by omega) hF5
  have hZ6 := blk_keep hg6 (by omega) hZ5
  have hlo6 : Below p w (W5.setCell ⟨p, 5, none⟩ (.int .i64 (dp + 1))) := (((HB3.out.mono (by omega)).trans (hb34.mono (by omega))).trans (grown_any hg45 (fun k hk => by injection hk with hk; omega) (by omega))).trans (grown_any hg6 (fun k hk => by injection hk with hk; omega) (by omega))
  have HL6 := Lib.hid hlo6
  have HC6 := Lib.hid (block_ev (F := F) (D := D) (g := gb) (n := n) (c := c) (l := l) (r := ⟨sz, .slice (some ⟨gf, 0, none⟩) nf fc, ls, ld, st, dp + 1, inp, ov, gv, .slice (some ⟨W3.heap.size, 0, none⟩) 0 0⟩) (outs := outs) (o2 := o2) (z := z) (kk := kk) (s1 := s1) (W5.setCell ⟨p, 5, none⟩ (.int .i64 (dp + 1))) HN.out hn2 (fun i k x hi => by
    obtain ⟨es, h⟩ := HRow.out i k x hi
    exact ⟨es, h.keep HFg.out (fun b hb => hlo6.block b (HF.out b hb))⟩) HKd.out hro6 HFg.out HF.out HOk.out HRun.out ho)
  have g2 := cell_of_row _ _ 2 _ _ _ hF6
  have HZ6 := Lib.hid hZ6
  have hs6 := hg6.size
  have HOv : Hid (∀ b, ov.ownBlock = some b → b < w.heap.size) := Lib.hid (fun b hb => by obtain ⟨_, L, h⟩ := HR0.out; exact (h.own.lt b hb).2)
  clear hb34 hg45 hF5 hZ5 hpr5 hg6 hpr6 hro6 hF6 hZ6 hlo6 HB5 HR5 HF3 HZ3 HB3 HR3 p9''
  go_wp2_with fail
  obtain ⟨W6, hW6⟩ : ∃ W6, W6 = W5.setCell ⟨p, 5, none⟩ (.int .i64 (dp + 1)) := ⟨_, rfl⟩
  rw [← hW6] at HL6 HC6 HZ6 g2 hs6 ⊢
  clear hW6
  refine HC6.out.mono ?_
  rintro e w7 ⟨rfl, ov7, hro7, hfr7, hok7⟩
  dsimp only at hfr7 hro7
  have hlt6 := (Array.getElem?_eq_some_iff.1 HZ6.out).1
  have hZ7 := (hfr7.keep w.heap.size hlt6 (by omega) (fun e => by have := HOv.out _ e; omega)).trans HZ6.out
  have hs7 : w.heap.size < w7.heap.size := (Array.getElem?_eq_some_iff.1 hZ7).1
  have hov7 : ov7.ownBlock ≠ some w.heap.size := fun e => by
    rcases hfr7.own _ e with h | h
    · have := HOv.out _ h
      omega
    · omega
  have hlo7 := hfr7.lo.size
  have hl7 := HL6.out.trans hfr7.lo
  have hov7' : ov7.ownBlock ≠ some w7.heap.size := fun e => by
    obtain ⟨_, L, h⟩ := hro7
    have := (h.own.lt _ e).2
    omega
  have hb8 := (Below.refl _ w7).alloc (Nat.le_refl _) (.cells #[.int .i64 kk, .int .i64 0] 86)
  have hro8 := hro7.below hb8
  have hE8 := heap_alloc_new w7 (.cells #[.int .i64 kk, .int .i64 0] 86)
  have hZ8 := (hb8.block _ hs7).trans hZ7
  obtain ⟨W8, hW8⟩ : ∃ W8, W8 = w7.alloc (.cells #[.int .i64 kk, .int .i64 0] 86) := ⟨_, rfl⟩
  rw [← hW8] at hro8 hE8 hZ8 hb8
  have hp8 : RnP p ⟨sz, .slice (some ⟨gf, 0, none⟩) nf fc, ls, ld, s1, dp + 1, inp, ov7, gv, .slice (some ⟨W3.heap.size, 0, none⟩) 0 0⟩ W8 := hro8.1
  have x5 := cell_of_row _ _ 5 _ _ _ hp8
  have y5 := rp_fz hp8 5
  have hg9 : W8.grownBy (W8.setCell ⟨p, 5, none⟩ (.int .i64 dp)) (some p) := set_grown W8 ⟨p, 5, none⟩ _
  have hp9 : RnP p ⟨sz, .slice (some ⟨gf, 0, none⟩) nf fc, ls, ld, s1, dp, inp, ov7, gv, .slice (some ⟨W3.heap.size, 0, none⟩) 0 0⟩ (W8.setCell ⟨p, 5, none⟩ (.int .i64 dp)) := row_set (i := 5) _ hp8
  have x9 := cell_of_row _ _ 9 _ _ _ hp9
  have y9 := rp_fz hp9 9
  have hg10 : (W8.setCell ⟨p, 5, none⟩ (.int .i64 dp)).grownBy ((W8.setCell ⟨p, 5, none⟩ (.int .i64 dp)).setCell ⟨p, 9, none⟩ (.slice lA ll lc)) (some p) := set_grown (W8.setCell ⟨p, 5, none⟩ (.int .i64 dp)) ⟨p, 9, none⟩ _
  have hp10 : RnP p ⟨sz, .slice (some ⟨gf, 0, none⟩) nf fc, ls, ld, s1, dp, inp, ov7, gv, .slice lA ll lc⟩ ((W8.setCell ⟨p, 5, none⟩ (.int .i64 dp)).setCell ⟨p, 9, none⟩ (.slice lA ll lc)) := row_set (i := 9) _ hp9
  have hro10 := (hro8.grown hg9 hp9 rfl).grown hg10 hp10 rfl
  have hE10 := blk_keep hg10 (by omega) (blk_keep hg9 (by omega) hE8)
  have hZ10 := blk_keep hg10 (by omega) (blk_keep hg9 (by omega) hZ8)
  have e0 := cell_of_row _ _ 0 _ _ _ hE10
  have e1 := cell_of_row _ _ 1 _ _ _ hE10
  have HRO := Lib.hid hro10
  have HL10 : Hid (Below p w ((W8.setCell ⟨p, 5, none⟩ (.int .i64 dp)).setCell ⟨p, 9, none⟩ (.slice lA ll lc))) := Lib.hid (((hl7.trans (hb8.mono (by omega))).trans (grown_any hg9 (fun k hk => by injection hk with hk; omega) (by have := hb8.size; omega))).trans (grown_any hg10 (fun k hk => by injection hk with hk; omega) (by have := hb8.size; have := hg9.size; omega)))
  have HZ10 := Lib.hid hZ10
  have HE10 := Lib.hid hE10
  clear hp8 hg9 hp9 hg10 hp10 hro10 hE10 hZ10 hro8 hE8 hZ8 hb8 hfr7 hro7 hok7 hZ7 HC6 HZ6 HRow HKd
  go_upto_region 8 with fail
  rw [← hW8]
  clear hW8
  go_upto_region 10 with fail
  clear x5 y5 x9 y9
  obtain ⟨W10, hW10⟩ : ∃ W10, W10 = (W8.setCell ⟨p, 5, none⟩ (.int .i64 dp)).setCell ⟨p, 9, none⟩ (.slice lA ll lc) := ⟨_, rfl⟩
  rw [← hW10] at HRO HL10 HZ10 HE10 e0 e1 ⊢
  clear hW10
  by_cases hk : kk = 1
  · subst hk
    have fe := rp_fz HE10.out 0
    have hg11 : W10.grownBy (W10.setCell ⟨w7.heap.size, 0, none⟩ (.int .i64 0)) (some w7.heap.size) := set_grown W10 ⟨w7.heap.size, 0, none⟩ _
    have row11 : (W10.setCell ⟨w7.heap.size, 0, none⟩ (.int .i64 0)).heap[w7.heap.size]? = some (.cells #[.int .i64 0, .int .i64 0] 86 (0, 0)) := row_set (i := 0) _ HE10.out
    have hZ11 := blk_keep hg11 (by omega) HZ10.out
    obtain ⟨hp10, L10, hgr10⟩ := HRO.out
    have hp11 : RnP p ⟨sz, .slice (some ⟨gf, 0, none⟩) nf fc, ls, ld, s1, dp, inp, ov7, gv, .slice lA ll lc⟩ (W10.setCell ⟨w7.heap.size, 0, none⟩ (.int .i64 0)) := blk_keep hg11 (by omega) hp10
    have hro11 : RnO p ⟨sz, .slice (some ⟨gf, 0, none⟩) nf fc, ls, ld, s1, dp, inp, ov7, gv, .slice lA ll lc⟩ o2 (W10.setCell ⟨w7.heap.size, 0, none⟩ (.int .i64 0)) := ⟨hp11, L10, mrow_keep hgr10 hg11 (fun e => hov7' e)⟩
    have HT := Lib.hid (cell2_ro (v0 := .int .i64 0) (v1 := .int .i64 0) hZ11 hro11 (by omega) hov7)
    have hw10 := HL10.out.size
    have HL := Lib.hid (below_set2 (HL10.out.trans (grown_any hg11 (fun k hk => by injection hk with hk; omega) (by omega))) (Nat.le_of_lt plt) (Nat.le_of_lt plt) (.int .i64 0) (.int .i64 0))
    have z0 := cell_of_row _ _ 0 _ _ _ hZ11
    have z1 := cell_of_row _ _ 1 _ _ _ hZ11
    have f0 := rp_fz hZ11 0
    have f1 := rp_fz hZ11 1
    have e0' := cell_of_row _ _ 0 _ _ _ row11
    have e1' := cell_of_row _ _ 1 _ _ _ row11
    clear HZ10 HE10 HRO hov7 hg11 row11 hZ11 hp10 hgr10 hp11 hro11
    go_wp2_with fail
    go_region
    go_wp2_with fail
    obtain ⟨j0, j1, hro9⟩ := HT.out
    exact bodyPost_ret (by simp [results, Try.results36, go_sem, j0, j1]) rfl ⟨rfl, ⟨ov7, hro9⟩, HL.out⟩
  · have hk1 : (kk == 1) = false := by simp [hk]
    have HT := Lib.hid (cell2_ro (v0 := .int .i64 kk) (v1 := .int .i64 0) HZ10.out HRO.out (by omega) hov7)
    have HL := Lib.hid (below_set2 HL10.out (Nat.le_of_lt plt) (Nat.le_of_lt plt) (.int .i64 kk) (.int .i64 0))
    have z0 := cell_of_row _ _ 0 _ _ _ HZ10.out
    have z1 := cell_of_row _ _ 1 _ _ _ HZ10.out
    have f0 := rp_fz HZ10.out 0
    have f1 := rp_fz HZ10.out 1
    clear HZ10 HE10 HRO hov7
    go_wp2_with fail
    go_region
    go_wp2_with fail
    obtain ⟨j0, j1, hro9⟩ := HT.out
    exact bodyPost_ret (by simp [results, Try.results36, go_sem, j0, j1]) rfl ⟨rfl, ⟨ov7, hro9⟩, HL.out⟩
end Go.Proofs.Ytjmbllbnlnjanaa
namespace Go.Proofs.Ytjmbllbnlnjanaa
open Go.RowKit

theorem rl_pause {P : Program} {w : World} {ops : Array Oper} {rest : List Oper} {d : Option Tmp} {ty : TypeId} {x y : Operand} {pos : String} {af : Array Edge} {gd : Option (Nat × Bool)} {a : Act} {Q : Exit → Act → World → Prop}
    (h : Pause (wpList P ops Q ({ dst := d, op := .store 48 x y, type := ty, pos := pos, after := af, guard := gd } :: rest) a w)) : wpList P ops Q ({ dst := d, op := .store 48 x y, type := ty, pos := pos, after := af, guard := gd } :: rest) a w := h
set_option maxRecDepth 10000 in
set_option maxHeartbeats 1000000 in
theorem within_e (s d : Int) (w : World) : Calls Try.prog 35 #[.agg #[.int .i64 s, .int .i64 d]] w fun e w' => e = .returned (.agg #[.int .i64 (min s 1099511627776), .int .i64 (min d 400)]) ∧ Below w.heap.size w w' := by
  have hb := ((Below.refl _ w).alloc (Nat.le_refl _) (.cells #[.int .i64 s, .int .i64 d] 48)).alloc (by simp) (.cells #[.int .i64 0, .int .i64 0] 48)
  have hZ := alloc2_new w (.cells #[.int .i64 s, .int .i64 d] 48) (.cells #[.int .i64 0, .int .i64 0] 48)
  have HB := Lib.hid hb
  have HZ := Lib.hid hZ
  have hs : w.heap.size + 1 < ((w.alloc (.cells #[.int .i64 s, .int .i64 d] 48)).alloc (.cells #[.int .i64 0, .int .i64 0] 48)).heap.size := by simp
  clear hb hZ
  go_enter Try.func35, Try.ntmps35
  go_wp2_with (with_reducible refine rl_pause ?_)
  refine Pause.of (wpList_store_new _ rfl _ _ _ rfl (w.heap.size + 1) _ rfl (by rfl) _ _ HZ.out (by kernel_rfl) (by rfl) (by simp [Value.oneCell']) ?_)
  intro w9 hrow9 hg9
  have j0 := cell_of_row _ _ 0 _ _ _ hrow9
  have j1 := cell_of_row _ _ 1 _ _ _ hrow9
  have HE := Lib.hid (HB.out.trans (grown_any hg9 (fun k hk => by injection hk with hk; omega) (by omega)))
  clear hrow9 hg9
  go_wp2_with fail
  exact bodyPost_ret (by simp [results, Try.results35, go_sem, j0, j1]) rfl ⟨rfl, HE.out⟩
end Go.Proofs.Ytjmbllbnlnjanaa
