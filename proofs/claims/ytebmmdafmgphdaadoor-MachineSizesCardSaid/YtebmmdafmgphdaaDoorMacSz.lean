/-
  The walk of MachineSizes. Condition: arguments that can be read.
-/
import Derived.Test.YtebmmdafmgphdaaDoorMacL
import Derived.Deep.RegionHeld3
namespace Go.Proofs.YtebmmdafmgphdaaDoor
open Go.RowKit

/-- Two instructions in blocks behind a world. -/
structure Rw2 (w0 : World) (py pz : Nat) (ry rz : Array Value) (wd : World) : Prop where
  y : wd.heap[py]? = some (.cells ry 26 (0, 0))
  z : wd.heap[pz]? = some (.cells rz 26 (0, 0))
  ne : py ≠ pz
  bel : Below w0.heap.size w0 wd
  lo : w0.heap.size ≤ py ∧ w0.heap.size ≤ pz
section
variable {w0 wd w' : World} {py pz : Nat} {ry rz r : Array Value}
theorem Rw2.low (h : Rw2 w0 py pz ry rz wd) (hb : Below wd.heap.size wd w') : Rw2 w0 py pz ry rz w' :=
  ⟨(hb.block _ (Array.getElem?_eq_some_iff.1 h.y).1).trans h.y, (hb.block _ (Array.getElem?_eq_some_iff.1 h.z).1).trans h.z, h.ne, below_next h.bel (hb.mono (Nat.le_refl _)) |> fun x => x, h.lo⟩
theorem set_other (wd : World) (p i : Nat) (u : Value) (q : Nat) (h : q ≠ p) : (wd.setCell ⟨p, i, none⟩ u).heap[q]? = wd.heap[q]? := Below.heap_setCell wd _ _ q (fun e => h e)
theorem Rw2.setY (h : Rw2 w0 py pz ry rz wd) (i : Nat) (u : Value) : Rw2 w0 py pz (ry.setIfInBounds i u) rz (wd.setCell ⟨py, i, none⟩ u) := by
  refine ⟨?_, (set_other wd py i u pz (Ne.symm h.ne)).trans h.z, h.ne, h.bel.trans ((Below.refl _ wd).setCell h.lo.1 u), h.lo⟩
  have := heap_setCell_same wd py i _ _ u h.y
  simpa using this
theorem Rw2.setZ (h : Rw2 w0 py pz ry rz wd) (i : Nat) (u : Value) : Rw2 w0 py pz ry (rz.setIfInBounds i u) (wd.setCell ⟨pz, i, none⟩ u) := by
  refine ⟨(set_other wd pz i u py h.ne).trans h.y, ?_, h.ne, h.bel.trans ((Below.refl _ wd).setCell h.lo.2 u), h.lo⟩
  have := heap_setCell_same wd pz i _ _ u h.z
  simpa using this
theorem rw2_new (w0 : World) : Rw2 w0 w0.heap.size (w0.heap.size + 1) r r (((w0.alloc (.cells r 26)).alloc (.cells r 26)).drew) := by
  have hb : Below w0.heap.size w0 ((w0.alloc (.cells r 26)).alloc (.cells r 26)) := ((Below.refl _ w0).alloc (Nat.le_refl _) _).alloc (by simp) _
  refine ⟨?_, ?_, by omega, bel_q hb 1, by omega, by omega⟩
  · exact ((Below.refl _ (w0.alloc (.cells r 26))).alloc (Nat.le_refl _) (.cells r 26)).block _ (by simp) |>.trans (heap_alloc_new w0 _)
  · have := heap_alloc_new (w0.alloc (.cells r 26)) (.cells r 26)
    rwa [show (w0.alloc (.cells r 26)).heap.size = w0.heap.size + 1 by simp] at this
theorem Rw2.swap (h : Rw2 w0 py pz ry rz wd) : Rw2 w0 pz py rz ry wd := ⟨h.z, h.y, Ne.symm h.ne, h.bel, h.lo.2, h.lo.1⟩
end
set_option linter.unusedSimpArgs false in
set_option maxRecDepth 100000 in
set_option maxHeartbeats 4000000 in
theorem sizes_any (A : Option Addr) (l : List Nat) (m c : Nat) (value : Int) (W : World) (hm : l.length = m) (hmc : m ≤ c) (hr : Rd W A (l.map bv)) (hl : ∀ x ∈ l, x < 256) (hv : i64C value) (hT : RowsT W) :
    Calls Tryd.prog 5 #[.slice A m c, .int .i64 value] W (TrueM W) := by
  have Hm := Lib.hid hm; clear hm
  have Hr := Lib.hid hr; clear hr
  have Hl := Lib.hid hl; clear hl
  have Hv := Lib.hid hv; clear hv
  have HT := Lib.hid hT; clear hT
  go_enter Tryd.func5, Tryd.ntmps5
  go_wp2_with fail
  refine (awake_12 _ HT.out).mono ?_
  rintro e w1 ⟨rfl, hb1⟩
  have Hb1 := Lib.hid hb1; clear hb1
  go_wp2_with fail
  refine (new_any A l m c 120 w1 Hm.out hmc (Hr.out.below Hb1.out) (by decide)).mono ?_
  rintro e w2 ⟨g, l2, rfl, hg, hl2, hl2e, hc2, hb2⟩
  have Hb2 := Lib.hid (below_next Hb1.out hb2)
  have hgW : W.heap.size ≤ g := Nat.le_trans Hb1.out.size hg
  have Hl2 : Hid (∀ x ∈ l2, x < 256) := Lib.hid (by rw [hl2e]; exact fun x hx => Hl.out x (List.mem_of_mem_take hx))
  have Hc2 := Lib.hid hc2
  clear hb2 hl2e hc2 hg Hm Hr Hl
  go_wp2_with fail
  refine (code_any g l2 0 w2 Hc2.out (by omega) Hl2.out).mono ?_
  intro e w3 hcd
  obtain ⟨⟨op, ari, dst, a, b, val, wide, args⟩, A, n, c, rfl, ho, _, hg3⟩ := hcd.open_
  have Hb3 := Lib.hid (Hb2.out.trans (grown_any hg3 (fun k hk => by injection hk with hk; omega) Hb2.out.size))
  dsimp only [cdv]
  have Ho := Lib.hid ho
  clear hcd ho hg3
  go_wp2_with fail
  obtain ⟨w4, hw4⟩ : ∃ w4, w3.alloc (.cells (kRow op ari dst a b val wide (.slice A n c)) 26) = w4 := ⟨_, rfl⟩
  have hrow4 : w4.heap[w3.heap.size]? = some (.cells (kRow op ari dst a b val wide (.slice A n c)) 26 (0, 0)) := by rw [← hw4]; exact heap_alloc_new w3 _
  have hb4 : Below w3.heap.size w3 w4 := by rw [← hw4]; exact (Below.refl _ _).alloc (Nat.le_refl _) _
  have Ho4 := Lib.hid (Ho.out.below hb4)
  have Hb4 := Lib.hid (below_next Hb3.out hb4)
  unfold kRow at hw4
  rw [hw4]
  have hpx : W.heap.size ≤ w3.heap.size := Hb3.out.size
  obtain ⟨px, hpxe⟩ : ∃ px, w3.heap.size = px := ⟨_, rfl⟩
  rw [hpxe] at hrow4 hpx ⊢
  have Hrow4 := Lib.hid hrow4
  clear hw4 hb4 hrow4 hpxe Ho Hb3
  obtain ⟨E, hE⟩ : ∃ E, chkC ⟨op, ari, dst, a, b, val, wide, args⟩ = E := ⟨_, rfl⟩
  obtain ⟨L, hL⟩ : ∃ L, (encO ⟨op, ari, dst, a, b, val, wide, args⟩).length = L := ⟨_, rfl⟩
  have HE := Lib.hid hE
  have HL := Lib.hid hL
  refine (mcheck_any ⟨op, ari, dst, a, b, val, wide, args⟩ A n c w4 (HT.out.below Hb4.out) Ho4.out.len Ho4.out.cap Ho4.out.rd (by have := Ho4.out.few; omega) Ho4.out.val.2.2.2.2.2).mono ?_
  rintro e w5 ⟨rfl, hb5⟩
  rw [hE]
  have Ho5 := Lib.hid (Ho4.out.below hb5)
  have Hrow5 := Lib.hid ((hb5.block _ (Array.getElem?_eq_some_iff.1 Hrow4.out).1).trans Hrow4.out)
  have Hb5 := Lib.hid (below_next Hb4.out hb5)
  clear hb5 Hrow4 Ho4 Hb4 hE hL
  obtain ⟨q0, q1, q2, q3, q4, q5, q6, q7⟩ := kRow_cells Hrow5.out
  by_cases h0 : E = 0
  · subst h0
    go_upto_region 6 with fail
    go_cut [6, 7] from 20 (fun v6 v7 wd => ∃ py pz, v6 = .pointer (some ⟨py, 0, none⟩) ∧ v7 = .pointer (some ⟨pz, 0, none⟩) ∧ Rw2 w5 py pz (kRow op ari dst a b val wide (.slice A n c)) (kRow op ari dst a b val wide (.slice A n c)) wd)
    case first =>
      have hplt : px < w5.heap.size := (Array.getElem?_eq_some_iff.1 Hrow5.out).1
      go_region
      all_goals
        rename_i hJ hK
        dsimp only [Exit.then]
        refine hK _ _ (Met.intro (hJ _ _ ?_))
        (repeat apply Exists.intro)
        refine ⟨?rel, rfl⟩
        case rel => first | exact ⟨_, _, rfl, rfl, rw2_new w5⟩ | exact ⟨_, _, rfl, rfl, (rw2_new w5).swap⟩
    case rest =>
      obtain ⟨py, pz, rfl, rfl, hrw⟩ := hcut
      obtain ⟨hI, hY1, hI5⟩ : i64C val ∧ py ≠ pz ∧ pz ≠ py := ⟨Ho5.out.val.2.2.2.2.2, hrw.ne, Ne.symm hrw.ne⟩
      obtain ⟨y0, y1, y2, y3, y4, y5, y6, y7⟩ := kRow_cells hrw.y
      obtain ⟨z0, z1, z2, z3, z4, z5, z6, z7⟩ := kRow_cells hrw.z
      have fy := codes_frozen hrw.y 5
      have fz := codes_frozen hrw.z 5
      have fz6 := codes_frozen hrw.z 6
      have H8 : Hid (Rw2 w5 py pz (kRow op ari dst a b value wide (.slice A n c)) (kRow op ari dst a b 0 false (.slice A n c)) (((wc.setCell ⟨py, 5, none⟩ (.int .i64 value)).setCell ⟨pz, 6, none⟩ (.bool false)).setCell ⟨pz, 5, none⟩ (.int .i64 0))) :=
        Lib.hid (((hrw.setY 5 (.int .i64 value)).setZ 6 (.bool false)).setZ 5 (.int .i64 0))
      clear hrw
      go_upto_region 9 with fail
      obtain ⟨w8, hw8⟩ : ∃ w8, ((wc.setCell ⟨py, 5, none⟩ (.int .i64 value)).setCell ⟨pz, 6, none⟩ (.bool false)).setCell ⟨pz, 5, none⟩ (.int .i64 0) = w8 := ⟨_, rfl⟩
      rw [hw8] at H8 ⊢
      clear hw8 y0 y1 y2 y3 y4 y5 y6 y7 z0 z1 z2 z3 z4 z5 z6 z7 fy fz fz6
      have hlt : px < w5.heap.size := (Array.getElem?_eq_some_iff.1 Hrow5.out).1
      have Hx8 := Lib.hid ((H8.out.bel.block px hlt).trans Hrow5.out)
      obtain ⟨x0, x1, x2, x3, x4, x5, x6, x7⟩ := kRow_cells Hx8.out
      have HSx : Hid (∀ V : World, Below w5.heap.size w5 V → Calls Tryd.prog 10 #[.agg #[.int .i64 op, .int .i64 ari, .int .i64 dst, .int .i64 a, .int .i64 b, .int .i64 val, .bool wide, .slice A n c]] V (NumP (L : Nat) V)) := Lib.hid (fun V hV => by
        rw [← HL.out]
        exact msize_any ⟨op, ari, dst, a, b, val, wide, args⟩ A n c V (HT.out.below (below_next Hb5.out hV)) Ho5.out.len Ho5.out.cap (Ho5.out.rd.below hV) (by have := Ho5.out.few; omega) Ho5.out.val.2.2.2.2.2)
      clear q0 q1 q2 q3 q4 q5 q6 q7
      go_wp2_with fail
      refine (HSx.out _ H8.out.bel).mono ?_
      rintro e w9 ⟨rfl, hb9⟩
      have Hx9 := Lib.hid ((hb9.block px (Array.getElem?_eq_some_iff.1 Hx8.out).1).trans Hx8.out)
      have H9 := Lib.hid (H8.out.low hb9)
      obtain ⟨x0, x1, x2, x3, x4, x5, x6, x7⟩ := kRow_cells Hx9.out
      clear hb9 H8 Hx8
      have hL2 : 2 ≤ L := by
        have := enc_two (x := ⟨op, ari, dst, a, b, val, wide, args⟩) HE.out
        rw [← HL.out]
        unfold encO
        rw [if_pos HE.out]
        exact this
      obtain ⟨hzc, hze⟩ := enc_short (x := ⟨op, ari, dst, a, b, val, wide, args⟩) HE.out
      obtain ⟨Lz, hLz⟩ : ∃ Lz, (encC ⟨op, ari, dst, a, b, 0, false, args⟩).length = Lz := ⟨_, rfl⟩
      have hLe : (encC ⟨op, ari, dst, a, b, val, wide, args⟩).length = L := by
        rw [← HL.out]
        unfold encO
        rw [if_pos HE.out]
      have hLb : L ≤ 1000 := by
        have := enc_most (x := ⟨op, ari, dst, a, b, val, wide, args⟩) HE.out
        rw [hLe] at this
        have h1 := Ho5.out.few
        have h2 := Ho5.out.len
        simp only at this h2
        omega
      have hzL : Lz + (if wide = true then 3 else 0) = L := by
        rw [← hLe, ← hLz]
        exact hze
      have HZc := Lib.hid hzc
      have HZe := Lib.hid hLz
      have HLe := Lib.hid hLe
      clear hzc hze hLz hLe
      go_upto_if 29 with fail
      go_cut [8] from 28 (fun v8 wd => v8 = .int .i64 (Lz : Int) ∧ wd = w9)
      case first =>
        cases wide with
        | true =>
          simp only [if_true] at hzL
          subst hzL
          go_wp2_with fail
          go_meet
          case rel => exact ⟨by go_num, rfl⟩
        | false =>
          simp only [Bool.false_eq_true, if_false, Nat.add_zero] at hzL
          subst hzL
          go_wp2_with fail
          go_meet
          case rel => exact ⟨rfl, rfl⟩
      case rest =>
        obtain ⟨rfl, hwc⟩ := hcut
        rw [hwc]
        clear hwc wc
        obtain ⟨Ey, hEy⟩ : ∃ Ey, chkC ⟨op, ari, dst, a, b, value, wide, args⟩ = Ey := ⟨_, rfl⟩
        have HYc : Hid (∀ V : World, Below w9.heap.size w9 V → Calls Tryd.prog 14 #[.agg #[.int .i64 op, .int .i64 ari, .int .i64 dst, .int .i64 a, .int .i64 b, .int .i64 value, .bool wide, .slice A n c]] V (NumP (Ey : Nat) V)) := Lib.hid (fun V hV => by
          rw [← hEy]
          exact mcheck_any ⟨op, ari, dst, a, b, value, wide, args⟩ A n c V (HT.out.below (below_next (below_next Hb5.out H9.out.bel) hV)) Ho5.out.len Ho5.out.cap (Ho5.out.rd.below (H9.out.bel.trans (hV.mono H9.out.bel.size))) (by have := Ho5.out.few; omega) Hv.out)
        have HYs : Hid (∀ V : World, Ey = 0 → Below w9.heap.size w9 V → Calls Tryd.prog 10 #[.agg #[.int .i64 op, .int .i64 ari, .int .i64 dst, .int .i64 a, .int .i64 b, .int .i64 value, .bool wide, .slice A n c]] V (NumP (L : Nat) V)) := Lib.hid (fun V h0 hV => by
          have h := msize_any ⟨op, ari, dst, a, b, value, wide, args⟩ A n c V (HT.out.below (below_next (below_next Hb5.out H9.out.bel) hV)) Ho5.out.len Ho5.out.cap (Ho5.out.rd.below (H9.out.bel.trans (hV.mono H9.out.bel.size))) (by have := Ho5.out.few; omega) Hv.out
          unfold encO at h
          rw [if_pos (hEy.trans h0), enc_val ⟨op, ari, dst, a, b, val, wide, args⟩ value, HLe.out] at h
          exact h)
        have HXs : Hid (∀ V : World, Below w9.heap.size w9 V → Calls Tryd.prog 10 #[.agg #[.int .i64 op, .int .i64 ari, .int .i64 dst, .int .i64 a, .int .i64 b, .int .i64 val, .bool wide, .slice A n c]] V (NumP (L : Nat) V)) := Lib.hid (fun V hV => HSx.out V (H9.out.bel.trans (hV.mono H9.out.bel.size)))
        have HZs : Hid (∀ V : World, Below w9.heap.size w9 V → Calls Tryd.prog 10 #[.agg #[.int .i64 op, .int .i64 ari, .int .i64 dst, .int .i64 a, .int .i64 b, .int .i64 0, .bool false, .slice A n c]] V (NumP (Lz : Nat) V)) := Lib.hid (fun V hV => by
          have h := msize_any ⟨op, ari, dst, a, b, 0, false, args⟩ A n c V (HT.out.below (below_next (below_next Hb5.out H9.out.bel) hV)) Ho5.out.len Ho5.out.cap (Ho5.out.rd.below (H9.out.bel.trans (hV.mono H9.out.bel.size))) (by have := Ho5.out.few; omega) (show i64C 0 from ⟨by decide, by decide⟩)
          unfold encO at h
          rw [if_pos HZc.out, HZe.out] at h
          exact h)
        have HB9 : Hid (Below W.heap.size W w9) := Lib.hid (Hb5.out.trans (H9.out.bel.mono Hb5.out.size))
        have hS0 : w9.drew.cell? ⟨px, 0, none⟩ = some (.int .i64 op) ∧ w9.drew.cell? ⟨px, 1, none⟩ = some (.int .i64 ari) ∧ w9.drew.cell? ⟨px, 2, none⟩ = some (.int .i64 dst) ∧ w9.drew.cell? ⟨px, 3, none⟩ = some (.int .i64 a) ∧ w9.drew.cell? ⟨px, 4, none⟩ = some (.int .i64 b) ∧ w9.drew.cell? ⟨px, 5, none⟩ = some (.int .i64 val) ∧ w9.drew.cell? ⟨px, 6, none⟩ = some (.bool wide) ∧ w9.drew.cell? ⟨px, 7, none⟩ = some (.slice A n c) ∧ w9.drew.cell? ⟨py, 0, none⟩ = some (.int .i64 op) ∧ w9.drew.cell? ⟨py, 1, none⟩ = some (.int .i64 ari) ∧ w9.drew.cell? ⟨py, 2, none⟩ = some (.int .i64 dst) ∧ w9.drew.cell? ⟨py, 3, none⟩ = some (.int .i64 a) ∧ w9.drew.cell? ⟨py, 4, none⟩ = some (.int .i64 b) ∧ w9.drew.cell? ⟨py, 5, none⟩ = some (.int .i64 value) ∧ w9.drew.cell? ⟨py, 6, none⟩ = some (.bool wide) ∧ w9.drew.cell? ⟨py, 7, none⟩ = some (.slice A n c) ∧ w9.drew.cell? ⟨pz, 0, none⟩ = some (.int .i64 op) ∧ w9.drew.cell? ⟨pz, 1, none⟩ = some (.int .i64 ari) ∧ w9.drew.cell? ⟨pz, 2, none⟩ = some (.int .i64 dst) ∧ w9.drew.cell? ⟨pz, 3, none⟩ = some (.int .i64 a) ∧ w9.drew.cell? ⟨pz, 4, none⟩ = some (.int .i64 b) ∧ w9.drew.cell? ⟨pz, 5, none⟩ = some (.int .i64 0) ∧ w9.drew.cell? ⟨pz, 6, none⟩ = some (.bool false) ∧ w9.drew.cell? ⟨pz, 7, none⟩ = some (.slice A n c) ∧ Below w9.heap.size w9 w9.drew := by
          obtain ⟨y0, y1, y2, y3, y4, y5, y6, y7⟩ := kRow_cells H9.out.y
          obtain ⟨z0, z1, z2, z3, z4, z5, z6, z7⟩ := kRow_cells H9.out.z
          exact ⟨x0, x1, x2, x3, x4, x5, x6, x7, y0, y1, y2, y3, y4, y5, y6, y7, z0, z1, z2, z3, z4, z5, z6, z7, bel_q (Below.refl _ _) 1⟩
        have hge : decide ((2 : Int) ≤ (L : Int)) = true := by simp; omega
        clear x0 x1 x2 x3 x4 x5 x6 x7 hzL hEy HSx hL2 hlt HZc HZe HLe
        by_cases hy : Ey = 0
        · have HYz := Lib.hid (fun V hV => HYs.out V hy hV)
          subst hy
          clear HYs
          go_upto_region 12 with fail
          go_region_held3 (fun w' => w'.cell? ⟨px, 0, none⟩ = some (.int .i64 op) ∧ w'.cell? ⟨px, 1, none⟩ = some (.int .i64 ari) ∧ w'.cell? ⟨px, 2, none⟩ = some (.int .i64 dst) ∧ w'.cell? ⟨px, 3, none⟩ = some (.int .i64 a) ∧ w'.cell? ⟨px, 4, none⟩ = some (.int .i64 b) ∧ w'.cell? ⟨px, 5, none⟩ = some (.int .i64 val) ∧ w'.cell? ⟨px, 6, none⟩ = some (.bool wide) ∧ w'.cell? ⟨px, 7, none⟩ = some (.slice A n c) ∧ w'.cell? ⟨py, 0, none⟩ = some (.int .i64 op) ∧ w'.cell? ⟨py, 1, none⟩ = some (.int .i64 ari) ∧ w'.cell? ⟨py, 2, none⟩ = some (.int .i64 dst) ∧ w'.cell? ⟨py, 3, none⟩ = some (.int .i64 a) ∧ w'.cell? ⟨py, 4, none⟩ = some (.int .i64 b) ∧ w'.cell? ⟨py, 5, none⟩ = some (.int .i64 value) ∧ w'.cell? ⟨py, 6, none⟩ = some (.bool wide) ∧ w'.cell? ⟨py, 7, none⟩ = some (.slice A n c) ∧ w'.cell? ⟨pz, 0, none⟩ = some (.int .i64 op) ∧ w'.cell? ⟨pz, 1, none⟩ = some (.int .i64 ari) ∧ w'.cell? ⟨pz, 2, none⟩ = some (.int .i64 dst) ∧ w'.cell? ⟨pz, 3, none⟩ = some (.int .i64 a) ∧ w'.cell? ⟨pz, 4, none⟩ = some (.int .i64 b) ∧ w'.cell? ⟨pz, 5, none⟩ = some (.int .i64 0) ∧ w'.cell? ⟨pz, 6, none⟩ = some (.bool false) ∧ w'.cell? ⟨pz, 7, none⟩ = some (.slice A n c) ∧ Below w9.heap.size w9 w')
            (first | (with_reducible exact hS0) | (go_split_ands; exact ⟨hold hb (by assumption), hold hb (by assumption), hold hb (by assumption), hold hb (by assumption), hold hb (by assumption), hold hb (by assumption), hold hb (by assumption), hold hb (by assumption), hold hb (by assumption), hold hb (by assumption), hold hb (by assumption), hold hb (by assumption), hold hb (by assumption), hold hb (by assumption), hold hb (by assumption), hold hb (by assumption), hold hb (by assumption), hold hb (by assumption), hold hb (by assumption), hold hb (by assumption), hold hb (by assumption), hold hb (by assumption), hold hb (by assumption), hold hb (by assumption), below_next (by assumption) hb⟩))
            (first | (go_at_call 14; (with_reducible refine (HYc.out _ ?_).mono ?_); (go_split_ands; assumption); rintro e w' ⟨rfl, hb⟩) | (go_at_call 10; (with_reducible refine (HXs.out _ ?_).mono ?_); (go_split_ands; assumption); rintro e w' ⟨rfl, hb⟩) | (go_at_call 10; (with_reducible refine (HYz.out _ ?_).mono ?_); (go_split_ands; assumption); rintro e w' ⟨rfl, hb⟩) | (go_at_call 10; (with_reducible refine (HZs.out _ ?_).mono ?_); (go_split_ands; assumption); rintro e w' ⟨rfl, hb⟩))
          rename_i hH
          have HBe := Lib.hid (HB9.out.trans (hH.2.2.2.2.2.2.2.2.2.2.2.2.2.2.2.2.2.2.2.2.2.2.2.2.mono HB9.out.size))
          clear hH hS0 HXs HYc HZs HB9 H9
          go_wp2_with fail
          go_ret
          exact ⟨rfl, HBe.out⟩
        · have hne : ((Ey : Int) != 0) = true := by simp; omega
          clear HYs hy
          go_upto_region 12 with fail
          refine GoT.region (S := fun w' => w'.cell? ⟨px, 0, none⟩ = some (.int .i64 op) ∧ w'.cell? ⟨px, 1, none⟩ = some (.int .i64 ari) ∧ w'.cell? ⟨px, 2, none⟩ = some (.int .i64 dst) ∧ w'.cell? ⟨px, 3, none⟩ = some (.int .i64 a) ∧ w'.cell? ⟨px, 4, none⟩ = some (.int .i64 b) ∧ w'.cell? ⟨px, 5, none⟩ = some (.int .i64 val) ∧ w'.cell? ⟨px, 6, none⟩ = some (.bool wide) ∧ w'.cell? ⟨px, 7, none⟩ = some (.slice A n c) ∧ w'.cell? ⟨py, 0, none⟩ = some (.int .i64 op) ∧ w'.cell? ⟨py, 1, none⟩ = some (.int .i64 ari) ∧ w'.cell? ⟨py, 2, none⟩ = some (.int .i64 dst) ∧ w'.cell? ⟨py, 3, none⟩ = some (.int .i64 a) ∧ w'.cell? ⟨py, 4, none⟩ = some (.int .i64 b) ∧ w'.cell? ⟨py, 5, none⟩ = some (.int .i64 value) ∧ w'.cell? ⟨py, 6, none⟩ = some (.bool wide) ∧ w'.cell? ⟨py, 7, none⟩ = some (.slice A n c) ∧ w'.cell? ⟨pz, 0, none⟩ = some (.int .i64 op) ∧ w'.cell? ⟨pz, 1, none⟩ = some (.int .i64 ari) ∧ w'.cell? ⟨pz, 2, none⟩ = some (.int .i64 dst) ∧ w'.cell? ⟨pz, 3, none⟩ = some (.int .i64 a) ∧ w'.cell? ⟨pz, 4, none⟩ = some (.int .i64 b) ∧ w'.cell? ⟨pz, 5, none⟩ = some (.int .i64 0) ∧ w'.cell? ⟨pz, 6, none⟩ = some (.bool false) ∧ w'.cell? ⟨pz, 7, none⟩ = some (.slice A n c) ∧ Below w9.heap.size w9 w') (T := KE) (z := 99) (by kernel_rfl) hS0 trivial (fun hI => ?_)
          simp only [List.size_toArray, List.length_cons, List.length_nil, Nat.zero_add, Nat.reduceAdd]
          refine GoT.take (i := 0) (v := ?_) rfl rfl (by decide +kernel) (by kernel_rfl) (by decide +kernel) (by decide +kernel) (fun _ _ _ h => h) (Or.inl ⟨by rfl, ?_⟩) hI ?_
          rotate_left
          · intro w hSw
            try dsimp only at hSw
            go_split_ands
            go_simp
            (try with_reducible rfl)
          replace hI := hI.set (i := 0) (by decide)
          try simp only [List.getElem_toArray, List.getElem_cons_zero, List.getElem_cons_succ, Act.put, List.setIfInBounds_toArray, List.set_cons_zero, List.set_cons_succ]
          refine GoT.next (rs := [1]) (by decide +kernel) (by simp) (AllT.cons rfl (fun K hK => ?_) AllT.nil)
          dsimp only [List.getElem_toArray, List.getElem_cons_zero, List.getElem_cons_succ]
          go_simp
          go_at_call 10
          (with_reducible refine ((Hid.out HXs) _ ?_).mono ?_)
          · have hh := hI.1
            try dsimp only at hh
            go_split_ands
            assumption
          rintro e w' ⟨rfl, hb⟩
          dsimp only
          refine hK.out _ _ ⟨?_, .inl (by decide +kernel)⟩ (fun hI => ?_)
          · have hh := hI.1
            (try dsimp only at hh ⊢)
            go_split_ands
            exact ⟨hold hb (by assumption), hold hb (by assumption), hold hb (by assumption), hold hb (by assumption), hold hb (by assumption), hold hb (by assumption), hold hb (by assumption), hold hb (by assumption), hold hb (by assumption), hold hb (by assumption), hold hb (by assumption), hold hb (by assumption), hold hb (by assumption), hold hb (by assumption), hold hb (by assumption), hold hb (by assumption), hold hb (by assumption), hold hb (by assumption), hold hb (by assumption), hold hb (by assumption), hold hb (by assumption), hold hb (by assumption), hold hb (by assumption), hold hb (by assumption), below_next (by assumption) hb⟩
          clear hK K
          try simp only [Act.put, List.setIfInBounds_toArray, List.set_cons_zero, List.set_cons_succ]
          refine GoT.take (i := 2) (v := ?_) rfl rfl (by decide +kernel) (by kernel_rfl) (by decide +kernel) (by decide +kernel) (fun _ _ _ h => h) (Or.inl ⟨by rfl, ?_⟩) hI ?_
          rotate_left
          · intro w hSw
            try dsimp only at hSw
            go_split_ands
            go_simp
            (try with_reducible rfl)
          replace hI := hI.set (i := 2) (by decide)
          try simp only [List.getElem_toArray, List.getElem_cons_zero, List.getElem_cons_succ, Act.put, List.setIfInBounds_toArray, List.set_cons_zero, List.set_cons_succ]
          refine GoT.take (i := 3) (v := ?_) rfl rfl (by decide +kernel) (by kernel_rfl) (by decide +kernel) (by decide +kernel) (fun _ _ _ h => h) (Or.inl ⟨by rfl, ?_⟩) hI ?_
          rotate_left
          · intro w hSw
            try dsimp only at hSw
            go_split_ands
            go_simp
            (try with_reducible rfl)
          replace hI := hI.set (i := 3) (by decide)
          try simp only [List.getElem_toArray, List.getElem_cons_zero, List.getElem_cons_succ, Act.put, List.setIfInBounds_toArray, List.set_cons_zero, List.set_cons_succ]
          refine GoT.take (i := 4) (v := ?_) rfl rfl (by decide +kernel) (by kernel_rfl) (by decide +kernel) (by decide +kernel) (fun _ _ _ h => h) (Or.inl ⟨by rfl, ?_⟩) hI ?_
          rotate_left
          · intro w hSw
            try dsimp only at hSw
            go_split_ands
            go_simp
            (try with_reducible rfl)
          replace hI := hI.set (i := 4) (by decide)
          try simp only [List.getElem_toArray, List.getElem_cons_zero, List.getElem_cons_succ, Act.put, List.setIfInBounds_toArray, List.set_cons_zero, List.set_cons_succ]
          refine GoT.next (rs := [5]) (by decide +kernel) (by simp) (AllT.cons rfl (fun K hK => ?_) AllT.nil)
          dsimp only [List.getElem_toArray, List.getElem_cons_zero, List.getElem_cons_succ]
          go_simp
          go_at_call 14
          (with_reducible refine ((Hid.out HYc) _ ?_).mono ?_)
          · have hh := hI.1
            try dsimp only at hh
            go_split_ands
            assumption
          rintro e w' ⟨rfl, hb⟩
          dsimp only
          refine hK.out _ _ ⟨?_, .inl (by decide +kernel)⟩ (fun hI => ?_)
          · have hh := hI.1
            (try dsimp only at hh ⊢)
            go_split_ands
            exact ⟨hold hb (by assumption), hold hb (by assumption), hold hb (by assumption), hold hb (by assumption), hold hb (by assumption), hold hb (by assumption), hold hb (by assumption), hold hb (by assumption), hold hb (by assumption), hold hb (by assumption), hold hb (by assumption), hold hb (by assumption), hold hb (by assumption), hold hb (by assumption), hold hb (by assumption), hold hb (by assumption), hold hb (by assumption), hold hb (by assumption), hold hb (by assumption), hold hb (by assumption), hold hb (by assumption), hold hb (by assumption), hold hb (by assumption), hold hb (by assumption), below_next (by assumption) hb⟩
          clear hK K
          try simp only [Act.put, List.setIfInBounds_toArray, List.set_cons_zero, List.set_cons_succ]
          refine GoT.take (i := 6) (v := ?_) rfl rfl (by decide +kernel) (by kernel_rfl) (by decide +kernel) (by decide +kernel) (fun _ _ _ h => h) (Or.inl ⟨by rfl, ?_⟩) hI ?_
          rotate_left
          · intro w hSw
            try dsimp only at hSw
            go_split_ands
            go_simp
            (try with_reducible rfl)
          replace hI := hI.set (i := 6) (by decide)
          try simp only [List.getElem_toArray, List.getElem_cons_zero, List.getElem_cons_succ, Act.put, List.setIfInBounds_toArray, List.set_cons_zero, List.set_cons_succ]
          refine GoT.take (i := 7) (v := ?_) rfl rfl (by decide +kernel) (by kernel_rfl) (by decide +kernel) (by decide +kernel) (fun _ _ _ h => h) (Or.inl ⟨by rfl, ?_⟩) hI ?_
          rotate_left
          · intro w hSw
            try dsimp only at hSw
            go_split_ands
            go_simp
            (try with_reducible rfl)
          replace hI := hI.set (i := 7) (by decide)
          try simp only [List.getElem_toArray, List.getElem_cons_zero, List.getElem_cons_succ, Act.put, List.setIfInBounds_toArray, List.set_cons_zero, List.set_cons_succ]
          refine GoT.take (i := 8) (v := undef) rfl rfl (by decide +kernel) (by kernel_rfl) (by decide +kernel) (by decide +kernel) (fun _ _ _ h => h) (Or.inr ⟨by rfl, rfl⟩) hI ?_
          replace hI := hI.set (i := 8) (by decide)
          try simp only [List.getElem_toArray, List.getElem_cons_zero, List.getElem_cons_succ, Act.put, List.setIfInBounds_toArray, List.set_cons_zero, List.set_cons_succ]
          refine GoT.take (i := 10) (v := undef) rfl rfl (by decide +kernel) (by kernel_rfl) (by decide +kernel) (by decide +kernel) (fun _ _ _ h => h) (Or.inr ⟨by rfl, rfl⟩) hI ?_
          replace hI := hI.set (i := 10) (by decide)
          try simp only [List.getElem_toArray, List.getElem_cons_zero, List.getElem_cons_succ, Act.put, List.setIfInBounds_toArray, List.set_cons_zero, List.set_cons_succ]
          refine GoT.take (i := 9) (v := undef) rfl rfl (by decide +kernel) (by kernel_rfl) (by decide +kernel) (by decide +kernel) (fun _ _ _ h => h) (Or.inr ⟨by rfl, rfl⟩) hI ?_
          replace hI := hI.set (i := 9) (by decide)
          try simp only [List.getElem_toArray, List.getElem_cons_zero, List.getElem_cons_succ, Act.put, List.setIfInBounds_toArray, List.set_cons_zero, List.set_cons_succ]
          refine GoT.take (i := 11) (v := undef) rfl rfl (by decide +kernel) (by kernel_rfl) (by decide +kernel) (by decide +kernel) (fun _ _ _ h => h) (Or.inr ⟨by rfl, rfl⟩) hI ?_
          replace hI := hI.set (i := 11) (by decide)
          try simp only [List.getElem_toArray, List.getElem_cons_zero, List.getElem_cons_succ, Act.put, List.setIfInBounds_toArray, List.set_cons_zero, List.set_cons_succ]
          refine GoT.take (i := 12) (v := undef) rfl rfl (by decide +kernel) (by kernel_rfl) (by decide +kernel) (by decide +kernel) (fun _ _ _ h => h) (Or.inr ⟨by rfl, rfl⟩) hI ?_
          replace hI := hI.set (i := 12) (by decide)
          try simp only [List.getElem_toArray, List.getElem_cons_zero, List.getElem_cons_succ, Act.put, List.setIfInBounds_toArray, List.set_cons_zero, List.set_cons_succ]
          refine GoT.take (i := 13) (v := ?_) rfl rfl (by decide +kernel) (by kernel_rfl) (by decide +kernel) (by decide +kernel) (fun _ _ _ h => h) (Or.inl ⟨by rfl, ?_⟩) hI ?_
          rotate_left
          · intro w hSw
            try dsimp only at hSw
            go_split_ands
            go_simp
            (try with_reducible rfl)
          replace hI := hI.set (i := 13) (by decide)
          try simp only [List.getElem_toArray, List.getElem_cons_zero, List.getElem_cons_succ, Act.put, List.setIfInBounds_toArray, List.set_cons_zero, List.set_cons_succ]
          refine GoT.take (i := 14) (v := ?_) rfl rfl (by decide +kernel) (by kernel_rfl) (by decide +kernel) (by decide +kernel) (fun _ _ _ h => h) (Or.inl ⟨by rfl, ?_⟩) hI ?_
          rotate_left
          · intro w hSw
            try dsimp only at hSw
            go_split_ands
            go_simp
            (try with_reducible rfl)
          replace hI := hI.set (i := 14) (by decide)
          try simp only [List.getElem_toArray, List.getElem_cons_zero, List.getElem_cons_succ, Act.put, List.setIfInBounds_toArray, List.set_cons_zero, List.set_cons_succ]
          refine GoT.take (i := 15) (v := ?_) rfl rfl (by decide +kernel) (by kernel_rfl) (by decide +kernel) (by decide +kernel) (fun _ _ _ h => h) (Or.inl ⟨by rfl, ?_⟩) hI ?_
          rotate_left
          · intro w hSw
            try dsimp only at hSw
            go_split_ands
            go_simp
            (try with_reducible rfl)
          replace hI := hI.set (i := 15) (by decide)
          try simp only [List.getElem_toArray, List.getElem_cons_zero, List.getElem_cons_succ, Act.put, List.setIfInBounds_toArray, List.set_cons_zero, List.set_cons_succ]
          refine GoT.take (i := 16) (v := ?_) rfl rfl (by decide +kernel) (by kernel_rfl) (by decide +kernel) (by decide +kernel) (fun _ _ _ h => h) (Or.inl ⟨by rfl, ?_⟩) hI ?_
          rotate_left
          · intro w hSw
            try dsimp only at hSw
            go_split_ands
            go_simp
            (try with_reducible rfl)
          replace hI := hI.set (i := 16) (by decide)
          try simp only [List.getElem_toArray, List.getElem_cons_zero, List.getElem_cons_succ, Act.put, List.setIfInBounds_toArray, List.set_cons_zero, List.set_cons_succ]
          refine GoT.take (i := 18) (v := ?_) rfl rfl (by decide +kernel) (by kernel_rfl) (by decide +kernel) (by decide +kernel) (fun _ _ _ h => h) (Or.inl ⟨by rfl, ?_⟩) hI ?_
          rotate_left
          · intro w hSw
            try dsimp only at hSw
            go_split_ands
            go_simp
            (try with_reducible rfl)
          replace hI := hI.set (i := 18) (by decide)
          try simp only [List.getElem_toArray, List.getElem_cons_zero, List.getElem_cons_succ, Act.put, List.setIfInBounds_toArray, List.set_cons_zero, List.set_cons_succ]
          refine GoT.next (rs := [17]) (by decide +kernel) (by simp) (AllT.cons rfl (fun K hK => ?_) AllT.nil)
          dsimp only [List.getElem_toArray, List.getElem_cons_zero, List.getElem_cons_succ]
          go_simp
          go_at_call 10
          (with_reducible refine ((Hid.out HZs) _ ?_).mono ?_)
          · have hh := hI.1
            try dsimp only at hh
            go_split_ands
            assumption
          rintro e w' ⟨rfl, hb⟩
          dsimp only
          refine hK.out _ _ ⟨?_, .inl (by decide +kernel)⟩ (fun hI => ?_)
          · have hh := hI.1
            (try dsimp only at hh ⊢)
            go_split_ands
            exact ⟨hold hb (by assumption), hold hb (by assumption), hold hb (by assumption), hold hb (by assumption), hold hb (by assumption), hold hb (by assumption), hold hb (by assumption), hold hb (by assumption), hold hb (by assumption), hold hb (by assumption), hold hb (by assumption), hold hb (by assumption), hold hb (by assumption), hold hb (by assumption), hold hb (by assumption), hold hb (by assumption), hold hb (by assumption), hold hb (by assumption), hold hb (by assumption), hold hb (by assumption), hold hb (by assumption), hold hb (by assumption), hold hb (by assumption), hold hb (by assumption), below_next (by assumption) hb⟩
          clear hK K
          try simp only [Act.put, List.setIfInBounds_toArray, List.set_cons_zero, List.set_cons_succ]
          refine GoT.take (i := 19) (v := ?_) rfl rfl (by decide +kernel) (by kernel_rfl) (by decide +kernel) (by decide +kernel) (fun _ _ _ h => h) (Or.inl ⟨by rfl, ?_⟩) hI ?_
          rotate_left
          · intro w hSw
            try dsimp only at hSw
            go_split_ands
            go_simp
            (try with_reducible rfl)
          replace hI := hI.set (i := 19) (by decide)
          try simp only [List.getElem_toArray, List.getElem_cons_zero, List.getElem_cons_succ, Act.put, List.setIfInBounds_toArray, List.set_cons_zero, List.set_cons_succ]
          refine GoT.take (i := 20) (v := ?_) rfl rfl (by decide +kernel) (by kernel_rfl) (by decide +kernel) (by decide +kernel) (fun _ _ _ h => h) (Or.inl ⟨by rfl, ?_⟩) hI ?_
          rotate_left
          · intro w hSw
            try dsimp only at hSw
            go_split_ands
            go_simp
            (try with_reducible rfl)
          replace hI := hI.set (i := 20) (by decide)
          try simp only [List.getElem_toArray, List.getElem_cons_zero, List.getElem_cons_succ, Act.put, List.setIfInBounds_toArray, List.set_cons_zero, List.set_cons_succ]
          refine GoT.take (i := 21) (v := ?_) rfl rfl (by decide +kernel) (by kernel_rfl) (by decide +kernel) (by decide +kernel) (fun _ _ _ h => h) (Or.inl ⟨by rfl, ?_⟩) hI ?_
          rotate_left
          · intro w hSw
            try dsimp only at hSw
            go_split_ands
            go_simp
            (try with_reducible rfl)
          replace hI := hI.set (i := 21) (by decide)
          try simp only [List.getElem_toArray, List.getElem_cons_zero, List.getElem_cons_succ, Act.put, List.setIfInBounds_toArray, List.set_cons_zero, List.set_cons_succ]
          refine GoT.done (by decide +kernel) ?_ _
          have HBe := Lib.hid (HB9.out.trans (hI.1.2.2.2.2.2.2.2.2.2.2.2.2.2.2.2.2.2.2.2.2.2.2.2.2.mono HB9.out.size))
          clear hI hS0 HXs HYc HZs HB9 H9
          go_wp2_with fail
          go_ret
          exact ⟨rfl, HBe.out⟩
  · have hne : ((E : Int) != 0) = true := by simp; omega
    have hL0 : L = 0 := by
      rw [← HL.out]
      unfold encO
      rw [HE.out, if_neg h0]
      rfl
    have HS := Lib.hid (msize_any ⟨op, ari, dst, a, b, val, wide, args⟩ A n c w5 (HT.out.below Hb5.out) Ho5.out.len Ho5.out.cap Ho5.out.rd (by have := Ho5.out.few; omega) Ho5.out.val.2.2.2.2.2)
    rw [HL.out, hL0] at HS
    clear hL0 h0
    go_wp2_with fail
    refine HS.out.mono ?_
    rintro e w6 ⟨rfl, hb6⟩
    have Hb6 := Lib.hid (below_next Hb5.out hb6)
    clear hb6 HS
    go_wp2_with fail
    go_ret
    exact ⟨rfl, Hb6.out⟩
end Go.Proofs.YtebmmdafmgphdaaDoor
