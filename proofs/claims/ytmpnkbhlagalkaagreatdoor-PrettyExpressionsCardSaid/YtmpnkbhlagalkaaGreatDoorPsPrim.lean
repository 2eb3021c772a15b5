/-
  The walk of primary, given the walk of expr. No condition.
-/
import Derived.Test.YtmpnkbhlagalkaaGreatDoorPsUn
namespace Go.Proofs.YtmpnkbhlagalkaaGreatDoor
open Go.RowKit

/-- An element, its operand in a row of its own. -/
theorem el_out {lo dx n0 : Nat} {w7 w8 w9 W : World} {y : Ex} {l : Int} {nm : ByteArray} {c0 c1 c2 c3 c4 c5 : Value} {t : TypeId} (hv : ExV (fun q => w7.heap.size ≤ q ∧ q < w8.heap.size) w8 dx y (.agg #[c0, c1, c2, c3, c4, c5])) (hb9 : Below w8.heap.size w8 w9) (hg9 : w9.grownBy W (some lo))
    (hrow : W.heap[lo]? = some (.cells #[.int .i64 4, .int .i64 0, .int .i64 0, .int .i64 l, .string nm, .slice (some ⟨n0, 0, none⟩) 1 1] 30 (0, 0))) (ho : W.heap[n0]? = some (.cells #[c0, c1, c2, c3, c4, c5] t (0, 0))) (hn : lo ≤ n0) (hlt : lo < w7.heap.size) :
    XAt lo W lo (.mk 4 0 0 l nm [y]) := by
  have h1 := hb9.size
  have h2 := hg9.size
  have hn0 := (Array.getElem?_eq_some_iff.1 ho).1
  exact ⟨Nat.le_refl _, dx + 1, 4, 0, 0, l, nm, _, _, _, hrow, _, _, rfl, row_one hv (fun q hq => ⟨by omega, by omega⟩) (fun q hq => (hg9.block q (by omega) (fun e => by injection e with e; omega)).trans (hb9.block q hq.2)) ⟨hn, hn0⟩ ho⟩
theorem primary_cases {E : P1} {s s' : PS} {x : Ex} (h : primaryP E s = some (x, s')) : ((hdT s).kind = 2 ∧ x = .mk 1 0 ((hdT s).value : Int) ((hdT s).line : Int) ⟨#[]⟩ [] ∧ s' = popP s) ∨ ((hdT s).kind ≠ 2 ∧
    ((seesP [[38]] s = true ∧ x = .mk 11 0 0 ((hdT s).line : Int) (nmB (expectP 1 (popP s)).1.text) [] ∧ s' = (expectP 1 (popP s)).2) ∨ (seesP [[38]] s = false ∧
    ((seesP [[114, 101, 97, 100]] s = true ∧ x = .mk 12 0 0 ((hdT s).line : Int) ⟨#[]⟩ [] ∧ s' = popP s) ∨ (seesP [[114, 101, 97, 100]] s = false ∧
    ((seesP [[40]] s = true ∧ ∃ s1, E (popP s) = some (x, s1) ∧ s' = demandP [41] s1) ∨ (seesP [[40]] s = false ∧
    ((seesP [[91]] (expectP 1 s).2 = true ∧ ∃ y s1, E (popP (expectP 1 s).2) = some (y, s1) ∧ x = .mk 4 0 0 ((hdT s).line : Int) (nmB (expectP 1 s).1.text) [y] ∧ s' = demandP [93] s1) ∨
    (seesP [[91]] (expectP 1 s).2 = false ∧ x = .mk 13 0 0 ((hdT s).line : Int) (nmB (expectP 1 s).1.text) [] ∧ s' = (expectP 1 s).2))))))))) := by
  unfold primaryP at h
  by_cases hk : (hdT s).kind = 2
  · rw [if_pos hk] at h
    injection h with h
    injection h with h1 h2
    exact .inl ⟨hk, h1.symm, h2.symm⟩
  · rw [if_neg hk] at h
    refine .inr ⟨hk, ?_⟩
    cases h1 : seesP [[38]] s with
    | true =>
      simp only [h1, if_true] at h
      injection h with h
      injection h with e1 e2
      exact .inl ⟨rfl, e1.symm, e2.symm⟩
    | false =>
      simp only [h1, if_false, Bool.false_eq_true] at h
      refine .inr ⟨rfl, ?_⟩
      cases h2 : seesP [[114, 101, 97, 100]] s with
      | true =>
        simp only [h2, if_true] at h
        injection h with h
        injection h with e1 e2
        exact .inl ⟨rfl, e1.symm, e2.symm⟩
      | false =>
        simp only [h2, if_false, Bool.false_eq_true] at h
        refine .inr ⟨rfl, ?_⟩
        cases h3 : seesP [[40]] s with
        | true =>
          simp only [h3, if_true] at h
          refine .inl ⟨rfl, ?_⟩
          cases hq : E (popP s) with
          | none => rw [hq] at h; cases h
          | some q =>
            obtain ⟨y, s1⟩ := q
            rw [hq] at h
            injection h with h
            injection h with e1 e2
            subst e1
            exact ⟨s1, rfl, e2.symm⟩
        | false =>
          simp only [h3, if_false, Bool.false_eq_true] at h
          refine .inr ⟨rfl, ?_⟩
          cases h4 : seesP [[91]] (expectP 1 s).2 with
          | true =>
            simp only [h4, if_true] at h
            refine .inl ⟨rfl, ?_⟩
            cases hq : E (popP (expectP 1 s).2) with
            | none => rw [hq] at h; cases h
            | some q =>
              obtain ⟨y, s1⟩ := q
              rw [hq] at h
              injection h with h
              injection h with e1 e2
              exact ⟨y, s1, rfl, e1.symm, e2.symm⟩
          | false =>
            simp only [h4, if_false, Bool.false_eq_true] at h
            injection h with h
            injection h with e1 e2
            exact .inr ⟨rfl, e1.symm, e2.symm⟩
theorem demand_len (x : Bytes) (s : PS) (h : 0 < s.rest.length) : (demandP x s).rest.length ≤ s.rest.length := by
  unfold demandP
  split
  · rw [pop_len]; omega
  · rw [refuse_len s h]; omega
set_option maxRecDepth 100000 in
set_option maxHeartbeats 2000000 in
theorem primary_any (E : P1) (he : SubCt 12 E) : SubCt 109 (primaryP E) := by
  intro p tb s s' x w h hP
  have hcase := primary_cases hP
  have c0 := h
  obtain ⟨off, c, m, hr⟩ := c0
  have hcap := hr.cap
  have c0 := hr.cells.1
  have l0 := hr.hd.2.1
  have hplt := hr.plt
  have htlt := hr.tlt
  have hb := (Below.refl _ w).alloc (Nat.le_refl _) (.cells #[.int .i64 0, .int .i64 0, .int .i64 0, .int .i64 ((hdT s).line : Int), .string { data := #[] }, .slice none 0 0] 30)
  have hx := heap_alloc_new w (.cells #[.int .i64 0, .int .i64 0, .int .i64 0, .int .i64 ((hdT s).line : Int), .string { data := #[] }, .slice none 0 0] 30)
  have hr1 := hr.low hb hplt htlt
  have d0 := hr1.cells.1
  have k0 := hr1.hd.1
  have HE0 := Lib.hid he
  have HB := Lib.hid hb
  have HXX := Lib.hid hx
  have HP1 := Lib.hid (h.below hb)
  have HW := Lib.hid h.wf
  clear he hr hr1 hb hx h hP
  rcases hcase with ⟨hk, rfl, rfl⟩ | ⟨hk, hcase⟩
  · have h2 := HW.out.two (.inr (by omega))
    have HN := Lib.hid (next_any _ HP1.out h2)
    rw [hk] at k0
    clear h2 HW
    go_enter Tryz.func109, Tryz.ntmps109
    go_wp2_with fail
    refine HN.out.mono ?_
    rintro e w2 ⟨rfl, hp2, hg2⟩
    have hrow := blk_keep hg2 (by omega) HXX.out
    have f0 : w2.frozen? ⟨w.heap.size, 0, none⟩ = false := codes_fz hrow 0
    have f2 : w2.frozen? ⟨w.heap.size, 2, none⟩ = false := codes_fz hrow 2
    have e0 := cell_of_row _ _ 0 _ _ _ hrow
    have e2 := cell_of_row _ _ 2 _ _ _ hrow
    have hgs : w2.grownBy _ (some w.heap.size) := (set_grown w2 ⟨w.heap.size, 0, none⟩ (.int .i64 1)).trans (set_grown _ ⟨w.heap.size, 2, none⟩ (.int .i64 ((hdT s).value : Int)))
    have hrow2 := row_set (i := 2) (.int .i64 ((hdT s).value : Int)) (row_set (i := 0) (.int .i64 1) hrow)
    have hgw := ((grown_of_below HB.out (some p)).trans hg2)
    have HE : Hid (ExG p tb (.mk 1 0 ((hdT s).value : Int) ((hdT s).line : Int) ⟨#[]⟩ []) s (popP s) w (.returned (.pointer (some ⟨w.heap.size, 0, none⟩))) _) := Lib.hid ⟨_, rfl, ⟨Nat.le_refl _, 1, _, _, _, _, _, _, _, _, hrow2, exV_leaf⟩, hp2.other hgs (by omega) (by omega), grown_new hgw hgs (Nat.le_refl _), by rw [pop_len]; omega⟩
    have hfd : ∀ w : World, (Instr.field 67 (.agg #[.int .i64 2, .int .i64 ((hdT s).line : Int), .int .i64 ((hdT s).value : Int), .string (nmB (hdT s).text)]) 2).run Tryz.prog w = .ok (.int .i64 ((hdT s).value : Int)) w := fun _ => by kernel_rfl
    clear HN hp2 hg2 hrow hgs hrow2 hgw
    unfold tokV
    go_wp2_with fail
    go_ret
    exact HE.out
  · have hk2 : (((hdT s).kind : Int) == 2) = false := by rw [show (2 : Int) = ((2 : Nat) : Int) from rfl, kindB]; simpa using hk
    rcases hcase with ⟨h38, rfl, rfl⟩ | ⟨h38, hcase⟩
    · have HL := Lib.hid (expect_len 1 (popP s))
      have HW2 := Lib.hid HW.out.pos
      have HT2 := Lib.hid (sees_two HW.out (by decide) h38)
      have HA1 := Lib.hid (accepts_yes [38] ⟨#[38]⟩ _ rfl (by decide) HP1.out h38)
      clear hk h38 HW
      go_enter Tryz.func109, Tryz.ntmps109
      go_wp2_with fail
      refine HA1.out.mono ?_
      rintro e w2 ⟨rfl, hp2, hg2⟩
      have HN := Lib.hid (name_any _ hp2)
      have HG2 := Lib.hid hg2
      clear HA1 hp2 hg2
      go_wp2_with fail
      refine HN.out.mono ?_
      rintro e w3 ⟨rfl, hp3, hg3⟩
      have hg13 := HG2.out.trans hg3
      have hrow := blk_keep hg13 (by omega) HXX.out
      have f0 : w3.frozen? ⟨w.heap.size, 0, none⟩ = false := codes_fz hrow 0
      have f4 : w3.frozen? ⟨w.heap.size, 4, none⟩ = false := codes_fz hrow 4
      have e0 := cell_of_row _ _ 0 _ _ _ hrow
      have e4 := cell_of_row _ _ 4 _ _ _ hrow
      have hgs : w3.grownBy _ (some w.heap.size) := (set_grown w3 ⟨w.heap.size, 0, none⟩ (.int .i64 11)).trans (set_grown _ ⟨w.heap.size, 4, none⟩ (.string (nmB (expectP 1 (popP s)).1.text)))
      have hrow2 := row_set (i := 4) (.string (nmB (expectP 1 (popP s)).1.text)) (row_set (i := 0) (.int .i64 11) hrow)
      have hgw := ((grown_of_below HB.out (some p)).trans hg13)
      have HE : Hid (ExG p tb (.mk 11 0 0 ((hdT s).line : Int) (nmB (expectP 1 (popP s)).1.text) []) s (expectP 1 (popP s)).2 w (.returned (.pointer (some ⟨w.heap.size, 0, none⟩))) _) := Lib.hid ⟨_, rfl, ⟨Nat.le_refl _, 1, _, _, _, _, _, _, _, _, hrow2, exV_leaf⟩, hp3.other hgs (by omega) (by omega), grown_new hgw hgs (Nat.le_refl _), by
        have h5 := HL.out (by rw [pop_len]; have := HT2.out; omega)
        rw [pop_len] at h5
        omega⟩
      clear HN hp3 hg3 hrow hgs hrow2 hgw hg13 HG2
      go_wp2_with fail
      go_ret
      exact HE.out
    · rcases hcase with ⟨hrd, rfl, rfl⟩ | ⟨hrd, hcase⟩
      · have HA1 := Lib.hid (accepts_no [38] ⟨#[38]⟩ _ rfl HP1.out h38)
        have HRD := Lib.hid hrd
        clear hk h38 hrd HW
        go_enter Tryz.func109, Tryz.ntmps109
        go_wp2_with fail
        refine HA1.out.mono ?_
        rintro e w2 ⟨rfl, hp2, hg2⟩
        have HA2 := Lib.hid (accepts_yes [114, 101, 97, 100] ⟨#[114, 101, 97, 100]⟩ _ rfl (by decide) hp2 HRD.out)
        have HG2 := Lib.hid hg2
        clear HA1 hp2 hg2
        go_wp2_with fail
        refine HA2.out.mono ?_
        rintro e w3 ⟨rfl, hp3, hg3⟩
        have hg13 := HG2.out.trans hg3
        have hrow := blk_keep hg13 (by omega) HXX.out
        have f0 : w3.frozen? ⟨w.heap.size, 0, none⟩ = false := codes_fz hrow 0
        have e0 := cell_of_row _ _ 0 _ _ _ hrow
        have hgs : w3.grownBy _ (some w.heap.size) := set_grown w3 ⟨w.heap.size, 0, none⟩ (.int .i64 12)
        have hrow2 := row_set (i := 0) (.int .i64 12) hrow
        have hgw := ((grown_of_below HB.out (some p)).trans hg13)
        have HE : Hid (ExG p tb (.mk 12 0 0 ((hdT s).line : Int) ⟨#[]⟩ []) s (popP s) w (.returned (.pointer (some ⟨w.heap.size, 0, none⟩))) _) := Lib.hid ⟨_, rfl, ⟨Nat.le_refl _, 1, _, _, _, _, _, _, _, _, hrow2, exV_leaf⟩, hp3.other hgs (by omega) (by omega), grown_new hgw hgs (Nat.le_refl _), by rw [pop_len]; omega⟩
        clear HA2 hp3 hg3 hrow hgs hrow2 hgw hg13 HG2
        go_wp2_with fail
        go_ret
        exact HE.out
      · rcases hcase with ⟨h40, s1, hE, rfl⟩ | ⟨h40, hcase⟩
        · skip
          have HA1 := Lib.hid (accepts_no [38] ⟨#[38]⟩ _ rfl HP1.out h38)
          have HRD := Lib.hid hrd
          have H40 := Lib.hid h40
          have HEE := Lib.hid hE
          clear hk h38 hrd h40 hE HW
          go_enter Tryz.func109, Tryz.ntmps109
          go_wp2_with fail
          refine HA1.out.mono ?_
          rintro e w2 ⟨rfl, hp2, hg2⟩
          have HA2 := Lib.hid (accepts_no [114, 101, 97, 100] ⟨#[114, 101, 97, 100]⟩ _ rfl hp2 HRD.out)
          have HG2 := Lib.hid ((grown_of_below HB.out (some p)).trans hg2)
          clear HA1 hp2 hg2
          go_wp2_with fail
          refine HA2.out.mono ?_
          rintro e w3 ⟨rfl, hp3, hg3⟩
          have HA3 := Lib.hid (accepts_yes [40] ⟨#[40]⟩ _ rfl (by decide) hp3 H40.out)
          have HG3 := Lib.hid (HG2.out.trans hg3)
          clear HA2 hp3 hg3 HG2
          go_wp2_with fail
          refine HA3.out.mono ?_
          rintro e w4 ⟨rfl, hp4, hg4⟩
          have HC := Lib.hid (HE0.out p tb (popP s) s1 x w4 hp4 HEE.out)
          have HG4 := Lib.hid (HG3.out.trans hg4)
          clear HA3 hp4 hg4 HG3
          go_wp2_with fail
          refine HC.out.mono ?_
          rintro e w5 ⟨b5, rfl, hx5, hp5, hg5, hl5⟩
          have hs4 := HG4.out.size
          have HD := Lib.hid (demand_any [41] ⟨#[41]⟩ _ rfl (by decide) hp5)
          have HX5 := Lib.hid (hx5.lo hs4)
          have HG5 := Lib.hid (HG4.out.trans hg5)
          have HL5 := Lib.hid hl5
          have HW5 := Lib.hid hp5.wf.pos
          clear HC hx5 hp5 hg5 hl5 HG4
          go_wp2_with fail
          refine HD.out.mono ?_
          rintro e w6 ⟨⟨v, rfl⟩, hp6, hg6⟩
          have HE : Hid (ExG p tb x s (demandP [41] s1) w (.returned (.pointer (some ⟨b5, 0, none⟩))) w6) := Lib.hid ⟨b5, rfl, HX5.out.grown hg6 hplt, hp6, HG5.out.trans hg6, by
            have := demand_len [41] s1 HW5.out
            have h5 := HL5.out
            rw [pop_len] at h5
            omega⟩
          clear HD hp6 hg6
          go_wp2_with fail
          go_ret
          exact HE.out
        · have HA1 := Lib.hid (accepts_no [38] ⟨#[38]⟩ _ rfl HP1.out h38)
          have HRD := Lib.hid hrd
          have H40 := Lib.hid h40
          have HCA := Lib.hid hcase
          have HLE := Lib.hid (expect_len 1 s HW.out.pos)
          clear hk h38 hrd h40 hcase
          go_enter Tryz.func109, Tryz.ntmps109
          go_wp2_with fail
          refine HA1.out.mono ?_
          rintro e w2 ⟨rfl, hp2, hg2⟩
          have HA2 := Lib.hid (accepts_no [114, 101, 97, 100] ⟨#[114, 101, 97, 100]⟩ _ rfl hp2 HRD.out)
          have HG2 := Lib.hid hg2
          clear HA1 hp2 hg2
          go_wp2_with fail
          refine HA2.out.mono ?_
          rintro e w3 ⟨rfl, hp3, hg3⟩
          have HA3 := Lib.hid (accepts_no [40] ⟨#[40]⟩ _ rfl hp3 H40.out)
          have HG3 := Lib.hid (HG2.out.trans hg3)
          clear HA2 hp3 hg3 HG2
          go_wp2_with fail
          refine HA3.out.mono ?_
          rintro e w4 ⟨rfl, hp4, hg4⟩
          have HN := Lib.hid (name_any _ hp4)
          have HG4 := Lib.hid (HG3.out.trans hg4)
          clear HA3 hp4 hg4 HG3
          go_wp2_with fail
          refine HN.out.mono ?_
          rintro e w5 ⟨rfl, hp5, hg5⟩
          have hg15 := HG4.out.trans hg5
          have hrow := blk_keep hg15 (by omega) HXX.out
          have f0 : w5.frozen? ⟨w.heap.size, 0, none⟩ = false := codes_fz hrow 0
          have f4 : w5.frozen? ⟨w.heap.size, 4, none⟩ = false := codes_fz hrow 4
          have e0 := cell_of_row _ _ 0 _ _ _ hrow
          have e4 := cell_of_row _ _ 4 _ _ _ hrow
          have hgs : w5.grownBy _ (some w.heap.size) := (set_grown w5 ⟨w.heap.size, 0, none⟩ (.int .i64 13)).trans (set_grown _ ⟨w.heap.size, 4, none⟩ (.string (nmB (expectP 1 s).1.text)))
          have hrow2 := row_set (i := 4) (.string (nmB (expectP 1 s).1.text)) (row_set (i := 0) (.int .i64 13) hrow)
          have hgw := ((grown_of_below HB.out (some p)).trans hg15)
          have hp6 := hp5.other hgs (by omega) (by omega)
          have hg6 := grown_new hgw hgs (Nat.le_refl _)
          have HROW := Lib.hid hrow2
          have HG6 := Lib.hid hg6
          rcases HCA.out with ⟨h91, y, s1, hE, rfl, rfl⟩ | ⟨h91, rfl, rfl⟩
          · have HA4 := Lib.hid (accepts_yes [91] ⟨#[91]⟩ _ rfl (by decide) hp6 h91)
            have HEE := Lib.hid hE
            clear HN hp5 hg5 hrow hgs hrow2 hgw hg15 hp6 hg6 h91 hE HCA
            go_wp2_with fail
            refine HA4.out.mono ?_
            rintro e w7 ⟨rfl, hp7, hg7⟩
            have HC := Lib.hid (HE0.out p tb (popP (expectP 1 s).2) s1 y w7 hp7 HEE.out)
            have HROW7 := Lib.hid (blk_keep hg7 (by omega) HROW.out)
            have HG7 := Lib.hid (HG6.out.trans hg7)
            have hs7 := (HG6.out.trans hg7).size
            clear HA4 hp7 hg7 HROW HG6
            go_wp2_with fail
            refine HC.out.mono ?_
            rintro e w8 ⟨b8, rfl, hx8, hp8, hg8, hl8⟩
            obtain ⟨_, dx, kx, ox, ax, lx, sx, Ax, nx, cx, rx, vx⟩ := hx8
            have a0 := cell_of_row _ _ 0 _ _ _ rx
            have a1 := cell_of_row _ _ 1 _ _ _ rx
            have a2 := cell_of_row _ _ 2 _ _ _ rx
            have a3 := cell_of_row _ _ 3 _ _ _ rx
            have a4 := cell_of_row _ _ 4 _ _ _ rx
            have a5 := cell_of_row _ _ 5 _ _ _ rx
            have hxlt := (Array.getElem?_eq_some_iff.1 HROW7.out).1
            have hrow8 := blk_keep hg8 (by omega) HROW7.out
            have hb9 := (Below.refl _ w8).alloc (Nat.le_refl _) (.cells #[.int .i64 kx, .int .i64 ox, .int .i64 ax, .int .i64 lx, .string sx, .slice Ax nx cx] 30)
            have hrow9 := (hb9.block _ (Array.getElem?_eq_some_iff.1 hrow8).1).trans hrow8
            have ho9 := heap_alloc_new w8 (.cells #[.int .i64 kx, .int .i64 ox, .int .i64 ax, .int .i64 lx, .string sx, .slice Ax nx cx] 30)
            have fz := codes_fz hrow9
            have g0 := fz 0
            have g5 := fz 5
            have i0 := cell_of_row _ _ 0 _ _ _ hrow9
            have i5 := cell_of_row _ _ 5 _ _ _ hrow9
            have hg9 : (w8.alloc (.cells #[.int .i64 kx, .int .i64 ox, .int .i64 ax, .int .i64 lx, .string sx, .slice Ax nx cx] 30)).grownBy _ (some w.heap.size) := (set_grown _ ⟨w.heap.size, 0, none⟩ (.int .i64 4)).trans (set_grown _ ⟨w.heap.size, 5, none⟩ (.slice (some ⟨w8.heap.size, 0, none⟩) 1 1))
            have hrow10 := row_set (i := 5) (.slice (some ⟨w8.heap.size, 0, none⟩) 1 1) (row_set (i := 0) (.int .i64 4) hrow9)
            have hs8 := hg8.size
            have ho10 := blk_keep hg9 (by omega) ho9
            have hp10 := (hp8.below hb9).other hg9 (by omega) (by omega)
            have HG10 := Lib.hid (grown_new ((HG7.out.trans hg8).trans (grown_of_below hb9 _)) hg9 (Nat.le_refl _))
            have HX10 := Lib.hid (el_out (nm := nmB (expectP 1 s).1.text) (l := ((hdT s).line : Int)) vx hb9 hg9 hrow10 ho10 (by omega) hxlt)
            have HD := Lib.hid (demand_any [93] ⟨#[93]⟩ _ rfl (by decide) hp10)
            have HL8 := Lib.hid hl8
            have HW8 := Lib.hid hp8.wf.pos
            clear HC rx vx hp8 hg8 hb9 hrow8 hrow9 ho9 fz hg9 hrow10 ho10 hp10 HG7 HROW7
            go_wp2_with fail
            refine HD.out.mono ?_
            rintro e w11 ⟨⟨v, rfl⟩, hp11, hg11⟩
            have HE : Hid (ExG p tb (.mk 4 0 0 ((hdT s).line : Int) (nmB (expectP 1 s).1.text) [y]) s (demandP [93] s1) w (.returned (.pointer (some ⟨w.heap.size, 0, none⟩))) w11) := Lib.hid ⟨_, rfl, HX10.out.grown hg11 hplt, hp11, HG10.out.trans hg11, by
              have := demand_len [93] s1 HW8.out
              have h5 := HL8.out
              rw [pop_len] at h5
              have := HLE.out
              omega⟩
            clear HD hp11 hg11
            go_wp2_with fail
            go_ret
            exact HE.out
          · have HA4 := Lib.hid (accepts_no [91] ⟨#[91]⟩ _ rfl hp6 h91)
            clear HN hp5 hg5 hrow hgs hrow2 hgw hg15 hp6 hg6 h91 HCA
            go_wp2_with fail
            refine HA4.out.mono ?_
            rintro e w7 ⟨rfl, hp7, hg7⟩
            have HE : Hid (ExG p tb (.mk 13 0 0 ((hdT s).line : Int) (nmB (expectP 1 s).1.text) []) s (expectP 1 s).2 w (.returned (.pointer (some ⟨w.heap.size, 0, none⟩))) w7) := Lib.hid ⟨_, rfl, ⟨Nat.le_refl _, 1, _, _, _, _, _, _, _, _, blk_keep hg7 (by omega) HROW.out, exV_leaf⟩, hp7, HG6.out.trans hg7, HLE.out⟩
            clear HA4 hp7 hg7
            go_wp2_with fail
            go_ret
            exact HE.out
end Go.Proofs.YtmpnkbhlagalkaaGreatDoor
