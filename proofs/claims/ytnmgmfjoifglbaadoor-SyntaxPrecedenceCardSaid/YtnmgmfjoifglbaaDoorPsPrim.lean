/-
  The walks of primary and called where a number or a parenthesis begins and no call follows, given the walk of expr. No condition.
-/
import Derived.Test.YtnmgmfjoifglbaaDoorPsUn
namespace Go.Proofs.YtnmgmfjoifglbaaDoor
open Go.RowKit

theorem primary_cases {E : P1} {s s' : PS} {x : Ex} (h : primaryP E s = some (x, s')) : ((hdT s).kind = 2 ∧ x = .mk 1 0 ((hdT s).value : Int) ((hdT s).line : Int) ⟨#[]⟩ [] ∧ s' = popP s) ∨
    ((hdT s).kind ≠ 2 ∧ seesP [[38]] s = false ∧ seesP [[114, 101, 97, 100]] s = false ∧ seesP [[40]] s = true ∧ ∃ s1, E (popP s) = some (x, s1) ∧ s' = demandP [41] s1) := by
  unfold primaryP at h
  split at h
  · rename_i hk
    injection h with h
    injection h with h1 h2
    exact .inl ⟨hk, h1.symm, h2.symm⟩
  · rename_i hk
    split at h
    · cases h
    · rename_i h38
      split at h
      · cases h
      · rename_i hrd
        split at h
        · rename_i h40
          cases hq : E (popP s) with
          | none => rw [hq] at h; cases h
          | some q =>
            obtain ⟨y, s1⟩ := q
            rw [hq] at h
            injection h with h
            injection h with h1 h2
            subst h1
            exact .inr ⟨hk, by simpa using h38, by simpa using hrd, h40, s1, rfl, h2.symm⟩
        · cases h
theorem demand_len (x : Bytes) (s : PS) (h : 0 < s.rest.length) : (demandP x s).rest.length ≤ s.rest.length := by
  unfold demandP
  split
  · rw [pop_len]; omega
  · rw [refuse_len s h]; omega
set_option maxRecDepth 100000 in
set_option maxHeartbeats 2000000 in
theorem primary_any (E : P1) (he : SubCt 8 E) : SubCt 58 (primaryP E) := by
  intro p tb s s' x w h hP
  have hcase := primary_cases hP
  have c0 := h
  obtain ⟨off, c, m, hr⟩ := c0
  have hcap := hr.cap
  have c0 := hr.cells.1
  have l0 := hr.hd.2.1
  have hplt := hr.plt
  have htlt := hr.tlt
  have hb := (Below.refl _ w).alloc (Nat.le_refl _) (.cells #[.int .i64 0, .int .i64 0, .int .i64 0, .int .i64 ((hdT s).line : Int), .string { data := #[] }, .slice none 0 0] 27)
  have hx := heap_alloc_new w (.cells #[.int .i64 0, .int .i64 0, .int .i64 0, .int .i64 ((hdT s).line : Int), .string { data := #[] }, .slice none 0 0] 27)
  have hr1 := hr.low hb hplt htlt
  have d0 := hr1.cells.1
  have k0 := hr1.hd.1
  have HE0 := Lib.hid he
  have HB := Lib.hid hb
  have HXX := Lib.hid hx
  have HP1 := Lib.hid (h.below hb)
  have HW := Lib.hid h.wf
  clear he hr hr1 hb hx h hP
  rcases hcase with ⟨hk, rfl, rfl⟩ | ⟨hk, h38, hrd, h40, s1, hE, rfl⟩
  · have h2 := HW.out.two (.inr (by omega))
    have HN := Lib.hid (next_any _ HP1.out h2)
    rw [hk] at k0
    clear h2 HW
    go_enter Tryd.func58, Tryd.ntmps58
    go_wp2_with fail
    refine HN.out.mono ?_
    rintro e w2 ⟨rfl, hp2, hg2⟩
    have hrow := blk_keep hg2 (by omega) HXX.out
    have f0 : w2.frozen? ⟨w.heap.size, 0, none⟩ = false := codes_fz hrow 0
    have f2 : w2.frozen? ⟨w.heap.size, 2, none⟩ = false := codes_fz hrow 2
    have e0 := cell_of_row _ _ 0 _ _ _ hrow
    have e2 := cell_of_row _ _ 2 _ _ _ hrow
    have hgs : w2.grownBy _ (some w.heap.size) := (set_grown w2 ⟨w.heap.size, 0, none⟩ (.int .i64 1)).trans (set_grown _ ⟨w.heap.size, 2, none⟩ (.int .i64 ((hdT s).value : Int)))
    have hrow2 := row_set (i := 2) (.int .i64 ((hdT s).value : Int)) (row_set (i := 0) (.int .i64 1) hrow)
    have hgw := ((grown_of_below HB.out (some p)).trans hg2)
    have HE : Hid (ExG p tb (.mk 1 0 ((hdT s).value : Int) ((hdT s).line : Int) ⟨#[]⟩ []) s (popP s) w (.returned (.pointer (some ⟨w.heap.size, 0, none⟩))) _) := Lib.hid ⟨_, rfl, ⟨Nat.le_refl _, 1, _, _, _, _, _, _, _, _, hrow2, exV_leaf⟩, hp2.other hgs (by omega) (by omega), grown_new hgw hgs (Nat.le_refl _), by rw [pop_len]; omega⟩
    have hfd : ∀ w : World, (Instr.field 47 (.agg #[.int .i64 2, .int .i64 ((hdT s).line : Int), .int .i64 ((hdT s).value : Int), .string (nmB (hdT s).text)]) 2).run Tryd.prog w = .ok (.int .i64 ((hdT s).value : Int)) w := fun _ => by kernel_rfl
    clear HN hp2 hg2 hrow hgs hrow2 hgw
    unfold tokV
    go_wp2_with fail
    go_ret
    exact HE.out
  · have hk2 : (((hdT s).kind : Int) == 2) = false := by rw [show (2 : Int) = ((2 : Nat) : Int) from rfl, kindB]; simpa using hk
    have HA1 := Lib.hid (accepts_no [38] ⟨#[38]⟩ _ rfl HP1.out h38)
    have HRD := Lib.hid hrd
    have H40 := Lib.hid h40
    have HEE := Lib.hid hE
    clear hk h38 hrd h40 hE HW
    go_enter Tryd.func58, Tryd.ntmps58
    go_wp2_with fail
    refine HA1.out.mono ?_
    rintro e w2 ⟨rfl, hp2, hg2⟩
    have HA2 := Lib.hid (accepts_no [114, 101, 97, 100] ⟨#[114, 101, 97, 100]⟩ _ rfl hp2 HRD.out)
    have HG2 := Lib.hid ((grown_of_below HB.out (some p)).trans hg2)
    clear HA1 hp2 hg2
    go_wp2_with fail
    refine HA2.out.mono ?_
    rintro e w3 ⟨rfl, hp3, hg3⟩
    have HA3 := Lib.hid (accepts_yes [40] ⟨#[40]⟩ _ rfl (by decide) hp3 H40.out)
    have HG3 := Lib.hid (HG2.out.trans hg3)
    clear HA2 hp3 hg3 HG2
    go_wp2_with fail
    refine HA3.out.mono ?_
    rintro e w4 ⟨rfl, hp4, hg4⟩
    have HC := Lib.hid (HE0.out p tb (popP s) s1 x w4 hp4 HEE.out)
    have HG4 := Lib.hid (HG3.out.trans hg4)
    clear HA3 hp4 hg4 HG3
    go_wp2_with fail
    refine HC.out.mono ?_
    rintro e w5 ⟨b5, rfl, hx5, hp5, hg5, hl5⟩
    have hs4 := HG4.out.size
    have HD := Lib.hid (demand_any [41] ⟨#[41]⟩ _ rfl (by decide) hp5)
    have HX5 := Lib.hid (hx5.lo hs4)
    have HG5 := Lib.hid (HG4.out.trans hg5)
    have HL5 := Lib.hid hl5
    have HW5 := Lib.hid hp5.wf.pos
    clear HC hx5 hp5 hg5 hl5 HG4
    go_wp2_with fail
    refine HD.out.mono ?_
    rintro e w6 ⟨⟨v, rfl⟩, hp6, hg6⟩
    have HE : Hid (ExG p tb x s (demandP [41] s1) w (.returned (.pointer (some ⟨b5, 0, none⟩))) w6) := Lib.hid ⟨b5, rfl, HX5.out.grown hg6 hplt, hp6, HG5.out.trans hg6, by
      have := demand_len [41] s1 HW5.out
      have h5 := HL5.out
      rw [pop_len] at h5
      omega⟩
    clear HD hp6 hg6
    go_wp2_with fail
    go_ret
    exact HE.out
theorem called_cases {E : P1} {s s' : PS} {x : Ex} (h : calledP E s = some (x, s')) : primaryP E s = some (x, s') ∧ seesP [[40]] s' = false := by
  unfold calledP at h
  cases hq : primaryP E s with
  | none => rw [hq] at h; cases h
  | some q =>
    obtain ⟨y, s1⟩ := q
    rw [hq] at h
    simp only [] at h
    split at h
    · cases h
    · rename_i h40
      injection h with h
      injection h with h1 h2
      subst h1 h2
      exact ⟨rfl, by simpa using h40⟩
set_option maxRecDepth 100000 in
set_option maxHeartbeats 2000000 in
theorem called_any (E : P1) (he : SubCt 8 E) : SubCt 53 (calledP E) := by
  intro p tb s s' x w h hP
  obtain ⟨hp, h40⟩ := called_cases hP
  have HC := Lib.hid (primary_any E he p tb s s' x w h hp)
  have H40 := Lib.hid h40
  obtain ⟨off, c, m, hr⟩ := h
  have hcap := hr.cap
  have c0 := hr.cells.1
  have k0 := hr.hd.1
  have hplt := hr.plt
  clear he hr hP hp h40
  go_enter Tryd.func53, Tryd.ntmps53
  go_wp2_with fail
  refine HC.out.mono ?_
  rintro e w1 ⟨b1, rfl, hx1, hp1, hg1, hl1⟩
  have hb := (Below.refl _ w1).alloc (Nat.le_refl _) (.cells #[.string ⟨#[40]⟩] 9)
  have HSE := Lib.hid (sees_any false [[40]] w1.heap.size 1 1 _ (hp1.below hb) H40.out rfl (Nat.le_refl _) (by omega) (trow_new w1 [[40]] 9))
  have HE : Hid (ExG p tb x s s' w (.returned (.pointer (some ⟨b1, 0, none⟩))) _) := Lib.hid ⟨b1, rfl, hx1.below hb, hp1.below hb, hg1.trans (grown_of_below hb (some p)), hl1⟩
  clear HC hx1 hp1 hg1 hl1 hb
  go_wp2_with fail
  go_loopw [4] (fun v wr => v = .pointer (some ⟨b1, 0, none⟩) ∧ wr = w1) (fun _ _ => 0)
  case atStart => exact ⟨rfl, rfl⟩
  case round =>
    obtain ⟨rfl, rfl⟩ := hrel
    go_wp2_with fail
    refine HSE.out.mono ?_
    rintro e w2 ⟨rfl, rfl⟩
    go_wp2_with fail
    go_ret
    exact HE.out
theorem expr_any : ∀ d, SubCt 8 (exprP d)
  | 0 => fun p tb s s' x w h hP => by cases hP
  | d + 1 => by
    have hc := called_any (exprP d) (expr_any d)
    have hu : SubCt 44 (unaryQ (exprP d)) := fun p tb s s' x w h hP => unary_any (exprP d) hc (s.rest.length + 1) p tb s s' x w h hP
    exact expr_level _ (and_level _ (compare_level _ (sum_level _ (term_level _ hu))))
end Go.Proofs.YtnmgmfjoifglbaaDoor
