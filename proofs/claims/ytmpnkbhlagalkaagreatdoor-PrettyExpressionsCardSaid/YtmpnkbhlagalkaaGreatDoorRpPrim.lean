/-
  The walk of the reference reader's primary, given the walk of expr. No condition.
-/
import Derived.Test.YtmpnkbhlagalkaaGreatDoorRpUn
namespace Go.Proofs.YtmpnkbhlagalkaaGreatDoor
open Go.RowKit

theorem leaf_endR {p tb : Nat} {s s' : RS} {w wr w9 : World} (k o a ln : Int) (t : ByteArray) (h : RA wr p tb s') (hg : w.grownBy wr (some p)) (hl : s'.rest.length ≤ s.rest.length) (hp : p < w.heap.size) (ht : tb < w.heap.size) (hg9 : wr.grownBy w9 (some w.heap.size)) :
    XRG p tb (.mk k o a ln t []) s s' w (.returned (.agg #[.int .i64 k, .int .i64 o, .int .i64 a, .int .i64 ln, .string t, .slice none 0 0])) w9 :=
  lev_end (xb := w.heap.size) (d := 1) exV_leaf h hg hl hp ht hg9
theorem primaryR_cases {E : R1} {s s' : RS} {x : Ex} (h : primaryR E s = some (x, s')) : (s.bad = true ∧ x = noX ∧ s' = s) ∨ (s.bad = false ∧
    (((hdR s).kind = 2 ∧ x = .mk 1 0 ((hdR s).value : Int) ((hdR s).line : Int) ⟨#[]⟩ [] ∧ s' = popR s) ∨ ((hdR s).kind ≠ 2 ∧
    (((hdR s).kind = 1 ∧ ((isR [91] (popR s) = true ∧ ∃ y s1, E (popR (popR s)) = some (y, s1) ∧ x = .mk 4 0 0 ((hdR s).line : Int) (nmB (hdR s).text) [y] ∧ s' = expectR [93] s1) ∨
      (isR [91] (popR s) = false ∧ x = .mk 13 0 0 ((hdR s).line : Int) (nmB (hdR s).text) [] ∧ s' = popR s))) ∨ ((hdR s).kind ≠ 1 ∧
    ((isR [38] s = true ∧ x = .mk 11 0 0 ((hdR s).line : Int) (nmB (kindR 1 (popR s)).1.text) [] ∧ s' = (kindR 1 (popR s)).2) ∨ (isR [38] s = false ∧
    ((isR [114, 101, 97, 100] s = true ∧ x = .mk 12 0 0 ((hdR s).line : Int) ⟨#[]⟩ [] ∧ s' = popR s) ∨ (isR [114, 101, 97, 100] s = false ∧
      ∃ s1, E (expectR [40] s) = some (x, s1) ∧ s' = expectR [41] s1))))))))) := by
  unfold primaryR at h
  cases hb : s.bad with
  | true =>
    simp only [hb, if_true] at h
    injection h with h
    injection h with h1 h2
    exact .inl ⟨rfl, h1.symm, h2.symm⟩
  | false =>
    simp only [hb, Bool.false_eq_true, if_false] at h
    refine .inr ⟨rfl, ?_⟩
    by_cases hk : (hdR s).kind = 2
    · rw [if_pos hk] at h
      injection h with h
      injection h with h1 h2
      exact .inl ⟨hk, h1.symm, h2.symm⟩
    · rw [if_neg hk] at h
      refine .inr ⟨hk, ?_⟩
      by_cases hk1 : (hdR s).kind = 1
      · rw [if_pos hk1] at h
        refine .inl ⟨hk1, ?_⟩
        cases h4 : isR [91] (popR s) with
        | true =>
          simp only [h4, if_true] at h
          cases hq : E (popR (popR s)) with
          | none => rw [hq] at h; cases h
          | some q =>
            obtain ⟨y, s1⟩ := q
            rw [hq] at h
            injection h with h
            injection h with e1 e2
            exact .inl ⟨rfl, y, s1, rfl, e1.symm, e2.symm⟩
        | false =>
          simp only [h4, Bool.false_eq_true, if_false] at h
          injection h with h
          injection h with e1 e2
          exact .inr ⟨rfl, e1.symm, e2.symm⟩
      · rw [if_neg hk1] at h
        refine .inr ⟨hk1, ?_⟩
        cases h1 : isR [38] s with
        | true =>
          simp only [h1, if_true] at h
          injection h with h
          injection h with e1 e2
          exact .inl ⟨rfl, e1.symm, e2.symm⟩
        | false =>
          simp only [h1, if_false, Bool.false_eq_true] at h
          refine .inr ⟨rfl, ?_⟩
          cases h2 : isR [114, 101, 97, 100] s with
          | true =>
            simp only [h2, if_true] at h
            injection h with h
            injection h with e1 e2
            exact .inl ⟨rfl, e1.symm, e2.symm⟩
          | false =>
            simp only [h2, if_false, Bool.false_eq_true] at h
            refine .inr ⟨rfl, ?_⟩
            cases hq : E (expectR [40] s) with
            | none => rw [hq] at h; cases h
            | some q =>
              obtain ⟨y, s1⟩ := q
              rw [hq] at h
              injection h with h
              injection h with e1 e2
              subst e1
              exact ⟨s1, rfl, e2.symm⟩
/-- An element, its operand in a row of its own, stored in the result's block. -/
theorem el_endR {p tb d : Nat} {s s2 : RS} {y : Ex} {l : Int} {nm : ByteArray} {w w4 w5 w7 w9 : World} {k5 o5 a5 l5 : Int} {t5 : ByteArray} {A5 : Option Addr} {n5 c5 : Nat} {t : TypeId} (hv : ExV (fun q => w4.heap.size ≤ q ∧ q < w5.heap.size) w5 d y (.agg #[.int .i64 k5, .int .i64 o5, .int .i64 a5, .int .i64 l5, .string t5, .slice A5 n5 c5])) (h4 : w.heap.size < w4.heap.size) (h45 : w4.heap.size ≤ w5.heap.size) (h57 : w5.grownBy w7 (some p)) (h7 : RA w7 p tb s2) (hg : w.grownBy w7 (some p)) (hl : s2.rest.length ≤ s.rest.length) (hp : p < w.heap.size) (ht : tb < w.heap.size)
    (hg9 : (w7.alloc (.cells #[.int .i64 k5, .int .i64 o5, .int .i64 a5, .int .i64 l5, .string t5, .slice A5 n5 c5] t)).grownBy w9 (some w.heap.size)) :
    XRG p tb (.mk 4 0 0 l nm [y]) s s2 w (.returned (.agg #[.int .i64 4, .int .i64 0, .int .i64 0, .int .i64 l, .string nm, .slice (some ⟨w7.heap.size, 0, none⟩) 1 1])) w9 :=
  un_endR (exV_grown hv (fun q hq => ⟨⟨hq.1, Nat.lt_of_lt_of_le hq.2 h57.size⟩, hq.2, by omega⟩) h57) h4 (Nat.le_trans h45 h57.size) h7 hg hl hp ht hg9
set_option maxRecDepth 100000 in
set_option maxHeartbeats 4000000 in
theorem primary_r (E : R1) (he : SubR 17 E) : SubR 111 (primaryR E) := by
  intro p tb s s' x w h hP
  have HCase := Lib.hid (primaryR_cases hP)
  have HE0 := Lib.hid he
  have HN := Lib.hid (now_r (w.alloc (.cells #[.int .i64 0, .int .i64 0, .int .i64 0, .int .i64 0, .string { data := #[] }, .slice none 0 0] 30)) (h.alloc _))
  obtain ⟨a, c, N, hr⟩ := h
  have plt := hr.plt
  have tlt := hr.tlt
  have hsm := hr.sm
  have hlt := hr.lt
  have HR := Lib.hid hr
  have hb0 := (Below.refl _ w).alloc (Nat.le_refl _) (.cells #[.int .i64 0, .int .i64 0, .int .i64 0, .int .i64 0, .string { data := #[] }, .slice none 0 0] 30)
  have HZ0 := Lib.hid (heap_alloc_new w (.cells #[.int .i64 0, .int .i64 0, .int .i64 0, .int .i64 0, .string { data := #[] }, .slice none 0 0] 30))
  have HB0 := Lib.hid hb0
  clear hr hb0 hP he
  go_enter Tryz.func111, Tryz.ntmps111
  go_wp2_with fail
  refine HN.out.mono ?_
  rintro e w1 ⟨rfl, hb1⟩
  unfold tokVR
  have hsz1 : w.heap.size + 1 ≤ w1.heap.size := by have := hb1.size; simpa using this
  have hbt := (Below.refl _ w1).alloc (Nat.le_refl _) (.cells #[.int .i64 ((hdR s).kind : Int), .int .i64 ((hdR s).line : Int), .int .i64 ((hdR s).value : Int), .string (nmB (hdR s).text)] 67)
  have HBW := Lib.hid ((HB0.out.trans (hb1.mono (by simp))).trans (hbt.mono (by omega)))
  have HZ2 := Lib.hid ((hbt.block w.heap.size (by omega)).trans ((hb1.block _ (by simp)).trans HZ0.out))
  have HT2 := Lib.hid (heap_alloc_new w1 (.cells #[.int .i64 ((hdR s).kind : Int), .int .i64 ((hdR s).line : Int), .int .i64 ((hdR s).value : Int), .string (nmB (hdR s).text)] 67))
  have hsz2 : w1.heap.size < (w1.alloc (.cells #[.int .i64 ((hdR s).kind : Int), .int .i64 ((hdR s).line : Int), .int .i64 ((hdR s).value : Int), .string (nmB (hdR s).text)] 67)).heap.size := by simp
  clear hb1 HN hbt HZ0 HB0
  go_upto_region 2 with fail
  obtain ⟨ub, hub⟩ : ∃ ub, ub = w1.heap.size := ⟨_, rfl⟩
  rw [← hub] at HT2 hsz1 hsz2 ⊢
  generalize w1.alloc (.cells #[.int .i64 ((hdR s).kind : Int), .int .i64 ((hdR s).line : Int), .int .i64 ((hdR s).value : Int), .string (nmB (hdR s).text)] 67) = w2 at *
  clear hub
  have h2 := HR.out.keep (HBW.out.block _ plt) (HBW.out.block _ tlt)
  have c1 := h2.cells.2.1
  have c2 := h2.cells.2.2.1
  have f1 := h2.cells.2.2.2.2 1
  have H2 := Lib.hid h2
  have r0 := cell_of_row _ _ 0 _ _ _ HT2.out
  have r1 := cell_of_row _ _ 1 _ _ _ HT2.out
  have r2 := cell_of_row _ _ 2 _ _ _ HT2.out
  have r3 := cell_of_row _ _ 3 _ _ _ HT2.out
  have HG2 := Lib.hid (grown_of_below HBW.out (some p))
  clear h2 HR HBW
  rcases HCase.out with ⟨hb, rfl, rfl⟩ | ⟨hb, hcase⟩
  · rw [hb] at c2
    clear hb HCase
    go_wp2_with (with_reducible refine rx_pause ?_)
    refine Pause.of (wpList_store_new _ rfl _ _ _ rfl w.heap.size _ rfl (by rfl) _ _ HZ2.out (by kernel_rfl) (by rfl) (by simp [Value.oneCell']) ?_)
    intro w9 hrow9 hg9
    have j0 := cell_of_row _ _ 0 _ _ _ hrow9
    have j1 := cell_of_row _ _ 1 _ _ _ hrow9
    have j2 := cell_of_row _ _ 2 _ _ _ hrow9
    have j3 := cell_of_row _ _ 3 _ _ _ hrow9
    have j4 := cell_of_row _ _ 4 _ _ _ hrow9
    have j5 := cell_of_row _ _ 5 _ _ _ hrow9
    have HH := Lib.hid (leaf_endR 0 0 0 0 ⟨#[]⟩ ⟨_, _, _, H2.out⟩ HG2.out (Nat.le_refl _) plt tlt hg9)
    clear hrow9 hg9 
    go_wp2_with fail
    exact bodyPost_ret (by simp [results, Tryz.results111, go_sem, j0, j1, j2, j3, j4, j5]) rfl HH.out
  · rw [hb] at c2
    clear hb HCase
    rcases hcase with ⟨hk, rfl, rfl⟩ | ⟨hk, hcase⟩
    · have h22 := Lib.hid (kind_two H2.out.wf (by omega : (hdR s).kind ≠ 0))
      have hk2 : (((hdR s).kind : Int) == 2) = true := by simp [hk]
      rw [hk] at r0
      have hq : w2.grownBy (w2.setCell ⟨p, 1, none⟩ (.int .i64 ((a : Int) + 1))) (some p) := set_grown w2 ⟨p, 1, none⟩ (.int .i64 ((a : Int) + 1))
      have ht3 := blk_keep hq (by omega) HT2.out
      have HZ3 := Lib.hid (blk_keep hq (by omega) HZ2.out)
      have q0 := cell_of_row _ _ 0 _ _ _ ht3
      have q1 := cell_of_row _ _ 1 _ _ _ ht3
      have q2 := cell_of_row _ _ 2 _ _ _ ht3
      have q3 := cell_of_row _ _ 3 _ _ _ ht3
      have HP3 := Lib.hid (show RA (w2.setCell ⟨p, 1, none⟩ (.int .i64 ((a : Int) + 1))) p tb (popR s) from ⟨_, _, _, H2.out.popSet h22.out⟩)
      have HG3 := Lib.hid (HG2.out.trans hq)
      clear hq ht3 hk
      go_wp2_with (with_reducible refine rx_pause ?_)
      refine Pause.of (wpList_store_new _ rfl _ _ _ rfl w.heap.size _ rfl (by rfl) _ _ HZ3.out (by kernel_rfl) (by rfl) (by simp [Value.oneCell']) ?_)
      intro w9 hrow9 hg9
      have j0 := cell_of_row _ _ 0 _ _ _ hrow9
      have j1 := cell_of_row _ _ 1 _ _ _ hrow9
      have j2 := cell_of_row _ _ 2 _ _ _ hrow9
      have j3 := cell_of_row _ _ 3 _ _ _ hrow9
      have j4 := cell_of_row _ _ 4 _ _ _ hrow9
      have j5 := cell_of_row _ _ 5 _ _ _ hrow9
      have HH := Lib.hid (leaf_endR (s := s) 1 0 ((hdR s).value : Int) ((hdR s).line : Int) ⟨#[]⟩ HP3.out HG3.out (by rw [popR_len]; omega) plt tlt hg9)
      clear hrow9 hg9 
      go_wp2_with fail
      exact bodyPost_ret (by simp [results, Tryz.results111, go_sem, j0, j1, j2, j3, j4, j5]) rfl HH.out
    · have hk2 : (((hdR s).kind : Int) == 2) = false := by simp; omega
      rcases hcase with ⟨hk1, hcase⟩ | ⟨hk1, hcase⟩
      · have h22 := Lib.hid (kind_two H2.out.wf (by omega : (hdR s).kind ≠ 0))
        rw [hk1] at r0
        have hq : w2.grownBy (w2.setCell ⟨p, 1, none⟩ (.int .i64 ((a : Int) + 1))) (some p) := set_grown w2 ⟨p, 1, none⟩ (.int .i64 ((a : Int) + 1))
        have HT3 := Lib.hid (blk_keep hq (by omega) HT2.out)
        have HZ3 := Lib.hid (blk_keep hq (by omega) HZ2.out)
        have hp3 : RA (w2.setCell ⟨p, 1, none⟩ (.int .i64 ((a : Int) + 1))) p tb (popR s) := ⟨_, _, _, H2.out.popSet h22.out⟩
        have HA := Lib.hid (accept_r [91] _ hp3)
        have HG3 := Lib.hid (HG2.out.trans hq)
        have hsz3 := hq.size
        clear hq hk1 hp3 hk hk2
        go_wp2_with fail
        refine HA.out.mono ?_
        rintro e w4 ⟨rfl, hp4, hg4⟩
        have ht4 := blk_keep hg4 (by omega) HT3.out
        have HZ4 := Lib.hid (blk_keep hg4 (by omega) HZ3.out)
        have HG4 := Lib.hid (HG3.out.trans hg4)
        have hsz4 := hg4.size
        clear HA hg4 HT3 HZ3 HG3 c1 c2 f1 r0 r1 r2 r3
        rcases hcase with ⟨hv, y, s1, hq, rfl, rfl⟩ | ⟨hv, rfl, rfl⟩
        · rw [accR_yes hv] at hp4
          have HX := Lib.hid (HE0.out p tb (popR (popR s)) s1 y w4 hp4 hq)
          have HT4 := Lib.hid ht4
          clear hp4 hq ht4
          go_wp2_with fail
          refine HX.out.mono ?_
          rintro e w5 ⟨d5, k5, o5, a5, l5, t5, A5, n5, c5, rfl, hv5, hp5, hg5, hl5⟩
          have hba := (Below.refl _ w5).alloc (Nat.le_refl _) (.cells #[.int .i64 k5, .int .i64 o5, .int .i64 a5, .int .i64 l5, .string t5, .slice A5 n5 c5] 30)
          have HX5 := Lib.hid (expect_r [93] (w5.alloc (.cells #[.int .i64 k5, .int .i64 o5, .int .i64 a5, .int .i64 l5, .string t5, .slice A5 n5 c5] 30)) (hp5.below hba))
          have HB5 := Lib.hid (heap_alloc_new w5 (.cells #[.int .i64 k5, .int .i64 o5, .int .i64 a5, .int .i64 l5, .string t5, .slice A5 n5 c5] 30))
          have HBA := Lib.hid hba
          have HV5 := Lib.hid hv5
          have hsz5 := hg5.size
          have HT5 := Lib.hid ((hba.block ub (by omega)).trans (blk_keep hg5 (by omega) HT4.out))
          have HZ5 := Lib.hid ((hba.block w.heap.size (by omega)).trans (blk_keep hg5 (by omega) HZ4.out))
          have HG5 := Lib.hid ((HG4.out.trans hg5).trans (grown_of_below hba _))
          have HLn := Lib.hid hl5
          clear hba hv5 hp5 hg5 hl5 HX HG4 HZ4 HT4
          go_wp2_with fail
          refine HX5.out.mono ?_
          rintro e w6 ⟨⟨v6, rfl⟩, hp6, hg6⟩
          have ht6 := blk_keep hg6 (by omega) HT5.out
          have hx6 := blk_keep hg6 (by omega) HB5.out
          have HZ6 := Lib.hid (blk_keep hg6 (by omega) HZ5.out)
          have r0 := cell_of_row _ _ 0 _ _ _ ht6
          have r1 := cell_of_row _ _ 1 _ _ _ ht6
          have r2 := cell_of_row _ _ 2 _ _ _ ht6
          have r3 := cell_of_row _ _ 3 _ _ _ ht6
          have q0 := cell_of_row _ _ 0 _ _ _ hx6
          have q1 := cell_of_row _ _ 1 _ _ _ hx6
          have q2 := cell_of_row _ _ 2 _ _ _ hx6
          have q3 := cell_of_row _ _ 3 _ _ _ hx6
          have q4 := cell_of_row _ _ 4 _ _ _ hx6
          have q5 := cell_of_row _ _ 5 _ _ _ hx6
          have HP6 := Lib.hid hp6
          have HG6 := Lib.hid (HG5.out.trans hg6)
          have H56 := Lib.hid ((grown_of_below HBA.out (some p)).trans hg6)
          have hsz6 : w5.heap.size + 1 ≤ w6.heap.size := by have := hg6.size; simpa using this
          clear hp6 hg6 ht6 hx6 HX5 HG5 HZ5 HT5
          go_wp2_with (with_reducible refine rx_pause ?_)
          refine Pause.of (wpList_store_new _ rfl _ _ _ rfl w.heap.size _ rfl (by rfl) _ _ ((((Below.refl _ w6).alloc (Nat.le_refl _) _).block _ (by omega)).trans HZ6.out) (by kernel_rfl) (by rfl) (by simp [Value.oneCell']) ?_)
          intro w9 hrow9 hg9
          have j0 := cell_of_row _ _ 0 _ _ _ hrow9
          have j1 := cell_of_row _ _ 1 _ _ _ hrow9
          have j2 := cell_of_row _ _ 2 _ _ _ hrow9
          have j3 := cell_of_row _ _ 3 _ _ _ hrow9
          have j4 := cell_of_row _ _ 4 _ _ _ hrow9
          have j5 := cell_of_row _ _ 5 _ _ _ hrow9
          have HH := Lib.hid (el_endR (s := s) (l := ((hdR s).line : Int)) (nm := nmB (hdR s).text) (t := 30) HV5.out (by omega) hsz5 H56.out HP6.out HG6.out (by have := HLn.out; have h1 := expectR_len [93] s1; rw [popR_len, popR_len] at this; omega) plt tlt hg9)
          clear hrow9 hg9 q0 q1 q2 q3 q4 q5 r0 r1 r2 r3
          go_wp2_with fail
          exact bodyPost_ret (by simp [results, Tryz.results111, go_sem, j0, j1, j2, j3, j4, j5]) rfl HH.out
        · rw [accR_no hv] at hp4
          have HP4 := Lib.hid hp4
          have r0 := cell_of_row _ _ 0 _ _ _ ht4
          have r1 := cell_of_row _ _ 1 _ _ _ ht4
          have r2 := cell_of_row _ _ 2 _ _ _ ht4
          have r3 := cell_of_row _ _ 3 _ _ _ ht4
          clear hp4 ht4
          go_wp2_with (with_reducible refine rx_pause ?_)
          refine Pause.of (wpList_store_new _ rfl _ _ _ rfl w.heap.size _ rfl (by rfl) _ _ HZ4.out (by kernel_rfl) (by rfl) (by simp [Value.oneCell']) ?_)
          intro w9 hrow9 hg9
          have j0 := cell_of_row _ _ 0 _ _ _ hrow9
          have j1 := cell_of_row _ _ 1 _ _ _ hrow9
          have j2 := cell_of_row _ _ 2 _ _ _ hrow9
          have j3 := cell_of_row _ _ 3 _ _ _ hrow9
          have j4 := cell_of_row _ _ 4 _ _ _ hrow9
          have j5 := cell_of_row _ _ 5 _ _ _ hrow9
          have HH := Lib.hid (leaf_endR (s := s) 13 0 0 ((hdR s).line : Int) (nmB (hdR s).text) HP4.out HG4.out (by rw [popR_len]; omega) plt tlt hg9)
          clear hrow9 hg9 
          go_wp2_with fail
          exact bodyPost_ret (by simp [results, Tryz.results111, go_sem, j0, j1, j2, j3, j4, j5]) rfl HH.out
      · have hk1' : (((hdR s).kind : Int) == 1) = false := by simp; omega
        have HA := Lib.hid (accept_r [38] w2 ⟨_, _, _, H2.out⟩)
        clear hk1 hk
        go_wp2_with fail
        refine HA.out.mono ?_
        rintro e w3 ⟨rfl, hp3, hg3⟩
        have ht3 := blk_keep hg3 (by omega) HT2.out
        have hz3 := blk_keep hg3 (by omega) HZ2.out
        have HG3 := Lib.hid (HG2.out.trans hg3)
        have hsz3 := hg3.size
        clear HA hg3 HZ2 c1 c2 f1 r0 r1 r2 r3
        rcases hcase with ⟨hv, rfl, rfl⟩ | ⟨hv, hcase⟩
        · rw [accR_yes hv] at hp3
          have h22 := Lib.hid (isR_two H2.out.wf hv)
          have HT3 := Lib.hid ht3
          have HZ3 := Lib.hid hz3
          have r0 := cell_of_row _ _ 0 _ _ _ ht3
          have r1 := cell_of_row _ _ 1 _ _ _ ht3
          have r2 := cell_of_row _ _ 2 _ _ _ ht3
          have r3 := cell_of_row _ _ 3 _ _ _ ht3
          have hk0 := kind_r 1 w3.drew hp3.drew (by omega)
          have HK := Lib.hid (show Calls Tryz.prog 120 #[.pointer (some ⟨p, 0, none⟩), .int .i64 1] w3.drew (fun e w' => e = .returned (.agg #[.int .i64 ((kindR 1 (popR s)).1.kind : Int), .int .i64 ((kindR 1 (popR s)).1.line : Int), .int .i64 ((kindR 1 (popR s)).1.value : Int), .string (nmB (kindR 1 (popR s)).1.text)]) ∧ RA w' p tb (kindR 1 (popR s)).2 ∧ w3.drew.grownBy w' (some p)) from hk0)
          have hfd : ∀ w : World, (Instr.field 67 (.agg #[.int .i64 ((kindR 1 (popR s)).1.kind : Int), .int .i64 ((kindR 1 (popR s)).1.line : Int), .int .i64 ((kindR 1 (popR s)).1.value : Int), .string (nmB (kindR 1 (popR s)).1.text)]) 3).run Tryz.prog w = .ok (.string (nmB (kindR 1 (popR s)).1.text)) w := fun _ => by kernel_rfl
          clear hk0
          clear hp3 ht3 hz3 HE0 HT2 H2 HG2
          go_upto_region 15 with fail
          go_region_with
            (go_at_call 120; (with_reducible refine HK.out.mono ?_); rintro e w5 ⟨rfl, hp5, hg5⟩; have hg5' := (grown_drew0 hg5); have ht5 := (blk_keep hg5' (by omega) HT3.out); have hz5 := (blk_keep hg5' (by omega) HZ3.out); have b1 := (cell_of_row _ _ 1 _ _ _ ht5); have b3 := (cell_of_row _ _ 3 _ _ _ ht5); have g0 := (rp_fz hz5 0); have g1 := (rp_fz hz5 1); have g2 := (rp_fz hz5 2); have g3 := (rp_fz hz5 3); have g4 := (rp_fz hz5 4); have g5 := (rp_fz hz5 5); have q0 := (cell_of_row _ _ 0 _ _ _ hz5); have q1 := (cell_of_row _ _ 1 _ _ _ hz5); have q2 := (cell_of_row _ _ 2 _ _ _ hz5); have q3 := (cell_of_row _ _ 3 _ _ _ hz5); have q4 := (cell_of_row _ _ 4 _ _ _ hz5); have q5 := (cell_of_row _ _ 5 _ _ _ hz5); have RX6 := Lib.hid hz5; have HP5 := Lib.hid hp5; have HG5 := Lib.hid (HG3.out.trans hg5'); clear ht5 hz5 hp5 hg5 hg5')
          all_goals
            have h6 := row_set6 (.int .i64 11) (.int .i64 0) (.int .i64 0) (.int .i64 ((hdR s).line : Int)) (.string (nmB (kindR 1 (popR s)).1.text)) (.slice none 0 0) RX6.out
            have hE := leaf_endR (s := s) 11 0 0 ((hdR s).line : Int) (nmB (kindR 1 (popR s)).1.text) HP5.out HG5.out (by have := kindR_len 1 (popR s); rw [popR_len] at this; omega) plt tlt h6.2
            have HE := Lib.hid hE
            have j0 := cell_of_row _ _ 0 _ _ _ h6.1
            have j1 := cell_of_row _ _ 1 _ _ _ h6.1
            have j2 := cell_of_row _ _ 2 _ _ _ h6.1
            have j3 := cell_of_row _ _ 3 _ _ _ h6.1
            have j4 := cell_of_row _ _ 4 _ _ _ h6.1
            have j5 := cell_of_row _ _ 5 _ _ _ h6.1
            clear h6 hE
            clear q0 q1 q2 q3 q4 q5 g0 g1 g2 g3 g4 g5
            go_wp2_with fail
            exact bodyPost_ret (by simp [results, Tryz.results111, go_sem, j0, j1, j2, j3, j4, j5]) rfl HE.out
        · rw [accR_no hv] at hp3
          have HA3 := Lib.hid (accept_r [114, 101, 97, 100] w3 hp3)
          have HT3 := Lib.hid ht3
          have HZ3 := Lib.hid hz3
          clear hp3 ht3 hz3
          go_wp2_with fail
          refine HA3.out.mono ?_
          rintro e w4 ⟨rfl, hp4, hg4⟩
          have ht4 := blk_keep hg4 (by omega) HT3.out
          have hz4 := blk_keep hg4 (by omega) HZ3.out
          have HG4 := Lib.hid (HG3.out.trans hg4)
          have hsz4 := hg4.size
          clear HA3 hg4 HZ3 HT3 HG3
          rcases hcase with ⟨hv, rfl, rfl⟩ | ⟨hv, s1, hq, rfl⟩
          · rw [accR_yes hv] at hp4
            have HP4 := Lib.hid hp4
            have HZ4 := Lib.hid hz4
            have r0 := cell_of_row _ _ 0 _ _ _ ht4
            have r1 := cell_of_row _ _ 1 _ _ _ ht4
            have r2 := cell_of_row _ _ 2 _ _ _ ht4
            have r3 := cell_of_row _ _ 3 _ _ _ ht4
            clear hp4 ht4 hz4
            go_wp2_with (with_reducible refine rx_pause ?_)
            refine Pause.of (wpList_store_new _ rfl _ _ _ rfl w.heap.size _ rfl (by rfl) _ _ HZ4.out (by kernel_rfl) (by rfl) (by simp [Value.oneCell']) ?_)
            intro w9 hrow9 hg9
            have j0 := cell_of_row _ _ 0 _ _ _ hrow9
            have j1 := cell_of_row _ _ 1 _ _ _ hrow9
            have j2 := cell_of_row _ _ 2 _ _ _ hrow9
            have j3 := cell_of_row _ _ 3 _ _ _ hrow9
            have j4 := cell_of_row _ _ 4 _ _ _ hrow9
            have j5 := cell_of_row _ _ 5 _ _ _ hrow9
            have HH := Lib.hid (leaf_endR (s := s) 12 0 0 ((hdR s).line : Int) ⟨#[]⟩ HP4.out HG4.out (by rw [popR_len]; omega) plt tlt hg9)
            clear hrow9 hg9 
            go_wp2_with fail
            exact bodyPost_ret (by simp [results, Tryz.results111, go_sem, j0, j1, j2, j3, j4, j5]) rfl HH.out
          · rw [accR_no hv] at hp4
            have HX4 := Lib.hid (expect_r [40] w4 hp4)
            have HZ4 := Lib.hid hz4
            have HQ := Lib.hid hq
            clear hp4 ht4 hz4 hq
            go_wp2_with fail
            refine HX4.out.mono ?_
            rintro e w5 ⟨⟨v5, rfl⟩, hp5, hg5⟩
            have HX := Lib.hid (HE0.out p tb (expectR [40] s) s1 x w5 hp5 HQ.out)
            have HG5 := Lib.hid (HG4.out.trans hg5)
            have HZ5 := Lib.hid (blk_keep hg5 (by omega) HZ4.out)
            have hsz5 := hg5.size
            clear HX4 hp5 hg5 HZ4 HG4 HQ
            go_wp2_with fail
            refine HX.out.mono ?_
            rintro e w6 ⟨d5, k5, o5, a5, l5, t5, A5, n5, c5, rfl, hv5, hp6, hg6, hl5⟩
            have hba := (Below.refl _ w6).alloc (Nat.le_refl _) (.cells #[.int .i64 k5, .int .i64 o5, .int .i64 a5, .int .i64 l5, .string t5, .slice A5 n5 c5] 30)
            have HX6 := Lib.hid (expect_r [41] (w6.alloc (.cells #[.int .i64 k5, .int .i64 o5, .int .i64 a5, .int .i64 l5, .string t5, .slice A5 n5 c5] 30)) (hp6.below hba))
            have HB6 := Lib.hid (heap_alloc_new w6 (.cells #[.int .i64 k5, .int .i64 o5, .int .i64 a5, .int .i64 l5, .string t5, .slice A5 n5 c5] 30))
            have HBA := Lib.hid hba
            have HV5 := Lib.hid hv5
            have hsz6 := hg6.size
            have HZ6 := Lib.hid ((hba.block w.heap.size (by omega)).trans (blk_keep hg6 (by omega) HZ5.out))
            have HG6 := Lib.hid ((HG5.out.trans hg6).trans (grown_of_below hba _))
            have HLn := Lib.hid hl5
            clear hba hv5 hp6 hg6 hl5 HX HG5 HZ5
            go_wp2_with fail
            refine HX6.out.mono ?_
            rintro e w7 ⟨⟨v7, rfl⟩, hp7, hg7⟩
            have hx7 := blk_keep hg7 (by omega) HB6.out
            have HZ7 := Lib.hid (blk_keep hg7 (by omega) HZ6.out)
            have q0 := cell_of_row _ _ 0 _ _ _ hx7
            have q1 := cell_of_row _ _ 1 _ _ _ hx7
            have q2 := cell_of_row _ _ 2 _ _ _ hx7
            have q3 := cell_of_row _ _ 3 _ _ _ hx7
            have q4 := cell_of_row _ _ 4 _ _ _ hx7
            have q5 := cell_of_row _ _ 5 _ _ _ hx7
            have HP7 := Lib.hid hp7
            have HG7 := Lib.hid (HG6.out.trans hg7)
            have H67 := Lib.hid ((grown_of_below HBA.out (some p)).trans hg7)
            clear hp7 hg7 hx7 HX6 HG6 HZ6
            go_wp2_with (with_reducible refine rx_pause ?_)
            refine Pause.of (wpList_store_new _ rfl _ _ _ rfl w.heap.size _ rfl (by rfl) _ _ HZ7.out (by kernel_rfl) (by rfl) (by simp [Value.oneCell']) ?_)
            intro w9 hrow9 hg9
            have j0 := cell_of_row _ _ 0 _ _ _ hrow9
            have j1 := cell_of_row _ _ 1 _ _ _ hrow9
            have j2 := cell_of_row _ _ 2 _ _ _ hrow9
            have j3 := cell_of_row _ _ 3 _ _ _ hrow9
            have j4 := cell_of_row _ _ 4 _ _ _ hrow9
            have j5 := cell_of_row _ _ 5 _ _ _ hrow9
            have HH := Lib.hid (lev_end (xb := w.heap.size) (s := s) ((exV_grown HV5.out (fun q hq => ⟨⟨by omega, Nat.lt_of_lt_of_le hq.2 H67.out.size, by omega⟩, hq.2, by omega⟩) H67.out)) HP7.out HG7.out (by have := HLn.out; have h1 := expectR_len [41] s1; have h2 := expectR_len [40] s; omega) plt tlt hg9)
            clear hrow9 hg9 q0 q1 q2 q3 q4 q5
            go_wp2_with fail
            exact bodyPost_ret (by simp [results, Tryz.results111, go_sem, j0, j1, j2, j3, j4, j5]) rfl HH.out
end Go.Proofs.YtmpnkbhlagalkaaGreatDoor
