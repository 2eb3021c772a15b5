/-
  The walks of the reference's Uint and Int. Condition: the slices are not longer than the form's reach.
-/
import Derived.Test.YthgfbfocccekfaaDoorRefPut
namespace Go.Proofs.YthgfbfocccekfaaDoor
open Go.RowKit

theorem mod128_small {x : Nat} (h : x < 128) : x % 128 = x := Nat.mod_eq_of_lt h
theorem dec_form9 {l : List Nat} {nn x : Nat} (hl : 9 < l.length) (hdec : decF (10 - 9) 9 nn (l.drop 9) = dec l) (hx : l[9] = x) (hg : 1 < x % 128) : dec l = (0, 0, 3) := by
  rw [decF_at (by decide) (List.drop_eq_getElem_cons hl), hx] at hdec
  rw [← hdec]
  split
  · rfl
  · rw [if_pos (by omega)]
set_option maxRecDepth 10000 in
set_option maxHeartbeats 1000000 in
theorem refUint_any (A : Option Addr) (l : List Nat) (m c : Nat) (n k e : Nat) (w : World) (hm : l.length = m) (hr : Rd w A (l.map bv)) (hl : ∀ x ∈ l, x < 256) (hreach : m ≤ 140737488351232) (hd : dec l = (n, k, e)) :
    Calls Tryd.prog 16 #[.slice A m c] w fun f w' => f = .returned (.tuple #[.int .u64 (n : Int), .int .i64 (k : Int), .int .i64 (e : Int)]) ∧ w = w' := by
  subst hm
  have Hd := Lib.hid hd; clear hd
  go_enter Tryd.func16, Tryd.ntmps16
  go_wp2_with fail
  go_loop [5, 6] (fun u i => UiRel l u i) (fun _ i => 10 - (intOf i).toNat)
  case atStart => exact ⟨0, 0, by omega, by omega, rfl, rfl, fun _ => ⟨0, rfl, by simp, by simp [dec]⟩, fun h => by omega⟩
  case round =>
    obtain ⟨k, q, hk, hk', rfl, rfl, h9, hten⟩ := hrel
    have H9 := Lib.hid h9; clear h9
    have Hten := Lib.hid hten; clear hten
    by_cases hlt : k < 10
    · obtain ⟨nn, rfl, hnn, hdec⟩ := H9.out (by omega)
      have Hnn := Lib.hid hnn; clear hnn
      have Hdec := Lib.hid hdec; clear hdec
      by_cases hltl : k < l.length
      · have heq : ((k : Int) == (l.length : Int)) = false := by rw [beq_eq_false_iff_ne]; omega
        obtain ⟨ad, rfl, hc⟩ := hr.at_ (k := k) (by simp; omega)
        simp only [List.getElem_map] at hc
        have hx : l[k] < 256 := hl _ (List.getElem_mem _)
        generalize hxe : l[k] = x at *
        have Hxe := Lib.hid hxe; clear hxe
        unfold bv at hc
        have Hr := Lib.hid hr; clear hr
        have Hl := Lib.hid hl; clear hl
        by_cases hbig : k = 9 ∧ 1 < x % 128
        · obtain ⟨hk9, hg⟩ := hbig
          have hgd : decide ((1 : Int) < (x : Int) % 128) = true := by simp; omega
          have h99 : ((k : Int) == 9) = true := by rw [beq_iff_eq]; omega
          have Hk9 := Lib.hid hk9; clear hk9
          go_wp2_with fail
          go_ret3
          obtain rfl := Hk9.out
          exact ⟨uint_returned Hd.out (dec_form9 hltl Hdec.out Hxe.out hg) rfl rfl rfl, rfl⟩
        · have hsplit : (((k : Int) == 9) = true ∧ decide ((1 : Int) < (x : Int) % 128) = false) ∨ ((k : Int) == 9) = false := by
            by_cases h9 : k = 9
            · exact Or.inl ⟨by rw [beq_iff_eq]; omega, by simp; omega⟩
            · exact Or.inr (by rw [beq_eq_false_iff_ne]; omega)
          have Hbig := Lib.hid hbig; clear hbig
          rcases hsplit with ⟨h99, hgd⟩ | h99
          all_goals
            by_cases h128 : x < 128
            · by_cases hx0 : x = 0
              · have hx00 : ((x : Int) == 0) = true := by rw [beq_iff_eq]; omega
                have Hx0 := Lib.hid hx0; clear hx0
                by_cases hk0 : k = 0
                · have hkp : (0 < k) = False := eq_false (by omega)
                  have hkp2 : ((0 : Int) < (k : Int)) = False := eq_false (by omega)
                  have Hno : Hid (¬ ((0 < k ∧ x = 0) ∨ (k = 9 ∧ x ≠ 1))) := Lib.hid (by omega)
                  clear hk0
                  go_wp2_with fail
                  go_ret3
                  exact ⟨uint_returned Hd.out ((dec_last hlt hltl Hdec.out Hxe.out h128).trans (if_neg Hno.out)) (orShiftLast nn k x Hnn.out (by omega) h128 (fits_last hlt h128 Hno.out)) rfl rfl, rfl⟩
                · have hkp : (0 < k) = True := eq_true (by omega)
                  have hkp2 : ((0 : Int) < (k : Int)) = True := eq_true (by omega)
                  have Hk0 := Lib.hid hk0; clear hk0
                  go_wp2_with fail
                  go_ret3
                  exact ⟨uint_returned Hd.out ((dec_last hlt hltl Hdec.out Hxe.out h128).trans (if_pos (Or.inl ⟨Nat.pos_of_ne_zero Hk0.out, Hx0.out⟩))) rfl rfl rfl, rfl⟩
              · have hx00 : ((x : Int) == 0) = false := by rw [beq_eq_false_iff_ne]; omega
                have hno : ¬ ((0 < k ∧ x = 0) ∨ (k = 9 ∧ x ≠ 1)) := by have := Hbig.out; omega
                have Hno := Lib.hid hno; clear hno
                go_wp2_with fail
                go_ret3
                exact ⟨uint_returned Hd.out ((dec_last hlt hltl Hdec.out Hxe.out h128).trans (if_neg Hno.out)) (orShiftLast nn k x Hnn.out (by omega) h128 (fits_last hlt h128 Hno.out)) rfl rfl, rfl⟩
            · go_wp2_with fail
              exact ⟨uiRel_step hlt hltl Hnn.out Hdec.out Hxe.out (by omega) (fun h9 => orShift nn k (x % 128) Hnn.out (by omega) (fits_step h9)), by simp [intOf]; omega⟩
      · obtain rfl : k = l.length := by omega
        go_wp2_with fail
        go_ret3
        have hdec := Hdec.out
        rw [List.drop_length, decF_end (by omega)] at hdec
        exact ⟨uint_returned Hd.out hdec.symm rfl rfl rfl, rfl⟩
    · obtain rfl : k = 10 := by omega
      have Hten10 := Lib.hid (Hten.out rfl); clear Hten
      go_wp2_with fail
      go_ret3
      exact ⟨uint_returned Hd.out (Hten10.out) rfl rfl rfl, rfl⟩

theorem decF_err {f i n : Nat} {l : List Nat} (h : (decF f i n l).2.2 ≠ 0) : decF f i n l = (0, 0, (decF f i n l).2.2) := by
  induction f generalizing i n l with
  | zero => rfl
  | succ f ih =>
    cases l with
    | nil => rfl
    | cons x r =>
      rw [decF] at h ⊢
      split at h
      · rename_i hx
        rw [if_pos hx]
        exact ih h
      · rename_i hx
        rw [if_neg hx]
        split at h
        · rename_i h2
          rw [if_pos h2]
        · exact absurd rfl h
theorem dec_err {l : List Nat} (h : (dec l).2.2 ≠ 0) : dec l = (0, 0, (dec l).2.2) := decF_err h
theorem zagEven (n : Nat) (h : n < 18446744073709551616) (h2 : n % 2 = 0) : wrap64 (IntKind.u64.wrap ((n : Int) / 2)) = zag n := by
  rw [IntKind.wrap_u64]
  unfold wrap64 zag
  rw [if_pos h2]
  omega
theorem zagOdd (n : Nat) (h : n < 18446744073709551616) (h2 : n % 2 = 1) : wrap64 (wrap64 (-wrap64 (IntKind.u64.wrap ((n : Int) / 2))) - 1) = zag n := by
  rw [IntKind.wrap_u64]
  unfold wrap64 zag
  rw [if_neg (by omega)]
  omega
set_option maxRecDepth 10000 in
theorem refInt_any (A : Option Addr) (l : List Nat) (m c : Nat) (n k e : Nat) (z : Int) (w : World) (hm : l.length = m) (hr : Rd w A (l.map bv)) (hl : ∀ x ∈ l, x < 256) (hreach : m ≤ 140737488351232) (hd : dec l = (n, k, e)) (hz : zag n = z) :
    Calls Tryd.prog 18 #[.slice A m c] w fun f w' => f = .returned (.tuple #[.int .i64 z, .int .i64 (k : Int), .int .i64 (e : Int)]) ∧ w = w' := by
  have C := Lib.hid (refUint_any A l m c n k e w hm hr hl hreach hd)
  have hb := (dec_fits l).1
  have herr := dec_err (l := l)
  rw [hd] at hb herr
  have Hb := Lib.hid hb
  have Hz := Lib.hid hz
  clear hd hl hr hb hz hm
  by_cases he : e = 0
  · subst he
    clear herr
    rcases Nat.mod_two_eq_zero_or_one n with h2 | h2
    · have ht : ((n : Int) % 2 == 0) = true := by rw [beq_iff_eq]; omega
      have H2 := Lib.hid h2; clear h2
      go_enter Tryd.func18, Tryd.ntmps18
      go_wp2_with fail
      refine C.out.mono ?_
      rintro f w1 ⟨rfl, rfl⟩
      go_wp2_with fail
      go_ret3
      exact ⟨congrArg (fun q => Ending.returned (.tuple #[.int .i64 q, .int .i64 (k : Int), .int .i64 0])) ((zagEven n Hb.out H2.out).trans Hz.out), rfl⟩
    · have ht : ((n : Int) % 2 == 0) = false := by rw [beq_eq_false_iff_ne]; omega
      have H2 := Lib.hid h2; clear h2
      go_enter Tryd.func18, Tryd.ntmps18
      go_wp2_with fail
      refine C.out.mono ?_
      rintro f w1 ⟨rfl, rfl⟩
      go_wp2_with fail
      go_ret3
      exact ⟨congrArg (fun q => Ending.returned (.tuple #[.int .i64 q, .int .i64 (k : Int), .int .i64 0])) ((zagOdd n Hb.out H2.out).trans Hz.out), rfl⟩
  · have ht : ((e : Int) != 0) = true := by rw [bne_iff_ne]; omega
    have h0 := herr he
    simp only [Prod.mk.injEq] at h0
    obtain ⟨rfl, rfl, _⟩ := h0
    have hz0 := Hz.out
    obtain rfl : z = 0 := by rw [← hz0]; rfl
    clear herr
    go_enter Tryd.func18, Tryd.ntmps18
    go_wp2_with fail
    refine C.out.mono ?_
    rintro f w1 ⟨rfl, rfl⟩
    go_wp2_with fail
    go_ret3
    exact ⟨rfl, rfl⟩
end Go.Proofs.YthgfbfocccekfaaDoor
