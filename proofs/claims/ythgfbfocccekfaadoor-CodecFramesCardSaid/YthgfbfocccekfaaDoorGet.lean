/-
  The walks of codec.canEnd, codec.Uint and codec.Int: what any bytes mean as a number. Condition: the slice takes no more memory than the form's reach.
-/
import Derived.Test.YthgfbfocccekfaaDoorPut
import Derived.Test.YthgfbfocccekfaaDoorCrc
namespace Go.Proofs.YthgfbfocccekfaaDoor
open Go.RowKit

theorem canEnd_yes (i x : Nat) (w : World) (hi : i ≤ 9) (hx : x < 256) (h : ¬ ((0 < i ∧ x = 0) ∨ (i = 9 ∧ x ≠ 1))) :
    Calls Tryd.prog 27 #[.int .i64 (i : Int), .int .u8 (x : Int)] w fun e w' => e = .returned (.bool true) ∧ w = w' := by
  by_cases h0 : i = 0
  · subst h0
    clear h
    go_enter Tryd.func27, Tryd.ntmps27
    go_wp2
    go_ret
    exact ⟨rfl, rfl⟩
  · have hx0 : ((x : Int) != 0) = true := by rw [bne_iff_ne]; omega
    have hi0 : ((i : Int) == 0) = false := by rw [beq_eq_false_iff_ne]; omega
    by_cases h9 : i < 9
    · have hd : decide ((i : Int) < 9) = true := by simp; omega
      clear h
      go_enter Tryd.func27, Tryd.ntmps27
      go_wp2
      go_ret
      exact ⟨rfl, rfl⟩
    · obtain rfl : x = 1 := by omega
      have hd : decide ((i : Int) < 9) = false := by simp; omega
      clear h
      go_enter Tryd.func27, Tryd.ntmps27
      go_wp2
      go_ret
      exact ⟨rfl, rfl⟩
theorem canEnd_no (i x : Nat) (w : World) (hi : i ≤ 9) (hx : x < 256) (h : (0 < i ∧ x = 0) ∨ (i = 9 ∧ x ≠ 1)) :
    Calls Tryd.prog 27 #[.int .i64 (i : Int), .int .u8 (x : Int)] w fun e w' => e = .returned (.bool false) ∧ w = w' := by
  have hi0 : ((i : Int) == 0) = false := by rw [beq_eq_false_iff_ne]; omega
  by_cases h0 : x = 0
  · subst h0
    clear h
    go_enter Tryd.func27, Tryd.ntmps27
    go_wp2
    go_ret
    exact ⟨rfl, rfl⟩
  · have hx0 : ((x : Int) != 0) = true := by rw [bne_iff_ne]; omega
    have hx1 : ((x : Int) == 1) = false := by rw [beq_eq_false_iff_ne]; omega
    have hd : decide ((i : Int) < 9) = false := by simp; omega
    clear h
    go_enter Tryd.func27, Tryd.ntmps27
    go_wp2
    go_ret
    exact ⟨rfl, rfl⟩

/-- The loop's relation: what the bytes so far say, and that the rest is still to be read. -/
def UiRel (l : List Nat) (u i : Value) : Prop :=
  ∃ (k : Nat) (q : Int), k ≤ 10 ∧ k ≤ l.length ∧ i = .int .i64 (k : Int) ∧ u = .int .u64 q ∧ (k ≤ 9 → ∃ nn : Nat, q = nn ∧ nn < 128 ^ k ∧ decF (10 - k) k nn (l.drop k) = dec l) ∧ (k = 10 → dec l = (0, 0, 3))
theorem andNot128 (x : Nat) (hx : x < 256) : bits .andNot .u8 (x : Int) 128 = ((x % 128 : Nat) : Int) := by
  refine (u8_andNot_nat x 128 hx (by omega)).trans ?_
  have : x &&& (255 - 128) = x % 128 := nat_mask7 x
  rw [this]
theorem uiRel_step {l : List Nat} {k nn x : Nat} {q : Int} (hk : k < 10) (hl : k < l.length) (hnn : nn < 128 ^ k) (hdec : decF (10 - k) k nn (l.drop k) = dec l) (hx : l[k] = x) (h1 : 128 ≤ x)
    (hq : k < 9 → q = ((nn + x % 128 * 128 ^ k : Nat) : Int)) : UiRel l (.int .u64 q) (.int .i64 ((k : Int) + 1)) := by
  rw [decF_at hk (List.drop_eq_getElem_cons hl), hx, if_pos h1] at hdec
  refine ⟨k + 1, q, by omega, by omega, by simp, rfl, fun h9 => ⟨_, hq (by omega), ?_, hdec⟩, fun h10 => ?_⟩
  · rw [Nat.pow_succ]
    have : x % 128 * 128 ^ k ≤ 127 * 128 ^ k := Nat.mul_le_mul_right _ (by omega)
    omega
  · obtain rfl : k = 9 := by omega
    rw [← hdec]
    rfl
theorem dec_last {l : List Nat} {k nn x : Nat} (hk : k < 10) (hl : k < l.length) (hdec : decF (10 - k) k nn (l.drop k) = dec l) (hx : l[k] = x) (h1 : x < 128) :
    dec l = if (0 < k ∧ x = 0) ∨ (k = 9 ∧ x ≠ 1) then (0, 0, 3) else (nn + x * 128 ^ k, k + 1, 0) := by
  rw [decF_at hk (List.drop_eq_getElem_cons hl), hx, if_neg (by omega)] at hdec
  exact hdec.symm
theorem fits_last {k x : Nat} (hk : k < 10) (h1 : x < 128) (h : ¬ ((0 < k ∧ x = 0) ∨ (k = 9 ∧ x ≠ 1))) : x * 128 ^ k < 18446744073709551616 := by
  by_cases h9 : k = 9
  · subst h9
    obtain rfl : x = 1 := by omega
    decide
  · have h8 : (128 : Nat) ^ k ≤ 128 ^ 8 := Nat.pow_le_pow_right (by decide) (by omega)
    have e8 : (128 : Nat) ^ 8 = 72057594037927936 := by decide
    have : x * 128 ^ k ≤ 127 * 128 ^ k := Nat.mul_le_mul_right _ (by omega)
    omega
theorem fits_step {k x : Nat} (hk : k < 9) : x % 128 * 128 ^ k < 18446744073709551616 := by
  have h8 : (128 : Nat) ^ k ≤ 128 ^ 8 := Nat.pow_le_pow_right (by decide) (by omega)
  have e8 : (128 : Nat) ^ 8 = 72057594037927936 := by decide
  have : x % 128 * 128 ^ k ≤ 127 * 128 ^ k := Nat.mul_le_mul_right _ (by omega)
  omega
theorem orShiftLast (nn k x : Nat) (hnn : nn < 128 ^ k) (hk : k ≤ 9) (hx : x < 128) (hfit : x * 128 ^ k < 18446744073709551616) : bits .or .u64 (nn : Int) (IntKind.u64.wrap ((x : Int) % 128 * 2 ^ (7 * k))) = ((nn + x * 128 ^ k : Nat) : Int) := by
  have e : (x : Int) % 128 = (x : Int) := by omega
  rw [e]
  exact orShift nn k x hnn hk hfit
theorem uint_returned {l : List Nat} {n k e : Nat} {a b c : Int} (h : dec l = (n, k, e)) {n' k' e' : Nat} (hd : dec l = (n', k', e')) (ha : a = n') (hb : b = k') (hc : c = e') :
    Ending.returned (.tuple #[.int .u64 a, .int .i64 b, .int .i64 c]) = Ending.returned (.tuple #[.int .u64 (n : Int), .int .i64 (k : Int), .int .i64 (e : Int)]) := by
  rw [hd] at h
  injection h with h1 h2
  injection h2 with h2 h3
  subst h1 h2 h3 ha hb hc
  rfl

set_option maxRecDepth 10000 in
set_option maxHeartbeats 800000 in
theorem uint_any (A : Option Addr) (l : List Nat) (m c : Nat) (n k e : Nat) (w : World) (hm : l.length = m) (h : m ≤ c) (hr : Rd w A (l.map bv)) (hl : ∀ x ∈ l, x < 256) (hreach : m ≤ 140737488351232) (hd : dec l = (n, k, e)) :
    Calls Tryd.prog 15 #[.slice A m c] w fun f w' => f = .returned (.tuple #[.int .u64 (n : Int), .int .i64 (k : Int), .int .i64 (e : Int)]) ∧ w = w' := by
  subst hm
  have Hd := Lib.hid hd; clear hd
  rcases Nat.lt_or_ge 10 l.length with h10 | h10
  all_goals
    go_enter Tryd.func15, Tryd.ntmps15
    go_wp2_with fail
    go_loop [5, 14] (fun u i => UiRel l u i) (fun _ i => 10 - (intOf i).toNat)
    case atStart => exact ⟨0, 0, by omega, by omega, rfl, rfl, fun _ => ⟨0, rfl, by simp, by simp [dec]⟩, fun h => by omega⟩
    case round =>
      obtain ⟨k, q, hk, hk', rfl, rfl, h9, hten⟩ := hrel
      have H9 := Lib.hid h9; clear h9
      have Hten := Lib.hid hten; clear hten
      by_cases hlt : k < 10 ∧ k < l.length
      · obtain ⟨hlt, hltl⟩ := hlt
        obtain ⟨nn, rfl, hnn, hdec⟩ := H9.out (by omega)
        have Hnn := Lib.hid hnn; clear hnn
        have Hdec := Lib.hid hdec; clear hdec
        obtain ⟨ad, rfl, hc⟩ := hr.at_ (k := k) (by simp; omega)
        simp only [List.getElem_map] at hc
        have hx : l[k] < 256 := hl _ (List.getElem_mem _)
        generalize hxe : l[k] = x at *
        have Hxe := Lib.hid hxe; clear hxe
        unfold bv at hc
        have Hr := Lib.hid hr; clear hr
        have Hl := Lib.hid hl; clear hl
        have ha : bits .andNot .u8 (x : Int) 128 = ((x % 128 : Nat) : Int) := andNot128 x hx
        by_cases h128 : x < 128
        · by_cases hend : (0 < k ∧ x = 0) ∨ (k = 9 ∧ x ≠ 1)
          · have Hend := Lib.hid hend; clear hend
            go_wp2_with fail
            refine (canEnd_no _ _ _ (by omega) hx Hend.out).mono ?_
            rintro e w1 ⟨rfl, rfl⟩
            go_wp2_with fail
            go_ret3
            exact ⟨uint_returned Hd.out ((dec_last hlt hltl Hdec.out Hxe.out h128).trans (if_pos Hend.out)) rfl rfl rfl, rfl⟩
          · have Hend := Lib.hid hend; clear hend
            go_wp2_with fail
            refine (canEnd_yes _ _ _ (by omega) hx Hend.out).mono ?_
            rintro e w1 ⟨rfl, rfl⟩
            go_wp2_with fail
            go_ret3
            exact ⟨uint_returned Hd.out ((dec_last hlt hltl Hdec.out Hxe.out h128).trans (if_neg Hend.out)) (orShiftLast nn k x Hnn.out (by omega) h128 (fits_last hlt h128 Hend.out)) rfl rfl, rfl⟩
        · go_wp2_with fail
          exact ⟨uiRel_step hlt hltl Hnn.out Hdec.out Hxe.out (by omega) (fun h9 => orShift nn k (x % 128) Hnn.out (by omega) (fits_step h9)), by simp [intOf]; omega⟩
      · by_cases hs : l.length < 10
        · (try (exfalso; omega))
          all_goals
            go_wp2_with fail
            go_ret3
            obtain ⟨nn, rfl, hnn, hdec⟩ := H9.out (by omega)
            rw [List.drop_of_length_le (by omega), decF_end (by omega)] at hdec
            exact ⟨uint_returned Hd.out hdec.symm rfl rfl rfl, rfl⟩
        · go_wp2_with fail
          go_ret3
          exact ⟨uint_returned Hd.out (Hten.out (by omega)) rfl rfl rfl, rfl⟩

set_option maxRecDepth 10000 in
theorem int_any (A : Option Addr) (l : List Nat) (m c : Nat) (n k e : Nat) (z : Int) (w : World) (hm : l.length = m) (h : m ≤ c) (hr : Rd w A (l.map bv)) (hl : ∀ x ∈ l, x < 256) (hreach : m ≤ 140737488351232) (hd : dec l = (n, k, e)) (hz : zag n = z) :
    Calls Tryd.prog 17 #[.slice A m c] w fun f w' => f = .returned (.tuple #[.int .i64 z, .int .i64 (k : Int), .int .i64 (e : Int)]) ∧ w = w' := by
  have C := Lib.hid (uint_any A l m c n k e w hm h hr hl hreach hd)
  have hb := (dec_fits l).1
  rw [hd] at hb
  have Hb := Lib.hid hb
  have Hz := Lib.hid hz
  clear hd hl hr hb hz hm
  go_enter Tryd.func17, Tryd.ntmps17
  go_wp2_with fail
  refine C.out.mono ?_
  rintro f w1 ⟨rfl, rfl⟩
  go_wp2_with fail
  go_ret3
  exact ⟨congrArg (fun q => Ending.returned (.tuple #[.int .i64 q, .int .i64 (k : Int), .int .i64 (e : Int)])) ((zagBits n Hb.out).trans Hz.out), rfl⟩
end Go.Proofs.YthgfbfocccekfaaDoor
