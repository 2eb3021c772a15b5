/-
  The table of machine's rows, and the walks of its small functions. Condition: the table reads as the program's text lays it.
-/
import Derived.Test.YtebmmdafmgphdaaDoorCodeD
import Derived.Test.YtebmmdafmgphdaaDoorMacD
import Derived.Deep.QuietTactic
import Derived.BigQuiet
namespace Go.Proofs.YtebmmdafmgphdaaDoor
open Go.RowKit

/-- The letter of a field. -/
def fdN : Fd → Nat
  | .o => 111
  | .d => 100
  | .a => 97
  | .b => 98
  | .n => 108
  | _ => 118
/-- The letters of a row, as text. -/
def lets (n : Nat) : List Nat := (rowsC.getD n []).map fdN
def strL (l : List Nat) : ByteArray := ⟨(l.map UInt8.ofNat).toArray⟩
def sizeN (n : Nat) : Int := [0, 8, 0, 0, 0, 1, 1, 1, 1, 0, 0, 4, 0, 1, 1, 1, 0, 2, 1].getD n 0
def grtN (n : Nat) : Int := [0, -1, 0, 0, 0, 31, 31, 31, 31, 0, 0, 1048576, 0, -1, -1, -1, 0, 4095, 63].getD n 0
/-- The table lies where it was laid. -/
structure RowsT (w : World) : Prop where
  s : ∀ n, n < 19 → w.cell? ⟨0, n * 3, none⟩ = some (.string (strL (lets n)))
  z : ∀ n, n < 19 → w.cell? ⟨0, n * 3 + 1, none⟩ = some (.int .i64 (sizeN n))
  t : ∀ n, n < 19 → w.cell? ⟨0, n * 3 + 2, none⟩ = some (.int .i64 (grtN n))
theorem RowsT.lt {w : World} (h : RowsT w) : 0 < w.heap.size := World.block_lt_of_cell? w ⟨0, 0 * 3, none⟩ (h.s 0 (by decide))
theorem RowsT.low {w w' : World} {B : Nat} (h : RowsT w) (hb : Below B w w') (hB : 0 < B) : RowsT w' :=
  ⟨fun n hn => (hb.cell (p := ⟨0, n * 3, none⟩) hB).trans (h.s n hn), fun n hn => (hb.cell (p := ⟨0, n * 3 + 1, none⟩) hB).trans (h.z n hn), fun n hn => (hb.cell (p := ⟨0, n * 3 + 2, none⟩) hB).trans (h.t n hn)⟩
theorem RowsT.below {w w' : World} (h : RowsT w) (hb : Below w.heap.size w w') : RowsT w' := h.low hb h.lt

theorem within_any (x a b : Int) (w : World) : Calls Tryd.prog 26 #[.int .i64 x, .int .i64 a, .int .i64 b] w fun e w' => e = .returned (.bool (decide (a ≤ x) && decide (x ≤ b))) ∧ w = w' := by
  go_enter Tryd.func26, Tryd.ntmps26
  by_cases h1 : a ≤ x
  · by_cases h2 : x ≤ b
    · go_wp2_with fail
      go_ret
      exact ⟨by simp [h1, h2], rfl⟩
    · go_wp2_with fail
      go_ret
      exact ⟨by simp [h2], rfl⟩
  · go_wp2_with fail
    go_ret
    exact ⟨by simp; omega, rfl⟩
theorem isJump_any (x : Int) (w : World) : Calls Tryd.prog 25 #[.int .i64 x] w fun e w' => e = .returned (.bool (isJ x)) ∧ w = w' := by
  go_enter Tryd.func25, Tryd.ntmps25
  unfold isJ
  by_cases h1 : x = 13
  · subst h1
    go_wp2_with fail
    go_ret
    exact ⟨rfl, rfl⟩
  · by_cases h2 : x = 14
    · subst h2
      go_wp2_with fail
      go_ret
      exact ⟨rfl, rfl⟩
    · by_cases h3 : x = 15
      · subst h3
        go_wp2_with fail
        go_ret
        exact ⟨rfl, rfl⟩
      · have e1 : (x == 13) = false := by simpa using h1
        have e2 : (x == 14) = false := by simpa using h2
        have e3 : (x == 15) = false := by simpa using h3
        go_wp2_with fail
        go_ret
        exact ⟨by simp [e1, e2, e3], rfl⟩
/-- Whether there is an Op, also with 128. -/
def opB (x : Int) (wide : Bool) : Bool := if wide then isJ x else decide (1 ≤ x) && decide (x ≤ 18)
theorem isOp_any (x : Int) (wide : Bool) (w : World) : Calls Tryd.prog 20 #[.int .i64 x, .bool wide] w fun e w' => e = .returned (.bool (opB x wide)) ∧ w = w' := by
  have HW := Lib.hid (within_any x 1 18)
  have HJ := Lib.hid (isJump_any x)
  go_enter Tryd.func20, Tryd.ntmps20
  cases wide with
  | true =>
    go_wp2_with fail
    refine (HJ.out _).mono ?_
    rintro e w' ⟨rfl, rfl⟩
    go_wp2_with fail
    go_ret
    exact ⟨rfl, rfl⟩
  | false =>
    go_wp2_with fail
    refine (HW.out _).mono ?_
    rintro e w' ⟨rfl, rfl⟩
    go_wp2_with fail
    go_ret
    exact ⟨rfl, rfl⟩
theorem noSlot_any (x : Int) (w : World) : Calls Tryd.prog 28 #[.int .i64 x] w fun e w' => e = .returned (.bool (!slotC x)) ∧ w = w' := by
  have HW := Lib.hid (within_any x 0 249)
  go_enter Tryd.func28, Tryd.ntmps28
  go_wp2_with fail
  refine (HW.out _).mono ?_
  rintro e w' ⟨rfl, rfl⟩
  go_wp2_with fail
  go_ret
  refine ⟨?_, rfl⟩
  have : decide (x ≤ 249) = decide (x < 250) := by
    by_cases h : x < 250
    · rw [decide_eq_true h, decide_eq_true (by omega)]
    · rw [decide_eq_false h, decide_eq_false (by omega)]
  simp [slotC, this]
/-- Which field a letter names. -/
def fldN (c : Nat) : Nat := if c = 100 then 2 else if c = 97 then 3 else if c = 98 then 4 else if c = 111 then 1 else 5
theorem number_any (p c : Nat) (w : World) : Calls Tryd.prog 18 #[.pointer (some ⟨p, 0, none⟩), .int .i32 (c : Int)] w fun e w' => e = .returned (.pointer (some ⟨p, fldN c, none⟩)) ∧ w = w' := by
  go_enter Tryd.func18, Tryd.ntmps18
  unfold fldN
  by_cases h1 : c = 100
  · subst h1
    go_wp2_with fail
    go_ret
    exact ⟨rfl, rfl⟩
  · by_cases h2 : c = 97
    · subst h2
      go_wp2_with fail
      go_ret
      exact ⟨rfl, rfl⟩
    · by_cases h3 : c = 98
      · subst h3
        go_wp2_with fail
        go_ret
        exact ⟨rfl, rfl⟩
      · by_cases h4 : c = 111
        · subst h4
          go_wp2_with fail
          go_ret
          exact ⟨rfl, rfl⟩
        · have e1 : ((c : Int) == 100) = false := by simp; omega
          have e2 : ((c : Int) == 97) = false := by simp; omega
          have e3 : ((c : Int) == 98) = false := by simp; omega
          have e4 : ((c : Int) == 111) = false := by simp; omega
          rw [if_neg h1, if_neg h2, if_neg h3, if_neg h4]
          have H1 := Lib.hid h1; clear h1
          have H2 := Lib.hid h2; clear h2
          have H3 := Lib.hid h3; clear h3
          have H4 := Lib.hid h4; clear h4
          go_wp2_with fail
          go_ret
          exact ⟨rfl, rfl⟩
/-- How many bytes a field takes. -/
def wdN (n : Nat) (wd : Bool) (c : Nat) : Int := if c = 118 then (if wd && isJ n then 4 else sizeN n) else 1
theorem width_any (n : Nat) (ari dst a b val : Int) (wide : Bool) (v : Value) (c : Nat) (w : World) (hT : RowsT w) (hn : n < 19) (hj : wide = true → isJ (n : Int) = true) :
    Calls Tryd.prog 19 #[.agg (kRow (n : Int) ari dst a b val wide v), .int .i32 (c : Int)] w (NumP (wdN n wide c) w) := by
  have HT := Lib.hid hT; clear hT
  go_enter Tryd.func19, Tryd.ntmps19
  unfold kRow
  go_upto_region 1 with fail
  obtain ⟨w1, hw1⟩ : ∃ w1, w.alloc (.cells (kRow n ari dst a b val wide v) 26) = w1 := ⟨_, rfl⟩
  have hrow : w1.heap[w.heap.size]? = some (.cells (kRow n ari dst a b val wide v) 26 (0, 0)) := by rw [← hw1]; exact heap_alloc_new w _
  have hb : Below w.heap.size w w1 := by rw [← hw1]; exact (Below.refl _ _).alloc (Nat.le_refl _) _
  unfold kRow at hw1
  rw [hw1]
  have HT1 := Lib.hid (HT.out.below hb)
  obtain ⟨q0, q1, q2, q3, q4, q5, q6, q7⟩ := kRow_cells hrow
  have Hb := Lib.hid hb
  have Hj := Lib.hid hj
  have t1 := HT1.out.z n hn
  clear hj
  clear hrow hb hw1
  by_cases hc : c = 118
  · subst hc
    cases wide with
    | true =>
      have hE : wdN n true 118 = 4 := by simp [wdN, Hj.out rfl]
      clear Hj
      go_wp2_with fail
      go_ret
      exact ⟨by rw [hE]; rfl, Hb.out⟩
    | false =>
      have hE : wdN n false 118 = sizeN n := by simp [wdN]
      go_wp2_with fail
      go_ret
      exact ⟨by rw [hE]; rfl, Hb.out⟩
  · have hne : ((c : Int) != 118) = true := by simp; omega
    have hE : wdN n wide c = 1 := by simp [wdN, hc]
    go_wp2_with fail
    go_ret
    exact ⟨by rw [hE]; rfl, Hb.out⟩
/-- The least and the greatest Value. -/
def lowN (n : Nat) (wd : Bool) : Int := if grtN n = -1 then -(2 ^ (8 * (wdN n wd 118).toNat - 1)) else 0
def topN (n : Nat) (wd : Bool) : Int := if grtN n = -1 then 2 ^ (8 * (wdN n wd 118).toNat - 1) - 1 else grtN n
theorem values_any (n : Nat) (ari dst a b val : Int) (wide : Bool) (v : Value) (w : World) (hT : RowsT w) (hn : n < 19) (hj : wide = true → isJ (n : Int) = true) :
    Calls Tryd.prog 30 #[.agg (kRow (n : Int) ari dst a b val wide v)] w fun e w' => e = .returned (.tuple #[.int .i64 (lowN n wide), .int .i64 (topN n wide)]) ∧ Below w.heap.size w w' := by
  have HT := Lib.hid hT; clear hT
  go_enter Tryd.func30, Tryd.ntmps30
  unfold kRow
  go_upto_region 1 with fail
  obtain ⟨w1, hw1⟩ : ∃ w1, w.alloc (.cells (kRow n ari dst a b val wide v) 26) = w1 := ⟨_, rfl⟩
  have hrow : w1.heap[w.heap.size]? = some (.cells (kRow n ari dst a b val wide v) 26 (0, 0)) := by rw [← hw1]; exact heap_alloc_new w _
  have hb : Below w.heap.size w w1 := by rw [← hw1]; exact (Below.refl _ _).alloc (Nat.le_refl _) _
  unfold kRow at hw1
  rw [hw1]
  have HT1 := Lib.hid (HT.out.below hb)
  obtain ⟨q0, q1, q2, q3, q4, q5, q6, q7⟩ := kRow_cells hrow
  have Hb := Lib.hid hb
  have HW := Lib.hid (width_any n ari dst a b val wide v 118 w1 HT1.out hn hj)
  clear hj
  have t1 := HT1.out.t n hn
  clear hrow hb hw1
  by_cases hg : grtN n = -1
  · rw [hg] at t1
    have hz : wdN n wide 118 = 1 ∨ wdN n wide 118 = 4 ∨ wdN n wide 118 = 8 := by
      unfold wdN
      rw [if_pos rfl]
      split
      · exact .inr (.inl rfl)
      · have : ∀ m : Fin 19, grtN m.val = -1 → (sizeN m.val = 1 ∨ sizeN m.val = 4 ∨ sizeN m.val = 8) := by decide +kernel
        exact this ⟨n, hn⟩ hg
    have hL : lowN n wide = -(2 ^ (8 * (wdN n wide 118).toNat - 1)) := if_pos hg
    have hU : topN n wide = 2 ^ (8 * (wdN n wide 118).toNat - 1) - 1 := if_pos hg
    have HL := Lib.hid hL; clear hL
    have HU := Lib.hid hU; clear hU
    clear hg
    go_wp2_with fail
    refine HW.out.mono ?_
    rintro e w2 ⟨rfl, hb2⟩
    have Hb2 := Lib.hid (below_next Hb.out hb2)
    clear hb2
    rcases hz with hz | hz | hz <;> have hL := HL.out <;> have hU := HU.out <;> rw [hz] at hL hU ⊢ <;> clear hz HW
    all_goals
      have HL2 := Lib.hid hL; clear hL
      have HU2 := Lib.hid hU; clear hU
      go_wp2_with fail
      go_ret2
      exact ⟨by rw [HL2.out, HU2.out]; rfl, Hb2.out⟩
  · have hL : lowN n wide = 0 := if_neg hg
    have hU : topN n wide = grtN n := if_neg hg
    have hne : (grtN n != -1) = true := by simpa using hg
    have Hg := Lib.hid hg; clear hg
    go_wp2_with fail
    go_ret2
    exact ⟨by rw [hL, hU]; rfl, Hb.out⟩
end Go.Proofs.YtebmmdafmgphdaaDoor
