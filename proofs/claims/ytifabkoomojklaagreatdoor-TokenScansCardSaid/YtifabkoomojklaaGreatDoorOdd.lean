/-
  The maker of sources: a text with one change, given texts. Condition: at most a million codes.
-/
import Derived.Test.YtifabkoomojklaaGreatDoorGen18
namespace Go.Proofs.YtifabkoomojklaaGreatDoor
open Go.RowKit

/-- A text is made that scans. -/
def TextG (g : Nat) (l : List Nat) (w : World) (e : Ending) (w' : World) : Prop :=
  ∃ s : ByteArray, e = .returned (.string s) ∧ s.size ≤ 65536 ∧ (∃ ts, scan 1 s.data.toList = .ok ts) ∧ (∃ k, Codes w' g l k) ∧ w.grownBy w' (some g)
def TextCt (g : Nat) (l : List Nat) : Prop := ∀ w, (∃ k, Codes w g l k) → Calls Tryz.prog 6 #[.pointer (some ⟨g, 0, none⟩)] w (TextG g l w)
/-- A text with one change. -/
def OddG (g : Nat) (l : List Nat) (w : World) (e : Ending) (w' : World) : Prop := ∃ s : ByteArray, e = .returned (.string s) ∧ s.size ≤ 65600 ∧ (∃ k, Codes w' g l k) ∧ w.grownBy w' (some g)
def oddRow : Array Value := #[.string ⟨#[40]⟩, .string ⟨#[41]⟩, .string ⟨#[123]⟩, .string ⟨#[125]⟩, .string ⟨#[59]⟩, .string ⟨#[61]⟩, .string ⟨#[109, 97, 105, 110]⟩, .string ⟨#[102, 49]⟩, .string ⟨#[103, 48]⟩, .string ⟨#[97]⟩, .string ⟨#[112, 48]⟩, .string ⟨#[49, 50]⟩, .string ⟨#[48]⟩, .string ⟨#[102, 117, 110, 99]⟩, .string ⟨#[118, 97, 114]⟩, .string ⟨#[105, 102]⟩, .string ⟨#[101, 108, 115, 101]⟩, .string ⟨#[119, 104, 105, 108, 101]⟩, .string ⟨#[114, 101, 116, 117, 114, 110]⟩, .string ⟨#[112, 114, 105, 110, 116]⟩, .string ⟨#[99, 97, 108, 108]⟩, .string ⟨#[114, 101, 97, 100]⟩, .string ⟨#[103, 108, 111, 98, 97, 108]⟩, .string ⟨#[91]⟩, .string ⟨#[93]⟩, .string ⟨#[44]⟩, .string ⟨#[38]⟩, .string ⟨#[38, 38]⟩, .string ⟨#[33]⟩, .string ⟨#[35]⟩, .string ⟨#[10]⟩, .string ⟨#[49, 97]⟩, .string ⟨#[36]⟩, .string ⟨#[45]⟩]
def oddW (i : Nat) : ByteArray := match oddRow[i]? with | some (.string t) => t | _ => ⟨#[]⟩
theorem oddW_ok : ∀ i, i < 34 → (oddW i).size ≤ 8 ∧ oddRow[i]? = some (.string (oddW i)) := by
  intro i hi
  have hc : i = 0 ∨ i = 1 ∨ i = 2 ∨ i = 3 ∨ i = 4 ∨ i = 5 ∨ i = 6 ∨ i = 7 ∨ i = 8 ∨ i = 9 ∨ i = 10 ∨ i = 11 ∨ i = 12 ∨ i = 13 ∨ i = 14 ∨ i = 15 ∨ i = 16 ∨ i = 17 ∨ i = 18 ∨ i = 19 ∨ i = 20 ∨ i = 21 ∨ i = 22 ∨ i = 23 ∨ i = 24 ∨ i = 25 ∨ i = 26 ∨ i = 27 ∨ i = 28 ∨ i = 29 ∨ i = 30 ∨ i = 31 ∨ i = 32 ∨ i = 33 := by omega
  rcases hc with rfl | rfl | rfl | rfl | rfl | rfl | rfl | rfl | rfl | rfl | rfl | rfl | rfl | rfl | rfl | rfl | rfl | rfl | rfl | rfl | rfl | rfl | rfl | rfl | rfl | rfl | rfl | rfl | rfl | rfl | rfl | rfl | rfl | rfl
  all_goals exact ⟨by decide, rfl⟩
theorem odd_words (w : World) : ∀ i, i < 34 → (w.alloc (.cells oddRow 9)).cell? ⟨w.heap.size, i, none⟩ = some (.string (oddW i)) := fun i hi =>
  (cell_of_row _ _ i _ _ _ (heap_alloc_new w (.cells oddRow 9))).trans (oddW_ok i hi).2
def NxC (g : Nat) (l : List Nat) (n : Nat) (w : World) (e : Ending) (w' : World) : Prop := ∃ r : Nat, e = .returned (.int .i64 (r : Int)) ∧ (1 ≤ n → r < n) ∧ (∃ k, Codes w' g l k) ∧ w.grownBy w' (some g)
theorem next_c {g : Nat} {l : List Nat} {w : World} (hc : ∃ k, Codes w g l k) (hlen : l.length ≤ 1000000) (hl : ∀ x ∈ l, x < 256) (n : Nat) (z : Int) (hz : z = (n : Int)) (hn : n ≤ 1000000000) :
    Calls Tryz.prog 20 #[.pointer (some ⟨g, 0, none⟩), .int .i64 z] w (NxC g l n w) := by
  subst hz
  obtain ⟨k, hk⟩ := hc
  exact (next_any g l k n w hk hn hlen hl).mono fun e w' ⟨r, k', h1, h2, _, h4, h5⟩ => ⟨r, h1, fun hh => by have := h2 (by omega); omega, ⟨k', h4⟩, h5⟩
set_option maxRecDepth 100000 in
set_option maxHeartbeats 4000000 in
theorem odd_any (g : Nat) (l : List Nat) (w : World) (hc : ∃ k, Codes w g l k) (hlen : l.length ≤ 1000000) (hl : ∀ x ∈ l, x < 256) (hT : TextCt g l) :
    Calls Tryz.prog 7 #[.pointer (some ⟨g, 0, none⟩)] w (OddG g l w) := by
  have ht := Lib.hid (hT w hc)
  have Hl := Lib.hid hl
  have hgw : g < w.heap.size := by obtain ⟨k, hk⟩ := hc; exact codes_lt hk
  clear hc hT hl
  go_enter Tryz.func7, Tryz.ntmps7
  go_wp2_with fail
  refine ht.out.mono ?_
  rintro e w1 ⟨s, rfl, hsz, _, hc1, hg1⟩
  have Hc1 := Lib.hid hc1
  have Hg1 := Lib.hid hg1
  have hw1 := hg1.size
  clear ht hc1 hg1
  go_upto_region 3 with fail
  have hW := odd_words w1
  have hb2 := (Below.refl _ w1).alloc (Nat.le_refl _) (.cells oddRow 9)
  have hc2 : ∃ k, Codes (w1.alloc (.cells oddRow 9)) g l k := by obtain ⟨k, hk⟩ := Hc1.out; exact ⟨k, codes_below hk hb2⟩
  have Hg2 := Lib.hid (Hg1.out.trans (World.grownBy_alloc w1 (.cells oddRow 9) (some g)))
  have Hc2 := Lib.hid hc2
  have HW := Lib.hid hW
  clear hW hb2 hc2
  have hbg : w1.heap.size ≠ g := by omega
  unfold oddRow at *
  generalize w1.alloc (.cells #[.string ⟨#[40]⟩, .string ⟨#[41]⟩, .string ⟨#[123]⟩, .string ⟨#[125]⟩, .string ⟨#[59]⟩, .string ⟨#[61]⟩, .string ⟨#[109, 97, 105, 110]⟩, .string ⟨#[102, 49]⟩, .string ⟨#[103, 48]⟩, .string ⟨#[97]⟩, .string ⟨#[112, 48]⟩, .string ⟨#[49, 50]⟩, .string ⟨#[48]⟩, .string ⟨#[102, 117, 110, 99]⟩, .string ⟨#[118, 97, 114]⟩, .string ⟨#[105, 102]⟩, .string ⟨#[101, 108, 115, 101]⟩, .string ⟨#[119, 104, 105, 108, 101]⟩, .string ⟨#[114, 101, 116, 117, 114, 110]⟩, .string ⟨#[112, 114, 105, 110, 116]⟩, .string ⟨#[99, 97, 108, 108]⟩, .string ⟨#[114, 101, 97, 100]⟩, .string ⟨#[103, 108, 111, 98, 97, 108]⟩, .string ⟨#[91]⟩, .string ⟨#[93]⟩, .string ⟨#[44]⟩, .string ⟨#[38]⟩, .string ⟨#[38, 38]⟩, .string ⟨#[33]⟩, .string ⟨#[35]⟩, .string ⟨#[10]⟩, .string ⟨#[49, 97]⟩, .string ⟨#[36]⟩, .string ⟨#[45]⟩] 9) = w2 at *
  by_cases h0 : s.size = 0
  · have hnx := Lib.hid (next_c Hc2.out hlen Hl.out 34 34 rfl (by omega))
    go_wp2_with fail
    refine hnx.out.mono ?_
    rintro e w3 ⟨r, rfl, hr, hc3, hg3⟩
    have hr34 := hr (by omega)
    have ht8 := (oddW_ok r hr34).1
    have c3 := cell_grown hg3 hbg (HW.out r hr34)
    generalize oddW r = t at *
    have Hc3 := Lib.hid hc3
    have Hg3 := Lib.hid (Hg2.out.trans hg3)
    clear hnx hr hc3 hg3
    go_wp2_with fail
    go_ret
    exact ⟨t, rfl, by omega, Hc3.out, Hg3.out⟩
  · have hnx := Lib.hid (next_c Hc2.out hlen Hl.out s.size s.size rfl (by omega))
    have hs0 : ((s.size : Int) == 0) = false := beq_eq_false_iff_ne.2 (by omega)
    go_wp2_with fail
    refine hnx.out.mono ?_
    rintro e w3 ⟨k, rfl, hk, hc3, hg3⟩
    have hks := hk (by omega)
    have Hc3 := Lib.hid hc3
    have Hg3 := Lib.hid (Hg2.out.trans hg3)
    have HW3 : Hid (∀ i, i < 34 → w3.cell? ⟨w1.heap.size, i, none⟩ = some (.string (oddW i))) := Lib.hid (fun i hi => cell_grown hg3 hbg (HW.out i hi))
    clear hnx hk hc3 hg3 hs0
    have hnx := Lib.hid (next_c Hc3.out hlen Hl.out 3 3 rfl (by omega))
    go_wp2_with fail
    refine hnx.out.mono ?_
    rintro e w4 ⟨r, rfl, hr, hc4, hg4⟩
    have hr3 := hr (by omega)
    have Hc4 := Lib.hid hc4
    have Hg4 := Lib.hid (Hg3.out.trans hg4)
    have HW4 : Hid (∀ i, i < 34 → w4.cell? ⟨w1.heap.size, i, none⟩ = some (.string (oddW i))) := Lib.hid (fun i hi => cell_grown hg4 hbg (HW3.out i hi))
    have HX1 : Hid ((s.extract 0 k).size = k) := Lib.hid (by simp; omega)
    have HX2 : Hid ((s.extract (k + 1) s.size).size = s.size - (k + 1)) := Lib.hid (by simp)
    have HX3 : Hid ((s.extract k s.size).size = s.size - k) := Lib.hid (by simp)
    have hI1 : (0 : Int) ≤ (k : Int) := by omega
    have hI2 : (k : Int) ≤ (s.size : Int) := by omega
    have hI3 : (k : Int) + 1 ≤ (s.size : Int) := by omega
    have hI4 : (0 : Int) ≤ (k : Int) + 1 := by omega
    have hI5 : IntKind.i64.wrap ((k : Int) + 1) = (k : Int) + 1 := by simp [IntKind.wrap, IntKind.bits, IntKind.signed]; omega
    clear hnx hr hc4 hg4
    have hcase : r = 0 ∨ r = 1 ∨ r = 2 := by omega
    clear hr3
    rcases hcase with rfl | rfl | rfl
    · have hff : (9223372036854775807 < (s.extract 0 k).size + (s.extract (k + 1) s.size).size) = False := no_far (show (s.extract 0 k).size + (s.extract (k + 1) s.size).size ≤ 65536 by rw [HX1.out, HX2.out]; omega) (by decide)
      go_wp2_with fail
      go_quiet (fail)
      go_wp2_with fail
      go_ret
      exact ⟨_, rfl, by rw [ByteArray.size_append, HX1.out, HX2.out]; omega, Hc4.out, only_drewN' Hg4.out _⟩
    · have hcd : ∃ k, Codes w4.drew g l k := Hc4.out
      have hnx := Lib.hid (next_c hcd hlen Hl.out 34 34 rfl (by omega))
      clear hcd
      have hS0 : (∀ i, i < 34 → w4.drew.cell? ⟨w1.heap.size, i, none⟩ = some (.string (oddW i))) := HW4.out
      go_upto_region 10 with fail
      go_region_held3 (fun w' => ∀ i, i < 34 → w'.cell? ⟨w1.heap.size, i, none⟩ = some (.string (oddW i)))
        (first | (with_reducible exact hS0) | (with_reducible exact hS5))
        (first | (go_at_call 20; (with_reducible refine hnx.out.mono ?_); rintro e w5 ⟨q, rfl, hq1, hc5, hg5⟩; have hq : q < 34 := (hq1 (by omega)); have hS5 : (∀ i, i < 34 → w5.cell? ⟨w1.heap.size, i, none⟩ = some (.string (oddW i))) := (fun i hi => cell_grown hg5 hbg (hS0 i hi)); have ht8 := (oddW_ok q hq).1; have hq0 : (0 : Int) ≤ (q : Int) := (by omega); have hq34 : (q : Int) < 34 := (by omega); have Hc5 := Lib.hid hc5; have Hg5 := Lib.hid hg5; have hg1 := no_far (show min k s.size + (oddW q).size ≤ 65600 by omega) (by decide); have hg2 := no_far (show min k s.size + (oddW q).size + (s.size - k) ≤ 65700 by omega) (by decide); have hf1 := no_far (show (s.extract 0 k).size + (oddW q).size ≤ 65600 by rw [HX1.out]; omega) (by decide); have hf2 := no_far (show (s.extract 0 k).size + (oddW q).size + (s.extract k s.size).size ≤ 65600 by rw [HX1.out, HX3.out]; omega) (by decide); clear hq1 hc5 hg5))
      all_goals
        go_wp2_with fail
        go_ret
        exact ⟨_, rfl, by rw [ByteArray.size_append, ByteArray.size_append, HX1.out, HX3.out]; omega, Hc5.out, grown_low2 Hg4.out (grown_undrew Hg5.out)⟩
    · have hg1 := no_far (show min k s.size + (s.size - (k + 1)) ≤ 65600 by omega) (by decide)
      have hcd : ∃ k, Codes w4.drew g l k := Hc4.out
      have hnx := Lib.hid (next_c hcd hlen Hl.out 34 34 rfl (by omega))
      clear hcd
      have hS0 : (∀ i, i < 34 → w4.drew.cell? ⟨w1.heap.size, i, none⟩ = some (.string (oddW i))) := HW4.out
      go_upto_region 11 with fail
      go_region_held3 (fun w' => ∀ i, i < 34 → w'.cell? ⟨w1.heap.size, i, none⟩ = some (.string (oddW i)))
        (first | (with_reducible exact hS0) | (with_reducible exact hS5))
        (first | (go_at_call 20; (with_reducible refine hnx.out.mono ?_); rintro e w5 ⟨q, rfl, hq1, hc5, hg5⟩; have hq : q < 34 := (hq1 (by omega)); have hS5 : (∀ i, i < 34 → w5.cell? ⟨w1.heap.size, i, none⟩ = some (.string (oddW i))) := (fun i hi => cell_grown hg5 hbg (hS0 i hi)); have ht8 := (oddW_ok q hq).1; have hq0 : (0 : Int) ≤ (q : Int) := (by omega); have hq34 : (q : Int) < 34 := (by omega); have Hc5 := Lib.hid hc5; have Hg5 := Lib.hid hg5; have hg2 := no_far (show min k s.size + (s.size - (k + 1)) + (oddW q).size ≤ 65700 by omega) (by decide); have hf1 := no_far (show (s.extract 0 k).size + (s.extract (k + 1) s.size).size ≤ 65600 by rw [HX1.out, HX2.out]; omega) (by decide); have hf2 := no_far (show (s.extract 0 k).size + (s.extract (k + 1) s.size).size + (oddW q).size ≤ 65600 by rw [HX1.out, HX2.out]; omega) (by decide); clear hq1 hc5 hg5))
      all_goals
        go_wp2_with fail
        go_ret
        exact ⟨_, rfl, by rw [ByteArray.size_append, ByteArray.size_append, HX1.out, HX2.out]; omega, Hc5.out, grown_low2 Hg4.out (grown_undrew Hg5.out)⟩
end Go.Proofs.YtifabkoomojklaaGreatDoor
