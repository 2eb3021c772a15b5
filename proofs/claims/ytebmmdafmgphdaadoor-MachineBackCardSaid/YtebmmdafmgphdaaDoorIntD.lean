/-
  The walk of the drawing helper Int. Condition: at most a million codes.
-/
import Derived.Test.YtebmmdafmgphdaaDoorMacM
import Derived.Test.YtebmmdafmgphdaaDoorNums
import Derived.BigRegion
namespace Go.Proofs.YtebmmdafmgphdaaDoor
open Go.RowKit

/-- A number of either sign is drawn. -/
def InP (g : Nat) (l : List Nat) (w : World) (e : Ending) (w' : World) : Prop := ∃ n : Int, e = .returned (.int .i64 n) ∧ i64C n ∧ (∃ k, Codes w' g l k) ∧ w.grownBy w' (some g)
def row16 : Array Value := #[.int .i64 9223372036854775807, .int .i64 (-9223372036854775808), .int .i64 1048576, .int .i64 1048577, .int .i64 65535, .int .i64 65536, .int .i64 255, .int .i64 256, .int .i64 250, .int .i64 249, .int .i64 1099511627776, .int .i64 1099511627777, .int .i64 4294967296, .int .i64 1073741824, .int .i64 128, .int .i64 127]
theorem row16_at (r : Nat) (h : r < 16) : ∃ n : Int, row16[r]? = some (.int .i64 n) ∧ i64C n := by
  have : r = 0 ∨ r = 1 ∨ r = 2 ∨ r = 3 ∨ r = 4 ∨ r = 5 ∨ r = 6 ∨ r = 7 ∨ r = 8 ∨ r = 9 ∨ r = 10 ∨ r = 11 ∨ r = 12 ∨ r = 13 ∨ r = 14 ∨ r = 15 := by omega
  rcases this with rfl | rfl | rfl | rfl | rfl | rfl | rfl | rfl | rfl | rfl | rfl | rfl | rfl | rfl | rfl | rfl <;> exact ⟨_, rfl, by decide, by decide⟩
set_option maxRecDepth 10000 in
set_option maxHeartbeats 800000 in
theorem int_any (g : Nat) (l : List Nat) (k : Nat) (w : World) (hc : Codes w g l k) (hlen : l.length ≤ 1000000) (hl : ∀ x ∈ l, x < 256) :
    Calls Tryd.prog 15 #[.pointer (some ⟨g, 0, none⟩)] w (InP g l w) := by
  have Hl := Lib.hid hl; clear hl
  have Hc := Lib.hid hc; clear hc
  go_enter Tryd.func15, Tryd.ntmps15
  go_wp2_with fail
  refine (drawn_any g l k 10 _ Hc.out (by decide) hlen Hl.out).mono ?_
  rintro e w1 ⟨r, k1, rfl, hr, _, hc1, hg1⟩
  have hr10 : r < 10 := by have := hr (by omega); omega
  have Hlt := Lib.hid (codes_lt Hc.out)
  have Hc1 := Lib.hid hc1
  have Hg1 := Lib.hid hg1
  clear hr hc1 hg1 Hc
  by_cases h0 : r = 0
  · subst h0
    go_wp2_with fail
    refine (drawn_any g l k1 3 _ Hc1.out (by decide) hlen Hl.out).mono ?_
    rintro e w2 ⟨s, k2, rfl, hs, _, hc2, hg2⟩
    have hs3 : s < 3 := by have := hs (by omega); omega
    have HE : Hid (InP g l w (.returned (.int .i64 (-1 - (s : Int)))) w2) := Lib.hid ⟨_, rfl, ⟨by omega, by omega⟩, ⟨k2, hc2⟩, Hg1.out.trans hg2⟩
    clear hs hc2 hg2
    go_wp2_with fail
    go_ret
    exact HE.out
  by_cases h1 : r = 1
  · subst h1
    have hcb : Codes (w1.alloc (.cells row16 3)) g l k1 := codes_below Hc1.out ((Below.refl _ _).alloc (Nat.le_refl _) _)
    have Hcb := Lib.hid hcb
    clear hcb h0
    go_wp2_with fail
    refine (drawn_any g l k1 16 _ Hcb.out (by decide) hlen Hl.out).mono ?_
    rintro e w2 ⟨s, k2, rfl, hs, _, hc2, hg2⟩
    have hs3 : s < 16 := by have := hs (by omega); omega
    obtain ⟨n, hn, hi⟩ := row16_at s hs3
    have hcell : w2.cell? ⟨w1.heap.size, s, none⟩ = some (.int .i64 n) := by
      have hgw := codes_lt Hc1.out
      exact (cell_of_row _ _ _ _ _ _ ((hg2.block w1.heap.size (by simp) (fun e => by injection e with e; omega)).trans (heap_alloc_new w1 _))).trans hn
    have HE : Hid (InP g l w (.returned (.int .i64 n)) w2) := Lib.hid ⟨_, rfl, hi, ⟨k2, hc2⟩, (Hg1.out.trans (World.grownBy_alloc _ _ _)).trans hg2⟩
    clear hs hc2 hg2 hn
    go_wp2_with fail
    go_ret
    exact HE.out
  by_cases h2 : r = 2
  · subst h2
    clear h0 h1
    go_wp2_with fail
    refine (drawn_any g l k1 256 _ Hc1.out (by decide) hlen Hl.out).mono ?_
    rintro e w2 ⟨s, k2, rfl, hs, _, hc2, hg2⟩
    have hs3 : s < 256 := by have := hs (by omega); omega
    have Hc2 := Lib.hid hc2
    have Hg2 := Lib.hid hg2
    clear hs hc2 hg2
    go_wp2_with fail
    refine (drawn_any g l k2 256 _ Hc2.out (by decide) hlen Hl.out).mono ?_
    rintro e w3 ⟨t, k3, rfl, ht, _, hc3, hg3⟩
    have ht3 : t < 256 := by have := ht (by omega); omega
    have HE : Hid (InP g l w (.returned (.int .i64 (256 * (s : Int) + (t : Int)))) w3) := Lib.hid ⟨_, rfl, ⟨by omega, by omega⟩, ⟨k3, hc3⟩, (Hg1.out.trans Hg2.out).trans hg3⟩
    clear ht hc3 hg3
    go_wp2_with fail
    go_ret
    exact HE.out
  · have e0 : ((r : Int) == 0) = false := by simp; omega
    have e1 : ((r : Int) == 1) = false := by simp; omega
    have e2 : ((r : Int) == 2) = false := by simp; omega
    clear h0 h1 h2
    go_wp2_with fail
    refine (drawn_any g l k1 40 _ Hc1.out (by decide) hlen Hl.out).mono ?_
    rintro e w2 ⟨s, k2, rfl, hs, _, hc2, hg2⟩
    have hs3 : s < 40 := by have := hs (by omega); omega
    have HE : Hid (InP g l w (.returned (.int .i64 (s : Int))) w2) := Lib.hid ⟨_, rfl, ⟨by omega, by omega⟩, ⟨k2, hc2⟩, Hg1.out.trans hg2⟩
    clear hs hc2 hg2
    go_wp2_with fail
    go_ret
    exact HE.out
end Go.Proofs.YtebmmdafmgphdaaDoor
