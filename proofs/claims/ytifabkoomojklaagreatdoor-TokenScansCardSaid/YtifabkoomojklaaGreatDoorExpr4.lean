/-
  The walk of the reference's writer for an expression, whatever its kind. Condition: the text has at most 2^40 bytes.
-/
import Derived.Test.YtifabkoomojklaaGreatDoorExpr3
namespace Go.Proofs.YtifabkoomojklaaGreatDoor
open Go.RowKit

set_option maxRecDepth 10000 in
set_option maxHeartbeats 2000000 in
theorem expr_plain (k o a l : Int) (s : ByteArray) (A : Option Addr) (n c : Nat) (w : World) (L : Bytes) (ha : a < 9223372036854775808) (hs : s.size ≤ 1000)
    (h : (k = 1 ∧ L = numL (max a 0).toNat) ∨ ((k = 13 ∨ k = 2 ∨ k = 3) ∧ L = s.data.toList) ∨ (k = 12 ∧ L = [114, 101, 97, 100]) ∨ (k = 11 ∧ L = 38 :: s.data.toList)) :
    Calls Tryz.prog 54 #[.agg #[.int .i64 k, .int .i64 o, .int .i64 a, .int .i64 l, .string s, .slice A n c]] w (RetStr L w) := by
  have hb0 := (Below.refl _ w).alloc (Nat.le_refl _) (.cells #[.int .i64 k, .int .i64 o, .int .i64 a, .int .i64 l, .string s, .slice A n c] 90)
  have Hb0 := Lib.hid hb0
  clear hb0
  rcases h with ⟨rfl, hL⟩ | ⟨rfl | rfl | rfl, hL⟩ | ⟨rfl, hL⟩ | ⟨rfl, hL⟩
  · have HL := Lib.hid hL
    clear hL
    go_enter Tryz.func54, Tryz.ntmps54
    go_wp2_with fail
    refine (number_at (max a 0).toNat _ _ (by omega) (by omega)).mono ?_
    rintro e w1 ⟨t, rfl, ht, hb⟩
    have Hb := Lib.hid (below_next Hb0.out hb)
    clear hb
    go_wp2_with fail
    go_ret
    exact retStr (by rw [HL.out]; exact ht.out) Hb.out
  · have HL := Lib.hid hL
    clear hL
    go_enter Tryz.func54, Tryz.ntmps54
    go_wp2_with fail
    go_ret
    exact retStr HL.out.symm Hb0.out
  · have HL := Lib.hid hL
    clear hL
    go_enter Tryz.func54, Tryz.ntmps54
    go_wp2_with fail
    go_ret
    exact retStr HL.out.symm Hb0.out
  · have HL := Lib.hid hL
    clear hL
    go_enter Tryz.func54, Tryz.ntmps54
    go_wp2_with fail
    go_ret
    exact retStr HL.out.symm Hb0.out
  · have HL := Lib.hid hL
    clear hL
    go_enter Tryz.func54, Tryz.ntmps54
    go_wp2_with fail
    go_ret
    exact retStr HL.out.symm Hb0.out
  · have HL := Lib.hid hL
    clear hL
    go_enter Tryz.func54, Tryz.ntmps54
    go_wp2_with fail
    go_ret
    exact retStr (by rw [HL.out]; simp) Hb0.out
set_option maxRecDepth 10000 in
set_option maxHeartbeats 2000000 in
theorem expr_value (o a l kk o1 a1 l1 : Int) (s s1 : ByteArray) (A1 : Option Addr) (n1 m1 g off c n : Nat) (w : World) (L M R : Bytes) (hL : L.length ≤ 1099511627776) (hM : M.length ≤ 1099511627776) (hc : n + 1 ≤ c) (hn : n ≤ 1000)
    (e0 : w.cell? ⟨g, off, none⟩ = some (.int .i64 kk)) (e1 : w.cell? ⟨g, off + 1, none⟩ = some (.int .i64 o1)) (e2 : w.cell? ⟨g, off + 2, none⟩ = some (.int .i64 a1)) (e3 : w.cell? ⟨g, off + 3, none⟩ = some (.int .i64 l1)) (e4 : w.cell? ⟨g, off + 4, none⟩ = some (.string s1)) (e5 : w.cell? ⟨g, off + 5, none⟩ = some (.slice A1 n1 m1))
    (hG0 : Gives 70 #[.agg #[.int .i64 kk, .int .i64 o1, .int .i64 a1, .int .i64 l1, .string s1, .slice A1 n1 m1]] L w) (hG1 : Gives 71 #[.slice (if c = 1 then some ⟨g, off, none⟩ else some ⟨g, off + 6, none⟩) n (c - 1)] M w)
    (hR : ((kk = 13 ∨ kk = 2 ∨ kk = 3) ∧ R = 40 :: (L ++ [41]) ++ M) ∨ (¬(kk = 13 ∨ kk = 2 ∨ kk = 3) ∧ R = L ++ M)) :
    Calls Tryz.prog 54 #[.agg #[.int .i64 10, .int .i64 o, .int .i64 a, .int .i64 l, .string s, .slice (some ⟨g, off, none⟩) (n + 1) c]] w (RetStr R w) := by
  have hb0 := (Below.refl _ w).alloc (Nat.le_refl _) (.cells #[.int .i64 10, .int .i64 o, .int .i64 a, .int .i64 l, .string s, .slice (some ⟨g, off, none⟩) (n + 1) c] 90)
  have Hb0 := Lib.hid hb0
  have d0 := hold hb0 e0
  have d1 := hold hb0 e1
  have d2 := hold hb0 e2
  have d3 := hold hb0 e3
  have d4 := hold hb0 e4
  have d5 := hold hb0 e5
  have HG0 := Lib.hid hG0
  have f5 : (w.alloc (.cells #[.int .i64 10, .int .i64 o, .int .i64 a, .int .i64 l, .string s, .slice (some ⟨g, off, none⟩) (n + 1) c] 90)).cell? ⟨w.heap.size, 5, none⟩ = some (.slice (some ⟨g, off, none⟩) (n + 1) c) := by rw [cell_of_row _ _ _ _ _ _ (heap_alloc_new w _)]; rfl
  have HG1 := Lib.hid hG1
  have HR := Lib.hid hR
  clear hb0 hG0 hG1 hR e0 e1 e2 e3 e4 e5
  go_enter Tryz.func54, Tryz.ntmps54
  go_wp2_with fail
  have hb1 := Hb0.out.alloc Hb0.out.size (.cells #[.int .i64 kk, .int .i64 o1, .int .i64 a1, .int .i64 l1, .string s1, .slice A1 n1 m1] 90)
  refine (HG0.out.at_ hb1).mono ?_
  rintro e w1 ⟨t, rfl, ht, hb⟩
  have hts : t.size ≤ 1099511627776 := by rw [size_of ht.out]; exact hL
  have f5b := hold hb (hold ((Below.refl _ _).alloc (Nat.le_refl _) (.cells #[.int .i64 kk, .int .i64 o1, .int .i64 a1, .int .i64 l1, .string s1, .slice A1 n1 m1] 90)) f5)
  have k0 : w1.cell? ⟨w.heap.size + 1, 0, none⟩ = some (.int .i64 kk) := hold hb (by
    rw [show w.heap.size + 1 = (w.alloc (.cells #[.int .i64 10, .int .i64 o, .int .i64 a, .int .i64 l, .string s, .slice (some ⟨g, off, none⟩) (n + 1) c] 90)).heap.size by simp]
    exact cell_of_row _ _ 0 _ _ _ (heap_alloc_new (w.alloc (.cells #[.int .i64 10, .int .i64 o, .int .i64 a, .int .i64 l, .string s, .slice (some ⟨g, off, none⟩) (n + 1) c] 90)) (.cells #[.int .i64 kk, .int .i64 o1, .int .i64 a1, .int .i64 l1, .string s1, .slice A1 n1 m1] 90)))
  have Hb1 := Lib.hid (below_next hb1 hb)
  clear hb hb1 d0 d1 d2 d3 d4 d5 f5 Hb0
  by_cases hk : kk = 13 ∨ kk = 2 ∨ kk = 3
  · have HR2 : Hid (R = 40 :: (L ++ [41]) ++ M) := by
      rcases HR.out with ⟨_, h⟩ | ⟨h, _⟩
      · exact Lib.hid h
      · exact absurd hk h
    clear HR
    rcases hk with rfl | rfl | rfl
    all_goals
      by_cases hc1 : c = 1
      · subst hc1
        obtain rfl : n = 0 := by omega
        have HG2 : Hid (Gives 71 #[.slice (some ⟨g, off, none⟩) 0 0] M w) := Lib.hid (by simpa using HG1.out)
        clear HG1
        go_wp2_with fail
        refine (HG2.out.at_ Hb1.out).mono ?_
        rintro e w2 ⟨u, rfl, hu, hb2⟩
        have hus : u.size ≤ 1099511627776 := by rw [size_of hu.out]; exact hM
        have Hb2 := Lib.hid (below_next Hb1.out hb2)
        clear hb2
        go_wp2_with fail
        go_ret
        exact retStr (by rw [HR2.out, ← ht.out, ← hu.out]; simp) Hb2.out
      · have hc2 : 1 < c := by omega
        have HG2 : Hid (Gives 71 #[.slice (some ⟨g, off + 6, none⟩) n (c - 1)] M w) := Lib.hid (by have := HG1.out; rwa [if_neg hc1] at this)
        clear HG1 hc1
        go_wp2_with fail
        refine (HG2.out.at_ Hb1.out).mono ?_
        rintro e w2 ⟨u, rfl, hu, hb2⟩
        have hus : u.size ≤ 1099511627776 := by rw [size_of hu.out]; exact hM
        have Hb2 := Lib.hid (below_next Hb1.out hb2)
        clear hb2
        go_wp2_with fail
        go_ret
        exact retStr (by rw [HR2.out, ← ht.out, ← hu.out]; simp) Hb2.out
  · have HR2 : Hid (R = L ++ M) := by
      rcases HR.out with ⟨h, _⟩ | ⟨_, h⟩
      · exact absurd h hk
      · exact Lib.hid h
    have q1 : (kk == 13) = false := by simp; omega
    have q2 : (kk == 2) = false := by simp; omega
    have q3 : (kk == 3) = false := by simp; omega
    clear HR hk
    by_cases hc1 : c = 1
    · subst hc1
      obtain rfl : n = 0 := by omega
      have HG2 : Hid (Gives 71 #[.slice (some ⟨g, off, none⟩) 0 0] M w) := Lib.hid (by simpa using HG1.out)
      clear HG1
      go_wp2_with fail
      refine (HG2.out.at_ Hb1.out).mono ?_
      rintro e w2 ⟨u, rfl, hu, hb2⟩
      have hus : u.size ≤ 1099511627776 := by rw [size_of hu.out]; exact hM
      have Hb2 := Lib.hid (below_next Hb1.out hb2)
      clear hb2
      go_wp2_with fail
      go_ret
      exact retStr (by rw [HR2.out, ← ht.out, ← hu.out]; simp) Hb2.out
    · have hc2 : 1 < c := by omega
      have HG2 : Hid (Gives 71 #[.slice (some ⟨g, off + 6, none⟩) n (c - 1)] M w) := Lib.hid (by have := HG1.out; rwa [if_neg hc1] at this)
      clear HG1 hc1
      go_wp2_with fail
      refine (HG2.out.at_ Hb1.out).mono ?_
      rintro e w2 ⟨u, rfl, hu, hb2⟩
      have hus : u.size ≤ 1099511627776 := by rw [size_of hu.out]; exact hM
      have Hb2 := Lib.hid (below_next Hb1.out hb2)
      clear hb2
      go_wp2_with fail
      go_ret
      exact retStr (by rw [HR2.out, ← ht.out, ← hu.out]; simp) Hb2.out
end Go.Proofs.YtifabkoomojklaaGreatDoor
