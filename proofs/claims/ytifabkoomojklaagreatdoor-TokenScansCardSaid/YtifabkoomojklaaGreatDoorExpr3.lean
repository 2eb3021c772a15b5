/-
  The walks of the reference's writer for an expression: the kinds whose statements leave their order open. Condition: the text has at most 2^40 bytes.
-/
import Derived.Test.YtifabkoomojklaaGreatDoorExpr2
import Derived.Deep.QuietTactic
import Derived.BigQuiet
namespace Go.Proofs.YtifabkoomojklaaGreatDoor
open Go.RowKit

theorem number_at (n : Nat) (z : Int) (w : World) (hz : z = (n : Int)) (hn : n < 9223372036854775808) : Calls Tryz.prog 31 #[.int .i64 z] w (RetStr (numL n) w) := by
  subst hz
  exact number_5 n w hn
/-- A string of these bytes may be handed back in any grown world. -/
def Gives (f : FuncId) (args : Array Value) (l : Bytes) (W : World) : Prop := ∀ w', Below W.heap.size W w' → Calls Tryz.prog f args w' (RetStr l w')
theorem Gives.next {f : FuncId} {args : Array Value} {l : Bytes} {w W : World} (h : Gives f args l w) (hb : Below w.heap.size w W) : Gives f args l W := fun w' h' => h w' (below_next hb h')
theorem Gives.at_ {f : FuncId} {args : Array Value} {l : Bytes} {w W : World} (h : Gives f args l w) (hb : Below w.heap.size w W) : Calls Tryz.prog f args W (RetStr l W) := h W hb
theorem no_far {n m : Nat} (h : n ≤ m) (hm : m ≤ 9223372036854775807) : (9223372036854775807 < n) = False := by simp; omega
set_option maxRecDepth 10000 in
set_option maxHeartbeats 4000000 in
theorem expr_elem (o a l : Int) (s : ByteArray) (g off c : Nat) (c00 c01 c02 c03 c04 c05 : Value) (w : World) (L : Bytes) (hs : s.size ≤ 1000) (hL : L.length ≤ 1099511627776) (e00 : w.cell? ⟨g, off, none⟩ = some c00) (e01 : w.cell? ⟨g, off + 1, none⟩ = some c01) (e02 : w.cell? ⟨g, off + 2, none⟩ = some c02) (e03 : w.cell? ⟨g, off + 3, none⟩ = some c03) (e04 : w.cell? ⟨g, off + 4, none⟩ = some c04) (e05 : w.cell? ⟨g, off + 5, none⟩ = some c05) (hG0 : Gives 54 #[.agg #[c00, c01, c02, c03, c04, c05]] L w) :
    Calls Tryz.prog 54 #[.agg #[.int .i64 4, .int .i64 o, .int .i64 a, .int .i64 l, .string s, .slice (some ⟨g, off, none⟩) 1 c]] w (RetStr (s.data.toList ++ 91 :: (L ++ [93])) w) := by
  have hb0 := (Below.refl _ w).alloc (Nat.le_refl _) (.cells #[.int .i64 4, .int .i64 o, .int .i64 a, .int .i64 l, .string s, .slice (some ⟨g, off, none⟩) 1 c] 90)
  have Hb0 := Lib.hid hb0
  have HG0 := Lib.hid (hG0.next hb0)
  have d00 := hold hb0 e00
  have d01 := hold hb0 e01
  have d02 := hold hb0 e02
  have d03 := hold hb0 e03
  have d04 := hold hb0 e04
  have d05 := hold hb0 e05
  have f4 : (w.alloc (.cells #[.int .i64 4, .int .i64 o, .int .i64 a, .int .i64 l, .string s, .slice (some ⟨g, off, none⟩) 1 c] 90)).cell? ⟨w.heap.size, 4, none⟩ = some (.string s) := by rw [cell_of_row _ _ _ _ _ _ (heap_alloc_new w _)]; rfl
  have f5 : (w.alloc (.cells #[.int .i64 4, .int .i64 o, .int .i64 a, .int .i64 l, .string s, .slice (some ⟨g, off, none⟩) 1 c] 90)).cell? ⟨w.heap.size, 5, none⟩ = some (.slice (some ⟨g, off, none⟩) 1 c) := by rw [cell_of_row _ _ _ _ _ _ (heap_alloc_new w _)]; rfl
  have hq0 := no_far (n := s.size + 1) (m := 1001) (by omega) (by omega)
  clear hb0 hG0 e00 e01 e02 e03 e04 e05
  go_enter Tryz.func54, Tryz.ntmps54
  go_wp2_with fail
  generalize w.alloc (.cells #[.int .i64 4, .int .i64 o, .int .i64 a, .int .i64 l, .string s, .slice (some ⟨g, off, none⟩) 1 c] 90) = W at *
  have hS0 : W.drew.cell? ⟨w.heap.size, 4, none⟩ = some (.string s) ∧ W.drew.cell? ⟨w.heap.size, 5, none⟩ = some (.slice (some ⟨g, off, none⟩) 1 c) ∧ W.drew.cell? ⟨g, off, none⟩ = some (c00) ∧ W.drew.cell? ⟨g, off + 1, none⟩ = some (c01) ∧ W.drew.cell? ⟨g, off + 2, none⟩ = some (c02) ∧ W.drew.cell? ⟨g, off + 3, none⟩ = some (c03) ∧ W.drew.cell? ⟨g, off + 4, none⟩ = some (c04) ∧ W.drew.cell? ⟨g, off + 5, none⟩ = some (c05) ∧ Below W.heap.size W W.drew := ⟨f4, f5, d00, d01, d02, d03, d04, d05, (Below.refl _ W).drew⟩
  go_region_held3 (fun w' => w'.cell? ⟨w.heap.size, 4, none⟩ = some (.string s) ∧ w'.cell? ⟨w.heap.size, 5, none⟩ = some (.slice (some ⟨g, off, none⟩) 1 c) ∧ w'.cell? ⟨g, off, none⟩ = some (c00) ∧ w'.cell? ⟨g, off + 1, none⟩ = some (c01) ∧ w'.cell? ⟨g, off + 2, none⟩ = some (c02) ∧ w'.cell? ⟨g, off + 3, none⟩ = some (c03) ∧ w'.cell? ⟨g, off + 4, none⟩ = some (c04) ∧ w'.cell? ⟨g, off + 5, none⟩ = some (c05) ∧ Below W.heap.size W w')
    (first | exact hS0 | (go_split_ands; exact ⟨hold hb (by assumption), hold hb (by assumption), hold hb (by assumption), hold hb (by assumption), hold hb (by assumption), hold hb (by assumption), hold hb (by assumption), hold hb (by assumption), below_next (by assumption) hb⟩))
    (first | (go_at_call 54; (with_reducible refine (HG0.out.at_ ?_).mono ?_); (go_split_ands; assumption); rintro e w' ⟨t0, rfl, ht0, hb⟩; have hz0 : t0.size ≤ 1099511627776 := (by rw [size_of ht0.out]; exact hL); have hr0 := no_far (n := s.size + 1 + t0.size) (m := 1099511629776) (by omega) (by omega); have hr1 := no_far (n := s.size + 1 + t0.size + 1) (m := 1099511629776) (by omega) (by omega)))
  rename_i hH
  have hbel : Below W.heap.size W _ := hH.2.2.2.2.2.2.2.2
  have HB := Lib.hid (below_next Hb0.out hbel)
  clear hH hS0 hbel
  go_wp2_with fail
  go_ret
  refine retStr ?_ HB.out
  rw [← ht0.out]
  simp
set_option maxRecDepth 10000 in
set_option maxHeartbeats 4000000 in
theorem expr_unary (o a l : Int) (s : ByteArray) (g off c : Nat) (c00 c01 c02 c03 c04 c05 : Value) (w : World) (K L : Bytes) (hK : K.length ≤ 1099511627776) (hL : L.length ≤ 1099511627776) (e00 : w.cell? ⟨g, off, none⟩ = some c00) (e01 : w.cell? ⟨g, off + 1, none⟩ = some c01) (e02 : w.cell? ⟨g, off + 2, none⟩ = some c02) (e03 : w.cell? ⟨g, off + 3, none⟩ = some c03) (e04 : w.cell? ⟨g, off + 4, none⟩ = some c04) (e05 : w.cell? ⟨g, off + 5, none⟩ = some c05) (hG0 : Gives 69 #[.int .i64 o] K w) (hG1 : Gives 70 #[.agg #[c00, c01, c02, c03, c04, c05]] L w) :
    Calls Tryz.prog 54 #[.agg #[.int .i64 5, .int .i64 o, .int .i64 a, .int .i64 l, .string s, .slice (some ⟨g, off, none⟩) 1 c]] w (RetStr (K ++ L) w) := by
  have hb0 := (Below.refl _ w).alloc (Nat.le_refl _) (.cells #[.int .i64 5, .int .i64 o, .int .i64 a, .int .i64 l, .string s, .slice (some ⟨g, off, none⟩) 1 c] 90)
  have Hb0 := Lib.hid hb0
  have HG0 := Lib.hid (hG0.next hb0)
  have HG1 := Lib.hid (hG1.next hb0)
  have d00 := hold hb0 e00
  have d01 := hold hb0 e01
  have d02 := hold hb0 e02
  have d03 := hold hb0 e03
  have d04 := hold hb0 e04
  have d05 := hold hb0 e05
  have f1 : (w.alloc (.cells #[.int .i64 5, .int .i64 o, .int .i64 a, .int .i64 l, .string s, .slice (some ⟨g, off, none⟩) 1 c] 90)).cell? ⟨w.heap.size, 1, none⟩ = some (.int .i64 o) := by rw [cell_of_row _ _ _ _ _ _ (heap_alloc_new w _)]; rfl
  have f5 : (w.alloc (.cells #[.int .i64 5, .int .i64 o, .int .i64 a, .int .i64 l, .string s, .slice (some ⟨g, off, none⟩) 1 c] 90)).cell? ⟨w.heap.size, 5, none⟩ = some (.slice (some ⟨g, off, none⟩) 1 c) := by rw [cell_of_row _ _ _ _ _ _ (heap_alloc_new w _)]; rfl
  clear hb0 hG0 hG1 e00 e01 e02 e03 e04 e05
  go_enter Tryz.func54, Tryz.ntmps54
  go_wp2_with fail
  generalize w.alloc (.cells #[.int .i64 5, .int .i64 o, .int .i64 a, .int .i64 l, .string s, .slice (some ⟨g, off, none⟩) 1 c] 90) = W at *
  have hS0 : W.drew.cell? ⟨w.heap.size, 1, none⟩ = some (.int .i64 o) ∧ W.drew.cell? ⟨w.heap.size, 5, none⟩ = some (.slice (some ⟨g, off, none⟩) 1 c) ∧ W.drew.cell? ⟨g, off, none⟩ = some (c00) ∧ W.drew.cell? ⟨g, off + 1, none⟩ = some (c01) ∧ W.drew.cell? ⟨g, off + 2, none⟩ = some (c02) ∧ W.drew.cell? ⟨g, off + 3, none⟩ = some (c03) ∧ W.drew.cell? ⟨g, off + 4, none⟩ = some (c04) ∧ W.drew.cell? ⟨g, off + 5, none⟩ = some (c05) ∧ Below W.heap.size W W.drew := ⟨f1, f5, d00, d01, d02, d03, d04, d05, (Below.refl _ W).drew⟩
  go_region_held3 (fun w' => w'.cell? ⟨w.heap.size, 1, none⟩ = some (.int .i64 o) ∧ w'.cell? ⟨w.heap.size, 5, none⟩ = some (.slice (some ⟨g, off, none⟩) 1 c) ∧ w'.cell? ⟨g, off, none⟩ = some (c00) ∧ w'.cell? ⟨g, off + 1, none⟩ = some (c01) ∧ w'.cell? ⟨g, off + 2, none⟩ = some (c02) ∧ w'.cell? ⟨g, off + 3, none⟩ = some (c03) ∧ w'.cell? ⟨g, off + 4, none⟩ = some (c04) ∧ w'.cell? ⟨g, off + 5, none⟩ = some (c05) ∧ Below W.heap.size W w')
    (first | exact hS0 | (go_split_ands; exact ⟨hold hb (by assumption), hold hb (by assumption), hold hb (by assumption), hold hb (by assumption), hold hb (by assumption), hold hb (by assumption), hold hb (by assumption), hold hb (by assumption), below_next (by assumption) hb⟩))
    (first | (go_at_call 69; (with_reducible refine (HG0.out.at_ ?_).mono ?_); (go_split_ands; assumption); rintro e w' ⟨t0, rfl, ht0, hb⟩; have hz0 : t0.size ≤ 1099511627776 := (by rw [size_of ht0.out]; exact hK)) | (go_at_call 70; (with_reducible refine (HG1.out.at_ ?_).mono ?_); (go_split_ands; assumption); rintro e w' ⟨t1, rfl, ht1, hb⟩; have hz1 : t1.size ≤ 1099511627776 := (by rw [size_of ht1.out]; exact hL); have hr0 := no_far (n := t0.size + t1.size) (m := 4398046511104) (by omega) (by omega)))
  rename_i hH
  have hbel : Below W.heap.size W _ := hH.2.2.2.2.2.2.2.2
  have HB := Lib.hid (below_next Hb0.out hbel)
  clear hH hS0 hbel
  go_wp2_with fail
  go_ret
  refine retStr ?_ HB.out
  rw [← ht0.out, ← ht1.out]
  simp
set_option maxRecDepth 10000 in
set_option maxHeartbeats 4000000 in
theorem expr_binary (o a l : Int) (s : ByteArray) (g off c : Nat) (c00 c01 c02 c03 c04 c05 c10 c11 c12 c13 c14 c15 : Value) (w : World) (L K M : Bytes) (hL : L.length ≤ 1099511627776) (hK : K.length ≤ 1099511627776) (hM : M.length ≤ 1099511627776) (e00 : w.cell? ⟨g, off, none⟩ = some c00) (e01 : w.cell? ⟨g, off + 1, none⟩ = some c01) (e02 : w.cell? ⟨g, off + 2, none⟩ = some c02) (e03 : w.cell? ⟨g, off + 3, none⟩ = some c03) (e04 : w.cell? ⟨g, off + 4, none⟩ = some c04) (e05 : w.cell? ⟨g, off + 5, none⟩ = some c05) (e10 : w.cell? ⟨g, off + 6, none⟩ = some c10) (e11 : w.cell? ⟨g, off + 7, none⟩ = some c11) (e12 : w.cell? ⟨g, off + 8, none⟩ = some c12) (e13 : w.cell? ⟨g, off + 9, none⟩ = some c13) (e14 : w.cell? ⟨g, off + 10, none⟩ = some c14) (e15 : w.cell? ⟨g, off + 11, none⟩ = some c15) (hG0 : Gives 70 #[.agg #[c00, c01, c02, c03, c04, c05]] L w) (hG1 : Gives 69 #[.int .i64 o] K w) (hG2 : Gives 70 #[.agg #[c10, c11, c12, c13, c14, c15]] M w) :
    Calls Tryz.prog 54 #[.agg #[.int .i64 6, .int .i64 o, .int .i64 a, .int .i64 l, .string s, .slice (some ⟨g, off, none⟩) 2 c]] w (RetStr (L ++ 32 :: (K ++ 32 :: M)) w) := by
  have hb0 := (Below.refl _ w).alloc (Nat.le_refl _) (.cells #[.int .i64 6, .int .i64 o, .int .i64 a, .int .i64 l, .string s, .slice (some ⟨g, off, none⟩) 2 c] 90)
  have Hb0 := Lib.hid hb0
  have HG0 := Lib.hid (hG0.next hb0)
  have HG1 := Lib.hid (hG1.next hb0)
  have HG2 := Lib.hid (hG2.next hb0)
  have d00 := hold hb0 e00
  have d01 := hold hb0 e01
  have d02 := hold hb0 e02
  have d03 := hold hb0 e03
  have d04 := hold hb0 e04
  have d05 := hold hb0 e05
  have d10 := hold hb0 e10
  have d11 := hold hb0 e11
  have d12 := hold hb0 e12
  have d13 := hold hb0 e13
  have d14 := hold hb0 e14
  have d15 := hold hb0 e15
  have f1 : (w.alloc (.cells #[.int .i64 6, .int .i64 o, .int .i64 a, .int .i64 l, .string s, .slice (some ⟨g, off, none⟩) 2 c] 90)).cell? ⟨w.heap.size, 1, none⟩ = some (.int .i64 o) := by rw [cell_of_row _ _ _ _ _ _ (heap_alloc_new w _)]; rfl
  have f5 : (w.alloc (.cells #[.int .i64 6, .int .i64 o, .int .i64 a, .int .i64 l, .string s, .slice (some ⟨g, off, none⟩) 2 c] 90)).cell? ⟨w.heap.size, 5, none⟩ = some (.slice (some ⟨g, off, none⟩) 2 c) := by rw [cell_of_row _ _ _ _ _ _ (heap_alloc_new w _)]; rfl
  clear hb0 hG0 hG1 hG2 e00 e01 e02 e03 e04 e05 e10 e11 e12 e13 e14 e15
  go_enter Tryz.func54, Tryz.ntmps54
  go_wp2_with fail
  generalize w.alloc (.cells #[.int .i64 6, .int .i64 o, .int .i64 a, .int .i64 l, .string s, .slice (some ⟨g, off, none⟩) 2 c] 90) = W at *
  have hS0 : W.drew.cell? ⟨w.heap.size, 1, none⟩ = some (.int .i64 o) ∧ W.drew.cell? ⟨w.heap.size, 5, none⟩ = some (.slice (some ⟨g, off, none⟩) 2 c) ∧ W.drew.cell? ⟨g, off, none⟩ = some (c00) ∧ W.drew.cell? ⟨g, off + 1, none⟩ = some (c01) ∧ W.drew.cell? ⟨g, off + 2, none⟩ = some (c02) ∧ W.drew.cell? ⟨g, off + 3, none⟩ = some (c03) ∧ W.drew.cell? ⟨g, off + 4, none⟩ = some (c04) ∧ W.drew.cell? ⟨g, off + 5, none⟩ = some (c05) ∧ W.drew.cell? ⟨g, off + 6, none⟩ = some (c10) ∧ W.drew.cell? ⟨g, off + 7, none⟩ = some (c11) ∧ W.drew.cell? ⟨g, off + 8, none⟩ = some (c12) ∧ W.drew.cell? ⟨g, off + 9, none⟩ = some (c13) ∧ W.drew.cell? ⟨g, off + 10, none⟩ = some (c14) ∧ W.drew.cell? ⟨g, off + 11, none⟩ = some (c15) ∧ Below W.heap.size W W.drew := ⟨f1, f5, d00, d01, d02, d03, d04, d05, d10, d11, d12, d13, d14, d15, (Below.refl _ W).drew⟩
  go_region_held3 (fun w' => w'.cell? ⟨w.heap.size, 1, none⟩ = some (.int .i64 o) ∧ w'.cell? ⟨w.heap.size, 5, none⟩ = some (.slice (some ⟨g, off, none⟩) 2 c) ∧ w'.cell? ⟨g, off, none⟩ = some (c00) ∧ w'.cell? ⟨g, off + 1, none⟩ = some (c01) ∧ w'.cell? ⟨g, off + 2, none⟩ = some (c02) ∧ w'.cell? ⟨g, off + 3, none⟩ = some (c03) ∧ w'.cell? ⟨g, off + 4, none⟩ = some (c04) ∧ w'.cell? ⟨g, off + 5, none⟩ = some (c05) ∧ w'.cell? ⟨g, off + 6, none⟩ = some (c10) ∧ w'.cell? ⟨g, off + 7, none⟩ = some (c11) ∧ w'.cell? ⟨g, off + 8, none⟩ = some (c12) ∧ w'.cell? ⟨g, off + 9, none⟩ = some (c13) ∧ w'.cell? ⟨g, off + 10, none⟩ = some (c14) ∧ w'.cell? ⟨g, off + 11, none⟩ = some (c15) ∧ Below W.heap.size W w')
    (first | exact hS0 | (go_split_ands; exact ⟨hold hb (by assumption), hold hb (by assumption), hold hb (by assumption), hold hb (by assumption), hold hb (by assumption), hold hb (by assumption), hold hb (by assumption), hold hb (by assumption), hold hb (by assumption), hold hb (by assumption), hold hb (by assumption), hold hb (by assumption), hold hb (by assumption), hold hb (by assumption), below_next (by assumption) hb⟩))
    (first | (go_at_call 70; (with_reducible refine (HG0.out.at_ ?_).mono ?_); (go_split_ands; assumption); rintro e w' ⟨t0, rfl, ht0, hb⟩; have hz0 : t0.size ≤ 1099511627776 := (by rw [size_of ht0.out]; exact hL); have hr0 := no_far (n := t0.size + 1) (m := 4398046511104) (by omega) (by omega)) | (go_at_call 69; (with_reducible refine (HG1.out.at_ ?_).mono ?_); (go_split_ands; assumption); rintro e w' ⟨t1, rfl, ht1, hb⟩; have hz1 : t1.size ≤ 1099511627776 := (by rw [size_of ht1.out]; exact hK); have hr1 := no_far (n := t0.size + 1 + t1.size) (m := 4398046511104) (by omega) (by omega); have hr2 := no_far (n := t0.size + 1 + t1.size + 1) (m := 4398046511104) (by omega) (by omega)) | (go_at_call 70; (with_reducible refine (HG2.out.at_ ?_).mono ?_); (go_split_ands; assumption); rintro e w' ⟨t2, rfl, ht2, hb⟩; have hz2 : t2.size ≤ 1099511627776 := (by rw [size_of ht2.out]; exact hM); have hr3 := no_far (n := t0.size + 1 + t1.size + 1 + t2.size) (m := 4398046511104) (by omega) (by omega)))
  rename_i hH
  have hbel : Below W.heap.size W _ := hH.2.2.2.2.2.2.2.2.2.2.2.2.2.2
  have HB := Lib.hid (below_next Hb0.out hbel)
  clear hH hS0 hbel
  go_wp2_with fail
  go_ret
  refine retStr ?_ HB.out
  rw [← ht0.out, ← ht1.out, ← ht2.out]
  simp
set_option maxRecDepth 10000 in
set_option maxHeartbeats 4000000 in
theorem expr_and (o a l : Int) (s : ByteArray) (g off c : Nat) (c00 c01 c02 c03 c04 c05 c10 c11 c12 c13 c14 c15 : Value) (w : World) (L M : Bytes) (hL : L.length ≤ 1099511627776) (hM : M.length ≤ 1099511627776) (e00 : w.cell? ⟨g, off, none⟩ = some c00) (e01 : w.cell? ⟨g, off + 1, none⟩ = some c01) (e02 : w.cell? ⟨g, off + 2, none⟩ = some c02) (e03 : w.cell? ⟨g, off + 3, none⟩ = some c03) (e04 : w.cell? ⟨g, off + 4, none⟩ = some c04) (e05 : w.cell? ⟨g, off + 5, none⟩ = some c05) (e10 : w.cell? ⟨g, off + 6, none⟩ = some c10) (e11 : w.cell? ⟨g, off + 7, none⟩ = some c11) (e12 : w.cell? ⟨g, off + 8, none⟩ = some c12) (e13 : w.cell? ⟨g, off + 9, none⟩ = some c13) (e14 : w.cell? ⟨g, off + 10, none⟩ = some c14) (e15 : w.cell? ⟨g, off + 11, none⟩ = some c15) (hG0 : Gives 70 #[.agg #[c00, c01, c02, c03, c04, c05]] L w) (hG1 : Gives 70 #[.agg #[c10, c11, c12, c13, c14, c15]] M w) :
    Calls Tryz.prog 54 #[.agg #[.int .i64 7, .int .i64 o, .int .i64 a, .int .i64 l, .string s, .slice (some ⟨g, off, none⟩) 2 c]] w (RetStr (L ++ [32, 38, 38, 32] ++ M) w) := by
  have hb0 := (Below.refl _ w).alloc (Nat.le_refl _) (.cells #[.int .i64 7, .int .i64 o, .int .i64 a, .int .i64 l, .string s, .slice (some ⟨g, off, none⟩) 2 c] 90)
  have Hb0 := Lib.hid hb0
  have HG0 := Lib.hid (hG0.next hb0)
  have HG1 := Lib.hid (hG1.next hb0)
  have d00 := hold hb0 e00
  have d01 := hold hb0 e01
  have d02 := hold hb0 e02
  have d03 := hold hb0 e03
  have d04 := hold hb0 e04
  have d05 := hold hb0 e05
  have d10 := hold hb0 e10
  have d11 := hold hb0 e11
  have d12 := hold hb0 e12
  have d13 := hold hb0 e13
  have d14 := hold hb0 e14
  have d15 := hold hb0 e15
  have f5 : (w.alloc (.cells #[.int .i64 7, .int .i64 o, .int .i64 a, .int .i64 l, .string s, .slice (some ⟨g, off, none⟩) 2 c] 90)).cell? ⟨w.heap.size, 5, none⟩ = some (.slice (some ⟨g, off, none⟩) 2 c) := by rw [cell_of_row _ _ _ _ _ _ (heap_alloc_new w _)]; rfl
  clear hb0 hG0 hG1 e00 e01 e02 e03 e04 e05 e10 e11 e12 e13 e14 e15
  go_enter Tryz.func54, Tryz.ntmps54
  go_wp2_with fail
  generalize w.alloc (.cells #[.int .i64 7, .int .i64 o, .int .i64 a, .int .i64 l, .string s, .slice (some ⟨g, off, none⟩) 2 c] 90) = W at *
  have hS0 : W.drew.cell? ⟨w.heap.size, 5, none⟩ = some (.slice (some ⟨g, off, none⟩) 2 c) ∧ W.drew.cell? ⟨g, off, none⟩ = some (c00) ∧ W.drew.cell? ⟨g, off + 1, none⟩ = some (c01) ∧ W.drew.cell? ⟨g, off + 2, none⟩ = some (c02) ∧ W.drew.cell? ⟨g, off + 3, none⟩ = some (c03) ∧ W.drew.cell? ⟨g, off + 4, none⟩ = some (c04) ∧ W.drew.cell? ⟨g, off + 5, none⟩ = some (c05) ∧ W.drew.cell? ⟨g, off + 6, none⟩ = some (c10) ∧ W.drew.cell? ⟨g, off + 7, none⟩ = some (c11) ∧ W.drew.cell? ⟨g, off + 8, none⟩ = some (c12) ∧ W.drew.cell? ⟨g, off + 9, none⟩ = some (c13) ∧ W.drew.cell? ⟨g, off + 10, none⟩ = some (c14) ∧ W.drew.cell? ⟨g, off + 11, none⟩ = some (c15) ∧ Below W.heap.size W W.drew := ⟨f5, d00, d01, d02, d03, d04, d05, d10, d11, d12, d13, d14, d15, (Below.refl _ W).drew⟩
  go_region_held3 (fun w' => w'.cell? ⟨w.heap.size, 5, none⟩ = some (.slice (some ⟨g, off, none⟩) 2 c) ∧ w'.cell? ⟨g, off, none⟩ = some (c00) ∧ w'.cell? ⟨g, off + 1, none⟩ = some (c01) ∧ w'.cell? ⟨g, off + 2, none⟩ = some (c02) ∧ w'.cell? ⟨g, off + 3, none⟩ = some (c03) ∧ w'.cell? ⟨g, off + 4, none⟩ = some (c04) ∧ w'.cell? ⟨g, off + 5, none⟩ = some (c05) ∧ w'.cell? ⟨g, off + 6, none⟩ = some (c10) ∧ w'.cell? ⟨g, off + 7, none⟩ = some (c11) ∧ w'.cell? ⟨g, off + 8, none⟩ = some (c12) ∧ w'.cell? ⟨g, off + 9, none⟩ = some (c13) ∧ w'.cell? ⟨g, off + 10, none⟩ = some (c14) ∧ w'.cell? ⟨g, off + 11, none⟩ = some (c15) ∧ Below W.heap.size W w')
    (first | exact hS0 | (go_split_ands; exact ⟨hold hb (by assumption), hold hb (by assumption), hold hb (by assumption), hold hb (by assumption), hold hb (by assumption), hold hb (by assumption), hold hb (by assumption), hold hb (by assumption), hold hb (by assumption), hold hb (by assumption), hold hb (by assumption), hold hb (by assumption), hold hb (by assumption), below_next (by assumption) hb⟩))
    (first | (go_at_call 70; (with_reducible refine (HG0.out.at_ ?_).mono ?_); (go_split_ands; assumption); rintro e w' ⟨t0, rfl, ht0, hb⟩; have hz0 : t0.size ≤ 1099511627776 := (by rw [size_of ht0.out]; exact hL); have hr0 := no_far (n := t0.size + 4) (m := 4398046511104) (by omega) (by omega)) | (go_at_call 70; (with_reducible refine (HG1.out.at_ ?_).mono ?_); (go_split_ands; assumption); rintro e w' ⟨t1, rfl, ht1, hb⟩; have hz1 : t1.size ≤ 1099511627776 := (by rw [size_of ht1.out]; exact hM); have hr1 := no_far (n := t0.size + 4 + t1.size) (m := 4398046511104) (by omega) (by omega)))
  rename_i hH
  have hbel : Below W.heap.size W _ := hH.2.2.2.2.2.2.2.2.2.2.2.2.2
  have HB := Lib.hid (below_next Hb0.out hbel)
  clear hH hS0 hbel
  go_wp2_with fail
  go_ret
  refine retStr ?_ HB.out
  rw [← ht0.out, ← ht1.out]
  simp
set_option maxRecDepth 10000 in
set_option maxHeartbeats 4000000 in
theorem expr_or (o a l : Int) (s : ByteArray) (g off c : Nat) (c00 c01 c02 c03 c04 c05 c10 c11 c12 c13 c14 c15 : Value) (w : World) (L M : Bytes) (hL : L.length ≤ 1099511627776) (hM : M.length ≤ 1099511627776) (e00 : w.cell? ⟨g, off, none⟩ = some c00) (e01 : w.cell? ⟨g, off + 1, none⟩ = some c01) (e02 : w.cell? ⟨g, off + 2, none⟩ = some c02) (e03 : w.cell? ⟨g, off + 3, none⟩ = some c03) (e04 : w.cell? ⟨g, off + 4, none⟩ = some c04) (e05 : w.cell? ⟨g, off + 5, none⟩ = some c05) (e10 : w.cell? ⟨g, off + 6, none⟩ = some c10) (e11 : w.cell? ⟨g, off + 7, none⟩ = some c11) (e12 : w.cell? ⟨g, off + 8, none⟩ = some c12) (e13 : w.cell? ⟨g, off + 9, none⟩ = some c13) (e14 : w.cell? ⟨g, off + 10, none⟩ = some c14) (e15 : w.cell? ⟨g, off + 11, none⟩ = some c15) (hG0 : Gives 70 #[.agg #[c00, c01, c02, c03, c04, c05]] L w) (hG1 : Gives 70 #[.agg #[c10, c11, c12, c13, c14, c15]] M w) :
    Calls Tryz.prog 54 #[.agg #[.int .i64 8, .int .i64 o, .int .i64 a, .int .i64 l, .string s, .slice (some ⟨g, off, none⟩) 2 c]] w (RetStr (L ++ [32, 124, 124, 32] ++ M) w) := by
  have hb0 := (Below.refl _ w).alloc (Nat.le_refl _) (.cells #[.int .i64 8, .int .i64 o, .int .i64 a, .int .i64 l, .string s, .slice (some ⟨g, off, none⟩) 2 c] 90)
  have Hb0 := Lib.hid hb0
  have HG0 := Lib.hid (hG0.next hb0)
  have HG1 := Lib.hid (hG1.next hb0)
  have d00 := hold hb0 e00
  have d01 := hold hb0 e01
  have d02 := hold hb0 e02
  have d03 := hold hb0 e03
  have d04 := hold hb0 e04
  have d05 := hold hb0 e05
  have d10 := hold hb0 e10
  have d11 := hold hb0 e11
  have d12 := hold hb0 e12
  have d13 := hold hb0 e13
  have d14 := hold hb0 e14
  have d15 := hold hb0 e15
  have f5 : (w.alloc (.cells #[.int .i64 8, .int .i64 o, .int .i64 a, .int .i64 l, .string s, .slice (some ⟨g, off, none⟩) 2 c] 90)).cell? ⟨w.heap.size, 5, none⟩ = some (.slice (some ⟨g, off, none⟩) 2 c) := by rw [cell_of_row _ _ _ _ _ _ (heap_alloc_new w _)]; rfl
  clear hb0 hG0 hG1 e00 e01 e02 e03 e04 e05 e10 e11 e12 e13 e14 e15
  go_enter Tryz.func54, Tryz.ntmps54
  go_wp2_with fail
  generalize w.alloc (.cells #[.int .i64 8, .int .i64 o, .int .i64 a, .int .i64 l, .string s, .slice (some ⟨g, off, none⟩) 2 c] 90) = W at *
  have hS0 : W.drew.cell? ⟨w.heap.size, 5, none⟩ = some (.slice (some ⟨g, off, none⟩) 2 c) ∧ W.drew.cell? ⟨g, off, none⟩ = some (c00) ∧ W.drew.cell? ⟨g, off + 1, none⟩ = some (c01) ∧ W.drew.cell? ⟨g, off + 2, none⟩ = some (c02) ∧ W.drew.cell? ⟨g, off + 3, none⟩ = some (c03) ∧ W.drew.cell? ⟨g, off + 4, none⟩ = some (c04) ∧ W.drew.cell? ⟨g, off + 5, none⟩ = some (c05) ∧ W.drew.cell? ⟨g, off + 6, none⟩ = some (c10) ∧ W.drew.cell? ⟨g, off + 7, none⟩ = some (c11) ∧ W.drew.cell? ⟨g, off + 8, none⟩ = some (c12) ∧ W.drew.cell? ⟨g, off + 9, none⟩ = some (c13) ∧ W.drew.cell? ⟨g, off + 10, none⟩ = some (c14) ∧ W.drew.cell? ⟨g, off + 11, none⟩ = some (c15) ∧ Below W.heap.size W W.drew := ⟨f5, d00, d01, d02, d03, d04, d05, d10, d11, d12, d13, d14, d15, (Below.refl _ W).drew⟩
  go_region_held3 (fun w' => w'.cell? ⟨w.heap.size, 5, none⟩ = some (.slice (some ⟨g, off, none⟩) 2 c) ∧ w'.cell? ⟨g, off, none⟩ = some (c00) ∧ w'.cell? ⟨g, off + 1, none⟩ = some (c01) ∧ w'.cell? ⟨g, off + 2, none⟩ = some (c02) ∧ w'.cell? ⟨g, off + 3, none⟩ = some (c03) ∧ w'.cell? ⟨g, off + 4, none⟩ = some (c04) ∧ w'.cell? ⟨g, off + 5, none⟩ = some (c05) ∧ w'.cell? ⟨g, off + 6, none⟩ = some (c10) ∧ w'.cell? ⟨g, off + 7, none⟩ = some (c11) ∧ w'.cell? ⟨g, off + 8, none⟩ = some (c12) ∧ w'.cell? ⟨g, off + 9, none⟩ = some (c13) ∧ w'.cell? ⟨g, off + 10, none⟩ = some (c14) ∧ w'.cell? ⟨g, off + 11, none⟩ = some (c15) ∧ Below W.heap.size W w')
    (first | exact hS0 | (go_split_ands; exact ⟨hold hb (by assumption), hold hb (by assumption), hold hb (by assumption), hold hb (by assumption), hold hb (by assumption), hold hb (by assumption), hold hb (by assumption), hold hb (by assumption), hold hb (by assumption), hold hb (by assumption), hold hb (by assumption), hold hb (by assumption), hold hb (by assumption), below_next (by assumption) hb⟩))
    (first | (go_at_call 70; (with_reducible refine (HG0.out.at_ ?_).mono ?_); (go_split_ands; assumption); rintro e w' ⟨t0, rfl, ht0, hb⟩; have hz0 : t0.size ≤ 1099511627776 := (by rw [size_of ht0.out]; exact hL); have hr0 := no_far (n := t0.size + 4) (m := 4398046511104) (by omega) (by omega)) | (go_at_call 70; (with_reducible refine (HG1.out.at_ ?_).mono ?_); (go_split_ands; assumption); rintro e w' ⟨t1, rfl, ht1, hb⟩; have hz1 : t1.size ≤ 1099511627776 := (by rw [size_of ht1.out]; exact hM); have hr1 := no_far (n := t0.size + 4 + t1.size) (m := 4398046511104) (by omega) (by omega)))
  rename_i hH
  have hbel : Below W.heap.size W _ := hH.2.2.2.2.2.2.2.2.2.2.2.2.2
  have HB := Lib.hid (below_next Hb0.out hbel)
  clear hH hS0 hbel
  go_wp2_with fail
  go_ret
  refine retStr ?_ HB.out
  rw [← ht0.out, ← ht1.out]
  simp
set_option maxRecDepth 10000 in
set_option maxHeartbeats 4000000 in
theorem expr_call (o a l : Int) (s : ByteArray) (A : Option Addr) (n c : Nat) (w : World) (L : Bytes) (hs : s.size ≤ 1000) (hL : L.length ≤ 1099511627776)  (hG0 : Gives 71 #[.slice A n c] L w) :
    Calls Tryz.prog 54 #[.agg #[.int .i64 9, .int .i64 o, .int .i64 a, .int .i64 l, .string s, .slice A n c]] w (RetStr (s.data.toList ++ L) w) := by
  have hb0 := (Below.refl _ w).alloc (Nat.le_refl _) (.cells #[.int .i64 9, .int .i64 o, .int .i64 a, .int .i64 l, .string s, .slice A n c] 90)
  have Hb0 := Lib.hid hb0
  have HG0 := Lib.hid (hG0.next hb0)
  have f4 : (w.alloc (.cells #[.int .i64 9, .int .i64 o, .int .i64 a, .int .i64 l, .string s, .slice A n c] 90)).cell? ⟨w.heap.size, 4, none⟩ = some (.string s) := by rw [cell_of_row _ _ _ _ _ _ (heap_alloc_new w _)]; rfl
  have f5 : (w.alloc (.cells #[.int .i64 9, .int .i64 o, .int .i64 a, .int .i64 l, .string s, .slice A n c] 90)).cell? ⟨w.heap.size, 5, none⟩ = some (.slice A n c) := by rw [cell_of_row _ _ _ _ _ _ (heap_alloc_new w _)]; rfl
  clear hb0 hG0 
  go_enter Tryz.func54, Tryz.ntmps54
  go_wp2_with fail
  generalize w.alloc (.cells #[.int .i64 9, .int .i64 o, .int .i64 a, .int .i64 l, .string s, .slice A n c] 90) = W at *
  have hS0 : W.drew.cell? ⟨w.heap.size, 4, none⟩ = some (.string s) ∧ W.drew.cell? ⟨w.heap.size, 5, none⟩ = some (.slice A n c) ∧ Below W.heap.size W W.drew := ⟨f4, f5, (Below.refl _ W).drew⟩
  go_region_held3 (fun w' => w'.cell? ⟨w.heap.size, 4, none⟩ = some (.string s) ∧ w'.cell? ⟨w.heap.size, 5, none⟩ = some (.slice A n c) ∧ Below W.heap.size W w')
    (first | exact hS0 | (go_split_ands; exact ⟨hold hb (by assumption), hold hb (by assumption), below_next (by assumption) hb⟩))
    (first | (go_at_call 71; (with_reducible refine (HG0.out.at_ ?_).mono ?_); (go_split_ands; assumption); rintro e w' ⟨t0, rfl, ht0, hb⟩; have hz0 : t0.size ≤ 1099511627776 := (by rw [size_of ht0.out]; exact hL); have hr0 := no_far (n := s.size + t0.size) (m := 4398046511104) (by omega) (by omega)))
  rename_i hH
  have hbel : Below W.heap.size W _ := hH.2.2
  have HB := Lib.hid (below_next Hb0.out hbel)
  clear hH hS0 hbel
  go_wp2_with fail
  go_ret
  refine retStr ?_ HB.out
  rw [← ht0.out]
  simp
end Go.Proofs.YtifabkoomojklaaGreatDoor
