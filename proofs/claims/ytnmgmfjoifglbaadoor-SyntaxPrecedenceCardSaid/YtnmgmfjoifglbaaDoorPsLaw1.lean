/-
  SyntaxPrecedence: its calls: ParseExpr at a text whose tree is known, SameExpr, awake. Condition: the library's two errors lie where they were laid.
-/
import Derived.Test.YtnmgmfjoifglbaaDoorPsSame
import Derived.Test.YtnmgmfjoifglbaaDoorPsPrec
namespace Go.Proofs.YtnmgmfjoifglbaaDoor
open Go.RowKit

/-- ParseExpr's answer with the error e0; where it is none, the tree is x. -/
def PG (e0 : Int) (x : Ex) (w : World) (e : Ending) (w' : World) : Prop := ∃ ln k o a l nm A n c, e = .returned (.tuple #[.agg #[.int .i64 k, .int .i64 o, .int .i64 a, .int .i64 l, .string nm, .slice A n c], .int .i64 ln, .int .i64 e0]) ∧ Hid (e0 = 0 → ∃ d, ExV (fun q => w.heap.size ≤ q ∧ q < w'.heap.size) w' d x (.agg #[.int .i64 k, .int .i64 o, .int .i64 a, .int .i64 l, .string nm, .slice A n c])) ∧ Below w.heap.size w w'
theorem good_pg {L : Bytes} {x : Ex} (h : Good L x) (S : ByteArray) (w : World) (hS : S.data.toList = L) (hL : L.length ≤ 65536) (he : Errs w) : Calls Tryd.prog 5 #[.string S] w (PG 0 x w) := by
  obtain ⟨ts, s, h1, h2, h3, h4, h5⟩ := h
  have hsz : S.size = L.length := by rw [← hS]; simp
  refine (parse_ok S w (by omega) he ts 3 x s (by rw [hS]; exact h1) h2 h3 h4 h5).mono ?_
  rintro e w' ⟨d, k, o, a, l, nm, A, n, c, rfl, hx, hb⟩
  exact ⟨0, k, o, a, l, nm, A, n, c, rfl, Lib.hid (fun _ => ⟨d, hx.out⟩), hb⟩
theorem bad_pg {L : Bytes} {N : Nat} (x : Ex) (h : Bad L N) (S : ByteArray) (w : World) (hS : S.data.toList = L) (hL : L.length ≤ 65536) (he : Errs w) : Calls Tryd.prog 5 #[.string S] w (PG 7 x w) := by
  obtain ⟨ts, y, s, h1, h2, h3, h4⟩ := h
  have hsz : S.size = L.length := by rw [← hS]; simp
  refine (parse_bad S w (by omega) he ts 3 y s (by rw [hS]; exact h1) h2 N h3 h4).mono ?_
  rintro e w' ⟨rfl, hb⟩
  exact ⟨N, _, _, _, _, _, _, _, _, rfl, Lib.hid (fun h => by cases h), hb⟩
set_option maxRecDepth 100000 in
set_option maxHeartbeats 2000000 in
theorem sameExpr_any {F G : Nat → Prop} (w : World) (dl dr : Nat) (l r : Ex) (k1 o1 a1 l1 k2 o2 a2 l2 : Int) (s1 s2 : ByteArray) (A1 A2 : Option Addr) (n1 c1 n2 c2 : Nat) (b : Bool)
    (hl : ExV F w dl l (.agg #[.int .i64 k1, .int .i64 o1, .int .i64 a1, .int .i64 l1, .string s1, .slice A1 n1 c1])) (hr : ExV G w dr r (.agg #[.int .i64 k2, .int .i64 o2, .int .i64 a2, .int .i64 l2, .string s2, .slice A2 n2 c2])) (hF : ∀ q, F q → q < w.heap.size) (hG : ∀ q, G q → q < w.heap.size) (sl : smB 4 [l] = true) (sr : smB 4 [r] = true) (hb : eqX false 4 [l] [r] = b) :
    Calls Tryd.prog 6 #[.agg #[.int .i64 k1, .int .i64 o1, .int .i64 a1, .int .i64 l1, .string s1, .slice A1 n1 c1], .agg #[.int .i64 k2, .int .i64 o2, .int .i64 a2, .int .i64 l2, .string s2, .slice A2 n2 c2]] w (RetG b w) := by
  obtain ⟨C1, hC1⟩ : ∃ C : Array Value, C = #[.int .i64 k1, .int .i64 o1, .int .i64 a1, .int .i64 l1, .string s1, .slice A1 n1 c1] := ⟨_, rfl⟩
  obtain ⟨C2, hC2⟩ : ∃ C : Array Value, C = #[.int .i64 k2, .int .i64 o2, .int .i64 a2, .int .i64 l2, .string s2, .slice A2 n2 c2] := ⟨_, rfl⟩
  have hb1 := (Below.refl _ w).alloc (Nat.le_refl _) (.cells C1 27)
  have hb2 := hb1.alloc (by simp) (.cells C2 27)
  have hb3 := hb2.alloc (by simp; omega) (.cells C1 27)
  have hb4 := hb3.alloc (by simp; omega) (.cells C2 27)
  have r1 := alloc2_old ((w.alloc (.cells C1 27)).alloc (.cells C2 27)) (.cells C1 27) (.cells C2 27)
  have r2 := alloc2_new ((w.alloc (.cells C1 27)).alloc (.cells C2 27)) (.cells C1 27) (.cells C2 27)
  have q1 := alloc2_old w (.cells C1 27) (.cells C2 27)
  have q2 := alloc2_new w (.cells C1 27) (.cells C2 27)
  have hs : ((w.alloc (.cells C1 27)).alloc (.cells C2 27)).heap.size = w.heap.size + 1 + 1 := by simp
  have q3 := (((Below.refl _ ((w.alloc (.cells C1 27)).alloc (.cells C2 27))).alloc (Nat.le_refl _) (.cells C1 27)).block (w.heap.size + 1) (by simp)).trans q2
  rw [hs] at r1 r2
  subst hC1 hC2
  have hrowl := row_one (G := fun _ => True) (d := dl + (4 + dr)) (hl.mono (4 + dr)) (fun _ _ => trivial) (fun k hk => hb4.block k (hF k hk)) trivial r1
  have hrowr := row_one (G := fun _ => True) (d := dr + (4 + dl)) (hr.mono (4 + dl)) (fun _ _ => trivial) (fun k hk => hb4.block k (hG k hk)) trivial r2
  rw [show dl + (4 + dr) = 4 + (dl + dr) from by omega] at hrowl
  rw [show dr + (4 + dl) = 4 + (dl + dr) from by omega] at hrowr
  have HX := Lib.hid (exprs_any false (4 + (dl + dr)) [l] [r] _ _ 1 1 1 1 _ _ _ rfl rfl hrowl hrowr (lenOk_more 4 _ _ sl) (lenOk_more 4 _ _ sr))
  rw [eqX_more 4 _ _ _ sl, hb] at HX
  have a0 := cell_of_row _ _ 0 _ _ _ q1
  have a1 := cell_of_row _ _ 1 _ _ _ q1
  have a2 := cell_of_row _ _ 2 _ _ _ q1
  have a3 := cell_of_row _ _ 3 _ _ _ q1
  have a4 := cell_of_row _ _ 4 _ _ _ q1
  have a5 := cell_of_row _ _ 5 _ _ _ q1
  have b0 := cell_of_row _ _ 0 _ _ _ q3
  have b1 := cell_of_row _ _ 1 _ _ _ q3
  have b2 := cell_of_row _ _ 2 _ _ _ q3
  have b3 := cell_of_row _ _ 3 _ _ _ q3
  have b4 := cell_of_row _ _ 4 _ _ _ q3
  have b5 := cell_of_row _ _ 5 _ _ _ q3
  have HB := Lib.hid hb4
  clear hb1 hb2 hb3 hb4 r1 r2 q1 q2 q3 hs hl hr hrowl hrowr hF hG sl sr hb
  go_enter Tryd.func6, Tryd.ntmps6
  go_wp2_with fail
  refine HX.out.mono ?_
  rintro e w1 ⟨rfl, q, rfl⟩
  go_wp2_with fail
  go_ret
  exact ⟨rfl, ⟨HB.out.os, HB.out.tape, HB.out.output, HB.out.size, HB.out.block⟩⟩
end Go.Proofs.YtnmgmfjoifglbaaDoor
