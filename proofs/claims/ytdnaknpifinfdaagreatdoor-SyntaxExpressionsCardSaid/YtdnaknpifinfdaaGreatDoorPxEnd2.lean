/-
  SyntaxExpressions: its calls and the law's walk. Condition: the library's two errors lie where they were laid.
-/
import Derived.Test.YtdnaknpifinfdaaGreatDoorPsSame
import Derived.Test.YtdnaknpifinfdaaGreatDoorPxAns
import Derived.Test.YtdnaknpifinfdaaGreatDoorPsLawA
import Derived.Laws.IdiomStrings
namespace Go.Proofs.YtdnaknpifinfdaaGreatDoor
open Go.RowKit

theorem below_gx {W a b : World} {g : Nat} (h : Below W.heap.size W a) (hg : a.grownBy b (some g)) (hW : W.heap.size ≤ g) : Below W.heap.size W b :=
  h.trans (grown_any hg (fun k hk => by injection hk with hk; omega) h.size)
theorem errs_gx {a b : World} {g : Nat} (h : Errs a) (hg : a.grownBy b (some g)) (h1 : 1 < g) (h2 : 2 < g) : Errs b :=
  h.grown hg (fun e => absurd (show g = 1 by injection e) (Nat.ne_of_gt h1)) (fun e => absurd (show g = 2 by injection e) (Nat.ne_of_gt h2))
theorem eqX_refl (ln : Bool) : ∀ (D : Nat) (xs : List Ex), eqX ln D xs xs = true := by
  intro D
  induction D with
  | zero => intro xs; simp [eqX]
  | succ D ih =>
    intro xs
    refine eqX_yes rfl (fun j x y hx hy => ?_)
    rw [hx] at hy
    injection hy with hy
    subst hy
    cases x
    simp [eq1, ih]
set_option maxRecDepth 100000 in
set_option maxHeartbeats 2000000 in
theorem equalExpr_any {F G : Nat → Prop} (w : World) (dl dr : Nat) (l : Ex) (k1 o1 a1 l1 k2 o2 a2 l2 : Int) (s1 s2 : ByteArray) (A1 A2 : Option Addr) (n1 c1 n2 c2 : Nat)
    (hl : ExV F w dl l (.agg #[.int .i64 k1, .int .i64 o1, .int .i64 a1, .int .i64 l1, .string s1, .slice A1 n1 c1])) (hr : ExV G w dr l (.agg #[.int .i64 k2, .int .i64 o2, .int .i64 a2, .int .i64 l2, .string s2, .slice A2 n2 c2])) (hF : ∀ q, F q → q < w.heap.size) (hG : ∀ q, G q → q < w.heap.size) (sl : Small l) :
    Calls Tryz.prog 10 #[.agg #[.int .i64 k1, .int .i64 o1, .int .i64 a1, .int .i64 l1, .string s1, .slice A1 n1 c1], .agg #[.int .i64 k2, .int .i64 o2, .int .i64 a2, .int .i64 l2, .string s2, .slice A2 n2 c2]] w (RetG true w) := by
  obtain ⟨C1, hC1⟩ : ∃ C : Array Value, C = #[.int .i64 k1, .int .i64 o1, .int .i64 a1, .int .i64 l1, .string s1, .slice A1 n1 c1] := ⟨_, rfl⟩
  obtain ⟨C2, hC2⟩ : ∃ C : Array Value, C = #[.int .i64 k2, .int .i64 o2, .int .i64 a2, .int .i64 l2, .string s2, .slice A2 n2 c2] := ⟨_, rfl⟩
  have hb1 := (Below.refl _ w).alloc (Nat.le_refl _) (.cells C1 31)
  have hb2 := hb1.alloc (by simp) (.cells C2 31)
  have hb3 := hb2.alloc (by simp; omega) (.cells C1 31)
  have hb4 := hb3.alloc (by simp; omega) (.cells C2 31)
  have r1 := alloc2_old ((w.alloc (.cells C1 31)).alloc (.cells C2 31)) (.cells C1 31) (.cells C2 31)
  have r2 := alloc2_new ((w.alloc (.cells C1 31)).alloc (.cells C2 31)) (.cells C1 31) (.cells C2 31)
  have q1 := alloc2_old w (.cells C1 31) (.cells C2 31)
  have q2 := alloc2_new w (.cells C1 31) (.cells C2 31)
  have hs : ((w.alloc (.cells C1 31)).alloc (.cells C2 31)).heap.size = w.heap.size + 1 + 1 := by simp
  have q3 := (((Below.refl _ ((w.alloc (.cells C1 31)).alloc (.cells C2 31))).alloc (Nat.le_refl _) (.cells C1 31)).block (w.heap.size + 1) (by simp)).trans q2
  rw [hs] at r1 r2
  subst hC1 hC2
  have hrowl := row_one (G := fun _ => True) (d := dl + dr) (hl.mono dr) (fun _ _ => trivial) (fun k hk => hb4.block k (hF k hk)) trivial r1
  have hrowr := row_one (G := fun _ => True) (d := dr + dl) (hr.mono dl) (fun _ _ => trivial) (fun k hk => hb4.block k (hG k hk)) trivial r2
  rw [Nat.add_comm dr dl] at hrowr
  have HX := Lib.hid (exprs_any true (dl + dr) [l] [l] _ _ 1 1 1 1 _ _ _ rfl rfl hrowl hrowr (sl _) (sl _))
  rw [eqX_refl] at HX
  have a0 := cell_of_row _ _ 0 _ _ _ q1
  have a1 := cell_of_row _ _ 1 _ _ _ q1
  have a2 := cell_of_row _ _ 2 _ _ _ q1
  have a3 := cell_of_row _ _ 3 _ _ _ q1
  have a4 := cell_of_row _ _ 4 _ _ _ q1
  have a5 := cell_of_row _ _ 5 _ _ _ q1
  have b0 := cell_of_row _ _ 0 _ _ _ q3
  have b1 := cell_of_row _ _ 1 _ _ _ q3
  have b2 := cell_of_row _ _ 2 _ _ _ q3
  have b3 := cell_of_row _ _ 3 _ _ _ q3
  have b4 := cell_of_row _ _ 4 _ _ _ q3
  have b5 := cell_of_row _ _ 5 _ _ _ q3
  have HB := Lib.hid hb4
  clear hb1 hb2 hb3 hb4 r1 r2 q1 q2 q3 hs hl hr hrowl hrowr hF hG sl
  go_enter Tryz.func10, Tryz.ntmps10
  go_wp2_with fail
  refine HX.out.mono ?_
  rintro e w1 ⟨rfl, q, rfl⟩
  go_wp2_with fail
  go_ret
  exact ⟨rfl, ⟨HB.out.os, HB.out.tape, HB.out.output, HB.out.size, HB.out.block⟩⟩
def piecesL : List ByteArray := [⟨#[49]⟩, ⟨#[120]⟩, ⟨#[102]⟩, ⟨#[40]⟩, ⟨#[41]⟩, ⟨#[91]⟩, ⟨#[93]⟩, ⟨#[43]⟩, ⟨#[45]⟩, ⟨#[42]⟩, ⟨#[47]⟩, ⟨#[37]⟩, ⟨#[60]⟩, ⟨#[60, 61]⟩, ⟨#[61, 61]⟩, ⟨#[33, 61]⟩, ⟨#[38, 38]⟩, ⟨#[124, 124]⟩, ⟨#[33]⟩, ⟨#[38]⟩, ⟨#[114, 101, 97, 100]⟩, ⟨#[44]⟩, ⟨#[48]⟩, ⟨#[10]⟩]
theorem piecesL_small : ∀ x ∈ piecesL, x.size ≤ 4 := by decide
/-- The pieces lie in a block of their own. -/
def WdsG (w : World) (e : Ending) (w' : World) : Prop := ∃ b, e = .returned (.slice (some ⟨b, 0, none⟩) 24 24) ∧ w.heap.size ≤ b ∧ (∀ k, k < 24 → ∃ x : ByteArray, x.size ≤ 4 ∧ w'.cell? ⟨b, k, none⟩ = some (.string x)) ∧ Below w.heap.size w w'
set_option maxRecDepth 100000 in
theorem wordsX_any (w : World) : Calls Tryz.prog 6 #[] w (WdsG w) := by
  go_enter Tryz.func6, Tryz.ntmps6
  go_wp2_with fail
  have hrow := srow_new w piecesL 9
  go_ret
  refine ⟨w.heap.size, rfl, Nat.le_refl _, fun k hk => ⟨piecesL[k]'hk, piecesL_small _ (List.getElem_mem _), hrow k _ (List.getElem?_eq_getElem _)⟩, (Below.refl _ w).alloc (Nat.le_refl _) _⟩
end Go.Proofs.YtdnaknpifinfdaaGreatDoor
namespace Go.Proofs.YtdnaknpifinfdaaGreatDoor
open Go.RowKit

set_option maxRecDepth 100000 in
theorem xs_far (A0 : Option Addr) (m c0 : Nat) (s : ByteArray) (w : World) (he : Errs w) (hs : 500 < s.size) (hs2 : s.size ≤ maxLen) :
    Calls Tryz.prog 3 #[.slice A0 m c0, .string s] w fun e w' => e = .returned (.bool true) ∧ Below w.heap.size w w' := by
  have ha := Lib.hid (awake_4 w he)
  unfold maxLen at hs2
  clear he
  go_enter Tryz.func3, Tryz.ntmps3
  go_wp2_with fail
  refine ha.out.mono ?_
  rintro e w1 ⟨rfl, hb1⟩
  have Hb1 := Lib.hid hb1
  clear ha hb1
  go_wp2_with fail
  go_ret
  exact ⟨rfl, Hb1.out⟩
/-- The text of pieces under way: j more are drawn. -/
structure PcL (w : World) (g bw : Nat) (cs : List Nat) (r j : Nat) (t : ByteArray) (wr : World) : Prop where
  le : j ≤ r
  sz : t.size ≤ 5 * (r - j)
  co : ∃ k, Codes wr g cs k
  wd : ∀ k, k < 24 → ∃ x : ByteArray, x.size ≤ 4 ∧ wr.cell? ⟨bw, k, none⟩ = some (.string x)
  er : Errs wr
  lo : Below w.heap.size w wr
set_option maxRecDepth 100000 in
set_option maxHeartbeats 4000000 in
theorem xs_near (A0 : Option Addr) (codes : List Nat) (m c0 : Nat) (s : ByteArray) (w : World) (he : Errs w) (hm : codes.length = m) (hmc : m ≤ c0) (hr : Rd w A0 (codes.map bv)) (hcs : ∀ x ∈ codes, x < 256) (hs : s.size ≤ 500) :
    Calls Tryz.prog 3 #[.slice A0 m c0, .string s] w fun e w' => e = .returned (.bool true) ∧ Below w.heap.size w w' := by
  have ha := Lib.hid (awake_4 w he)
  have He := Lib.hid he
  have Hm := Lib.hid hm
  have Hr := Lib.hid hr
  have Hcs := Lib.hid hcs
  have het := he.lt
  clear he hm hr hcs
  go_enter Tryz.func3, Tryz.ntmps3
  go_wp2_with fail
  refine ha.out.mono ?_
  rintro e w1 ⟨rfl, hb1⟩
  have hn := Lib.hid (new_any A0 codes m c0 60 w1 Hm.out hmc (Hr.out.below hb1) (by decide))
  have He1 := Lib.hid (He.out.below hb1)
  have Hb1 := Lib.hid hb1
  clear ha hb1 Hr Hm
  go_wp2_with fail
  refine hn.out.mono ?_
  rintro e w2 ⟨g, cs, rfl, hg, hlen, rfl, hc2, hb2⟩
  have Hcl : Hid (∀ x ∈ codes.take 60, x < 256) := Lib.hid (fun x hx => Hcs.out x (List.mem_of_mem_take hx))
  generalize codes.take 60 = cs at *
  have hgw : w.heap.size ≤ g := Nat.le_trans Hb1.out.size hg
  have hw := Lib.hid (wordsX_any w2)
  have He2 := Lib.hid (He1.out.below hb2)
  have Hb2 := Lib.hid (below_next Hb1.out hb2)
  have Hc2 := Lib.hid hc2
  clear hn hb2 hc2 Hcs He1 Hb1
  go_wp2_with fail
  refine hw.out.mono ?_
  rintro e w3 ⟨bw, rfl, hbw, hwd, hb3⟩
  have Hc3 := Lib.hid (codes_below Hc2.out hb3)
  have hx := Lib.hid (drawn_any g cs 0 14 w3 Hc3.out (by decide) (by omega) Hcl.out)
  have Hwd := Lib.hid hwd
  have He3 := Lib.hid (He2.out.below hb3)
  have Hb3 := Lib.hid (below_next Hb2.out hb3)
  have hgb : g < bw := Nat.lt_of_lt_of_le (codes_lt Hc2.out) hbw
  clear hw hwd hb3 He2 Hb2 Hc2 Hc3
  go_wp2_with fail
  refine hx.out.mono ?_
  rintro e w4 ⟨r4, k4, rfl, hr4, _, hc4, hg4⟩
  have hr14 : (r4 : Int) < 14 := hr4 (by decide)
  have HL : Hid (PcL w g bw cs r4 r4 ⟨#[]⟩ w4) := Lib.hid ⟨Nat.le_refl _, Nat.zero_le _, ⟨k4, hc4⟩, fun k hk => by
    obtain ⟨x, h1, h2⟩ := Hwd.out k hk
    exact ⟨x, h1, cell_grown hg4 (by omega) h2⟩, errs_gx He3.out hg4 (by omega) (by omega), below_gx Hb3.out hg4 hgw⟩
  clear hx hr4 hc4 hg4 Hwd He3 Hb3
  go_wp2_with fail
  go_loopw [7, 8] (fun u v wr => ∃ (j : Nat) (t : ByteArray), v = .int .i64 (j : Int) ∧ u = .string t ∧ PcL w g bw cs r4 j t wr) (fun _ v _ => (intOf v).toNat)
  case atStart => exact ⟨r4, _, rfl, rfl, HL.out⟩
  case round =>
    obtain ⟨j, t, rfl, rfl, hl⟩ := hrel
    have hz := hl.sz
    have hle := hl.le
    have HLr := Lib.hid hl
    obtain ⟨kc, hkc⟩ := hl.co
    clear hl
    by_cases hj : 0 < (j : Int)
    · have hN := Lib.hid (drawn_any g cs kc 24 wr hkc (by decide) (by omega) Hcl.out)
      clear hkc
      go_wp2_with fail
      refine hN.out.mono ?_
      rintro e w5 ⟨r5, k5, rfl, hr5, _, hc5, hg5⟩
      have hr52 : (r5 : Int) < 24 := hr5 (by decide)
      obtain ⟨x, hxz, hx5⟩ := HLr.out.wd r5 (by omega)
      have hx6 := cell_grown hg5 (by omega) hx5
      have HL5 : Hid (∀ t2 : ByteArray, t2.size ≤ 5 * (r4 - (j - 1)) → PcL w g bw cs r4 (j - 1) t2 w5) := Lib.hid (fun t2 ht2 => ⟨by omega, ht2, ⟨k5, hc5⟩, fun k hk => by
        obtain ⟨x, h1, h2⟩ := HLr.out.wd k hk
        exact ⟨x, h1, cell_grown hg5 (by omega) h2⟩, errs_gx HLr.out.er hg5 (by omega) (by omega), below_gx HLr.out.lo hg5 hgw⟩)
      clear hN hr5 hc5 hg5 hx5 HLr
      go_wp2_with fail
      have hj1 : (j : Int) - 1 = ((j - 1 : Nat) : Int) := by omega
      rw [hj1]
      exact ⟨⟨j - 1, _, rfl, rfl, HL5.out _ (by rw [ByteArray.size_append, ByteArray.size_append]; show t.size + (x.size + 1) ≤ 5 * (r4 - (j - 1)); omega)⟩, by simp [intOf]; omega⟩
    · have hj0 : j = 0 := by omega
      subst hj0
      have hz2 : t.size ≤ 65 := by omega
      clear hkc hz hle
      go_wp2_with fail
      have hb7 := (Below.refl _ wr).alloc (Nat.le_refl _) (.cells #[.string s, .string t, .string (⟨#[40]⟩ ++ t ++ ⟨#[41]⟩), .string (⟨#[120]⟩ ++ t), .string (⟨#[49, 32, 43, 32]⟩ ++ t), .string (t ++ ⟨#[32, 45, 32, 50]⟩)] 9)
      have hrow : (wr.alloc (.cells #[.string s, .string t, .string (⟨#[40]⟩ ++ t ++ ⟨#[41]⟩), .string (⟨#[120]⟩ ++ t), .string (⟨#[49, 32, 43, 32]⟩ ++ t), .string (t ++ ⟨#[32, 45, 32, 50]⟩)] 9)).heap[wr.heap.size]? = some (.cells #[.string s, .string t, .string (⟨#[40]⟩ ++ t ++ ⟨#[41]⟩), .string (⟨#[120]⟩ ++ t), .string (⟨#[49, 32, 43, 32]⟩ ++ t), .string (t ++ ⟨#[32, 45, 32, 50]⟩)] 9 (0, 0)) := heap_alloc_new wr _
      have Hrow : Hid (∀ k, k < 6 → ∃ x : ByteArray, x.size ≤ 600 ∧ (wr.alloc (.cells #[.string s, .string t, .string (⟨#[40]⟩ ++ t ++ ⟨#[41]⟩), .string (⟨#[120]⟩ ++ t), .string (⟨#[49, 32, 43, 32]⟩ ++ t), .string (t ++ ⟨#[32, 45, 32, 50]⟩)] 9)).cell? ⟨wr.heap.size, k, none⟩ = some (.string x)) := Lib.hid (fun k hk => by
        have hc : k = 0 ∨ k = 1 ∨ k = 2 ∨ k = 3 ∨ k = 4 ∨ k = 5 := by omega
        rcases hc with rfl | rfl | rfl | rfl | rfl | rfl
        · exact ⟨s, by omega, by rw [cell_of_row _ _ 0 _ _ _ hrow]; rfl⟩
        · exact ⟨t, by omega, by rw [cell_of_row _ _ 1 _ _ _ hrow]; rfl⟩
        · exact ⟨⟨#[40]⟩ ++ t ++ ⟨#[41]⟩, by rw [ByteArray.size_append, ByteArray.size_append]; show 1 + t.size + 1 ≤ 600; omega, by rw [cell_of_row _ _ 2 _ _ _ hrow]; rfl⟩
        · exact ⟨⟨#[120]⟩ ++ t, by rw [ByteArray.size_append]; show 1 + t.size ≤ 600; omega, by rw [cell_of_row _ _ 3 _ _ _ hrow]; rfl⟩
        · exact ⟨⟨#[49, 32, 43, 32]⟩ ++ t, by rw [ByteArray.size_append]; show 4 + t.size ≤ 600; omega, by rw [cell_of_row _ _ 4 _ _ _ hrow]; rfl⟩
        · exact ⟨t ++ ⟨#[32, 45, 32, 50]⟩, by rw [ByteArray.size_append]; show t.size + 4 ≤ 600; omega, by rw [cell_of_row _ _ 5 _ _ _ hrow]; rfl⟩)
      have He7 := Lib.hid (HLr.out.er.below hb7)
      have Hb7 := Lib.hid (below_next HLr.out.lo hb7)
      obtain ⟨q, hq⟩ : ∃ q, q = wr.heap.size := ⟨_, rfl⟩
      rw [← hq] at Hrow ⊢
      clear hb7 hrow HLr hq
      generalize wr.alloc (.cells #[.string s, .string t, .string (⟨#[40]⟩ ++ t ++ ⟨#[41]⟩), .string (⟨#[120]⟩ ++ t), .string (⟨#[49, 32, 43, 32]⟩ ++ t), .string (t ++ ⟨#[32, 45, 32, 50]⟩)] 9) = w7 at *
      go_loopw [59] (fun v wr => ∃ k : Nat, k ≤ 6 ∧ v = .int .i64 (k : Int) ∧ Below w7.heap.size w7 wr) (fun v _ => 6 - (intOf v).toNat)
      case atStart => exact ⟨0, by omega, rfl, Below.refl _ _⟩
      case round =>
        obtain ⟨k, hk, rfl, hb⟩ := hrel
        have Hb := Lib.hid hb
        by_cases hlt : k < 6
        · obtain ⟨x, hxz, hx⟩ := Hrow.out k hlt
          have hx2 := hold hb hx
          have HeR := Lib.hid (He7.out.below hb)
          clear hb hx
          have hxl : x.data.toList.length ≤ 65536 := by
            have : x.data.toList.length = x.size := by simp
            omega
          have HC0 := Lib.hid (parseX_any x wr (by omega) HeR.out)
          go_wp2_with fail
          refine HC0.out.mono ?_
          rintro e w8 ⟨d8, k8, o8, a8, l8, nm8, A8, n8, c8, rfl, hx8, hb8⟩
          have hb9 := (Below.refl _ w8).alloc (Nat.le_refl _) (.cells #[.int .i64 k8, .int .i64 o8, .int .i64 a8, .int .i64 l8, .string nm8, .slice A8 n8 c8] 31)
          have HC1 := Lib.hid (refexpr_any x (w8.alloc (.cells #[.int .i64 k8, .int .i64 o8, .int .i64 a8, .int .i64 l8, .string nm8, .slice A8 n8 c8] 31)) (by omega))
          have HX8 := Lib.hid (hx8.out.keep (G := fun q => q < w8.heap.size) (fun q hq => hq.2) (fun q hq => hb9.block q hq.2))
          have hr8 := heap_alloc_new w8 (.cells #[.int .i64 k8, .int .i64 o8, .int .i64 a8, .int .i64 l8, .string nm8, .slice A8 n8 c8] 31)
          have HR8 := Lib.hid hr8
          have HB8 := Lib.hid (below_next (below_next Hb.out hb8) hb9)
          clear HC0 hx8 hb8 hb9 hr8 HeR
          go_wp2_with fail
          refine HC1.out.mono ?_
          rintro e w10 ⟨d10, k10, o10, a10, l10, nm10, A10, n10, c10, rfl, hx10, hb10⟩
          have hb11 := (Below.refl _ w10).alloc (Nat.le_refl _) (.cells #[.int .i64 k10, .int .i64 o10, .int .i64 a10, .int .i64 l10, .string nm10, .slice A10 n10 c10] 31)
          have hs9 : w8.heap.size < (w8.alloc (.cells #[.int .i64 k8, .int .i64 o8, .int .i64 a8, .int .i64 l8, .string nm8, .slice A8 n8 c8] 31)).heap.size := by simp
          have hs10 := hb10.size
          have hs11 := hb11.size
          have hbe := below_next hb10 hb11
          have hr8 := (hbe.block w8.heap.size hs9).trans HR8.out
          have hr10 := heap_alloc_new w10 (.cells #[.int .i64 k10, .int .i64 o10, .int .i64 a10, .int .i64 l10, .string nm10, .slice A10 n10 c10] 31)
          have HE := Lib.hid (equalExpr_any (F := fun q => q < w8.heap.size) (G := fun q => q < w10.heap.size) (w10.alloc (.cells #[.int .i64 k10, .int .i64 o10, .int .i64 a10, .int .i64 l10, .string nm10, .slice A10 n10 c10] 31)) d8 d10 (treeX (meanX x.data.toList)) k8 o8 a8 l8 k10 o10 a10 l10 nm8 nm10 A8 A10 n8 c8 n10 c10 (HX8.out.keep (fun _ h => h) (fun q hq => hbe.block q (by omega))) (hx10.out.keep (fun q hq => hq.2) (fun q hq => hb11.block q hq.2)) (fun q hq => by omega) (fun q hq => by omega) (meanX_small hxl))
          have p0 := cell_of_row _ _ 0 _ _ _ hr8
          have p1 := cell_of_row _ _ 1 _ _ _ hr8
          have p2 := cell_of_row _ _ 2 _ _ _ hr8
          have p3 := cell_of_row _ _ 3 _ _ _ hr8
          have p4 := cell_of_row _ _ 4 _ _ _ hr8
          have p5 := cell_of_row _ _ 5 _ _ _ hr8
          have q0 := cell_of_row _ _ 0 _ _ _ hr10
          have q1 := cell_of_row _ _ 1 _ _ _ hr10
          have q2 := cell_of_row _ _ 2 _ _ _ hr10
          have q3 := cell_of_row _ _ 3 _ _ _ hr10
          have q4 := cell_of_row _ _ 4 _ _ _ hr10
          have q5 := cell_of_row _ _ 5 _ _ _ hr10
          have HB11 := Lib.hid (below_next HB8.out hbe)
          clear hx10 hb10 hb11 hs9 hs10 hs11 hbe hr8 hr10 HX8 HR8 HB8 HC1
          generalize lnX (meanX x.data.toList) = LN at *
          generalize cdX (meanX x.data.toList) = CD at *
          clear hxl
          go_wp2_with fail
          refine HE.out.mono ?_
          rintro e w12 ⟨rfl, hb12⟩
          have HB12 := Lib.hid (below_next HB11.out hb12)
          clear HE hb12 HB11 p0 p1 p2 p3 p4 p5 q0 q1 q2 q3 q4 q5
          go_wp2_with fail
          exact ⟨⟨k + 1, by omega, by go_num, HB12.out⟩, by simp [intOf]; omega⟩
        · clear Hrow
          have Hbe := Lib.hid (below_next Hb7.out hb)
          clear hb
          go_wp2_with fail
          go_ret
          exact ⟨rfl, Hbe.out⟩
end Go.Proofs.YtdnaknpifinfdaaGreatDoor
