/-
  evaluate.Run on a source that is a function main alone, of prints and a return that end well. Conditions: the limits let it end; fewer than 4096 numbers printed; a million statements at most.
-/
import Derived.Test.YtjmbllbnlnjanaaEvRd4
import Derived.Test.YtjmbllbnlnjanaaEvC
import Derived.Deep.RegionHeld3
namespace Go.Proofs.Ytjmbllbnlnjanaa
open Go.RowKit

theorem rowB_of {F : Nat → Prop} {w : World} {D : Nat} {body : List St} {l : List (Int × Ex)} {A : Option Addr} {c : Nat} (h : RowG 5 (MNm D) F w (body.map numS) A c) (hbl : body.map numS = l.map (fun y => (y.1, [y.2]))) (hl : 0 < l.length) : ∃ gb D', A = some ⟨gb, 0, none⟩ ∧ F gb ∧ RowB F w D' l gb := by
  rw [hbl] at h
  have hx : (l.map (fun y => (y.1, [y.2])))[0]? = some (l[0].1, [l[0].2]) := by simp [hl]
  obtain ⟨gb, cs, rfl, hF, _, hc, z, A1, c1, hcs, hr⟩ := h.2 0 _ hx
  cases D with
  | zero =>
    obtain ⟨g, off, c0, c1, c2, c3, c4, c5, _, _, _, _, _, _, _, _, hv⟩ := hr.2 0 _ rfl
    exact hv.elim
  | succ D =>
    refine ⟨gb, D, rfl, hF, fun i k x hi => ?_⟩
    have hxi : (l.map (fun y => (y.1, [y.2])))[i]? = some (k, [x]) := by simp [hi]
    obtain ⟨g, cs, hA, _, _, hc, z, A1, c1, rfl, hr⟩ := h.2 i _ hxi
    injection hA with hA
    injection hA with hA
    subst hA
    exact ⟨[], A1, c1, by simpa using hc 0 _ rfl, hc 2 _ rfl, hr⟩
/-- What a run's outcome is: it returned z, with o2 printed; s1 steps. -/
def OutG (z s1 : Int) (o2 : List Int) (w : World) (e : Ending) (w' : World) : Prop := ∃ A n c, e = .returned (.tuple #[.agg #[.int .i64 1, .int .i64 z, .int .i64 0, .slice A n c], .int .i64 s1]) ∧ n = o2.length ∧ RowG 1 MInt (fun b => w.heap.size ≤ b ∧ b < w'.heap.size) w' o2 A c ∧ Below w.heap.size w w'
/-- What stays while Run runs: its boxes and the outcome's block. -/
structure RuS (w : World) (v0 v1 : Value) (s d : Int) (wr : World) : Prop where
  p : wr.heap[w.heap.size]? = some (.cells #[v0, v1] 40 (0, 0))
  q : wr.heap[w.heap.size + 1]? = some (.cells #[.int .i64 s, .int .i64 d] 48 (0, 0))
  o : wr.heap[w.heap.size + 2]? = some (.cells #[.int .i64 0, .int .i64 0, .int .i64 0, .slice none 0 0] 29 (0, 0))
  lo : Below w.heap.size w wr
theorem RuS.below {w wr wd : World} {v0 v1 : Value} {s d : Int} {B : Nat} (h : RuS w v0 v1 s d wr) (hB : w.heap.size + 3 ≤ B) (hb : Below B wr wd) : RuS w v0 v1 s d wd :=
  ⟨(hb.block _ (by omega)).trans h.p, (hb.block _ (by omega)).trans h.q, (hb.block _ (by omega)).trans h.o, h.lo.trans (hb.mono (by omega))⟩
theorem RuS.size {w wr : World} {v0 v1 : Value} {s d : Int} (h : RuS w v0 v1 s d wr) : w.heap.size + 3 ≤ wr.heap.size := (Array.getElem?_eq_some_iff.1 h.o).1
theorem RuS.cells {w wr : World} {v0 v1 : Value} {s d : Int} (h : RuS w v0 v1 s d wr) : wr.cell? ⟨w.heap.size, 0, none⟩ = some v0 ∧ wr.cell? ⟨w.heap.size, 1, none⟩ = some v1 ∧ wr.cell? ⟨w.heap.size + 1, 0, none⟩ = some (.int .i64 s) ∧ wr.cell? ⟨w.heap.size + 1, 1, none⟩ = some (.int .i64 d) ∧ RuS w v0 v1 s d wr :=
  ⟨cell_of_row _ _ 0 _ _ _ h.p, cell_of_row _ _ 1 _ _ _ h.p, cell_of_row _ _ 0 _ _ _ h.q, cell_of_row _ _ 1 _ _ _ h.q, h⟩
theorem RuS.alloc {w wr : World} {v0 v1 : Value} {s d : Int} (h : RuS w v0 v1 s d wr) (o : Obj) : RuS w v0 v1 s d (wr.alloc o) := h.below h.size ((Below.refl _ _).alloc (Nat.le_refl _) o)
theorem RuS.drew {w wr : World} {v0 v1 : Value} {s d : Int} (h : RuS w v0 v1 s d wr) : RuS w v0 v1 s d wr.drew := h.below h.size (below_drew (Below.refl _ _))
theorem out4 {W : World} {b : Nat} {a0 a1 a2 a3 : Value} {T : TypeId} (v0 v1 v2 v3 : Value) (h : W.heap[b]? = some (.cells #[a0, a1, a2, a3] T (0, 0))) :
    ((((W.setCell ⟨b, 0, none⟩ v0).setCell ⟨b, 1, none⟩ v1).setCell ⟨b, 2, none⟩ v2).setCell ⟨b, 3, none⟩ v3).drew.heap[b]? = some (.cells #[v0, v1, v2, v3] T (0, 0)) ∧ W.grownBy ((((W.setCell ⟨b, 0, none⟩ v0).setCell ⟨b, 1, none⟩ v1).setCell ⟨b, 2, none⟩ v2).setCell ⟨b, 3, none⟩ v3).drew (some b) :=
  ⟨row_set (i := 3) v3 (row_set (i := 2) v2 (row_set (i := 1) v1 (row_set (i := 0) v0 h))), ((((set_grown W ⟨b, 0, none⟩ v0).trans (set_grown _ ⟨b, 1, none⟩ v1)).trans (set_grown _ ⟨b, 2, none⟩ v2)).trans (set_grown _ ⟨b, 3, none⟩ v3)).trans (grown_of_below (below_drew (Below.refl _ _)) _)⟩
set_option maxRecDepth 100000 in
set_option maxHeartbeats 4000000 in
theorem run_e {F : Nat → Prop} {D d : Nat} {z s1 : Int} {o2 : List Int} (ln : Int) (body : List St) (l : List (Int × Ex)) (gA : Option Addr) (gc : Nat) (fA : Option Addr) (fc : Nat) (sl dl : Int) (w : World) (h : RowG 4 (MFn D d) F w [mainF ln body] fA fc) (hF : ∀ b, F b → b < w.heap.size) (hf : flL body = true) (hk : okL body = true) (hn2 : body.length ≤ 1000000)
    (hbl : body.map numS = l.map (fun y => (y.1, [y.2]))) (hl : 0 < l.length) (hkd : ∀ y ∈ l, (y.1 = 6 ∨ y.1 = 7) ∧ arX y.2 = true) (hd : 0 < min dl 400) (hrun : runB (min sl 1099511627776) l 0 [] = some (z, 1, s1, o2)) (ho : o2.length < 4096) :
    Calls Try.prog 18 #[.agg #[.slice gA 0 gc, .slice fA 1 fc], .slice none 0 0, .agg #[.int .i64 sl, .int .i64 dl]] w (OutG z s1 o2 w) := by
  have h0 : RuS w (.slice gA 0 gc) (.slice fA 1 fc) sl dl (((w.alloc (.cells #[.slice gA 0 gc, .slice fA 1 fc] 40)).alloc (.cells #[.int .i64 sl, .int .i64 dl] 48)).alloc (.cells #[.int .i64 0, .int .i64 0, .int .i64 0, .slice none 0 0] 29)) := by
    refine ⟨?_, ?_, ?_, (((Below.refl _ w).alloc (Nat.le_refl _) _).alloc (by simp) _).alloc (by simp; omega) _⟩
    · rw [heap_alloc_old _ _ (by simp; omega)]
      exact alloc2_old w _ _
    · rw [heap_alloc_old _ _ (by simp)]
      exact alloc2_new w _ _
    · have := heap_alloc_new ((w.alloc (.cells #[.slice gA 0 gc, .slice fA 1 fc] 40)).alloc (.cells #[.int .i64 sl, .int .i64 dl] 48)) (.cells #[.int .i64 0, .int .i64 0, .int .i64 0, .slice none 0 0] 29)
      simpa using this
  have HRd : Hid (∀ W, Below w.heap.size w W → Calls Try.prog 34 #[.agg #[.slice gA 0 gc, .slice fA 1 fc]] W (RdG D body W)) := Lib.hid (fun W hW => ready_e (F := F) (d := d) ln body gA gc fA fc W (h.keep (mfn_keeps D d) (fun _ h => h) (fun b hb => hW.block b (hF b hb))) (fun b hb => Nat.lt_of_lt_of_le (hF b hb) hW.size) hf hk hn2)
  have H0 := Lib.hid h0
  have Hbl := Lib.hid hbl
  have Hkd := Lib.hid hkd
  have Hrun := Lib.hid hrun
  clear h hF hf hk h0 hbl hkd hrun
  go_enter Try.func18, Try.ntmps18
  go_upto_region 1 with fail
  obtain ⟨W0, hW0⟩ : ∃ W0, W0 = ((w.alloc (.cells #[.slice gA 0 gc, .slice fA 1 fc] 40)).alloc (.cells #[.int .i64 sl, .int .i64 dl] 48)).alloc (.cells #[.int .i64 0, .int .i64 0, .int .i64 0, .slice none 0 0] 29) := ⟨_, rfl⟩
  rw [← hW0] at H0 ⊢
  clear hW0
  have hsn0 := H0.out
  have hS0 := hsn0.drew.cells
  go_region_held3 (fun w' => w'.cell? ⟨w.heap.size, 0, none⟩ = some (.slice gA 0 gc) ∧ w'.cell? ⟨w.heap.size, 1, none⟩ = some (.slice fA 1 fc) ∧ w'.cell? ⟨w.heap.size + 1, 0, none⟩ = some (.int .i64 sl) ∧ w'.cell? ⟨w.heap.size + 1, 1, none⟩ = some (.int .i64 dl) ∧ RuS w (.slice gA 0 gc) (.slice fA 1 fc) sl dl w')
    (first | (with_reducible exact hS0) | ((with_reducible refine RuS.cells ?_); (repeat (first | (with_reducible assumption) | (with_reducible refine RuS.alloc ?_ _) | (with_reducible refine RuS.drew ?_))); done))
    (first | (go_at_call 34; (with_reducible refine (HRd.out _ ?_).mono ?_); (with_reducible exact hsn0.drew.lo); rintro e w3 ⟨A3, c3, rfl, hrow3, hb3⟩; have hsn3 := hsn0.drew.below hsn0.drew.size hb3; have hs3 := hsn0.drew.size) | (go_at_call 35; (with_reducible refine (within_e sl dl _).mono ?_); rintro e w4 ⟨rfl, hb4⟩; have hsn4 := hsn3.below hsn3.size hb4; have hrow4 := hrow3.keep (mfd_keeps D) (G := fun b => w.heap.size + 3 ≤ b ∧ b < w4.heap.size) (fun b hb => ⟨Nat.le_trans hs3 hb.1, Nat.lt_of_lt_of_le hb.2 hb4.size⟩) (fun b hb => hb4.block b hb.2)))
  clear hS0 hsn0 hrow3 hb3 hsn3 hs3 HRd
  obtain ⟨gf, cs, rfl, hFgf, _, hcf, A1, m1, c1, rfl, hm1, hrow1⟩ := hrow4.2 0 _ rfl
  have hc3 : 1 ≤ c3 := hrow4.1
  obtain ⟨gb, D1, rfl, hFgb, hrB⟩ := rowB_of hrow1 Hbl.out hl
  have hm2 : m1 = l.length := by
    have := congrArg List.length Hbl.out
    simp at this
    omega
  have hb5 := (Below.refl _ w4).alloc (Nat.le_refl _) (.cells #[.slice none 0 0, .slice (some ⟨gf, 0, none⟩) 1 c3, .int .i64 (min sl 1099511627776), .int .i64 (min dl 400), .int .i64 0, .int .i64 0, .slice none 0 0, .slice none 0 0, .slice none 0 0, .slice none 0 0] 84)
  have hp5 := heap_alloc_new w4 (.cells #[.slice none 0 0, .slice (some ⟨gf, 0, none⟩) 1 c3, .int .i64 (min sl 1099511627776), .int .i64 (min dl 400), .int .i64 0, .int .i64 0, .slice none 0 0, .slice none 0 0, .slice none 0 0, .slice none 0 0] 84)
  have hs5 := hsn4.alloc (.cells #[.slice none 0 0, .slice (some ⟨gf, 0, none⟩) 1 c3, .int .i64 (min sl 1099511627776), .int .i64 (min dl 400), .int .i64 0, .int .i64 0, .slice none 0 0, .slice none 0 0, .slice none 0 0, .slice none 0 0] 84)
  have hsz4 := hsn4.size
  obtain ⟨W5, hW5⟩ : ∃ W5, W5 = w4.alloc (.cells #[.slice none 0 0, .slice (some ⟨gf, 0, none⟩) 1 c3, .int .i64 (min sl 1099511627776), .int .i64 (min dl 400), .int .i64 0, .int .i64 0, .slice none 0 0, .slice none 0 0, .slice none 0 0, .slice none 0 0] 84) := ⟨_, rfl⟩
  rw [← hW5] at hb5 hp5 hs5
  have HC : Hid (Calls Try.prog 36 #[.pointer (some ⟨w4.heap.size, 0, none⟩), .int .i64 0, .slice none 0 0] W5 (fun e w' => e = .returned (.tuple #[.int .i64 z, .agg #[.int .i64 0, .int .i64 0]]) ∧ (∃ ov, RnO w4.heap.size ⟨.slice none 0 0, .slice (some ⟨gf, 0, none⟩) 1 c3, min sl 1099511627776, min dl 400, s1, 0, .slice none 0 0, ov, .slice none 0 0, .slice none 0 0⟩ o2 w') ∧ Below w4.heap.size W5 w')) := Lib.hid (by
    refine (call_ev (F := fun b => w.heap.size + 3 ≤ b ∧ b < w4.heap.size) (D := D1) (gb := gb) (n := m1) (c := c1) (l := l) (r := ⟨.slice none 0 0, .slice (some ⟨gf, 0, none⟩) 1 c3, min sl 1099511627776, min dl 400, 0, 0, .slice none 0 0, .slice none 0 0, .slice none 0 0, .slice none 0 0⟩) (outs := []) (o2 := o2) (z := z) (kk := 1) (s1 := s1) W5 rfl (Nat.le_refl _) rfl ?_ ?_ ?_ hFgf.2 (Int.le_refl _) hd ?_ hm2 ?_ ?_ Hkd.out ⟨hp5, [], GRow.nil⟩ hFgb (fun b hb => hb.2) ?_ Hrun.out ho).mono ?_
    · exact hold hb5 (by simpa using hcf 0 _ rfl)
    · exact hold hb5 (by simpa using hcf 1 _ rfl)
    · exact hold hb5 (by simpa using hcf 2 _ rfl)
    · show min dl 400 ≤ 1000
      omega
    · rw [hm1]
      exact hn2
    · intro i k x hi
      obtain ⟨es, hps⟩ := hrB i k x hi
      exact ⟨es, hps.keep hFgb (fun b hb => hb5.block b hb.2)⟩
    · refine ⟨Int.le_refl _, by show (0 : Int) ≤ _; decide, ?_⟩
      show min sl 1099511627776 ≤ _
      omega
    · rintro e w' ⟨rfl, h2⟩
      exact ⟨by rw [if_pos rfl], h2⟩)
  have x0 := cell_of_row _ _ 0 _ _ _ hp5
  have HS5 := Lib.hid hs5
  have hlt5 := (Array.getElem?_eq_some_iff.1 hp5).1
  rw [← hW5]
  clear hW5 hb5 hp5 hs5 hrB hrow1 hcf hrow4 hb4 hsn4 hFgf hFgb hm1 hm2
  go_wp2_with fail
  go_loopw [26] (fun v wr => v = .int .i64 0 ∧ wr = W5) (fun _ _ => 0)
  case atStart => exact ⟨rfl, rfl⟩
  case round =>
    obtain ⟨rfl, hwr⟩ := hrel
    rw [hwr]
    clear hwr x0
    go_wp2_with fail
    refine HC.out.mono ?_
    rintro e w7 ⟨rfl, ⟨ov, hro⟩, hb7⟩
    have hs7 := HS5.out.below hsz4 hb7
    have hb8 := (Below.refl _ w7).alloc (Nat.le_refl _) (.cells #[.int .i64 0, .int .i64 0] 86)
    have hb8' : Below w7.heap.size w7 (w7.alloc (.cells #[.int .i64 1, .int .i64 0] 86)) := (Below.refl _ w7).alloc (Nat.le_refl _) _
    have hE8 := heap_alloc_new w7 (.cells #[.int .i64 1, .int .i64 0] 86)
    have hs8 := hs7.below hs7.size hb8'
    have hro8 := hro.below hb8'
    obtain ⟨hp8, L8, hg8⟩ := hro8
    obtain ⟨oA, oc, hov⟩ := own_slice hg8
    dsimp only at hov
    subst hov
    have HRow8 := Lib.hid (hg8.row mint_keeps)
    obtain ⟨W8, hW8⟩ : ∃ W8, W8 = w7.alloc (.cells #[.int .i64 1, .int .i64 0] 86) := ⟨_, rfl⟩
    clear HC hg8 L8 hro hb8 hb8'
    go_upto_region 10 with fail
    rw [← hW8] at hE8 hs8 hp8 HRow8 ⊢
    clear hW8
    have e0 := cell_of_row _ _ 0 _ _ _ hE8
    have e1 := cell_of_row _ _ 1 _ _ _ hE8
    have p4 := cell_of_row _ _ 4 _ _ _ hp8
    have p7 := cell_of_row _ _ 7 _ _ _ hp8
    have o0 : W8.cell? ⟨w.heap.size + 1 + 1, 0, none⟩ = some (.int .i64 0) := cell_of_row _ _ 0 _ _ _ hs8.o
    have o1 : W8.cell? ⟨w.heap.size + 1 + 1, 1, none⟩ = some (.int .i64 0) := cell_of_row _ _ 1 _ _ _ hs8.o
    have o2' : W8.cell? ⟨w.heap.size + 1 + 1, 2, none⟩ = some (.int .i64 0) := cell_of_row _ _ 2 _ _ _ hs8.o
    have o3 : W8.cell? ⟨w.heap.size + 1 + 1, 3, none⟩ = some (.slice none 0 0) := cell_of_row _ _ 3 _ _ _ hs8.o
    have f0 : W8.frozen? ⟨w.heap.size + 1 + 1, 0, none⟩ = false := rp_fz hs8.o 0
    have f1 : W8.frozen? ⟨w.heap.size + 1 + 1, 1, none⟩ = false := rp_fz hs8.o 1
    have f2 : W8.frozen? ⟨w.heap.size + 1 + 1, 2, none⟩ = false := rp_fz hs8.o 2
    have f3 : W8.frozen? ⟨w.heap.size + 1 + 1, 3, none⟩ = false := rp_fz hs8.o 3
    have HS8 := Lib.hid hs8
    clear hE8 hs8 hp8
    go_region
    go_wp2_with fail
    obtain ⟨hrow9, hg9⟩ := out4 (.int .i64 1) (.int .i64 z) (.int .i64 0) (.slice oA o2.length oc) HS8.out.o
    have j0 := cell_of_row _ _ 0 _ _ _ hrow9
    have j1 := cell_of_row _ _ 1 _ _ _ hrow9
    have j2 := cell_of_row _ _ 2 _ _ _ hrow9
    have j3 := cell_of_row _ _ 3 _ _ _ hrow9
    have HH : Hid (OutG z s1 o2 w (.returned (.tuple #[.agg #[.int .i64 1, .int .i64 z, .int .i64 0, .slice oA o2.length oc], .int .i64 s1])) _) := Lib.hid ⟨oA, _, oc, rfl, rfl, HRow8.out.2.keep mint_keeps (fun b hb => ⟨by omega, Nat.lt_of_lt_of_le hb.2 hg9.size⟩) (fun b hb => hg9.block b hb.2 (fun e => by injection e with e; omega)), HS8.out.lo.trans (grown_any hg9 (fun k hk => by injection hk with hk; omega) HS8.out.lo.size)⟩
    clear hrow9 hg9
    exact bodyPost_ret (by simp [results, Try.results18, go_sem, j0, j1, j2, j3]) rfl HH.out
end Go.Proofs.Ytjmbllbnlnjanaa
