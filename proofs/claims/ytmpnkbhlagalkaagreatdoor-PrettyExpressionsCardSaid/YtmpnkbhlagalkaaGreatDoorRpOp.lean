/-
  The walks of the reference reader's operator, and of two. Conditions: at most a thousand signs.
-/
import Derived.Test.YtmpnkbhlagalkaaGreatDoorRpNow
import Derived.Test.YtmpnkbhlagalkaaGreatDoorPsBin
namespace Go.Proofs.YtmpnkbhlagalkaaGreatDoor
open Go.RowKit

/-- A row of strings, a row of numbers. -/
def TRowR (w : World) (g : Nat) (l : List Bytes) : Prop := ∀ i x, l[i]? = some x → w.cell? ⟨g, i, none⟩ = some (.string (nmB x))
def IRowR (w : World) (g : Nat) (l : List Nat) : Prop := ∀ (i x : Nat), l[i]? = some x → w.cell? ⟨g, i, none⟩ = some (.int .i64 (x : Int))
/-- The operation of the next token and its line; the reader stands behind it. -/
def OpRG (p tb : Nat) (l : List Bytes) (ops : List Nat) (s : RS) (w : World) (e : Ending) (w' : World) : Prop := ∃ (o ln : Nat) (s' : RS), e = .returned (.tuple #[.int .i64 (o : Int), .int .i64 (ln : Int)]) ∧ RA w' p tb s' ∧ w.grownBy w' (some p) ∧
  ((∃ (i : Nat) (t : Bytes), l[i]? = some t ∧ isR t s = true ∧ ops[i]? = some o ∧ ln = (hdR s).line ∧ s' = popR s) ∨ (seesR l s = false ∧ o = 0 ∧ ln = 0 ∧ s' = s))
set_option maxRecDepth 100000 in
set_option maxHeartbeats 1000000 in
theorem operator_r {p tb : Nat} {s : RS} (l : List Bytes) (ops : List Nat) (n g1 g2 c1 c2 : Nat) (w : World) (h : RA w p tb s) (hn : l.length = n) (hn2 : ops.length = n) (hn3 : n ≤ 1000) (_hc1 : n ≤ c1) (_hc2 : n ≤ c2) (h1 : TRowR w g1 l) (h2 : IRowR w g2 ops) (hg : g2 ≠ p) :
    Calls Tryz.prog 71 #[.pointer (some ⟨p, 0, none⟩), .slice (some ⟨g1, 0, none⟩) n c1, .slice (some ⟨g2, 0, none⟩) n c2] w (OpRG p tb l ops s w) := by
  have HA := Lib.hid h
  have HN := Lib.hid hn
  have HN2 := Lib.hid hn2
  have H1 := Lib.hid h1
  have H2 := Lib.hid h2
  clear h hn hn2 h1 h2
  go_enter Tryz.func71, Tryz.ntmps71
  go_wp2_with fail
  go_loopw [8] (fun i wr => ∃ k : Nat, k ≤ n ∧ i = .int .i64 (k : Int) ∧ Hid (Below w.heap.size w wr) ∧ Hid (∀ j t, j < k → l[j]? = some t → isR t s = false)) (fun i _ => n - (intOf i).toNat)
  case atStart => exact ⟨0, Nat.zero_le _, rfl, Lib.hid (Below.refl _ _), Lib.hid (fun j t hj => by omega)⟩
  case round =>
    obtain ⟨k, hk, rfl, HB, HP⟩ := hrel
    by_cases hlt : k < n
    · obtain ⟨t, ht⟩ : ∃ t, l[k]? = some t := ⟨l[k]'(by rw [HN.out]; exact hlt), List.getElem?_eq_getElem _⟩
      obtain ⟨o, ho⟩ : ∃ o, ops[k]? = some o := ⟨ops[k]'(by rw [HN2.out]; exact hlt), List.getElem?_eq_getElem _⟩
      have d0 := hold HB.out (H1.out k t ht)
      have HT := Lib.hid ht
      have HO := Lib.hid ho
      have HI := Lib.hid (is_r t wr (HA.out.below HB.out))
      clear ht ho
      go_wp2_with fail
      refine HI.out.mono ?_
      rintro e w1 ⟨rfl, hb1⟩
      have HB1 := Lib.hid (below_next HB.out hb1)
      have HA1 := Lib.hid (HA.out.below (below_next HB.out hb1))
      clear hb1 HI
      cases hv : isR t s with
      | true =>
        have HNow := Lib.hid (now_r w1 HA1.out)
        have HV := Lib.hid hv
        clear hv
        go_wp2_with fail
        refine HNow.out.mono ?_
        rintro e w2 ⟨rfl, hb2⟩
        have HB2 := Lib.hid (below_next HB1.out hb2)
        obtain ⟨a, c, N, hr⟩ := HA1.out.below hb2
        have e1 := hr.cells.2.1
        have f1 := hr.cells.2.2.2.2 1
        have hsm := hr.sm
        have hlt2 := hr.lt
        have hgs := set_grown w2 ⟨p, 1, none⟩ (.int .i64 ((a : Int) + 1))
        have HE := Lib.hid (hr.popSet (isR_two hr.wf HV.out))
        have d2 : (w2.setCell ⟨p, 1, none⟩ (.int .i64 ((a : Int) + 1))).cell? ⟨g2, k, none⟩ = some (.int .i64 (o : Int)) := cell_grown hgs hg (hold HB2.out (H2.out k o HO.out))
        have HG := Lib.hid ((grown_of_below HB2.out (some p)).trans hgs)
        clear hr hgs HNow hb2
        unfold tokVR
        have hfd : ∀ w : World, (Instr.field 67 (.agg #[.int .i64 ((hdR s).kind : Int), .int .i64 ((hdR s).line : Int), .int .i64 ((hdR s).value : Int), .string (nmB (hdR s).text)]) 1).run Tryz.prog w = .ok (.int .i64 ((hdR s).line : Int)) w := fun _ => by kernel_rfl
        go_wp2_with fail
        go_ret2
        exact ⟨o, (hdR s).line, popR s, rfl, ⟨_, _, _, HE.out⟩, HG.out, .inl ⟨k, t, HT.out, HV.out, HO.out, rfl, rfl⟩⟩
      | false =>
        have HP2 : Hid (∀ j t, j < k + 1 → l[j]? = some t → isR t s = false) := Lib.hid (fun j u hj hu => by
          rcases Nat.lt_or_ge j k with h | h
          · exact HP.out j u h hu
          · obtain rfl : j = k := by omega
            have := HT.out.symm.trans hu
            injection this with this
            rw [← this]; exact hv)
        clear hv
        go_wp2_with fail
        exact ⟨⟨k + 1, by omega, by go_num, HB1, HP2⟩, by simp [intOf]; omega⟩
    · have HS : Hid (seesR l s = false) := Lib.hid (by
        rw [seesR, List.any_eq_false]
        intro t ht
        obtain ⟨j, hj⟩ := List.getElem?_of_mem ht
        have hjn : j < l.length := by
          rcases Nat.lt_or_ge j l.length with h' | h'
          · exact h'
          · rw [List.getElem?_eq_none h'] at hj; cases hj
        rw [HP.out j t (by have := HN.out; omega) hj]
        simp)
      go_wp2_with fail
      go_ret2
      exact ⟨0, 0, s, rfl, HA.out.below HB.out, grown_of_below HB.out _, .inr ⟨HS.out, rfl, rfl, rfl⟩⟩
/-- A node of two operands is handed back; its operands lie where theirs did or in new memory; memory has grown at most. -/
def TwoG (F : Nat → Prop) (k o l : Int) (x y : Ex) (w : World) (e : Ending) (w' : World) : Prop := ∃ d b, e = .returned (.agg #[.int .i64 k, .int .i64 o, .int .i64 0, .int .i64 l, .string ⟨#[]⟩, .slice (some ⟨b, 0, none⟩) 2 2]) ∧ ExV (fun q => F q ∨ w.heap.size ≤ q ∧ q < w'.heap.size) w' d (.mk k o 0 l ⟨#[]⟩ [x, y]) (.agg #[.int .i64 k, .int .i64 o, .int .i64 0, .int .i64 l, .string ⟨#[]⟩, .slice (some ⟨b, 0, none⟩) 2 2]) ∧ Below w.heap.size w w'
theorem two_end {F : Nat → Prop} {dx dy : Nat} {x y : Ex} {c0 c1 c2 c3 c4 c5 e0 e1 e2 e3 e4 e5 : Value} {k o l : Int} {w : World} {A1 A2 A3 : Obj} {t : TypeId} {b1 b2 : Nat} (hb1 : b1 = w.heap.size + 1 + 1) (hb2 : b2 = w.heap.size + 1 + 1 + 1) (hF : ∀ q, F q → q < w.heap.size) (hx : ExV F w dx x (.agg #[c0, c1, c2, c3, c4, c5])) (hy : ExV F w dy y (.agg #[e0, e1, e2, e3, e4, e5])) :
    (((w.alloc A1).alloc A2).alloc A3 |>.alloc (.cells #[c0, c1, c2, c3, c4, c5, e0, e1, e2, e3, e4, e5] t)).heap[b1]? = some A3 ∧
    TwoG F k o l x y w (.returned (.agg #[.int .i64 k, .int .i64 o, .int .i64 0, .int .i64 l, .string ⟨#[]⟩, .slice (some ⟨b2, 0, none⟩) 2 2])) (((w.alloc A1).alloc A2).alloc A3 |>.alloc (.cells #[c0, c1, c2, c3, c4, c5, e0, e1, e2, e3, e4, e5] t)) := by
  subst hb1 hb2
  have z2 : ((w.alloc A1).alloc A2).heap.size = w.heap.size + 1 + 1 := by simp
  have z3 : (((w.alloc A1).alloc A2).alloc A3).heap.size = w.heap.size + 1 + 1 + 1 := by simp
  have h1 := alloc2_old ((w.alloc A1).alloc A2) A3 (.cells #[c0, c1, c2, c3, c4, c5, e0, e1, e2, e3, e4, e5] t)
  have h2 := heap_alloc_new (((w.alloc A1).alloc A2).alloc A3) (.cells #[c0, c1, c2, c3, c4, c5, e0, e1, e2, e3, e4, e5] t)
  have hb := ((((Below.refl _ w).alloc (Nat.le_refl _) A1).alloc (by simp) A2).alloc (by simp; omega) A3).alloc (by simp; omega) (.cells #[c0, c1, c2, c3, c4, c5, e0, e1, e2, e3, e4, e5] t)
  rw [z2] at h1
  rw [z3] at h2
  have hX := (hx.mono dy).keep (G := fun q => F q ∨ w.heap.size ≤ q ∧ q < (((w.alloc A1).alloc A2).alloc A3 |>.alloc (.cells #[c0, c1, c2, c3, c4, c5, e0, e1, e2, e3, e4, e5] t)).heap.size) (fun q hq => .inl hq) (fun q hq => hb.block q (hF q hq))
  have hY := (hy.mono dx).keep (G := fun q => F q ∨ w.heap.size ≤ q ∧ q < (((w.alloc A1).alloc A2).alloc A3 |>.alloc (.cells #[c0, c1, c2, c3, c4, c5, e0, e1, e2, e3, e4, e5] t)).heap.size) (fun q hq => .inl hq) (fun q hq => hb.block q (hF q hq))
  rw [Nat.add_comm] at hY
  exact ⟨h1, dx + dy + 1, _, rfl, ⟨_, _, rfl, row_two hX hY (.inr ⟨by omega, by simp⟩) h2⟩, hb⟩
set_option maxRecDepth 100000 in
set_option maxHeartbeats 1000000 in
theorem two_r {F : Nat → Prop} {dx dy : Nat} {x y : Ex} {c0 c1 c2 c3 c4 c5 e0 e1 e2 e3 e4 e5 : Value} (k o l : Int) (w : World) (hF : ∀ q, F q → q < w.heap.size) (hx : ExV F w dx x (.agg #[c0, c1, c2, c3, c4, c5])) (hy : ExV F w dy y (.agg #[e0, e1, e2, e3, e4, e5])) :
    Calls Tryz.prog 36 #[.int .i64 k, .int .i64 o, .int .i64 l, .agg #[c0, c1, c2, c3, c4, c5], .agg #[e0, e1, e2, e3, e4, e5]] w (TwoG F k o l x y w) := by
  obtain ⟨hrow, hE⟩ := two_end (k := k) (o := o) (l := l) (A1 := .cells #[c0, c1, c2, c3, c4, c5] 30) (A2 := .cells #[e0, e1, e2, e3, e4, e5] 30) (A3 := .cells #[.int .i64 k, .int .i64 o, .int .i64 0, .int .i64 l, .string ⟨#[]⟩, .slice (some ⟨w.heap.size + 1 + 1 + 1, 0, none⟩) 2 2] 30) (t := 30) rfl rfl hF hx hy
  have j0 := cell_of_row _ _ 0 _ _ _ hrow
  have j1 := cell_of_row _ _ 1 _ _ _ hrow
  have j2 := cell_of_row _ _ 2 _ _ _ hrow
  have j3 := cell_of_row _ _ 3 _ _ _ hrow
  have j4 := cell_of_row _ _ 4 _ _ _ hrow
  have j5 := cell_of_row _ _ 5 _ _ _ hrow
  have HE := Lib.hid hE
  clear hx hy hrow hE hF
  go_enter Tryz.func36, Tryz.ntmps36
  go_wp2_with fail
  exact bodyPost_ret (by simp [results, Tryz.results36, go_sem, j0, j1, j2, j3, j4, j5]) rfl HE.out
end Go.Proofs.YtmpnkbhlagalkaaGreatDoor
