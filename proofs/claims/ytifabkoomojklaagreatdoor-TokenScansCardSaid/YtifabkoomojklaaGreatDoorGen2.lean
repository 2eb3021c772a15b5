/-
  The maker of sources: expressions. The walks of node and leaf. Condition: at most a million codes.
-/
import Derived.Test.YtifabkoomojklaaGreatDoorGen1
import Derived.Deep.Cut
import Derived.Deep.RegionHeld3
import Derived.Deep.RegionWith
namespace Go.Proofs.YtifabkoomojklaaGreatDoor
open Go.RowKit

/-- A store that stands still. -/
theorem wpList_pause_store {P : Program} {w : World} {ops : Array Oper} {rest : List Oper} {d : Option Tmp} {t ty : TypeId} {x y : Operand} {pos : String} {af : Array Edge} {gd : Option (Nat × Bool)} {a : Act} {Q : Exit → Act → World → Prop}
    (h : Pause (wpList P ops Q ({ dst := d, op := .store t x y, type := ty, pos := pos, after := af, guard := gd } :: rest) a w)) : wpList P ops Q ({ dst := d, op := .store t x y, type := ty, pos := pos, after := af, guard := gd } :: rest) a w := h
/-- A struct stored over a whole block. -/
theorem wpList_store_new {P : Program} {ops : Array Oper} {rest : List Oper} {o : Oper} {a : Act} (w : World) {Q : Exit → Act → World → Prop} (hgd : o.guard = none) (ty : TypeId) (x y : Operand) (ho : o.op = .store ty x y)
    (b : Nat) (cells : Array Value) (hx : a.eval x = .pointer (some ⟨b, 0, none⟩)) (hy : a.eval y = .agg cells) (t : TypeId) (old : Array Value) (hg : w.heap[b]? = some (.cells old t (0, 0))) (hi : (P.info? ty).map (·.size) = some cells.size)
    (hold : old.size = cells.size) (h1 : cells.all (·.oneCell') = true)
    (h : ∀ w', w'.heap[b]? = some (.cells cells t (0, 0)) → w.grownBy w' (some b) → wpList P ops Q rest (a.put o.dst undef) w') : wpList P ops Q (o :: rest) a w :=
  wpList_store_row hgd ty x y ho b cells hx hy t old hg hi hold h1 (h _ (setRow_heap w b old cells t (0, 0) hg) ⟨rfl, rfl, rfl, by simp, fun i _ hne => setRow_other w b i _ (fun e => hne (by rw [e]))⟩)
/-- An expression that the maker makes, at most d deep. -/
def GE : Nat → Ex → Prop
  | 0, .mk k o a l s xs => l = 0 ∧ 0 ≤ o ∧ o ≤ 11 ∧ 0 ≤ a ∧ a < 9223372036854775808 ∧ s.size ≤ 16 ∧ xs = [] ∧ (k = 12 ∨ (k = 13 ∧ GoodN s) ∨ k = 1 ∨ (k = 11 ∧ GoodN s))
  | d + 1, .mk k o a l s xs => l = 0 ∧ 0 ≤ o ∧ o ≤ 11 ∧ 0 ≤ a ∧ a < 9223372036854775808 ∧ s.size ≤ 16 ∧ ((xs = [] ∧ (k = 12 ∨ (k = 13 ∧ GoodN s) ∨ k = 1 ∨ (k = 11 ∧ GoodN s))) ∨
      ((∀ x ∈ xs, GE d x) ∧ ((k = 5 ∧ 1 ≤ o ∧ o ≤ 2 ∧ xs.length = 1) ∨ (k = 6 ∧ 3 ≤ o ∧ xs.length = 2) ∨ (k = 7 ∧ xs.length = 2) ∨ (k = 8 ∧ xs.length = 2) ∨ (k = 4 ∧ GoodN s ∧ xs.length = 1) ∨ (k = 9 ∧ GoodN s ∧ xs.length ≤ 2) ∨ (k = 10 ∧ 1 ≤ xs.length ∧ xs.length ≤ 3))))
theorem ge_leaf {d : Nat} {k o a : Int} {s : ByteArray} (ho : 0 ≤ o ∧ o ≤ 11) (ha : 0 ≤ a ∧ a < 9223372036854775808) (hs : s.size ≤ 16) (hk : k = 12 ∨ (k = 13 ∧ GoodN s) ∨ k = 1 ∨ (k = 11 ∧ GoodN s)) : GE d (.mk k o a 0 s []) := by
  cases d with
  | zero => exact ⟨rfl, ho.1, ho.2, ha.1, ha.2, hs, rfl, hk⟩
  | succ d => exact ⟨rfl, ho.1, ho.2, ha.1, ha.2, hs, .inl ⟨rfl, hk⟩⟩
theorem exV_leaf {F : Nat → Prop} {w : World} {d : Nat} {k o a l : Int} {s : ByteArray} : ExV F w (d + 1) (.mk k o a l s []) (.agg #[.int .i64 k, .int .i64 o, .int .i64 a, .int .i64 l, .string s, .slice none 0 0]) :=
  ⟨none, 0, rfl, Nat.le_refl _, fun i x h => by simp at h⟩
/-- An expression made. -/
def ExprG (m g : Nat) (l : List Nat) (E : Env) (bud : Int) (d : Nat) (w : World) (e : Ending) (w' : World) : Prop :=
  ∃ x v, e = .returned v ∧ GE d x ∧ ExV (fun k => w.heap.size ≤ k ∧ k < w'.heap.size) w' (d + 1) x v ∧ GS w' m g l E bud ∧ w.grownBy w' (some g)
theorem exprG_leaf {m g : Nat} {l : List Nat} {E : Env} {bud : Int} {d : Nat} {w w' : World} {k a : Int} {s : ByteArray} (ha : 0 ≤ a ∧ a < 9223372036854775808) (hs : s.size ≤ 16) (hk : k = 12 ∨ (k = 13 ∧ GoodN s) ∨ k = 1 ∨ (k = 11 ∧ GoodN s)) (h : GS w' m g l E bud) (hg : w.grownBy w' (some g)) :
    ExprG m g l E bud d w (.returned (.agg #[.int .i64 k, .int .i64 0, .int .i64 a, .int .i64 0, .string s, .slice none 0 0])) w' :=
  ⟨.mk k 0 a 0 s [], _, rfl, ge_leaf (by omega) ha hs hk, exV_leaf, h, hg⟩
/-- A step that writes a block of the call's own. -/
theorem GS.own {w0 w w' : World} {m g : Nat} {l : List Nat} {E : Env} {bud : Int} (h : GS w0 m g l E bud) (h2 : GS w m g l E bud) (h1 : w0.grownBy w (some g)) {b : Nat} (hb : w0.heap.size ≤ b) (hg : w.grownBy w' (some b)) : GS w' m g l E bud ∧ w0.grownBy w' (some g) := by
  have hgr : w0.grownBy w' (some g) := grown_new h1 hg hb
  have hlt := h.mka.lt
  have hglt := h.glt
  refine ⟨⟨h.ne, h.mka.grown hgr h.ne, ?_, h.len, h.lb⟩, hgr⟩
  obtain ⟨k, hk⟩ := h2.co
  exact ⟨k, codes_other hk hg (by omega)⟩
theorem blk_keep {w w' : World} {g b : Nat} {o : Obj} (hg : w.grownBy w' (some g)) (hb : b ≠ g) (h : w.heap[b]? = some o) : w'.heap[b]? = some o :=
  (hg.block _ (Array.getElem?_eq_some_iff.1 h).1 (fun e => hb (by injection e))).trans h
theorem row_set {w : World} {b i : Nat} {cs : Array Value} {t : TypeId} (v : Value) (h : w.heap[b]? = some (.cells cs t (0, 0))) : (w.setCell ⟨b, i, none⟩ v).heap[b]? = some (.cells (cs.setIfInBounds i v) t (0, 0)) := by
  have := heap_setCell_same w b i _ _ v h
  simpa using this
/-- A struct of six cells stored cell by cell. -/
theorem row_set6 {w : World} {b : Nat} {c0 c1 c2 c3 c4 c5 : Value} {t : TypeId} (v0 v1 v2 v3 v4 v5 : Value) (h : w.heap[b]? = some (.cells #[c0, c1, c2, c3, c4, c5] t (0, 0))) :
    ((((((w.setCell ⟨b, 0, none⟩ v0).setCell ⟨b, 1, none⟩ v1).setCell ⟨b, 2, none⟩ v2).setCell ⟨b, 3, none⟩ v3).setCell ⟨b, 4, none⟩ v4).setCell ⟨b, 5, none⟩ v5).heap[b]? = some (.cells #[v0, v1, v2, v3, v4, v5] t (0, 0)) ∧
    w.grownBy ((((((w.setCell ⟨b, 0, none⟩ v0).setCell ⟨b, 1, none⟩ v1).setCell ⟨b, 2, none⟩ v2).setCell ⟨b, 3, none⟩ v3).setCell ⟨b, 4, none⟩ v4).setCell ⟨b, 5, none⟩ v5) (some b) :=
  ⟨row_set v5 (row_set v4 (row_set v3 (row_set v2 (row_set v1 (row_set v0 h))))), ((((((set_grown w ⟨b, 0, none⟩ v0).trans (set_grown _ ⟨b, 1, none⟩ v1)).trans (set_grown _ ⟨b, 2, none⟩ v2)).trans (set_grown _ ⟨b, 3, none⟩ v3)).trans (set_grown _ ⟨b, 4, none⟩ v4)).trans (set_grown _ ⟨b, 5, none⟩ v5))⟩
theorem keep6 {w : World} {b m o : Nat} {v v0 v1 v2 v3 v4 v5 : Value} (hm : m ≠ b) (h : w.cell? ⟨m, o, none⟩ = some v) :
    ((((((w.setCell ⟨b, 0, none⟩ v0).setCell ⟨b, 1, none⟩ v1).setCell ⟨b, 2, none⟩ v2).setCell ⟨b, 3, none⟩ v3).setCell ⟨b, 4, none⟩ v4).setCell ⟨b, 5, none⟩ v5).cell? ⟨m, o, none⟩ = some v :=
  cell_grown ((((((set_grown w ⟨b, 0, none⟩ v0).trans (set_grown _ ⟨b, 1, none⟩ v1)).trans (set_grown _ ⟨b, 2, none⟩ v2)).trans (set_grown _ ⟨b, 3, none⟩ v3)).trans (set_grown _ ⟨b, 4, none⟩ v4)).trans (set_grown _ ⟨b, 5, none⟩ v5)) hm h
theorem strs_some {F : Nat → Prop} {w : World} {l : List ByteArray} {A : Option Addr} {c : Nat} (h : StrsAt F w l A c) (hl : 0 < l.length) : ∃ r, A = some ⟨r, 0, none⟩ ∧ F r ∧ ∀ i s, l[i]? = some s → w.cell? ⟨r, i, none⟩ = some (.string s) := by
  obtain ⟨r, hA, hr, _⟩ := h.2 0 _ (List.getElem?_eq_getElem hl)
  refine ⟨r, hA, hr, fun i s hs => ?_⟩
  obtain ⟨r', hA', _, hc⟩ := h.2 i s hs
  rw [hA] at hA'
  injection hA' with hA'
  injection hA' with hA'
  subst hA'
  exact hc
set_option maxRecDepth 100000 in
set_option maxHeartbeats 8000000 in
theorem leaf_any (m g : Nat) (l : List Nat) (E : Env) (bud : Int) (d : Nat) (w : World) (h : GS w m g l E bud) (hE : EnvOk E) :
    Calls Tryz.prog 73 #[.pointer (some ⟨m, 0, none⟩)] w (ExprG m g l E bud d w) := by
  have Hgs := Lib.hid h
  have HE := Lib.hid hE
  have hglt := h.glt
  have hmlt := h.mka.lt
  have hgs0 := h.below ((Below.refl _ w).alloc (Nat.le_refl _) (.cells #[.int .i64 0, .int .i64 0, .int .i64 0, .int .i64 0, .string { data := #[] }, .slice none 0 0] 90))
  have Hgs0 := Lib.hid hgs0
  obtain ⟨_, _, _, _, _, _, c0, z1, z2, z3, z4, z5, z6, z7⟩ := hgs0.cells
  clear z1 z2 z3 z4 z5 z6 z7
  have hnx := Lib.hid (next_gs 6 6 hgs0 rfl (by omega))
  clear hgs0 h hE
  go_enter Tryz.func73, Tryz.ntmps73
  go_wp2_with fail
  refine hnx.out.mono ?_
  rintro e w1 ⟨r, rfl, hr1, _, hgs1, hg1⟩
  have hr6 : r < 6 := hr1 (by omega)
  have hb : w1.heap[w.heap.size]? = some (.cells #[.int .i64 0, .int .i64 0, .int .i64 0, .int .i64 0, .string { data := #[] }, .slice none 0 0] 90 (0, 0)) := blk_keep hg1 (by omega) (heap_alloc_new w _)
  have HB := Lib.hid hb
  have hg01 : w.grownBy w1 (some g) := (World.grownBy_alloc w _ _).trans hg1
  have Hg01 := Lib.hid hg01
  have Hgs1 := Lib.hid hgs1
  obtain ⟨gA, gc, fA, fc, lA, lc, b0, b1, b2, b3, b4, q1, q2, q3⟩ := hgs1.cells
  obtain ⟨ln, hln⟩ : ∃ ln, ln = E.locals.length := ⟨_, rfl⟩
  have hlc : ln ≤ 1000 := by rw [hln]; exact HE.out.ln
  have hcap : ln ≤ lc := by rw [hln]; exact q3.1
  rw [← hln] at b3
  have HLL := Lib.hid hln
  have Q3 := Lib.hid q3
  clear hln
  clear hnx hgs1 hg1 hr1 hb hg01 c0 q1 q2 q3 Hgs0
  have hcase : r = 0 ∨ r = 1 ∨ r = 2 ∨ r = 3 ∨ r = 4 ∨ r = 5 := by omega
  clear hr6
  rcases hcase with rfl | rfl | rfl | rfl | rfl | rfl
  · go_wp2_with (with_reducible refine wpList_pause_store ?_)
    refine Pause.of (wpList_store_new w1 rfl _ _ _ rfl w.heap.size _ rfl (by rfl) _ _ HB.out (by kernel_rfl) (by rfl) (by simp [Value.oneCell']) ?_)
    intro w9 hrow hg9
    have H2 := Hgs.out.own Hgs1.out Hg01.out (Nat.le_refl _) hg9
    have k0 := cell_of_row _ _ 0 _ _ _ hrow
    have k1 := cell_of_row _ _ 1 _ _ _ hrow
    have k2 := cell_of_row _ _ 2 _ _ _ hrow
    have k3 := cell_of_row _ _ 3 _ _ _ hrow
    have k4 := cell_of_row _ _ 4 _ _ _ hrow
    have k5 := cell_of_row _ _ 5 _ _ _ hrow
    have HH := Lib.hid H2
    clear hrow hg9 H2
    go_wp2_with fail
    exact bodyPost_ret (v := .agg #[.int .i64 12, .int .i64 0, .int .i64 0, .int .i64 0, .string ⟨#[]⟩, .slice none 0 0]) (by simp [results, Tryz.results73, go_sem, k0, k1, k2, k3, k4, k5]) rfl (exprG_leaf (by omega) (by first | assumption | decide) (.inl rfl) HH.out.1 HH.out.2)
  · have hpk := Lib.hid (pick_any m g l E bud false w1 Hgs1.out HE.out)
    go_wp2_with fail
    refine hpk.out.mono ?_
    rintro e w2 ⟨s, ok, rfl, hok, hgs2, hg2⟩
    have Hgs1 := Lib.hid hgs2
    have HB := Lib.hid (blk_keep hg2 (by omega) HB.out)
    have Hg01 := Lib.hid (Hg01.out.trans hg2)
    have Hok := Lib.hid hok
    clear hpk hgs2 hg2 hok
    cases ok with
    | true =>
      have hs : GoodN s := by obtain ⟨x, hx, rfl⟩ := Hok.out rfl; exact (HE.out.gs x hx).1
      have hsz := hs.1
      have HS := Lib.hid hs
      clear hs
      go_wp2_with (with_reducible refine wpList_pause_store ?_)
      refine Pause.of (wpList_store_new w2 rfl _ _ _ rfl w.heap.size _ rfl (by rfl) _ _ HB.out (by kernel_rfl) (by rfl) (by simp [Value.oneCell']) ?_)
      intro w9 hrow hg9
      have H2 := Hgs.out.own Hgs1.out Hg01.out (Nat.le_refl _) hg9
      have k0 := cell_of_row _ _ 0 _ _ _ hrow
      have k1 := cell_of_row _ _ 1 _ _ _ hrow
      have k2 := cell_of_row _ _ 2 _ _ _ hrow
      have k3 := cell_of_row _ _ 3 _ _ _ hrow
      have k4 := cell_of_row _ _ 4 _ _ _ hrow
      have k5 := cell_of_row _ _ 5 _ _ _ hrow
      have HH := Lib.hid H2
      clear hrow hg9 H2
      go_wp2_with fail
      exact bodyPost_ret (v := .agg #[.int .i64 13, .int .i64 0, .int .i64 0, .int .i64 0, .string s, .slice none 0 0]) (by simp [results, Tryz.results73, go_sem, k0, k1, k2, k3, k4, k5]) rfl (exprG_leaf (by omega) (by first | assumption | decide) (.inr (.inl ⟨rfl, HS.out⟩)) HH.out.1 HH.out.2)
    | false =>
      have hn5 := Lib.hid (next_gs 5 5 Hgs1.out rfl (by omega))
      go_wp2_with fail
      refine hn5.out.mono ?_
      rintro e w5 ⟨q, rfl, hq1, _, hgs5, hg5⟩
      have hq : q < 5 := hq1 (by omega)
      have Hgs1 := Lib.hid hgs5
      have HB := Lib.hid (blk_keep hg5 (by omega) HB.out)
      have Hg01 := Lib.hid (Hg01.out.trans hg5)
      clear hn5 hgs5 hg5 hq1
      have hn12 := Lib.hid (next_gs 12 12 Hgs1.out rfl (by omega))
      go_wp2_with fail
      refine hn12.out.mono ?_
      rintro e w6 ⟨q2, rfl, _, _, hgs6, hg6⟩
      have Hgs1 := Lib.hid hgs6
      have HB := Lib.hid (blk_keep hg6 (by omega) HB.out)
      have Hg01 := Lib.hid (Hg01.out.trans hg6)
      clear hn12 hgs6 hg6
      by_cases h11 : q2 = 11
      · subst h11
        have hgs7 := Hgs1.out.below ((Below.refl _ w6).alloc (Nat.le_refl _) (.cells #[.int .i64 9223372036854775807, .int .i64 2147483648, .int .i64 1000, .int .i64 64] 3))
        have hn4 := Lib.hid (next_gs 4 4 hgs7 rfl (by omega))
        have hsz6 := Hg01.out.size
        have hsz6b : w.heap.size < w6.heap.size := (Array.getElem?_eq_some_iff.1 HB.out).1
        clear hgs7
        go_wp2_with fail
        refine hn4.out.mono ?_
        rintro e w7 ⟨q3, rfl, hq3, _, hgs7, hg7⟩
        have hq4 : q3 < 4 := hq3 (by omega)
        have Hgs1 := Lib.hid hgs7
        have hlit : w7.heap[w6.heap.size]? = some (.cells #[.int .i64 9223372036854775807, .int .i64 2147483648, .int .i64 1000, .int .i64 64] 3 (0, 0)) := blk_keep hg7 (by omega) (heap_alloc_new w6 _)
        have HL := Lib.hid hlit
        have HB := Lib.hid (blk_keep hg7 (by omega) ((heap_alloc_old _ _ hsz6b).trans HB.out))
        have Hg01 := Lib.hid ((Hg01.out.trans (World.grownBy_alloc w6 _ _)).trans hg7)
        clear hn4 hgs7 hg7 hq3 hlit
        have hc : q3 = 0 ∨ q3 = 1 ∨ q3 = 2 ∨ q3 = 3 := by omega
        clear hq4
        rcases hc with rfl | rfl | rfl | rfl
        · have j := cell_of_row _ _ 0 _ _ _ HL.out
          go_wp2_with (with_reducible refine wpList_pause_store ?_)
          refine Pause.of (wpList_store_new w7 rfl _ _ _ rfl w.heap.size _ rfl (by rfl) _ _ HB.out (by kernel_rfl) (by rfl) (by simp [Value.oneCell']) ?_)
          intro w9 hrow hg9
          have H2 := Hgs.out.own Hgs1.out Hg01.out (Nat.le_refl _) hg9
          have k0 := cell_of_row _ _ 0 _ _ _ hrow
          have k1 := cell_of_row _ _ 1 _ _ _ hrow
          have k2 := cell_of_row _ _ 2 _ _ _ hrow
          have k3 := cell_of_row _ _ 3 _ _ _ hrow
          have k4 := cell_of_row _ _ 4 _ _ _ hrow
          have k5 := cell_of_row _ _ 5 _ _ _ hrow
          have HH := Lib.hid H2
          clear hrow hg9 H2
          go_wp2_with fail
          exact bodyPost_ret (v := .agg #[.int .i64 1, .int .i64 0, .int .i64 9223372036854775807, .int .i64 0, .string ⟨#[]⟩, .slice none 0 0]) (by simp [results, Tryz.results73, go_sem, k0, k1, k2, k3, k4, k5]) rfl (exprG_leaf (by omega) (by first | assumption | decide) (.inr (.inr (.inl rfl))) HH.out.1 HH.out.2)
        · have j := cell_of_row _ _ 1 _ _ _ HL.out
          go_wp2_with (with_reducible refine wpList_pause_store ?_)
          refine Pause.of (wpList_store_new w7 rfl _ _ _ rfl w.heap.size _ rfl (by rfl) _ _ HB.out (by kernel_rfl) (by rfl) (by simp [Value.oneCell']) ?_)
          intro w9 hrow hg9
          have H2 := Hgs.out.own Hgs1.out Hg01.out (Nat.le_refl _) hg9
          have k0 := cell_of_row _ _ 0 _ _ _ hrow
          have k1 := cell_of_row _ _ 1 _ _ _ hrow
          have k2 := cell_of_row _ _ 2 _ _ _ hrow
          have k3 := cell_of_row _ _ 3 _ _ _ hrow
          have k4 := cell_of_row _ _ 4 _ _ _ hrow
          have k5 := cell_of_row _ _ 5 _ _ _ hrow
          have HH := Lib.hid H2
          clear hrow hg9 H2
          go_wp2_with fail
          exact bodyPost_ret (v := .agg #[.int .i64 1, .int .i64 0, .int .i64 2147483648, .int .i64 0, .string ⟨#[]⟩, .slice none 0 0]) (by simp [results, Tryz.results73, go_sem, k0, k1, k2, k3, k4, k5]) rfl (exprG_leaf (by omega) (by first | assumption | decide) (.inr (.inr (.inl rfl))) HH.out.1 HH.out.2)
        · have j := cell_of_row _ _ 2 _ _ _ HL.out
          go_wp2_with (with_reducible refine wpList_pause_store ?_)
          refine Pause.of (wpList_store_new w7 rfl _ _ _ rfl w.heap.size _ rfl (by rfl) _ _ HB.out (by kernel_rfl) (by rfl) (by simp [Value.oneCell']) ?_)
          intro w9 hrow hg9
          have H2 := Hgs.out.own Hgs1.out Hg01.out (Nat.le_refl _) hg9
          have k0 := cell_of_row _ _ 0 _ _ _ hrow
          have k1 := cell_of_row _ _ 1 _ _ _ hrow
          have k2 := cell_of_row _ _ 2 _ _ _ hrow
          have k3 := cell_of_row _ _ 3 _ _ _ hrow
          have k4 := cell_of_row _ _ 4 _ _ _ hrow
          have k5 := cell_of_row _ _ 5 _ _ _ hrow
          have HH := Lib.hid H2
          clear hrow hg9 H2
          go_wp2_with fail
          exact bodyPost_ret (v := .agg #[.int .i64 1, .int .i64 0, .int .i64 1000, .int .i64 0, .string ⟨#[]⟩, .slice none 0 0]) (by simp [results, Tryz.results73, go_sem, k0, k1, k2, k3, k4, k5]) rfl (exprG_leaf (by omega) (by first | assumption | decide) (.inr (.inr (.inl rfl))) HH.out.1 HH.out.2)
        · have j := cell_of_row _ _ 3 _ _ _ HL.out
          go_wp2_with (with_reducible refine wpList_pause_store ?_)
          refine Pause.of (wpList_store_new w7 rfl _ _ _ rfl w.heap.size _ rfl (by rfl) _ _ HB.out (by kernel_rfl) (by rfl) (by simp [Value.oneCell']) ?_)
          intro w9 hrow hg9
          have H2 := Hgs.out.own Hgs1.out Hg01.out (Nat.le_refl _) hg9
          have k0 := cell_of_row _ _ 0 _ _ _ hrow
          have k1 := cell_of_row _ _ 1 _ _ _ hrow
          have k2 := cell_of_row _ _ 2 _ _ _ hrow
          have k3 := cell_of_row _ _ 3 _ _ _ hrow
          have k4 := cell_of_row _ _ 4 _ _ _ hrow
          have k5 := cell_of_row _ _ 5 _ _ _ hrow
          have HH := Lib.hid H2
          clear hrow hg9 H2
          go_wp2_with fail
          exact bodyPost_ret (v := .agg #[.int .i64 1, .int .i64 0, .int .i64 64, .int .i64 0, .string ⟨#[]⟩, .slice none 0 0]) (by simp [results, Tryz.results73, go_sem, k0, k1, k2, k3, k4, k5]) rfl (exprG_leaf (by omega) (by first | assumption | decide) (.inr (.inr (.inl rfl))) HH.out.1 HH.out.2)
      · have h11 : ((q2 : Int) == 11) = false := by simp; omega
        go_wp2_with (with_reducible refine wpList_pause_store ?_)
        refine Pause.of (wpList_store_new w6 rfl _ _ _ rfl w.heap.size _ rfl (by rfl) _ _ HB.out (by kernel_rfl) (by rfl) (by simp [Value.oneCell']) ?_)
        intro w9 hrow hg9
        have H2 := Hgs.out.own Hgs1.out Hg01.out (Nat.le_refl _) hg9
        have k0 := cell_of_row _ _ 0 _ _ _ hrow
        have k1 := cell_of_row _ _ 1 _ _ _ hrow
        have k2 := cell_of_row _ _ 2 _ _ _ hrow
        have k3 := cell_of_row _ _ 3 _ _ _ hrow
        have k4 := cell_of_row _ _ 4 _ _ _ hrow
        have k5 := cell_of_row _ _ 5 _ _ _ hrow
        have HH := Lib.hid H2
        clear hrow hg9 H2
        go_wp2_with fail
        exact bodyPost_ret (v := .agg #[.int .i64 1, .int .i64 0, .int .i64 q, .int .i64 0, .string ⟨#[]⟩, .slice none 0 0]) (by simp [results, Tryz.results73, go_sem, k0, k1, k2, k3, k4, k5]) rfl (exprG_leaf (by omega) (by first | assumption | decide) (.inr (.inr (.inl rfl))) HH.out.1 HH.out.2)
  · by_cases h0 : 0 < ln
    · obtain ⟨rr, rfl, hrg, hloc⟩ := strs_some Q3.out (by rw [← HLL.out]; exact h0)
      have Hloc := Lib.hid hloc
      have hgd := Hgs1.out.below (Below.refl _ w1).drew
      have hnl := Lib.hid (next_gs ln ln hgd rfl (by omega))
      have hmg := Hgs1.out.ne
      have hmw : m ≠ w.heap.size := by omega
      have hS0 : w1.drew.cell? ⟨m, 3, none⟩ = some (.slice (some ⟨rr, 0, none⟩) ln lc) := b3
      clear hloc hgd
      go_upto_region 12 with fail
      go_region_with
        (first | (go_at_call 20; (with_reducible refine hnl.out.mono ?_); rintro e w2 ⟨q, rfl, hq1, _, hgs2, hg2⟩; have hq : q < ln := (hq1 (by omega)); have e3 := (cell_grown hg2 hmg hS0); obtain ⟨sn, hsn⟩ := (⟨_, List.getElem?_eq_getElem (by rw [← HLL.out]; exact hq)⟩ : ∃ sn, E.locals[q]? = some sn); have es := (cell_grown hg2 hrg (show w1.drew.cell? ⟨rr, q, none⟩ = some (.string sn) from Hloc.out q sn hsn)); have hb2 := (blk_keep hg2 (by omega : w.heap.size ≠ g) (show w1.drew.heap[w.heap.size]? = _ from HB.out)); have kk0 := cell_of_row _ _ 0 _ _ _ hb2; have kk1 := cell_of_row _ _ 1 _ _ _ hb2; have kk2 := cell_of_row _ _ 2 _ _ _ hb2; have kk3 := cell_of_row _ _ 3 _ _ _ hb2; have kk4 := cell_of_row _ _ 4 _ _ _ hb2; have kk5 := cell_of_row _ _ 5 _ _ _ hb2; have kf0 := codes_frozen hb2 0; have kf1 := codes_frozen hb2 1; have kf2 := codes_frozen hb2 2; have kf3 := codes_frozen hb2 3; have kf4 := codes_frozen hb2 4; have kf5 := codes_frozen hb2 5; have HB2 := Lib.hid hb2; have Hgs2 := Lib.hid hgs2; have Hg2 := Lib.hid hg2; have Hsn := Lib.hid hsn; clear hq1 hgs2 hg2 hb2 hsn))
      all_goals
        have h6 := row_set6 (.int .i64 13) (.int .i64 0) (.int .i64 0) (.int .i64 0) (.string sn) (.slice none 0 0) HB2.out
        generalize ((((((w2.setCell ⟨w.heap.size, 0, none⟩ (.int .i64 13)).setCell ⟨w.heap.size, 1, none⟩ (.int .i64 0)).setCell ⟨w.heap.size, 2, none⟩ (.int .i64 0)).setCell ⟨w.heap.size, 3, none⟩ (.int .i64 0)).setCell ⟨w.heap.size, 4, none⟩ (.string sn)).setCell ⟨w.heap.size, 5, none⟩ (.slice none 0 0)) = w9 at *
        have H2 := Hgs.out.own Hgs2.out (Hg01.out.trans (grown_undrew Hg2.out)) (Nat.le_refl _) h6.2
        have k0 := cell_of_row _ _ 0 _ _ _ h6.1
        have k1 := cell_of_row _ _ 1 _ _ _ h6.1
        have k2 := cell_of_row _ _ 2 _ _ _ h6.1
        have k3 := cell_of_row _ _ 3 _ _ _ h6.1
        have k4 := cell_of_row _ _ 4 _ _ _ h6.1
        have k5 := cell_of_row _ _ 5 _ _ _ h6.1
        have HH := Lib.hid H2
        have hgn : GoodN sn := HE.out.ls _ (List.mem_of_getElem? Hsn.out)
        have hsz := hgn.1
        have HGN := Lib.hid hgn
        clear h6 H2 hgn kk0 kk1 kk2 kk3 kk4 kk5 kf0 kf1 kf2 kf3 kf4 kf5 e3 es
        go_wp2_with fail
        exact bodyPost_ret (v := .agg #[.int .i64 13, .int .i64 0, .int .i64 0, .int .i64 0, .string sn, .slice none 0 0]) (by simp [results, Tryz.results73, go_sem, k0, k1, k2, k3, k4, k5]) rfl (exprG_leaf (by omega) hsz (.inr (.inl ⟨rfl, HGN.out⟩)) HH.out.1 HH.out.2)
    · have hn5 := Lib.hid (next_gs 5 5 Hgs1.out rfl (by omega))
      go_wp2_with fail
      refine hn5.out.mono ?_
      rintro e w5 ⟨q, rfl, hq1, _, hgs5, hg5⟩
      have hq : q < 5 := hq1 (by omega)
      have Hgs1 := Lib.hid hgs5
      have HB := Lib.hid (blk_keep hg5 (by omega) HB.out)
      have Hg01 := Lib.hid (Hg01.out.trans hg5)
      clear hn5 hgs5 hg5 hq1
      have hn12 := Lib.hid (next_gs 12 12 Hgs1.out rfl (by omega))
      go_wp2_with fail
      refine hn12.out.mono ?_
      rintro e w6 ⟨q2, rfl, _, _, hgs6, hg6⟩
      have Hgs1 := Lib.hid hgs6
      have HB := Lib.hid (blk_keep hg6 (by omega) HB.out)
      have Hg01 := Lib.hid (Hg01.out.trans hg6)
      clear hn12 hgs6 hg6
      by_cases h11 : q2 = 11
      · subst h11
        have hgs7 := Hgs1.out.below ((Below.refl _ w6).alloc (Nat.le_refl _) (.cells #[.int .i64 9223372036854775807, .int .i64 2147483648, .int .i64 1000, .int .i64 64] 3))
        have hn4 := Lib.hid (next_gs 4 4 hgs7 rfl (by omega))
        have hsz6 := Hg01.out.size
        have hsz6b : w.heap.size < w6.heap.size := (Array.getElem?_eq_some_iff.1 HB.out).1
        clear hgs7
        go_wp2_with fail
        refine hn4.out.mono ?_
        rintro e w7 ⟨q3, rfl, hq3, _, hgs7, hg7⟩
        have hq4 : q3 < 4 := hq3 (by omega)
        have Hgs1 := Lib.hid hgs7
        have hlit : w7.heap[w6.heap.size]? = some (.cells #[.int .i64 9223372036854775807, .int .i64 2147483648, .int .i64 1000, .int .i64 64] 3 (0, 0)) := blk_keep hg7 (by omega) (heap_alloc_new w6 _)
        have HL := Lib.hid hlit
        have HB := Lib.hid (blk_keep hg7 (by omega) ((heap_alloc_old _ _ hsz6b).trans HB.out))
        have Hg01 := Lib.hid ((Hg01.out.trans (World.grownBy_alloc w6 _ _)).trans hg7)
        clear hn4 hgs7 hg7 hq3 hlit
        have hc : q3 = 0 ∨ q3 = 1 ∨ q3 = 2 ∨ q3 = 3 := by omega
        clear hq4
        rcases hc with rfl | rfl | rfl | rfl
        · have j := cell_of_row _ _ 0 _ _ _ HL.out
          go_wp2_with (with_reducible refine wpList_pause_store ?_)
          refine Pause.of (wpList_store_new w7 rfl _ _ _ rfl w.heap.size _ rfl (by rfl) _ _ HB.out (by kernel_rfl) (by rfl) (by simp [Value.oneCell']) ?_)
          intro w9 hrow hg9
          have H2 := Hgs.out.own Hgs1.out Hg01.out (Nat.le_refl _) hg9
          have k0 := cell_of_row _ _ 0 _ _ _ hrow
          have k1 := cell_of_row _ _ 1 _ _ _ hrow
          have k2 := cell_of_row _ _ 2 _ _ _ hrow
          have k3 := cell_of_row _ _ 3 _ _ _ hrow
          have k4 := cell_of_row _ _ 4 _ _ _ hrow
          have k5 := cell_of_row _ _ 5 _ _ _ hrow
          have HH := Lib.hid H2
          clear hrow hg9 H2
          go_wp2_with fail
          exact bodyPost_ret (v := .agg #[.int .i64 1, .int .i64 0, .int .i64 9223372036854775807, .int .i64 0, .string ⟨#[]⟩, .slice none 0 0]) (by simp [results, Tryz.results73, go_sem, k0, k1, k2, k3, k4, k5]) rfl (exprG_leaf (by omega) (by first | assumption | decide) (.inr (.inr (.inl rfl))) HH.out.1 HH.out.2)
        · have j := cell_of_row _ _ 1 _ _ _ HL.out
          go_wp2_with (with_reducible refine wpList_pause_store ?_)
          refine Pause.of (wpList_store_new w7 rfl _ _ _ rfl w.heap.size _ rfl (by rfl) _ _ HB.out (by kernel_rfl) (by rfl) (by simp [Value.oneCell']) ?_)
          intro w9 hrow hg9
          have H2 := Hgs.out.own Hgs1.out Hg01.out (Nat.le_refl _) hg9
          have k0 := cell_of_row _ _ 0 _ _ _ hrow
          have k1 := cell_of_row _ _ 1 _ _ _ hrow
          have k2 := cell_of_row _ _ 2 _ _ _ hrow
          have k3 := cell_of_row _ _ 3 _ _ _ hrow
          have k4 := cell_of_row _ _ 4 _ _ _ hrow
          have k5 := cell_of_row _ _ 5 _ _ _ hrow
          have HH := Lib.hid H2
          clear hrow hg9 H2
          go_wp2_with fail
          exact bodyPost_ret (v := .agg #[.int .i64 1, .int .i64 0, .int .i64 2147483648, .int .i64 0, .string ⟨#[]⟩, .slice none 0 0]) (by simp [results, Tryz.results73, go_sem, k0, k1, k2, k3, k4, k5]) rfl (exprG_leaf (by omega) (by first | assumption | decide) (.inr (.inr (.inl rfl))) HH.out.1 HH.out.2)
        · have j := cell_of_row _ _ 2 _ _ _ HL.out
          go_wp2_with (with_reducible refine wpList_pause_store ?_)
          refine Pause.of (wpList_store_new w7 rfl _ _ _ rfl w.heap.size _ rfl (by rfl) _ _ HB.out (by kernel_rfl) (by rfl) (by simp [Value.oneCell']) ?_)
          intro w9 hrow hg9
          have H2 := Hgs.out.own Hgs1.out Hg01.out (Nat.le_refl _) hg9
          have k0 := cell_of_row _ _ 0 _ _ _ hrow
          have k1 := cell_of_row _ _ 1 _ _ _ hrow
          have k2 := cell_of_row _ _ 2 _ _ _ hrow
          have k3 := cell_of_row _ _ 3 _ _ _ hrow
          have k4 := cell_of_row _ _ 4 _ _ _ hrow
          have k5 := cell_of_row _ _ 5 _ _ _ hrow
          have HH := Lib.hid H2
          clear hrow hg9 H2
          go_wp2_with fail
          exact bodyPost_ret (v := .agg #[.int .i64 1, .int .i64 0, .int .i64 1000, .int .i64 0, .string ⟨#[]⟩, .slice none 0 0]) (by simp [results, Tryz.results73, go_sem, k0, k1, k2, k3, k4, k5]) rfl (exprG_leaf (by omega) (by first | assumption | decide) (.inr (.inr (.inl rfl))) HH.out.1 HH.out.2)
        · have j := cell_of_row _ _ 3 _ _ _ HL.out
          go_wp2_with (with_reducible refine wpList_pause_store ?_)
          refine Pause.of (wpList_store_new w7 rfl _ _ _ rfl w.heap.size _ rfl (by rfl) _ _ HB.out (by kernel_rfl) (by rfl) (by simp [Value.oneCell']) ?_)
          intro w9 hrow hg9
          have H2 := Hgs.out.own Hgs1.out Hg01.out (Nat.le_refl _) hg9
          have k0 := cell_of_row _ _ 0 _ _ _ hrow
          have k1 := cell_of_row _ _ 1 _ _ _ hrow
          have k2 := cell_of_row _ _ 2 _ _ _ hrow
          have k3 := cell_of_row _ _ 3 _ _ _ hrow
          have k4 := cell_of_row _ _ 4 _ _ _ hrow
          have k5 := cell_of_row _ _ 5 _ _ _ hrow
          have HH := Lib.hid H2
          clear hrow hg9 H2
          go_wp2_with fail
          exact bodyPost_ret (v := .agg #[.int .i64 1, .int .i64 0, .int .i64 64, .int .i64 0, .string ⟨#[]⟩, .slice none 0 0]) (by simp [results, Tryz.results73, go_sem, k0, k1, k2, k3, k4, k5]) rfl (exprG_leaf (by omega) (by first | assumption | decide) (.inr (.inr (.inl rfl))) HH.out.1 HH.out.2)
      · have h11 : ((q2 : Int) == 11) = false := by simp; omega
        go_wp2_with (with_reducible refine wpList_pause_store ?_)
        refine Pause.of (wpList_store_new w6 rfl _ _ _ rfl w.heap.size _ rfl (by rfl) _ _ HB.out (by kernel_rfl) (by rfl) (by simp [Value.oneCell']) ?_)
        intro w9 hrow hg9
        have H2 := Hgs.out.own Hgs1.out Hg01.out (Nat.le_refl _) hg9
        have k0 := cell_of_row _ _ 0 _ _ _ hrow
        have k1 := cell_of_row _ _ 1 _ _ _ hrow
        have k2 := cell_of_row _ _ 2 _ _ _ hrow
        have k3 := cell_of_row _ _ 3 _ _ _ hrow
        have k4 := cell_of_row _ _ 4 _ _ _ hrow
        have k5 := cell_of_row _ _ 5 _ _ _ hrow
        have HH := Lib.hid H2
        clear hrow hg9 H2
        go_wp2_with fail
        exact bodyPost_ret (v := .agg #[.int .i64 1, .int .i64 0, .int .i64 q, .int .i64 0, .string ⟨#[]⟩, .slice none 0 0]) (by simp [results, Tryz.results73, go_sem, k0, k1, k2, k3, k4, k5]) rfl (exprG_leaf (by omega) (by first | assumption | decide) (.inr (.inr (.inl rfl))) HH.out.1 HH.out.2)
  · by_cases h0 : 0 < ln
    · obtain ⟨rr, rfl, hrg, hloc⟩ := strs_some Q3.out (by rw [← HLL.out]; exact h0)
      have Hloc := Lib.hid hloc
      have hgd := Hgs1.out.below (Below.refl _ w1).drew
      have hnl := Lib.hid (next_gs ln ln hgd rfl (by omega))
      have hmg := Hgs1.out.ne
      have hmw : m ≠ w.heap.size := by omega
      have hS0 : w1.drew.cell? ⟨m, 3, none⟩ = some (.slice (some ⟨rr, 0, none⟩) ln lc) := b3
      clear hloc hgd
      go_upto_region 12 with fail
      go_region_with
        (first | (go_at_call 20; (with_reducible refine hnl.out.mono ?_); rintro e w2 ⟨q, rfl, hq1, _, hgs2, hg2⟩; have hq : q < ln := (hq1 (by omega)); have e3 := (cell_grown hg2 hmg hS0); obtain ⟨sn, hsn⟩ := (⟨_, List.getElem?_eq_getElem (by rw [← HLL.out]; exact hq)⟩ : ∃ sn, E.locals[q]? = some sn); have es := (cell_grown hg2 hrg (show w1.drew.cell? ⟨rr, q, none⟩ = some (.string sn) from Hloc.out q sn hsn)); have hb2 := (blk_keep hg2 (by omega : w.heap.size ≠ g) (show w1.drew.heap[w.heap.size]? = _ from HB.out)); have kk0 := cell_of_row _ _ 0 _ _ _ hb2; have kk1 := cell_of_row _ _ 1 _ _ _ hb2; have kk2 := cell_of_row _ _ 2 _ _ _ hb2; have kk3 := cell_of_row _ _ 3 _ _ _ hb2; have kk4 := cell_of_row _ _ 4 _ _ _ hb2; have kk5 := cell_of_row _ _ 5 _ _ _ hb2; have kf0 := codes_frozen hb2 0; have kf1 := codes_frozen hb2 1; have kf2 := codes_frozen hb2 2; have kf3 := codes_frozen hb2 3; have kf4 := codes_frozen hb2 4; have kf5 := codes_frozen hb2 5; have HB2 := Lib.hid hb2; have Hgs2 := Lib.hid hgs2; have Hg2 := Lib.hid hg2; have Hsn := Lib.hid hsn; clear hq1 hgs2 hg2 hb2 hsn))
      all_goals
        have h6 := row_set6 (.int .i64 13) (.int .i64 0) (.int .i64 0) (.int .i64 0) (.string sn) (.slice none 0 0) HB2.out
        generalize ((((((w2.setCell ⟨w.heap.size, 0, none⟩ (.int .i64 13)).setCell ⟨w.heap.size, 1, none⟩ (.int .i64 0)).setCell ⟨w.heap.size, 2, none⟩ (.int .i64 0)).setCell ⟨w.heap.size, 3, none⟩ (.int .i64 0)).setCell ⟨w.heap.size, 4, none⟩ (.string sn)).setCell ⟨w.heap.size, 5, none⟩ (.slice none 0 0)) = w9 at *
        have H2 := Hgs.out.own Hgs2.out (Hg01.out.trans (grown_undrew Hg2.out)) (Nat.le_refl _) h6.2
        have k0 := cell_of_row _ _ 0 _ _ _ h6.1
        have k1 := cell_of_row _ _ 1 _ _ _ h6.1
        have k2 := cell_of_row _ _ 2 _ _ _ h6.1
        have k3 := cell_of_row _ _ 3 _ _ _ h6.1
        have k4 := cell_of_row _ _ 4 _ _ _ h6.1
        have k5 := cell_of_row _ _ 5 _ _ _ h6.1
        have HH := Lib.hid H2
        have hgn : GoodN sn := HE.out.ls _ (List.mem_of_getElem? Hsn.out)
        have hsz := hgn.1
        have HGN := Lib.hid hgn
        clear h6 H2 hgn kk0 kk1 kk2 kk3 kk4 kk5 kf0 kf1 kf2 kf3 kf4 kf5 e3 es
        go_wp2_with fail
        exact bodyPost_ret (v := .agg #[.int .i64 13, .int .i64 0, .int .i64 0, .int .i64 0, .string sn, .slice none 0 0]) (by simp [results, Tryz.results73, go_sem, k0, k1, k2, k3, k4, k5]) rfl (exprG_leaf (by omega) hsz (.inr (.inl ⟨rfl, HGN.out⟩)) HH.out.1 HH.out.2)
    · have hn5 := Lib.hid (next_gs 5 5 Hgs1.out rfl (by omega))
      go_wp2_with fail
      refine hn5.out.mono ?_
      rintro e w5 ⟨q, rfl, hq1, _, hgs5, hg5⟩
      have hq : q < 5 := hq1 (by omega)
      have Hgs1 := Lib.hid hgs5
      have HB := Lib.hid (blk_keep hg5 (by omega) HB.out)
      have Hg01 := Lib.hid (Hg01.out.trans hg5)
      clear hn5 hgs5 hg5 hq1
      have hn12 := Lib.hid (next_gs 12 12 Hgs1.out rfl (by omega))
      go_wp2_with fail
      refine hn12.out.mono ?_
      rintro e w6 ⟨q2, rfl, _, _, hgs6, hg6⟩
      have Hgs1 := Lib.hid hgs6
      have HB := Lib.hid (blk_keep hg6 (by omega) HB.out)
      have Hg01 := Lib.hid (Hg01.out.trans hg6)
      clear hn12 hgs6 hg6
      by_cases h11 : q2 = 11
      · subst h11
        have hgs7 := Hgs1.out.below ((Below.refl _ w6).alloc (Nat.le_refl _) (.cells #[.int .i64 9223372036854775807, .int .i64 2147483648, .int .i64 1000, .int .i64 64] 3))
        have hn4 := Lib.hid (next_gs 4 4 hgs7 rfl (by omega))
        have hsz6 := Hg01.out.size
        have hsz6b : w.heap.size < w6.heap.size := (Array.getElem?_eq_some_iff.1 HB.out).1
        clear hgs7
        go_wp2_with fail
        refine hn4.out.mono ?_
        rintro e w7 ⟨q3, rfl, hq3, _, hgs7, hg7⟩
        have hq4 : q3 < 4 := hq3 (by omega)
        have Hgs1 := Lib.hid hgs7
        have hlit : w7.heap[w6.heap.size]? = some (.cells #[.int .i64 9223372036854775807, .int .i64 2147483648, .int .i64 1000, .int .i64 64] 3 (0, 0)) := blk_keep hg7 (by omega) (heap_alloc_new w6 _)
        have HL := Lib.hid hlit
        have HB := Lib.hid (blk_keep hg7 (by omega) ((heap_alloc_old _ _ hsz6b).trans HB.out))
        have Hg01 := Lib.hid ((Hg01.out.trans (World.grownBy_alloc w6 _ _)).trans hg7)
        clear hn4 hgs7 hg7 hq3 hlit
        have hc : q3 = 0 ∨ q3 = 1 ∨ q3 = 2 ∨ q3 = 3 := by omega
        clear hq4
        rcases hc with rfl | rfl | rfl | rfl
        · have j := cell_of_row _ _ 0 _ _ _ HL.out
          go_wp2_with (with_reducible refine wpList_pause_store ?_)
          refine Pause.of (wpList_store_new w7 rfl _ _ _ rfl w.heap.size _ rfl (by rfl) _ _ HB.out (by kernel_rfl) (by rfl) (by simp [Value.oneCell']) ?_)
          intro w9 hrow hg9
          have H2 := Hgs.out.own Hgs1.out Hg01.out (Nat.le_refl _) hg9
          have k0 := cell_of_row _ _ 0 _ _ _ hrow
          have k1 := cell_of_row _ _ 1 _ _ _ hrow
          have k2 := cell_of_row _ _ 2 _ _ _ hrow
          have k3 := cell_of_row _ _ 3 _ _ _ hrow
          have k4 := cell_of_row _ _ 4 _ _ _ hrow
          have k5 := cell_of_row _ _ 5 _ _ _ hrow
          have HH := Lib.hid H2
          clear hrow hg9 H2
          go_wp2_with fail
          exact bodyPost_ret (v := .agg #[.int .i64 1, .int .i64 0, .int .i64 9223372036854775807, .int .i64 0, .string ⟨#[]⟩, .slice none 0 0]) (by simp [results, Tryz.results73, go_sem, k0, k1, k2, k3, k4, k5]) rfl (exprG_leaf (by omega) (by first | assumption | decide) (.inr (.inr (.inl rfl))) HH.out.1 HH.out.2)
        · have j := cell_of_row _ _ 1 _ _ _ HL.out
          go_wp2_with (with_reducible refine wpList_pause_store ?_)
          refine Pause.of (wpList_store_new w7 rfl _ _ _ rfl w.heap.size _ rfl (by rfl) _ _ HB.out (by kernel_rfl) (by rfl) (by simp [Value.oneCell']) ?_)
          intro w9 hrow hg9
          have H2 := Hgs.out.own Hgs1.out Hg01.out (Nat.le_refl _) hg9
          have k0 := cell_of_row _ _ 0 _ _ _ hrow
          have k1 := cell_of_row _ _ 1 _ _ _ hrow
          have k2 := cell_of_row _ _ 2 _ _ _ hrow
          have k3 := cell_of_row _ _ 3 _ _ _ hrow
          have k4 := cell_of_row _ _ 4 _ _ _ hrow
          have k5 := cell_of_row _ _ 5 _ _ _ hrow
          have HH := Lib.hid H2
          clear hrow hg9 H2
          go_wp2_with fail
          exact bodyPost_ret (v := .agg #[.int .i64 1, .int .i64 0, .int .i64 2147483648, .int .i64 0, .string ⟨#[]⟩, .slice none 0 0]) (by simp [results, Tryz.results73, go_sem, k0, k1, k2, k3, k4, k5]) rfl (exprG_leaf (by omega) (by first | assumption | decide) (.inr (.inr (.inl rfl))) HH.out.1 HH.out.2)
        · have j := cell_of_row _ _ 2 _ _ _ HL.out
          go_wp2_with (with_reducible refine wpList_pause_store ?_)
          refine Pause.of (wpList_store_new w7 rfl _ _ _ rfl w.heap.size _ rfl (by rfl) _ _ HB.out (by kernel_rfl) (by rfl) (by simp [Value.oneCell']) ?_)
          intro w9 hrow hg9
          have H2 := Hgs.out.own Hgs1.out Hg01.out (Nat.le_refl _) hg9
          have k0 := cell_of_row _ _ 0 _ _ _ hrow
          have k1 := cell_of_row _ _ 1 _ _ _ hrow
          have k2 := cell_of_row _ _ 2 _ _ _ hrow
          have k3 := cell_of_row _ _ 3 _ _ _ hrow
          have k4 := cell_of_row _ _ 4 _ _ _ hrow
          have k5 := cell_of_row _ _ 5 _ _ _ hrow
          have HH := Lib.hid H2
          clear hrow hg9 H2
          go_wp2_with fail
          exact bodyPost_ret (v := .agg #[.int .i64 1, .int .i64 0, .int .i64 1000, .int .i64 0, .string ⟨#[]⟩, .slice none 0 0]) (by simp [results, Tryz.results73, go_sem, k0, k1, k2, k3, k4, k5]) rfl (exprG_leaf (by omega) (by first | assumption | decide) (.inr (.inr (.inl rfl))) HH.out.1 HH.out.2)
        · have j := cell_of_row _ _ 3 _ _ _ HL.out
          go_wp2_with (with_reducible refine wpList_pause_store ?_)
          refine Pause.of (wpList_store_new w7 rfl _ _ _ rfl w.heap.size _ rfl (by rfl) _ _ HB.out (by kernel_rfl) (by rfl) (by simp [Value.oneCell']) ?_)
          intro w9 hrow hg9
          have H2 := Hgs.out.own Hgs1.out Hg01.out (Nat.le_refl _) hg9
          have k0 := cell_of_row _ _ 0 _ _ _ hrow
          have k1 := cell_of_row _ _ 1 _ _ _ hrow
          have k2 := cell_of_row _ _ 2 _ _ _ hrow
          have k3 := cell_of_row _ _ 3 _ _ _ hrow
          have k4 := cell_of_row _ _ 4 _ _ _ hrow
          have k5 := cell_of_row _ _ 5 _ _ _ hrow
          have HH := Lib.hid H2
          clear hrow hg9 H2
          go_wp2_with fail
          exact bodyPost_ret (v := .agg #[.int .i64 1, .int .i64 0, .int .i64 64, .int .i64 0, .string ⟨#[]⟩, .slice none 0 0]) (by simp [results, Tryz.results73, go_sem, k0, k1, k2, k3, k4, k5]) rfl (exprG_leaf (by omega) (by first | assumption | decide) (.inr (.inr (.inl rfl))) HH.out.1 HH.out.2)
      · have h11 : ((q2 : Int) == 11) = false := by simp; omega
        go_wp2_with (with_reducible refine wpList_pause_store ?_)
        refine Pause.of (wpList_store_new w6 rfl _ _ _ rfl w.heap.size _ rfl (by rfl) _ _ HB.out (by kernel_rfl) (by rfl) (by simp [Value.oneCell']) ?_)
        intro w9 hrow hg9
        have H2 := Hgs.out.own Hgs1.out Hg01.out (Nat.le_refl _) hg9
        have k0 := cell_of_row _ _ 0 _ _ _ hrow
        have k1 := cell_of_row _ _ 1 _ _ _ hrow
        have k2 := cell_of_row _ _ 2 _ _ _ hrow
        have k3 := cell_of_row _ _ 3 _ _ _ hrow
        have k4 := cell_of_row _ _ 4 _ _ _ hrow
        have k5 := cell_of_row _ _ 5 _ _ _ hrow
        have HH := Lib.hid H2
        clear hrow hg9 H2
        go_wp2_with fail
        exact bodyPost_ret (v := .agg #[.int .i64 1, .int .i64 0, .int .i64 q, .int .i64 0, .string ⟨#[]⟩, .slice none 0 0]) (by simp [results, Tryz.results73, go_sem, k0, k1, k2, k3, k4, k5]) rfl (exprG_leaf (by omega) (by first | assumption | decide) (.inr (.inr (.inl rfl))) HH.out.1 HH.out.2)
  · have hn5 := Lib.hid (next_gs 5 5 Hgs1.out rfl (by omega))
    go_wp2_with fail
    refine hn5.out.mono ?_
    rintro e w5 ⟨q, rfl, hq1, _, hgs5, hg5⟩
    have hq : q < 5 := hq1 (by omega)
    have Hgs1 := Lib.hid hgs5
    have HB := Lib.hid (blk_keep hg5 (by omega) HB.out)
    have Hg01 := Lib.hid (Hg01.out.trans hg5)
    clear hn5 hgs5 hg5 hq1
    have hn12 := Lib.hid (next_gs 12 12 Hgs1.out rfl (by omega))
    go_wp2_with fail
    refine hn12.out.mono ?_
    rintro e w6 ⟨q2, rfl, _, _, hgs6, hg6⟩
    have Hgs1 := Lib.hid hgs6
    have HB := Lib.hid (blk_keep hg6 (by omega) HB.out)
    have Hg01 := Lib.hid (Hg01.out.trans hg6)
    clear hn12 hgs6 hg6
    by_cases h11 : q2 = 11
    · subst h11
      have hgs7 := Hgs1.out.below ((Below.refl _ w6).alloc (Nat.le_refl _) (.cells #[.int .i64 9223372036854775807, .int .i64 2147483648, .int .i64 1000, .int .i64 64] 3))
      have hn4 := Lib.hid (next_gs 4 4 hgs7 rfl (by omega))
      have hsz6 := Hg01.out.size
      have hsz6b : w.heap.size < w6.heap.size := (Array.getElem?_eq_some_iff.1 HB.out).1
      clear hgs7
      go_wp2_with fail
      refine hn4.out.mono ?_
      rintro e w7 ⟨q3, rfl, hq3, _, hgs7, hg7⟩
      have hq4 : q3 < 4 := hq3 (by omega)
      have Hgs1 := Lib.hid hgs7
      have hlit : w7.heap[w6.heap.size]? = some (.cells #[.int .i64 9223372036854775807, .int .i64 2147483648, .int .i64 1000, .int .i64 64] 3 (0, 0)) := blk_keep hg7 (by omega) (heap_alloc_new w6 _)
      have HL := Lib.hid hlit
      have HB := Lib.hid (blk_keep hg7 (by omega) ((heap_alloc_old _ _ hsz6b).trans HB.out))
      have Hg01 := Lib.hid ((Hg01.out.trans (World.grownBy_alloc w6 _ _)).trans hg7)
      clear hn4 hgs7 hg7 hq3 hlit
      have hc : q3 = 0 ∨ q3 = 1 ∨ q3 = 2 ∨ q3 = 3 := by omega
      clear hq4
      rcases hc with rfl | rfl | rfl | rfl
      · have j := cell_of_row _ _ 0 _ _ _ HL.out
        go_wp2_with (with_reducible refine wpList_pause_store ?_)
        refine Pause.of (wpList_store_new w7 rfl _ _ _ rfl w.heap.size _ rfl (by rfl) _ _ HB.out (by kernel_rfl) (by rfl) (by simp [Value.oneCell']) ?_)
        intro w9 hrow hg9
        have H2 := Hgs.out.own Hgs1.out Hg01.out (Nat.le_refl _) hg9
        have k0 := cell_of_row _ _ 0 _ _ _ hrow
        have k1 := cell_of_row _ _ 1 _ _ _ hrow
        have k2 := cell_of_row _ _ 2 _ _ _ hrow
        have k3 := cell_of_row _ _ 3 _ _ _ hrow
        have k4 := cell_of_row _ _ 4 _ _ _ hrow
        have k5 := cell_of_row _ _ 5 _ _ _ hrow
        have HH := Lib.hid H2
        clear hrow hg9 H2
        go_wp2_with fail
        exact bodyPost_ret (v := .agg #[.int .i64 1, .int .i64 0, .int .i64 9223372036854775807, .int .i64 0, .string ⟨#[]⟩, .slice none 0 0]) (by simp [results, Tryz.results73, go_sem, k0, k1, k2, k3, k4, k5]) rfl (exprG_leaf (by omega) (by first | assumption | decide) (.inr (.inr (.inl rfl))) HH.out.1 HH.out.2)
      · have j := cell_of_row _ _ 1 _ _ _ HL.out
        go_wp2_with (with_reducible refine wpList_pause_store ?_)
        refine Pause.of (wpList_store_new w7 rfl _ _ _ rfl w.heap.size _ rfl (by rfl) _ _ HB.out (by kernel_rfl) (by rfl) (by simp [Value.oneCell']) ?_)
        intro w9 hrow hg9
        have H2 := Hgs.out.own Hgs1.out Hg01.out (Nat.le_refl _) hg9
        have k0 := cell_of_row _ _ 0 _ _ _ hrow
        have k1 := cell_of_row _ _ 1 _ _ _ hrow
        have k2 := cell_of_row _ _ 2 _ _ _ hrow
        have k3 := cell_of_row _ _ 3 _ _ _ hrow
        have k4 := cell_of_row _ _ 4 _ _ _ hrow
        have k5 := cell_of_row _ _ 5 _ _ _ hrow
        have HH := Lib.hid H2
        clear hrow hg9 H2
        go_wp2_with fail
        exact bodyPost_ret (v := .agg #[.int .i64 1, .int .i64 0, .int .i64 2147483648, .int .i64 0, .string ⟨#[]⟩, .slice none 0 0]) (by simp [results, Tryz.results73, go_sem, k0, k1, k2, k3, k4, k5]) rfl (exprG_leaf (by omega) (by first | assumption | decide) (.inr (.inr (.inl rfl))) HH.out.1 HH.out.2)
      · have j := cell_of_row _ _ 2 _ _ _ HL.out
        go_wp2_with (with_reducible refine wpList_pause_store ?_)
        refine Pause.of (wpList_store_new w7 rfl _ _ _ rfl w.heap.size _ rfl (by rfl) _ _ HB.out (by kernel_rfl) (by rfl) (by simp [Value.oneCell']) ?_)
        intro w9 hrow hg9
        have H2 := Hgs.out.own Hgs1.out Hg01.out (Nat.le_refl _) hg9
        have k0 := cell_of_row _ _ 0 _ _ _ hrow
        have k1 := cell_of_row _ _ 1 _ _ _ hrow
        have k2 := cell_of_row _ _ 2 _ _ _ hrow
        have k3 := cell_of_row _ _ 3 _ _ _ hrow
        have k4 := cell_of_row _ _ 4 _ _ _ hrow
        have k5 := cell_of_row _ _ 5 _ _ _ hrow
        have HH := Lib.hid H2
        clear hrow hg9 H2
        go_wp2_with fail
        exact bodyPost_ret (v := .agg #[.int .i64 1, .int .i64 0, .int .i64 1000, .int .i64 0, .string ⟨#[]⟩, .slice none 0 0]) (by simp [results, Tryz.results73, go_sem, k0, k1, k2, k3, k4, k5]) rfl (exprG_leaf (by omega) (by first | assumption | decide) (.inr (.inr (.inl rfl))) HH.out.1 HH.out.2)
      · have j := cell_of_row _ _ 3 _ _ _ HL.out
        go_wp2_with (with_reducible refine wpList_pause_store ?_)
        refine Pause.of (wpList_store_new w7 rfl _ _ _ rfl w.heap.size _ rfl (by rfl) _ _ HB.out (by kernel_rfl) (by rfl) (by simp [Value.oneCell']) ?_)
        intro w9 hrow hg9
        have H2 := Hgs.out.own Hgs1.out Hg01.out (Nat.le_refl _) hg9
        have k0 := cell_of_row _ _ 0 _ _ _ hrow
        have k1 := cell_of_row _ _ 1 _ _ _ hrow
        have k2 := cell_of_row _ _ 2 _ _ _ hrow
        have k3 := cell_of_row _ _ 3 _ _ _ hrow
        have k4 := cell_of_row _ _ 4 _ _ _ hrow
        have k5 := cell_of_row _ _ 5 _ _ _ hrow
        have HH := Lib.hid H2
        clear hrow hg9 H2
        go_wp2_with fail
        exact bodyPost_ret (v := .agg #[.int .i64 1, .int .i64 0, .int .i64 64, .int .i64 0, .string ⟨#[]⟩, .slice none 0 0]) (by simp [results, Tryz.results73, go_sem, k0, k1, k2, k3, k4, k5]) rfl (exprG_leaf (by omega) (by first | assumption | decide) (.inr (.inr (.inl rfl))) HH.out.1 HH.out.2)
    · have h11 : ((q2 : Int) == 11) = false := by simp; omega
      go_wp2_with (with_reducible refine wpList_pause_store ?_)
      refine Pause.of (wpList_store_new w6 rfl _ _ _ rfl w.heap.size _ rfl (by rfl) _ _ HB.out (by kernel_rfl) (by rfl) (by simp [Value.oneCell']) ?_)
      intro w9 hrow hg9
      have H2 := Hgs.out.own Hgs1.out Hg01.out (Nat.le_refl _) hg9
      have k0 := cell_of_row _ _ 0 _ _ _ hrow
      have k1 := cell_of_row _ _ 1 _ _ _ hrow
      have k2 := cell_of_row _ _ 2 _ _ _ hrow
      have k3 := cell_of_row _ _ 3 _ _ _ hrow
      have k4 := cell_of_row _ _ 4 _ _ _ hrow
      have k5 := cell_of_row _ _ 5 _ _ _ hrow
      have HH := Lib.hid H2
      clear hrow hg9 H2
      go_wp2_with fail
      exact bodyPost_ret (v := .agg #[.int .i64 1, .int .i64 0, .int .i64 q, .int .i64 0, .string ⟨#[]⟩, .slice none 0 0]) (by simp [results, Tryz.results73, go_sem, k0, k1, k2, k3, k4, k5]) rfl (exprG_leaf (by omega) (by first | assumption | decide) (.inr (.inr (.inl rfl))) HH.out.1 HH.out.2)
  · have hn5 := Lib.hid (next_gs 5 5 Hgs1.out rfl (by omega))
    go_wp2_with fail
    refine hn5.out.mono ?_
    rintro e w5 ⟨q, rfl, hq1, _, hgs5, hg5⟩
    have hq : q < 5 := hq1 (by omega)
    have Hgs1 := Lib.hid hgs5
    have HB := Lib.hid (blk_keep hg5 (by omega) HB.out)
    have Hg01 := Lib.hid (Hg01.out.trans hg5)
    clear hn5 hgs5 hg5 hq1
    have hn12 := Lib.hid (next_gs 12 12 Hgs1.out rfl (by omega))
    go_wp2_with fail
    refine hn12.out.mono ?_
    rintro e w6 ⟨q2, rfl, _, _, hgs6, hg6⟩
    have Hgs1 := Lib.hid hgs6
    have HB := Lib.hid (blk_keep hg6 (by omega) HB.out)
    have Hg01 := Lib.hid (Hg01.out.trans hg6)
    clear hn12 hgs6 hg6
    by_cases h11 : q2 = 11
    · subst h11
      have hgs7 := Hgs1.out.below ((Below.refl _ w6).alloc (Nat.le_refl _) (.cells #[.int .i64 9223372036854775807, .int .i64 2147483648, .int .i64 1000, .int .i64 64] 3))
      have hn4 := Lib.hid (next_gs 4 4 hgs7 rfl (by omega))
      have hsz6 := Hg01.out.size
      have hsz6b : w.heap.size < w6.heap.size := (Array.getElem?_eq_some_iff.1 HB.out).1
      clear hgs7
      go_wp2_with fail
      refine hn4.out.mono ?_
      rintro e w7 ⟨q3, rfl, hq3, _, hgs7, hg7⟩
      have hq4 : q3 < 4 := hq3 (by omega)
      have Hgs1 := Lib.hid hgs7
      have hlit : w7.heap[w6.heap.size]? = some (.cells #[.int .i64 9223372036854775807, .int .i64 2147483648, .int .i64 1000, .int .i64 64] 3 (0, 0)) := blk_keep hg7 (by omega) (heap_alloc_new w6 _)
      have HL := Lib.hid hlit
      have HB := Lib.hid (blk_keep hg7 (by omega) ((heap_alloc_old _ _ hsz6b).trans HB.out))
      have Hg01 := Lib.hid ((Hg01.out.trans (World.grownBy_alloc w6 _ _)).trans hg7)
      clear hn4 hgs7 hg7 hq3 hlit
      have hc : q3 = 0 ∨ q3 = 1 ∨ q3 = 2 ∨ q3 = 3 := by omega
      clear hq4
      rcases hc with rfl | rfl | rfl | rfl
      · have j := cell_of_row _ _ 0 _ _ _ HL.out
        go_wp2_with (with_reducible refine wpList_pause_store ?_)
        refine Pause.of (wpList_store_new w7 rfl _ _ _ rfl w.heap.size _ rfl (by rfl) _ _ HB.out (by kernel_rfl) (by rfl) (by simp [Value.oneCell']) ?_)
        intro w9 hrow hg9
        have H2 := Hgs.out.own Hgs1.out Hg01.out (Nat.le_refl _) hg9
        have k0 := cell_of_row _ _ 0 _ _ _ hrow
        have k1 := cell_of_row _ _ 1 _ _ _ hrow
        have k2 := cell_of_row _ _ 2 _ _ _ hrow
        have k3 := cell_of_row _ _ 3 _ _ _ hrow
        have k4 := cell_of_row _ _ 4 _ _ _ hrow
        have k5 := cell_of_row _ _ 5 _ _ _ hrow
        have HH := Lib.hid H2
        clear hrow hg9 H2
        go_wp2_with fail
        exact bodyPost_ret (v := .agg #[.int .i64 1, .int .i64 0, .int .i64 9223372036854775807, .int .i64 0, .string ⟨#[]⟩, .slice none 0 0]) (by simp [results, Tryz.results73, go_sem, k0, k1, k2, k3, k4, k5]) rfl (exprG_leaf (by omega) (by first | assumption | decide) (.inr (.inr (.inl rfl))) HH.out.1 HH.out.2)
      · have j := cell_of_row _ _ 1 _ _ _ HL.out
        go_wp2_with (with_reducible refine wpList_pause_store ?_)
        refine Pause.of (wpList_store_new w7 rfl _ _ _ rfl w.heap.size _ rfl (by rfl) _ _ HB.out (by kernel_rfl) (by rfl) (by simp [Value.oneCell']) ?_)
        intro w9 hrow hg9
        have H2 := Hgs.out.own Hgs1.out Hg01.out (Nat.le_refl _) hg9
        have k0 := cell_of_row _ _ 0 _ _ _ hrow
        have k1 := cell_of_row _ _ 1 _ _ _ hrow
        have k2 := cell_of_row _ _ 2 _ _ _ hrow
        have k3 := cell_of_row _ _ 3 _ _ _ hrow
        have k4 := cell_of_row _ _ 4 _ _ _ hrow
        have k5 := cell_of_row _ _ 5 _ _ _ hrow
        have HH := Lib.hid H2
        clear hrow hg9 H2
        go_wp2_with fail
        exact bodyPost_ret (v := .agg #[.int .i64 1, .int .i64 0, .int .i64 2147483648, .int .i64 0, .string ⟨#[]⟩, .slice none 0 0]) (by simp [results, Tryz.results73, go_sem, k0, k1, k2, k3, k4, k5]) rfl (exprG_leaf (by omega) (by first | assumption | decide) (.inr (.inr (.inl rfl))) HH.out.1 HH.out.2)
      · have j := cell_of_row _ _ 2 _ _ _ HL.out
        go_wp2_with (with_reducible refine wpList_pause_store ?_)
        refine Pause.of (wpList_store_new w7 rfl _ _ _ rfl w.heap.size _ rfl (by rfl) _ _ HB.out (by kernel_rfl) (by rfl) (by simp [Value.oneCell']) ?_)
        intro w9 hrow hg9
        have H2 := Hgs.out.own Hgs1.out Hg01.out (Nat.le_refl _) hg9
        have k0 := cell_of_row _ _ 0 _ _ _ hrow
        have k1 := cell_of_row _ _ 1 _ _ _ hrow
        have k2 := cell_of_row _ _ 2 _ _ _ hrow
        have k3 := cell_of_row _ _ 3 _ _ _ hrow
        have k4 := cell_of_row _ _ 4 _ _ _ hrow
        have k5 := cell_of_row _ _ 5 _ _ _ hrow
        have HH := Lib.hid H2
        clear hrow hg9 H2
        go_wp2_with fail
        exact bodyPost_ret (v := .agg #[.int .i64 1, .int .i64 0, .int .i64 1000, .int .i64 0, .string ⟨#[]⟩, .slice none 0 0]) (by simp [results, Tryz.results73, go_sem, k0, k1, k2, k3, k4, k5]) rfl (exprG_leaf (by omega) (by first | assumption | decide) (.inr (.inr (.inl rfl))) HH.out.1 HH.out.2)
      · have j := cell_of_row _ _ 3 _ _ _ HL.out
        go_wp2_with (with_reducible refine wpList_pause_store ?_)
        refine Pause.of (wpList_store_new w7 rfl _ _ _ rfl w.heap.size _ rfl (by rfl) _ _ HB.out (by kernel_rfl) (by rfl) (by simp [Value.oneCell']) ?_)
        intro w9 hrow hg9
        have H2 := Hgs.out.own Hgs1.out Hg01.out (Nat.le_refl _) hg9
        have k0 := cell_of_row _ _ 0 _ _ _ hrow
        have k1 := cell_of_row _ _ 1 _ _ _ hrow
        have k2 := cell_of_row _ _ 2 _ _ _ hrow
        have k3 := cell_of_row _ _ 3 _ _ _ hrow
        have k4 := cell_of_row _ _ 4 _ _ _ hrow
        have k5 := cell_of_row _ _ 5 _ _ _ hrow
        have HH := Lib.hid H2
        clear hrow hg9 H2
        go_wp2_with fail
        exact bodyPost_ret (v := .agg #[.int .i64 1, .int .i64 0, .int .i64 64, .int .i64 0, .string ⟨#[]⟩, .slice none 0 0]) (by simp [results, Tryz.results73, go_sem, k0, k1, k2, k3, k4, k5]) rfl (exprG_leaf (by omega) (by first | assumption | decide) (.inr (.inr (.inl rfl))) HH.out.1 HH.out.2)
    · have h11 : ((q2 : Int) == 11) = false := by simp; omega
      go_wp2_with (with_reducible refine wpList_pause_store ?_)
      refine Pause.of (wpList_store_new w6 rfl _ _ _ rfl w.heap.size _ rfl (by rfl) _ _ HB.out (by kernel_rfl) (by rfl) (by simp [Value.oneCell']) ?_)
      intro w9 hrow hg9
      have H2 := Hgs.out.own Hgs1.out Hg01.out (Nat.le_refl _) hg9
      have k0 := cell_of_row _ _ 0 _ _ _ hrow
      have k1 := cell_of_row _ _ 1 _ _ _ hrow
      have k2 := cell_of_row _ _ 2 _ _ _ hrow
      have k3 := cell_of_row _ _ 3 _ _ _ hrow
      have k4 := cell_of_row _ _ 4 _ _ _ hrow
      have k5 := cell_of_row _ _ 5 _ _ _ hrow
      have HH := Lib.hid H2
      clear hrow hg9 H2
      go_wp2_with fail
      exact bodyPost_ret (v := .agg #[.int .i64 1, .int .i64 0, .int .i64 q, .int .i64 0, .string ⟨#[]⟩, .slice none 0 0]) (by simp [results, Tryz.results73, go_sem, k0, k1, k2, k3, k4, k5]) rfl (exprG_leaf (by omega) (by first | assumption | decide) (.inr (.inr (.inl rfl))) HH.out.1 HH.out.2)
end Go.Proofs.YtifabkoomojklaaGreatDoor
