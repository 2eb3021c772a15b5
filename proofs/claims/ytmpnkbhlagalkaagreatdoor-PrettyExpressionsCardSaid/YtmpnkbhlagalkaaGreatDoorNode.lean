/-
  Nodes of expressions in memory; rows of expressions that grow by append, and the trees in them. Condition: at most a million.
-/
import Derived.Test.YtmpnkbhlagalkaaGreatDoorTree
import Derived.Test.YtmpnkbhlagalkaaGreatDoorGrow
import Derived.Deep.Cut
import Derived.Deep.RegionHeld3
import Derived.Deep.RegionWith
import Derived.Deep.AppendLies
import Derived.Laws.AppendOwnNone
import Derived.Laws.OwnMore
namespace Go.Proofs.YtmpnkbhlagalkaaGreatDoor
open Go.RowKit

theorem own_shape {w : World} {base : Nat} {v : Value} {n size : Nat} {T : TypeId} {xs : List Value} (h : w.ownsRow base T size v n xs) : ∃ a c, v = .slice a n c := by
  rcases h.2 with ⟨rfl, h0⟩ | ⟨g, cap, cur, rfl, _⟩
  · exact ⟨none, 0, by rw [h0]⟩
  · exact ⟨_, _, rfl⟩
/-- A store that stands still. -/
theorem wpList_pause_store {P : Program} {w : World} {ops : Array Oper} {rest : List Oper} {d : Option Tmp} {t ty : TypeId} {x y : Operand} {pos : String} {af : Array Edge} {gd : Option (Nat × Bool)} {a : Act} {Q : Exit → Act → World → Prop}
    (h : Pause (wpList P ops Q ({ dst := d, op := .store t x y, type := ty, pos := pos, after := af, guard := gd } :: rest) a w)) : wpList P ops Q ({ dst := d, op := .store t x y, type := ty, pos := pos, after := af, guard := gd } :: rest) a w := h
/-- A struct stored over a whole block. -/
theorem wpList_store_new {P : Program} {ops : Array Oper} {rest : List Oper} {o : Oper} {a : Act} (w : World) {Q : Exit → Act → World → Prop} (hgd : o.guard = none) (ty : TypeId) (x y : Operand) (ho : o.op = .store ty x y)
    (b : Nat) (cells : Array Value) (hx : a.eval x = .pointer (some ⟨b, 0, none⟩)) (hy : a.eval y = .agg cells) (t : TypeId) (old : Array Value) (hg : w.heap[b]? = some (.cells old t (0, 0))) (hi : (P.info? ty).map (·.size) = some cells.size)
    (hold : old.size = cells.size) (h1 : cells.all (·.oneCell') = true)
    (h : ∀ w', w'.heap[b]? = some (.cells cells t (0, 0)) → w.grownBy w' (some b) → wpList P ops Q rest (a.put o.dst undef) w') : wpList P ops Q (o :: rest) a w :=
  wpList_store_row hgd ty x y ho b cells hx hy t old hg hi hold h1 (h _ (setRow_heap w b old cells t (0, 0) hg) ⟨rfl, rfl, rfl, by simp, fun i _ hne => setRow_other w b i _ (fun e => hne (by rw [e]))⟩)
theorem exV_leaf {F : Nat → Prop} {w : World} {d : Nat} {k o a l : Int} {s : ByteArray} : ExV F w (d + 1) (.mk k o a l s []) (.agg #[.int .i64 k, .int .i64 o, .int .i64 a, .int .i64 l, .string s, .slice none 0 0]) :=
  ⟨none, 0, rfl, Nat.le_refl _, fun i x h => by simp at h⟩
theorem blk_keep {w w' : World} {g b : Nat} {o : Obj} (hg : w.grownBy w' (some g)) (hb : b ≠ g) (h : w.heap[b]? = some o) : w'.heap[b]? = some o :=
  (hg.block _ (Array.getElem?_eq_some_iff.1 h).1 (fun e => hb (by injection e))).trans h
theorem row_set {w : World} {b i : Nat} {cs : Array Value} {t : TypeId} (v : Value) (h : w.heap[b]? = some (.cells cs t (0, 0))) : (w.setCell ⟨b, i, none⟩ v).heap[b]? = some (.cells (cs.setIfInBounds i v) t (0, 0)) := by
  have := heap_setCell_same w b i _ _ v h
  simpa using this
/-- A struct of six cells stored cell by cell. -/
theorem row_set6 {w : World} {b : Nat} {c0 c1 c2 c3 c4 c5 : Value} {t : TypeId} (v0 v1 v2 v3 v4 v5 : Value) (h : w.heap[b]? = some (.cells #[c0, c1, c2, c3, c4, c5] t (0, 0))) :
    ((((((w.setCell ⟨b, 0, none⟩ v0).setCell ⟨b, 1, none⟩ v1).setCell ⟨b, 2, none⟩ v2).setCell ⟨b, 3, none⟩ v3).setCell ⟨b, 4, none⟩ v4).setCell ⟨b, 5, none⟩ v5).heap[b]? = some (.cells #[v0, v1, v2, v3, v4, v5] t (0, 0)) ∧
    w.grownBy ((((((w.setCell ⟨b, 0, none⟩ v0).setCell ⟨b, 1, none⟩ v1).setCell ⟨b, 2, none⟩ v2).setCell ⟨b, 3, none⟩ v3).setCell ⟨b, 4, none⟩ v4).setCell ⟨b, 5, none⟩ v5) (some b) :=
  ⟨row_set v5 (row_set v4 (row_set v3 (row_set v2 (row_set v1 (row_set v0 h))))), ((((((set_grown w ⟨b, 0, none⟩ v0).trans (set_grown _ ⟨b, 1, none⟩ v1)).trans (set_grown _ ⟨b, 2, none⟩ v2)).trans (set_grown _ ⟨b, 3, none⟩ v3)).trans (set_grown _ ⟨b, 4, none⟩ v4)).trans (set_grown _ ⟨b, 5, none⟩ v5))⟩
theorem exV_agg {F : Nat → Prop} {w : World} {d : Nat} {x : Ex} {v : Value} (h : ExV F w d x v) : ∃ k o a l s A n c, v = .agg #[.int .i64 k, .int .i64 o, .int .i64 a, .int .i64 l, .string s, .slice A n c] ∧ (∀ k', v = .agg #[.int .i64 k', .int .i64 o, .int .i64 a, .int .i64 l, .string s, .slice A n c] → x.kind = k') := by
  cases d with
  | zero => exact h.elim
  | succ d =>
    match x, h with
    | .mk k o a l s xs, ⟨A, c, hv, _⟩ => exact ⟨k, o, a, l, s, A, xs.length, c, hv, fun k' hk => by rw [hv] at hk; injection hk with hk; injection hk with hk; injection hk with hk _; injection hk with _ hk⟩
/-- A row of one operand. -/
theorem row_one {F G : Nat → Prop} {w w' : World} {d : Nat} {x : Ex} {c0 c1 c2 c3 c4 c5 : Value} {b : Nat} {t : TypeId} (hx : ExV F w d x (.agg #[c0, c1, c2, c3, c4, c5])) (hFG : ∀ k, F k → G k) (hk : ∀ k, F k → w'.heap[k]? = w.heap[k]?) (hb : G b) (h : w'.heap[b]? = some (.cells #[c0, c1, c2, c3, c4, c5] t (0, 0))) :
    RowE G w' d [x] (some ⟨b, 0, none⟩) 1 := by
  refine ⟨Nat.le_refl _, fun i y hi => ?_⟩
  match i, hi with
  | 0, hi =>
    injection hi with hi
    subst hi
    exact ⟨b, 0, c0, c1, c2, c3, c4, c5, rfl, hb, cell_of_row _ _ 0 _ _ _ h, cell_of_row _ _ 1 _ _ _ h, cell_of_row _ _ 2 _ _ _ h, cell_of_row _ _ 3 _ _ _ h, cell_of_row _ _ 4 _ _ _ h, cell_of_row _ _ 5 _ _ _ h, hx.keep hFG hk⟩
  | i + 1, hi => simp at hi
/-- A row of two operands. -/
theorem row_two {G : Nat → Prop} {w' : World} {d : Nat} {x y : Ex} {c0 c1 c2 c3 c4 c5 e0 e1 e2 e3 e4 e5 : Value} {b : Nat} {t : TypeId} (hx : ExV G w' d x (.agg #[c0, c1, c2, c3, c4, c5])) (hy : ExV G w' d y (.agg #[e0, e1, e2, e3, e4, e5])) (hb : G b) (h : w'.heap[b]? = some (.cells #[c0, c1, c2, c3, c4, c5, e0, e1, e2, e3, e4, e5] t (0, 0))) :
    RowE G w' d [x, y] (some ⟨b, 0, none⟩) 2 := by
  refine ⟨Nat.le_refl _, fun i z hi => ?_⟩
  match i, hi with
  | 0, hi =>
    injection hi with hi
    subst hi
    exact ⟨b, 0, c0, c1, c2, c3, c4, c5, rfl, hb, cell_of_row _ _ 0 _ _ _ h, cell_of_row _ _ 1 _ _ _ h, cell_of_row _ _ 2 _ _ _ h, cell_of_row _ _ 3 _ _ _ h, cell_of_row _ _ 4 _ _ _ h, cell_of_row _ _ 5 _ _ _ h, hx⟩
  | 1, hi =>
    injection hi with hi
    subst hi
    exact ⟨b, 0, e0, e1, e2, e3, e4, e5, rfl, hb, cell_of_row _ _ 6 _ _ _ h, cell_of_row _ _ 7 _ _ _ h, cell_of_row _ _ 8 _ _ _ h, cell_of_row _ _ 9 _ _ _ h, cell_of_row _ _ 10 _ _ _ h, cell_of_row _ _ 11 _ _ _ h, hy⟩
  | i + 2, hi => simp at hi
theorem exV_end {F : Nat → Prop} {w0 w w' : World} {d : Nat} {x : Ex} {v : Value} (hx : ExV F w d x v) (hF : ∀ k, F k → w0.heap.size < k ∧ k < w.heap.size) (hg : w.grownBy w' (some w0.heap.size)) : ExV (fun k => w0.heap.size ≤ k ∧ k < w'.heap.size) w' d x v :=
  hx.keep (fun k hk => ⟨by have := hF k hk; omega, Nat.lt_of_lt_of_le (hF k hk).2 hg.size⟩) (fun k hk => hg.block k (hF k hk).2 (fun e => by injection e with e; have := hF k hk; omega))
theorem exV_grown {F G : Nat → Prop} {w w' : World} {d g : Nat} {x : Ex} {v : Value} (hx : ExV F w d x v) (hF : ∀ k, F k → G k ∧ k < w.heap.size ∧ k ≠ g) (hg : w.grownBy w' (some g)) : ExV G w' d x v :=
  hx.keep (fun k hk => (hF k hk).1) (fun k hk => hg.block k (hF k hk).2.1 (fun e => by injection e with e; exact (hF k hk).2.2 e))
theorem infoExpr : (Tryz.prog.info? 30).map (fun i => (i.zero, i.size, i.bytes)) = some (some (.agg #[.int .i64 0, .int .i64 0, .int .i64 0, .int .i64 0, .string ⟨#[]⟩, .slice none 0 0]), 6, 72) := by kernel_rfl
/-- A row of expressions that grows: its cells, and the trees, whose operands lie elsewhere. -/
structure ArgRow (base d : Nat) (wr : World) (v : Value) (xs : List Ex) (L : List Value) : Prop where
  own : wr.ownsRow base 30 6 v xs.length L
  at_ : ∀ j x, xs[j]? = some x → ∃ c0 c1 c2 c3 c4 c5, L[j * 6]? = some c0 ∧ L[j * 6 + 1]? = some c1 ∧ L[j * 6 + 2]? = some c2 ∧ L[j * 6 + 3]? = some c3 ∧ L[j * 6 + 4]? = some c4 ∧ L[j * 6 + 5]? = some c5 ∧ ExV (fun b => base ≤ b ∧ b < wr.heap.size ∧ v.ownBlock ≠ some b) wr d x (.agg #[c0, c1, c2, c3, c4, c5])
theorem ArgRow.nil (base d : Nat) (w : World) : ArgRow base d w (.slice none 0 0) [] [] := ⟨World.ownsRow_nil _ _ _ _, fun j x h => by simp at h⟩
theorem ArgRow.grown {base d g : Nat} {w w' : World} {v : Value} {xs : List Ex} {L : List Value} (h : ArgRow base d w v xs L) (hg : w.grownBy w' (some g)) (hb : g < base) : ArgRow base d w' v xs L := by
  refine ⟨?_, fun j x hj => ?_⟩
  · rcases h.own.2 with hn | ⟨g', cap, cur, e, hb', hh, rest⟩
    · exact ⟨h.own.1, .inl hn⟩
    · exact ⟨h.own.1, .inr ⟨g', cap, cur, e, hb', (hg.block g' (Array.getElem?_eq_some_iff.1 hh).1 (fun e => by injection e with e; omega)).trans hh, rest⟩⟩
  · obtain ⟨c0, c1, c2, c3, c4, c5, e0, e1, e2, e3, e4, e5, hx⟩ := h.at_ j x hj
    exact ⟨c0, c1, c2, c3, c4, c5, e0, e1, e2, e3, e4, e5, exV_grown hx (fun k hk => ⟨⟨hk.1, Nat.lt_of_lt_of_le hk.2.1 hg.size, hk.2.2⟩, hk.2.1, by omega⟩) hg⟩
theorem ArgRow.push {base d g : Nat} {w wa w' : World} {v : Value} {xs : List Ex} {L : List Value} {x : Ex} {cap : Nat} {c0 c1 c2 c3 c4 c5 : Value} {F : Nat → Prop} (h : ArgRow base d w v xs L) (hx : ExV F w d x (.agg #[c0, c1, c2, c3, c4, c5])) (hF : ∀ b, F b → base ≤ b ∧ b < w.heap.size ∧ v.ownBlock ≠ some b)
    (hown : w'.ownsRow base 30 6 (.slice (some ⟨g, 0, none⟩) (xs.length + 1) cap) (xs.length + 1) (L ++ [c0, c1, c2, c3, c4, c5])) (ha : Below w.heap.size w wa) (hg : wa.grownBy w' v.ownBlock) (hat : v.ownBlock = some g ∨ g = wa.heap.size) :
    ArgRow base d w' (.slice (some ⟨g, 0, none⟩) (xs.length + 1) cap) (xs ++ [x]) (L ++ [c0, c1, c2, c3, c4, c5]) := by
  have hL : L.length = xs.length * 6 := h.own.1
  have step : ∀ {F : Nat → Prop} {y : Ex} {u : Value}, ExV F w d y u → (∀ b, F b → base ≤ b ∧ b < w.heap.size ∧ v.ownBlock ≠ some b) → ExV (fun b => base ≤ b ∧ b < w'.heap.size ∧ (Value.slice (some ⟨g, 0, none⟩) (xs.length + 1) cap).ownBlock ≠ some b) w' d y u := fun hy hF => hy.keep (fun b hb => by
      obtain ⟨h1, h2, h3⟩ := hF b hb
      refine ⟨h1, Nat.lt_of_lt_of_le h2 (Nat.le_trans ha.size hg.size), ?_⟩
      intro e
      have e2 : g = b := by simpa [Value.ownBlock] using e
      subst e2
      rcases hat with hh | hh
      · exact h3 hh
      · have := ha.size
        omega) (fun b hb => by
      obtain ⟨h1, h2, h3⟩ := hF b hb
      exact (hg.block b (Nat.lt_of_lt_of_le h2 ha.size) (fun e => h3 e.symm)).trans (ha.block b h2))
  refine ⟨by simpa using hown, fun j y hj => ?_⟩
  rcases Nat.lt_or_ge j xs.length with hlt | hge
  · rw [List.getElem?_append_left hlt] at hj
    obtain ⟨d0, d1, d2, d3, d4, d5, e0, e1, e2, e3, e4, e5, hy⟩ := h.at_ j y hj
    have hl : ∀ k u, L[k]? = some u → (L ++ [c0, c1, c2, c3, c4, c5])[k]? = some u := fun k u hk => by
      have hk2 : k < L.length := by
        rcases Nat.lt_or_ge k L.length with h' | h'
        · exact h'
        · rw [List.getElem?_eq_none h'] at hk; cases hk
      rw [List.getElem?_append_left hk2]; exact hk
    exact ⟨d0, d1, d2, d3, d4, d5, hl _ _ e0, hl _ _ e1, hl _ _ e2, hl _ _ e3, hl _ _ e4, hl _ _ e5, step hy (fun b hb => hb)⟩
  · have hjx : j = xs.length := by
      rcases Nat.lt_or_ge xs.length j with h' | h'
      · rw [List.getElem?_eq_none (by simp; omega)] at hj; cases hj
      · omega
    subst hjx
    simp at hj
    subst hj
    have hr : ∀ k, (L ++ [c0, c1, c2, c3, c4, c5])[xs.length * 6 + k]? = [c0, c1, c2, c3, c4, c5][k]? := fun k => by
      rw [List.getElem?_append_right (by omega)]
      congr 1
      omega
    exact ⟨c0, c1, c2, c3, c4, c5, hr 0, hr 1, hr 2, hr 3, hr 4, hr 5, step hx hF⟩
theorem ArgRow.row {base d : Nat} {w : World} {A : Option Addr} {n c : Nat} {xs : List Ex} {L : List Value} (h : ArgRow base d w (.slice A n c) xs L) : n = xs.length ∧ RowE (fun b => base ≤ b ∧ b < w.heap.size) w d xs A c := by
  rcases h.own.2 with ⟨e, h0⟩ | ⟨g, cap, cur, e, hb, hh, hc, _⟩
  · injection e with e1 e2 e3
    subst e1 e2 e3
    exact ⟨h0.symm, by rw [h0]; exact Nat.le_refl _, fun i x hi => by rw [List.eq_nil_of_length_eq_zero h0] at hi; simp at hi⟩
  · injection e with e1 e2 e3
    subst e1 e2 e3
    refine ⟨rfl, hc, fun i x hi => ?_⟩
    obtain ⟨c0, c1, c2, c3, c4, c5, e0, e1, e2, e3, e4, e5, hx⟩ := h.at_ i x hi
    have hi2 : i < xs.length := by
      rcases Nat.lt_or_ge i xs.length with h' | h'
      · exact h'
      · rw [List.getElem?_eq_none h'] at hi; cases hi
    have hcell : ∀ k u, L[k]? = some u → w.cell? ⟨g, 0 + k, none⟩ = some u := fun k u hk => by
      rw [Nat.zero_add]
      have hk2 : k < L.length := by
        rcases Nat.lt_or_ge k L.length with h' | h'
        · exact h'
        · rw [List.getElem?_eq_none h'] at hk; cases hk
      exact (h.own.cellAt k (by have := h.own.1; omega)).trans hk
    exact ⟨g, 0, c0, c1, c2, c3, c4, c5, rfl, ⟨hb, (Array.getElem?_eq_some_iff.1 hh).1⟩, hcell _ _ e0, hcell _ _ e1, hcell _ _ e2, hcell _ _ e3, hcell _ _ e4, hcell _ _ e5, hx.keep (fun b hb => ⟨hb.1, hb.2.1⟩) (fun _ _ => rfl)⟩
theorem wpList_append_ex {ops : Array Oper} {rest : List Oper} {o : Oper} {a : Act} {Q : Exit → Act → World → Prop} (w : World) (hgd : o.guard = none) (s x : Operand)
    (ho : o.op = .call { callee := .builtin .append, args := #[s, x], argTypes := #[28, 28] }) (base d : Nat) (v : Value) (xs : List Ex) (L : List Value) (y : Ex) (k o' a' l' : Int) (t : ByteArray) (A : Option Addr) (n c : Nat) (F : Nat → Prop)
    (hs : a.eval s = v) (hx : a.eval x = .slice (some ⟨w.heap.size, 0, none⟩) 1 1) (h : ArgRow base d w v xs L) (hlen : xs.length ≤ 1000000) (hbase : base ≤ w.heap.size)
    (hy : ExV F w d y (.agg #[.int .i64 k, .int .i64 o', .int .i64 a', .int .i64 l', .string t, .slice A n c])) (hF : ∀ b, F b → base ≤ b ∧ b < w.heap.size ∧ v.ownBlock ≠ some b)
    (hk : ∀ g cap w', ArgRow base d w' (.slice (some ⟨g, 0, none⟩) (xs.length + 1) cap) (xs ++ [y]) (L ++ [.int .i64 k, .int .i64 o', .int .i64 a', .int .i64 l', .string t, .slice A n c]) → w.grownBy w' v.ownBlock → wpList Tryz.prog ops Q rest (a.put o.dst (.slice (some ⟨g, 0, none⟩) (xs.length + 1) cap)) w') :
    wpList Tryz.prog ops Q (o :: rest) a (w.alloc (.cells #[.int .i64 k, .int .i64 o', .int .i64 a', .int .i64 l', .string t, .slice A n c] 30)) := by
  obtain ⟨i, hi, hz, hsz, hby⟩ := info_parts infoExpr
  refine wpList_append_lies _ hgd s x _ ho base 30 i _ 6 72 Tryz.underlying28 hi hz hsz hby rfl (by decide) v xs.length L hs (h.own.alloc _) ⟨w.heap.size, 0, none⟩ 1 1 [.int .i64 k, .int .i64 o', .int .i64 a', .int .i64 l', .string t, .slice A n c] hx (by simp) ?_ ?_ (by decide) (by unfold maxLen; omega) (by omega) (by simp; omega) _ rfl fun g cap w' h1 h2 h3 _ => hk g cap w' (h.push hy hF h1 ((Below.refl _ w).alloc (Nat.le_refl _) _) h2 h3) ((World.grownBy_alloc _ _ _).trans h2)
  · intro j u hu
    rw [Addr.add_lit, Nat.zero_add]
    exact (cell_of_row _ _ _ _ _ _ (heap_alloc_new w _)).trans (by simpa using hu)
  · intro u hu
    simp at hu
    rcases hu with rfl | rfl | rfl | rfl | rfl | rfl <;> rfl
theorem own_mono {w : World} {base base' n size : Nat} {T : TypeId} {v : Value} {xs : List Value} (h : w.ownsRow base T size v n xs) (hb : base' ≤ base) : w.ownsRow base' T size v n xs := by
  rcases h.2 with hn | ⟨g', cap, cur, e, hb', rest⟩
  · exact ⟨h.1, .inl hn⟩
  · exact ⟨h.1, .inr ⟨g', cap, cur, e, Nat.le_trans hb hb', rest⟩⟩
theorem ArgRow.one {base d : Nat} {w : World} {v : Value} {xs : List Ex} {L : List Value} (h : ArgRow base d w v xs L) : ∀ u ∈ L, u.oneCell' = true := by
  intro u hu
  obtain ⟨p, hp, rfl⟩ := List.mem_iff_getElem.1 hu
  have hpl : p < xs.length * 6 := by rw [← h.own.1]; exact hp
  have hj : p / 6 < xs.length := by omega
  obtain ⟨c0, c1, c2, c3, c4, c5, e0, e1, e2, e3, e4, e5, hx⟩ := h.at_ (p / 6) _ (List.getElem?_eq_getElem hj)
  obtain ⟨k, o, a, l, s, A, n, c, hv, _⟩ := exV_agg hx
  injection hv with hv
  injection hv with hv
  injection hv with h0 hv
  injection hv with h1 hv
  injection hv with h2 hv
  injection hv with h3 hv
  injection hv with h4 hv
  injection hv with h5 _
  subst h0 h1 h2 h3 h4 h5
  have hc : p = p / 6 * 6 ∨ p = p / 6 * 6 + 1 ∨ p = p / 6 * 6 + 2 ∨ p = p / 6 * 6 + 3 ∨ p = p / 6 * 6 + 4 ∨ p = p / 6 * 6 + 5 := by omega
  have hg : ∀ q v, p = q → L[q]? = some v → L[p] = v := fun q v hq hv => by
    subst hq
    rw [List.getElem?_eq_getElem hp] at hv
    injection hv
  rcases hc with hc | hc | hc | hc | hc | hc
  · rw [hg _ _ hc e0]; rfl
  · rw [hg _ _ hc e1]; rfl
  · rw [hg _ _ hc e2]; rfl
  · rw [hg _ _ hc e3]; rfl
  · rw [hg _ _ hc e4]; rfl
  · rw [hg _ _ hc e5]; rfl
theorem ArgRow.cons {base d : Nat} {w w' : World} {va v' : Value} {xs : List Ex} {L : List Value} {y : Ex} {c0 c1 c2 c3 c4 c5 : Value} {F : Nat → Prop} (h : ArgRow base d w va xs L) (hy : ExV F w d y (.agg #[c0, c1, c2, c3, c4, c5])) (hF : ∀ b, F b → base ≤ b ∧ b < w.heap.size) (hb : base ≤ w.heap.size)
    (hown : w'.ownsRow w.heap.size 30 6 v' (1 + xs.length) ([c0, c1, c2, c3, c4, c5] ++ L)) (hw : Below w.heap.size w w') : ArgRow base d w' v' (y :: xs) ([c0, c1, c2, c3, c4, c5] ++ L) := by
  have hne : ∀ b, b < w.heap.size → v'.ownBlock ≠ some b := fun b hb e => by have := (hown.lt b e).1; omega
  have hL : L.length = xs.length * 6 := h.own.1
  refine ⟨by rw [List.length_cons, Nat.add_comm]; exact own_mono hown hb, fun j x hj => ?_⟩
  cases j with
  | zero =>
    simp at hj
    subst hj
    exact ⟨c0, c1, c2, c3, c4, c5, rfl, rfl, rfl, rfl, rfl, rfl, hy.keep (fun b hb => ⟨(hF b hb).1, Nat.lt_of_lt_of_le (hF b hb).2 hw.size, hne b (hF b hb).2⟩) (fun b hb => hw.block b (hF b hb).2)⟩
  | succ j =>
    rw [List.getElem?_cons_succ] at hj
    obtain ⟨d0, d1, d2, d3, d4, d5, e0, e1, e2, e3, e4, e5, hx⟩ := h.at_ j x hj
    have hr : ∀ k, ([c0, c1, c2, c3, c4, c5] ++ L)[(j + 1) * 6 + k]? = L[j * 6 + k]? := fun k => by
      rw [List.getElem?_append_right (by simp; omega)]
      congr 1
      simp
      omega
    exact ⟨d0, d1, d2, d3, d4, d5, (hr 0).trans e0, (hr 1).trans e1, (hr 2).trans e2, (hr 3).trans e3, (hr 4).trans e4, (hr 5).trans e5, hx.keep (fun b hb => ⟨hb.1, Nat.lt_of_lt_of_le hb.2.1 hw.size, hne b hb.2.1⟩) (fun b hb => hw.block b hb.2.1)⟩
theorem wpList_append_cons {ops : Array Oper} {rest : List Oper} {o : Oper} {a : Act} {Q : Exit → Act → World → Prop} (w : World) (hgd : o.guard = none) (s x : Operand)
    (ho : o.op = .call { callee := .builtin .append, args := #[s, x], argTypes := #[28, 28] }) (base d : Nat) (aA : Option Addr) (aC : Nat) (xs : List Ex) (L : List Value) (y : Ex) (k o' a' l' : Int) (t : ByteArray) (A : Option Addr) (n c : Nat) (F : Nat → Prop)
    (hs : a.eval s = .slice (some ⟨w.heap.size, 0, none⟩) 1 1) (hx : a.eval x = .slice aA xs.length aC) (h : ArgRow base d w (.slice aA xs.length aC) xs L) (hlen : xs.length ≤ 1000000) (hbase : base ≤ w.heap.size)
    (hy : ExV F w d y (.agg #[.int .i64 k, .int .i64 o', .int .i64 a', .int .i64 l', .string t, .slice A n c])) (hF : ∀ b, F b → base ≤ b ∧ b < w.heap.size)
    (hk : ∀ A' c' w', RowE (fun b => base ≤ b ∧ b < w'.heap.size) w' d (y :: xs) A' c' → Below w.heap.size w w' → wpList Tryz.prog ops Q rest (a.put o.dst (.slice A' (1 + xs.length) c')) w') :
    wpList Tryz.prog ops Q (o :: rest) a (w.alloc (.cells #[.int .i64 k, .int .i64 o', .int .i64 a', .int .i64 l', .string t, .slice A n c] 30)) := by
  obtain ⟨i, hi, hz, hsz, hby⟩ := info_parts infoExpr
  have hlit : (w.alloc (.cells #[.int .i64 k, .int .i64 o', .int .i64 a', .int .i64 l', .string t, .slice A n c] 30)).ownsRow w.heap.size 30 6 (.slice (some ⟨w.heap.size, 0, none⟩) 1 1) 1 [.int .i64 k, .int .i64 o', .int .i64 a', .int .i64 l', .string t, .slice A n c] := World.ownsRow_lit w _ 1 (Nat.le_refl _) (by unfold maxLen; omega) (by simp)
  have hend : ∀ v' w', w'.ownsRow w.heap.size 30 6 v' (1 + xs.length) ([.int .i64 k, .int .i64 o', .int .i64 a', .int .i64 l', .string t, .slice A n c] ++ L) → Below w.heap.size w w' → wpList Tryz.prog ops Q rest (a.put o.dst v') w' := fun v' w' ho hw => by
    obtain ⟨A', c', rfl⟩ := own_shape ho
    have hr := (h.cons hy hF hbase ho hw).row
    exact hk A' c' w' hr.2 hw
  rcases h.own.2 with ⟨e, h0⟩ | ⟨g, cap, cur, e, hb, hh, hc, _⟩
  · injection e with e1 e2 e3
    subst e1 e3
    have hx0 := List.eq_nil_of_length_eq_zero h0
    subst hx0
    have hL0 : L = [] := List.eq_nil_of_length_eq_zero (by have := h.own.1; simpa using this)
    subst hL0
    exact wpList_append_own_none hgd s x _ ho w.heap.size 30 i 6 Tryz.underlying28 hi _ 1 _ hs hlit hx (hend _ _ (by simpa using hlit) ((Below.refl _ w).alloc (Nat.le_refl _) _))
  · injection e with e1 e2 e3
    subst e1 e3
    refine wpList_append_own _ hgd s x _ ho w.heap.size 30 i _ 6 72 Tryz.underlying28 hi hz hsz hby rfl (by decide) _ 1 _ hs hlit ⟨g, 0, none⟩ xs.length aC L hx h.own.1 ?_ ?_ (by unfold maxLen; omega) (by omega) (by simp) fun v' w' h1 h2 _ => hend v' w' h1 ?_
    · intro j u hu
      have hj : j < xs.length * 6 := by
        rw [← h.own.1]
        rcases Nat.lt_or_ge j L.length with h' | h'
        · exact h'
        · rw [List.getElem?_eq_none h'] at hu; cases hu
      rw [Addr.add_lit, Nat.zero_add]
      exact hold ((Below.refl _ w).alloc (Nat.le_refl _) _) ((h.own.cellAt j hj).trans hu)
    · exact h.one
    · exact ((Below.refl _ w).alloc (Nat.le_refl _) _).trans (grown_any h2 (fun k hk => Nat.le_of_eq (by simpa [Value.ownBlock] using hk)) (by simp))
end Go.Proofs.YtmpnkbhlagalkaaGreatDoor
