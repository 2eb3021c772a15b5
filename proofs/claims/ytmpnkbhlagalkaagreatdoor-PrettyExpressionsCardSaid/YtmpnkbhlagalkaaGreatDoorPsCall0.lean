/-
  Rows of operands that the parser grows: deeper, appended to in a drawn region, the last one set. Condition: at most a million.
-/
import Derived.Test.YtmpnkbhlagalkaaGreatDoorPsPrim
import Derived.Deep.RegionLaw
namespace Go.Proofs.YtmpnkbhlagalkaaGreatDoor
open Go.RowKit

/-- A row of expressions that grows, as ArgRow; its trees may lie in older blocks too, from lw to hi. -/
structure ArgG (lw hi base d : Nat) (wr : World) (v : Value) (xs : List Ex) (L : List Value) : Prop where
  own : wr.ownsRow base 30 6 v xs.length L
  at_ : ∀ j x, xs[j]? = some x → ∃ c0 c1 c2 c3 c4 c5, L[j * 6]? = some c0 ∧ L[j * 6 + 1]? = some c1 ∧ L[j * 6 + 2]? = some c2 ∧ L[j * 6 + 3]? = some c3 ∧ L[j * 6 + 4]? = some c4 ∧ L[j * 6 + 5]? = some c5 ∧ ExV (fun b => (lw ≤ b ∧ b < hi ∨ base ≤ b) ∧ b < wr.heap.size ∧ v.ownBlock ≠ some b) wr d x (.agg #[c0, c1, c2, c3, c4, c5])
theorem ArgG.nil (lw hi base d : Nat) (w : World) : ArgG lw hi base d w (.slice none 0 0) [] [] := ⟨World.ownsRow_nil _ _ _ _, fun j x h => by simp at h⟩
theorem ArgG.grown {lw hi base d g : Nat} {w w' : World} {v : Value} {xs : List Ex} {L : List Value} (h : ArgG lw hi base d w v xs L) (hg : w.grownBy w' (some g)) (hb : g < base) (hgl : g < lw ∨ hi ≤ g) : ArgG lw hi base d w' v xs L := by
  refine ⟨?_, fun j x hj => ?_⟩
  · rcases h.own.2 with hn | ⟨g', cap, cur, e, hb', hh, rest⟩
    · exact ⟨h.own.1, .inl hn⟩
    · exact ⟨h.own.1, .inr ⟨g', cap, cur, e, hb', (hg.block g' (Array.getElem?_eq_some_iff.1 hh).1 (fun e => by injection e with e; omega)).trans hh, rest⟩⟩
  · obtain ⟨c0, c1, c2, c3, c4, c5, e0, e1, e2, e3, e4, e5, hx⟩ := h.at_ j x hj
    exact ⟨c0, c1, c2, c3, c4, c5, e0, e1, e2, e3, e4, e5, exV_grown hx (fun k hk => ⟨⟨hk.1, Nat.lt_of_lt_of_le hk.2.1 hg.size, hk.2.2⟩, hk.2.1, by have := hk.1; omega⟩) hg⟩
theorem ArgG.push {lw hi base d g : Nat} {w wa w' : World} {v : Value} {xs : List Ex} {L : List Value} {x : Ex} {cap : Nat} {c0 c1 c2 c3 c4 c5 : Value} {F : Nat → Prop} (h : ArgG lw hi base d w v xs L) (hx : ExV F w d x (.agg #[c0, c1, c2, c3, c4, c5])) (hF : ∀ b, F b → (lw ≤ b ∧ b < hi ∨ base ≤ b) ∧ b < w.heap.size ∧ v.ownBlock ≠ some b)
    (hown : w'.ownsRow base 30 6 (.slice (some ⟨g, 0, none⟩) (xs.length + 1) cap) (xs.length + 1) (L ++ [c0, c1, c2, c3, c4, c5])) (ha : Below w.heap.size w wa) (hg : wa.grownBy w' v.ownBlock) (hat : v.ownBlock = some g ∨ g = wa.heap.size) :
    ArgG lw hi base d w' (.slice (some ⟨g, 0, none⟩) (xs.length + 1) cap) (xs ++ [x]) (L ++ [c0, c1, c2, c3, c4, c5]) := by
  have hL : L.length = xs.length * 6 := h.own.1
  have step : ∀ {F : Nat → Prop} {y : Ex} {u : Value}, ExV F w d y u → (∀ b, F b → (lw ≤ b ∧ b < hi ∨ base ≤ b) ∧ b < w.heap.size ∧ v.ownBlock ≠ some b) → ExV (fun b => (lw ≤ b ∧ b < hi ∨ base ≤ b) ∧ b < w'.heap.size ∧ (Value.slice (some ⟨g, 0, none⟩) (xs.length + 1) cap).ownBlock ≠ some b) w' d y u := fun hy hF => hy.keep (fun b hb => by
      obtain ⟨h1, h2, h3⟩ := hF b hb
      refine ⟨h1, Nat.lt_of_lt_of_le h2 (Nat.le_trans ha.size hg.size), ?_⟩
      intro e
      have e2 : g = b := by simpa [Value.ownBlock] using e
      subst e2
      rcases hat with hh | hh
      · exact h3 hh
      · have := ha.size
        omega) (fun b hb => by
      obtain ⟨h1, h2, h3⟩ := hF b hb
      exact (hg.block b (Nat.lt_of_lt_of_le h2 ha.size) (fun e => h3 e.symm)).trans (ha.block b h2))
  refine ⟨by simpa using hown, fun j y hj => ?_⟩
  rcases Nat.lt_or_ge j xs.length with hlt | hge
  · rw [List.getElem?_append_left hlt] at hj
    obtain ⟨d0, d1, d2, d3, d4, d5, e0, e1, e2, e3, e4, e5, hy⟩ := h.at_ j y hj
    have hl : ∀ k u, L[k]? = some u → (L ++ [c0, c1, c2, c3, c4, c5])[k]? = some u := fun k u hk => by
      have hk2 : k < L.length := by
        rcases Nat.lt_or_ge k L.length with h' | h'
        · exact h'
        · rw [List.getElem?_eq_none h'] at hk; cases hk
      rw [List.getElem?_append_left hk2]; exact hk
    exact ⟨d0, d1, d2, d3, d4, d5, hl _ _ e0, hl _ _ e1, hl _ _ e2, hl _ _ e3, hl _ _ e4, hl _ _ e5, step hy (fun b hb => hb)⟩
  · have hjx : j = xs.length := by
      rcases Nat.lt_or_ge xs.length j with h' | h'
      · rw [List.getElem?_eq_none (by simp; omega)] at hj; cases hj
      · omega
    subst hjx
    simp at hj
    subst hj
    have hr : ∀ k, (L ++ [c0, c1, c2, c3, c4, c5])[xs.length * 6 + k]? = [c0, c1, c2, c3, c4, c5][k]? := fun k => by
      rw [List.getElem?_append_right (by omega)]
      congr 1
      omega
    exact ⟨c0, c1, c2, c3, c4, c5, hr 0, hr 1, hr 2, hr 3, hr 4, hr 5, step hx hF⟩
theorem ArgG.row {lw hi base d : Nat} {w : World} {A : Option Addr} {n c : Nat} {xs : List Ex} {L : List Value} (h : ArgG lw hi base d w (.slice A n c) xs L) : n = xs.length ∧ RowE (fun b => (lw ≤ b ∧ b < hi ∨ base ≤ b) ∧ b < w.heap.size) w d xs A c := by
  rcases h.own.2 with ⟨e, h0⟩ | ⟨g, cap, cur, e, hb, hh, hc, _⟩
  · injection e with e1 e2 e3
    subst e1 e2 e3
    exact ⟨h0.symm, by rw [h0]; exact Nat.le_refl _, fun i x hi => by rw [List.eq_nil_of_length_eq_zero h0] at hi; simp at hi⟩
  · injection e with e1 e2 e3
    subst e1 e2 e3
    refine ⟨rfl, hc, fun i x hi => ?_⟩
    obtain ⟨c0, c1, c2, c3, c4, c5, e0, e1, e2, e3, e4, e5, hx⟩ := h.at_ i x hi
    have hi2 : i < xs.length := by
      rcases Nat.lt_or_ge i xs.length with h' | h'
      · exact h'
      · rw [List.getElem?_eq_none h'] at hi; cases hi
    have hcell : ∀ k u, L[k]? = some u → w.cell? ⟨g, 0 + k, none⟩ = some u := fun k u hk => by
      rw [Nat.zero_add]
      have hk2 : k < L.length := by
        rcases Nat.lt_or_ge k L.length with h' | h'
        · exact h'
        · rw [List.getElem?_eq_none h'] at hk; cases hk
      exact (h.own.cellAt k (by have := h.own.1; omega)).trans hk
    exact ⟨g, 0, c0, c1, c2, c3, c4, c5, rfl, ⟨.inr hb, (Array.getElem?_eq_some_iff.1 hh).1⟩, hcell _ _ e0, hcell _ _ e1, hcell _ _ e2, hcell _ _ e3, hcell _ _ e4, hcell _ _ e5, hx.keep (fun b hb => ⟨hb.1, hb.2.1⟩) (fun _ _ => rfl)⟩
theorem ArgG.mono {lw hi base d : Nat} {w : World} {v : Value} {xs : List Ex} {L : List Value} (h : ArgG lw hi base d w v xs L) (n : Nat) : ArgG lw hi base (d + n) w v xs L :=
  ⟨h.own, fun j x hj => by
    obtain ⟨c0, c1, c2, c3, c4, c5, e0, e1, e2, e3, e4, e5, hx⟩ := h.at_ j x hj
    exact ⟨c0, c1, c2, c3, c4, c5, e0, e1, e2, e3, e4, e5, hx.mono n⟩⟩
theorem step_append_ex {ops : Array Oper} {o : Oper} {a : Act} {K : Act → World → Prop} {Q : Exit → Act → World → Prop} {E : Prop} (w : World) (hgd : o.guard = none) (s x : Operand)
    (ho : o.op = .call { callee := .builtin .append, args := #[s, x], argTypes := #[28, 28] }) (lw hi base d : Nat) (v : Value) (xs : List Ex) (L : List Value) (y : Ex) (k o' a' l' : Int) (t : ByteArray) (A : Option Addr) (n c : Nat) (F : Nat → Prop)
    (hs : a.eval s = v) (hx : a.eval x = .slice (some ⟨w.heap.size, 0, none⟩) 1 1) (h : ArgG lw hi base d w v xs L) (hlen : xs.length ≤ 1000000) (hbase : base ≤ w.heap.size)
    (hy : ExV F w d y (.agg #[.int .i64 k, .int .i64 o', .int .i64 a', .int .i64 l', .string t, .slice A n c])) (hF : ∀ b, F b → (lw ≤ b ∧ b < hi ∨ base ≤ b) ∧ b < w.heap.size ∧ v.ownBlock ≠ some b)
    (hk : ∀ g cap w', ArgG lw hi base d w' (.slice (some ⟨g, 0, none⟩) (xs.length + 1) cap) (xs ++ [y]) (L ++ [.int .i64 k, .int .i64 o', .int .i64 a', .int .i64 l', .string t, .slice A n c]) → w.grownBy w' v.ownBlock → (v.ownBlock = some g ∨ w.heap.size ≤ g) → K (a.put o.dst (.slice (some ⟨g, 0, none⟩) (xs.length + 1) cap)) w') :
    if Region.wanted o (yielded ops a.tmps) = true then Oper.wp Tryz.prog o a (w.alloc (.cells #[.int .i64 k, .int .i64 o', .int .i64 a', .int .i64 l', .string t, .slice A n c] 30)) K Q else E := by
  obtain ⟨i, hi, hz, hsz, hby⟩ := info_parts infoExpr
  refine step_append_lies _ hgd s x _ ho base 30 i _ 6 72 Tryz.underlying28 hi hz hsz hby rfl (by decide) v xs.length L hs (h.own.alloc _) ⟨w.heap.size, 0, none⟩ 1 1 [.int .i64 k, .int .i64 o', .int .i64 a', .int .i64 l', .string t, .slice A n c] hx (by simp) ?_ ?_ (by decide) (by unfold maxLen; omega) (by omega) (by simp; omega) _ rfl fun g cap w' h1 h2 h3 _ => hk g cap w' (h.push hy hF h1 ((Below.refl _ w).alloc (Nat.le_refl _) _) h2 h3) ((World.grownBy_alloc _ _ _).trans h2) (h3.imp id (fun e => by rw [e]; simp))
  · intro j u hu
    rw [Addr.add_lit, Nat.zero_add]
    exact (cell_of_row _ _ _ _ _ _ (heap_alloc_new w _)).trans (by simpa using hu)
  · intro u hu
    simp at hu
    rcases hu with rfl | rfl | rfl | rfl | rfl | rfl <;> rfl
/-- The same where the row of the new operand was laid earlier. -/
theorem step_append_at {ops : Array Oper} {o : Oper} {a : Act} {K : Act → World → Prop} {Q : Exit → Act → World → Prop} {E : Prop} (w : World) (hgd : o.guard = none) (s x : Operand)
    (ho : o.op = .call { callee := .builtin .append, args := #[s, x], argTypes := #[28, 28] }) (lw hi base d bx : Nat) (v : Value) (xs : List Ex) (L : List Value) (y : Ex) (k o' a' l' : Int) (t : ByteArray) (A : Option Addr) (n c : Nat) (F : Nat → Prop)
    (hs : a.eval s = v) (hx : a.eval x = .slice (some ⟨bx, 0, none⟩) 1 1) (hr : w.heap[bx]? = some (.cells #[.int .i64 k, .int .i64 o', .int .i64 a', .int .i64 l', .string t, .slice A n c] 30 (0, 0))) (h : ArgG lw hi base d w v xs L) (hlen : xs.length ≤ 1000000) (hbase : base ≤ w.heap.size)
    (hy : ExV F w d y (.agg #[.int .i64 k, .int .i64 o', .int .i64 a', .int .i64 l', .string t, .slice A n c])) (hF : ∀ b, F b → (lw ≤ b ∧ b < hi ∨ base ≤ b) ∧ b < w.heap.size ∧ v.ownBlock ≠ some b)
    (hk : ∀ g cap w', ArgG lw hi base d w' (.slice (some ⟨g, 0, none⟩) (xs.length + 1) cap) (xs ++ [y]) (L ++ [.int .i64 k, .int .i64 o', .int .i64 a', .int .i64 l', .string t, .slice A n c]) → w.grownBy w' v.ownBlock → (v.ownBlock = some g ∨ w.heap.size ≤ g) → K (a.put o.dst (.slice (some ⟨g, 0, none⟩) (xs.length + 1) cap)) w') :
    if Region.wanted o (yielded ops a.tmps) = true then Oper.wp Tryz.prog o a w K Q else E := by
  obtain ⟨i, hi, hz, hsz, hby⟩ := info_parts infoExpr
  have hbx := (Array.getElem?_eq_some_iff.1 hr).1
  refine step_append_lies _ hgd s x _ ho base 30 i _ 6 72 Tryz.underlying28 hi hz hsz hby rfl (by decide) v xs.length L hs h.own ⟨bx, 0, none⟩ 1 1 [.int .i64 k, .int .i64 o', .int .i64 a', .int .i64 l', .string t, .slice A n c] hx (by simp) ?_ ?_ (by decide) (by unfold maxLen; omega) (by omega) (by omega) _ rfl fun g cap w' h1 h2 h3 _ => hk g cap w' (h.push hy hF h1 (Below.refl _ w) h2 h3) h2 (h3.imp id (fun e => Nat.le_of_eq e.symm))
  · intro j u hu
    rw [Addr.add_lit, Nat.zero_add]
    exact (cell_of_row _ _ _ _ _ _ hr).trans (by simpa using hu)
  · intro u hu
    simp at hu
    rcases hu with rfl | rfl | rfl | rfl | rfl | rfl <;> rfl
/-- The last operand of a row is set, cell by cell. -/
theorem ArgG.last {lw hi base d g cap n : Nat} {w : World} {xs : List Ex} {L : List Value} {x y : Ex} {z0 z1 z2 z3 z4 z5 c0 c1 c2 c3 c4 c5 : Value} {F : Nat → Prop} (hn : xs.length = n) (hL : L.length = n * 6) (h : ArgG lw hi base d w (.slice (some ⟨g, 0, none⟩) (n + 1) cap) (xs ++ [x]) (L ++ [z0, z1, z2, z3, z4, z5]))
    (hy : ExV F w d y (.agg #[c0, c1, c2, c3, c4, c5])) (hF : ∀ b, F b → (lw ≤ b ∧ b < hi ∨ base ≤ b) ∧ b < w.heap.size ∧ b ≠ g) :
    ArgG lw hi base d ((((((w.setCell ⟨g, n * 6, none⟩ c0).setCell ⟨g, n * 6 + 1, none⟩ c1).setCell ⟨g, n * 6 + 2, none⟩ c2).setCell ⟨g, n * 6 + 3, none⟩ c3).setCell ⟨g, n * 6 + 4, none⟩ c4).setCell ⟨g, n * 6 + 5, none⟩ c5) (.slice (some ⟨g, 0, none⟩) (n + 1) cap) (xs ++ [y]) (L ++ [c0, c1, c2, c3, c4, c5]) ∧
    w.grownBy ((((((w.setCell ⟨g, n * 6, none⟩ c0).setCell ⟨g, n * 6 + 1, none⟩ c1).setCell ⟨g, n * 6 + 2, none⟩ c2).setCell ⟨g, n * 6 + 3, none⟩ c3).setCell ⟨g, n * 6 + 4, none⟩ c4).setCell ⟨g, n * 6 + 5, none⟩ c5) (some g) := by
  have ho : w.ownsRow base 30 6 (.slice (some ⟨g, 0, none⟩) (n + 1) cap) (n + 1) (L ++ [z0, z1, z2, z3, z4, z5]) := by
    have := h.own
    rwa [List.length_append, List.length_singleton, hn] at this
  have o0 := ho.stored (n * 6) c0
  have o1 := o0.1.stored (n * 6 + 1) c1
  have o2 := o1.1.stored (n * 6 + 2) c2
  have o3 := o2.1.stored (n * 6 + 3) c3
  have o4 := o3.1.stored (n * 6 + 4) c4
  have o5 := o4.1.stored (n * 6 + 5) c5
  have hg := ((((o0.2.trans o1.2).trans o2.2).trans o3.2).trans o4.2).trans o5.2
  have hset : ((((((L ++ [z0, z1, z2, z3, z4, z5]).set (n * 6) c0).set (n * 6 + 1) c1).set (n * 6 + 2) c2).set (n * 6 + 3) c3).set (n * 6 + 4) c4).set (n * 6 + 5) c5 = L ++ [c0, c1, c2, c3, c4, c5] := by
    simp [hL]
  have hown := o5.1
  rw [hset] at hown
  refine ⟨⟨by rw [List.length_append, List.length_singleton, hn]; exact hown, fun j u hj => ?_⟩, hg⟩
  have keepX : ∀ {G : Nat → Prop} {u : Ex} {v : Value}, ExV G w d u v → (∀ b, G b → (lw ≤ b ∧ b < hi ∨ base ≤ b) ∧ b < w.heap.size ∧ b ≠ g) → ExV (fun b => (lw ≤ b ∧ b < hi ∨ base ≤ b) ∧ b < ((((((w.setCell ⟨g, n * 6, none⟩ c0).setCell ⟨g, n * 6 + 1, none⟩ c1).setCell ⟨g, n * 6 + 2, none⟩ c2).setCell ⟨g, n * 6 + 3, none⟩ c3).setCell ⟨g, n * 6 + 4, none⟩ c4).setCell ⟨g, n * 6 + 5, none⟩ c5).heap.size ∧ (Value.slice (some ⟨g, 0, none⟩) (n + 1) cap).ownBlock ≠ some b) _ d u v := fun hu hG => hu.keep (fun b hb => ⟨(hG b hb).1, Nat.lt_of_lt_of_le (hG b hb).2.1 hg.size, fun e => (hG b hb).2.2 (by simpa [Value.ownBlock] using e.symm)⟩) (fun b hb => hg.block b (hG b hb).2.1 (fun e => (hG b hb).2.2 (by injection e)))
  rcases Nat.lt_or_ge j n with hlt | hge
  · have hj2 : (xs ++ [x])[j]? = some u := by
      rw [List.getElem?_append_left (by omega)] at hj ⊢
      exact hj
    obtain ⟨d0, d1, d2, d3, d4, d5, e0, e1, e2, e3, e4, e5, hu⟩ := h.at_ j u hj2
    have hl : ∀ q v, q < n * 6 → (L ++ [z0, z1, z2, z3, z4, z5])[q]? = some v → (L ++ [c0, c1, c2, c3, c4, c5])[q]? = some v := fun q v hq hv => by
      rw [List.getElem?_append_left (by omega)] at hv ⊢
      exact hv
    exact ⟨d0, d1, d2, d3, d4, d5, hl _ _ (by omega) e0, hl _ _ (by omega) e1, hl _ _ (by omega) e2, hl _ _ (by omega) e3, hl _ _ (by omega) e4, hl _ _ (by omega) e5, keepX hu (fun b hb => ⟨hb.1, hb.2.1, fun e => hb.2.2 (by simp [Value.ownBlock, e])⟩)⟩
  · have hjn : j = n := by
      have := (List.getElem?_eq_some_iff.1 hj).1
      simp at this
      omega
    subst hjn
    rw [List.getElem?_append_right (by omega)] at hj
    simp [hn] at hj
    subst hj
    have hr : ∀ q, (L ++ [c0, c1, c2, c3, c4, c5])[j * 6 + q]? = [c0, c1, c2, c3, c4, c5][q]? := fun q => by
      rw [List.getElem?_append_right (by omega)]
      congr 1
      omega
    exact ⟨c0, c1, c2, c3, c4, c5, hr 0, hr 1, hr 2, hr 3, hr 4, hr 5, keepX hy hF⟩
end Go.Proofs.YtmpnkbhlagalkaaGreatDoor
