/-
  Rows of statements that grow by append, and what is in them. Condition: at most a million.
-/
import Derived.Test.YtifabkoomojklaaGreatDoorGen8
namespace Go.Proofs.YtifabkoomojklaaGreatDoor
open Go.RowKit

theorem infoStmt : (Tryz.prog.info? 84).map (fun i => (i.zero, i.size, i.bytes)) = some (some (.agg #[.int .i64 0, .int .i64 0, .string ⟨#[]⟩, .slice none 0 0, .slice none 0 0, .slice none 0 0]), 6, 104) := by kernel_rfl
theorem stV_agg {F : Nat → Prop} {w : World} {D d : Nat} {x : St} {v : Value} (h : StV F w D d x v) : ∃ k l s eA en ec tA tn tc uA un uc, v = .agg #[.int .i64 k, .int .i64 l, .string s, .slice eA en ec, .slice tA tn tc, .slice uA un uc] := by
  cases d with
  | zero => exact h.elim
  | succ d =>
    match x, h with
    | .mk k l s es ts us, ⟨eA, ec, tA, tc, uA, uc, hv, _⟩ => exact ⟨k, l, s, eA, es.length, ec, tA, ts.length, tc, uA, us.length, uc, hv⟩
/-- A row of statements that grows. -/
structure StRow (m base D d : Nat) (w : World) (v : Value) (ts : List St) (L : List Value) : Prop where
  own : w.ownsRow base 84 6 v ts.length L
  sep : ∀ b, v.ownBlock = some b → lb w m ≠ some b
  at_ : ∀ j x, ts[j]? = some x → ∃ c0 c1 c2 c3 c4 c5, L[j * 6]? = some c0 ∧ L[j * 6 + 1]? = some c1 ∧ L[j * 6 + 2]? = some c2 ∧ L[j * 6 + 3]? = some c3 ∧ L[j * 6 + 4]? = some c4 ∧ L[j * 6 + 5]? = some c5 ∧ StV (fun b => base ≤ b ∧ b < w.heap.size ∧ v.ownBlock ≠ some b ∧ lb w m ≠ some b) w D d x (.agg #[c0, c1, c2, c3, c4, c5])
theorem StRow.nil (m base D d : Nat) (w : World) : StRow m base D d w (.slice none 0 0) [] [] := ⟨World.ownsRow_nil _ _ _ _, fun b h => by simp [Value.ownBlock] at h, fun j x h => by simp at h⟩
theorem lb_chg {m g : Nat} {w w' : World} (h : Chg m g w w') {b : Nat} (hb : b < w.heap.size) (hl : lb w m ≠ some b) : lb w' m ≠ some b := by
  rcases h.lbs with e | ⟨q, e, hq⟩
  · rw [e]; exact hl
  · rw [e]
    intro e2
    injection e2 with e2
    omega
theorem StRow.chg {m g base D d : Nat} {w w' : World} {v : Value} {ts : List St} {L : List Value} (h : StRow m base D d w v ts L) (hc : Chg m g w w') (hm : m < base) (hg : g < base) : StRow m base D d w' v ts L := by
  refine ⟨?_, fun b hb => lb_chg hc (h.own.lt b hb).2 (h.sep b hb), fun j x hj => ?_⟩
  · rcases h.own.2 with hn | ⟨g', cap, cur, e, hb', hh, rest⟩
    · exact ⟨h.own.1, .inl hn⟩
    · exact ⟨h.own.1, .inr ⟨g', cap, cur, e, hb', (hc.block g' (Array.getElem?_eq_some_iff.1 hh).1 (by omega) (by omega) (h.sep g' (by rw [e]; rfl))).trans hh, rest⟩⟩
  · obtain ⟨c0, c1, c2, c3, c4, c5, e0, e1, e2, e3, e4, e5, hx⟩ := h.at_ j x hj
    exact ⟨c0, c1, c2, c3, c4, c5, e0, e1, e2, e3, e4, e5, hx.keep (fun k hk => ⟨hk.1, Nat.lt_of_lt_of_le hk.2.1 hc.size, hk.2.2.1, lb_chg hc hk.2.1 hk.2.2.2⟩) (fun k hk => hc.block k hk.2.1 (by omega) (by omega) hk.2.2.2)⟩
theorem StRow.push {m base D d g : Nat} {w wa w' : World} {v : Value} {ts : List St} {L : List Value} {x : St} {cap : Nat} {c0 c1 c2 c3 c4 c5 : Value} {F : Nat → Prop} (h : StRow m base D d w v ts L) (hx : StV F w D d x (.agg #[c0, c1, c2, c3, c4, c5])) (hF : ∀ b, F b → base ≤ b ∧ b < w.heap.size ∧ v.ownBlock ≠ some b ∧ lb w m ≠ some b)
    (hm : m < base) (hmw : m < w.heap.size) (hlb : ∀ b, lb w m = some b → b < w.heap.size) (hown : w'.ownsRow base 84 6 (.slice (some ⟨g, 0, none⟩) (ts.length + 1) cap) (ts.length + 1) (L ++ [c0, c1, c2, c3, c4, c5])) (ha : Below w.heap.size w wa) (hg : wa.grownBy w' v.ownBlock) (hat : v.ownBlock = some g ∨ g = wa.heap.size) :
    StRow m base D d w' (.slice (some ⟨g, 0, none⟩) (ts.length + 1) cap) (ts ++ [x]) (L ++ [c0, c1, c2, c3, c4, c5]) := by
  have hL : L.length = ts.length * 6 := h.own.1
  have has := ha.size
  have hl : lb w' m = lb w m := lb_of (World.cell?_of_block ((hg.block m (Nat.lt_of_lt_of_le hmw has) (fun e => by have := (h.own.lt m e.symm).1; omega)).trans (ha.block m hmw)))
  have step : ∀ {F : Nat → Prop} {y : St} {u : Value}, StV F w D d y u → (∀ b, F b → base ≤ b ∧ b < w.heap.size ∧ v.ownBlock ≠ some b ∧ lb w m ≠ some b) → StV (fun b => base ≤ b ∧ b < w'.heap.size ∧ (Value.slice (some ⟨g, 0, none⟩) (ts.length + 1) cap).ownBlock ≠ some b ∧ lb w' m ≠ some b) w' D d y u := fun hy hF => hy.keep (fun b hb => by
      obtain ⟨h1, h2, h3, h4⟩ := hF b hb
      refine ⟨h1, Nat.lt_of_lt_of_le h2 (Nat.le_trans ha.size hg.size), ?_, by rw [hl]; exact h4⟩
      intro e
      have e2 : g = b := by simpa [Value.ownBlock] using e
      subst e2
      rcases hat with hh | hh
      · exact h3 hh
      · omega) (fun b hb => by
      obtain ⟨h1, h2, h3, _⟩ := hF b hb
      exact (hg.block b (Nat.lt_of_lt_of_le h2 ha.size) (fun e => h3 e.symm)).trans (ha.block b h2))
  refine ⟨by simpa using hown, fun b hb => ?_, fun j y hj => ?_⟩
  · have e2 : g = b := by simpa [Value.ownBlock] using hb
    subst e2
    rw [hl]
    rcases hat with hh | hh
    · exact h.sep g hh
    · intro e
      have := hlb g e
      omega
  rcases Nat.lt_or_ge j ts.length with hlt | hge
  · rw [List.getElem?_append_left hlt] at hj
    obtain ⟨d0, d1, d2, d3, d4, d5, e0, e1, e2, e3, e4, e5, hy⟩ := h.at_ j y hj
    have hl : ∀ k u, L[k]? = some u → (L ++ [c0, c1, c2, c3, c4, c5])[k]? = some u := fun k u hk => by
      have hk2 : k < L.length := by
        rcases Nat.lt_or_ge k L.length with h' | h'
        · exact h'
        · rw [List.getElem?_eq_none h'] at hk; cases hk
      rw [List.getElem?_append_left hk2]; exact hk
    exact ⟨d0, d1, d2, d3, d4, d5, hl _ _ e0, hl _ _ e1, hl _ _ e2, hl _ _ e3, hl _ _ e4, hl _ _ e5, step hy (fun b hb => hb)⟩
  · have hjx : j = ts.length := by
      rcases Nat.lt_or_ge ts.length j with h' | h'
      · rw [List.getElem?_eq_none (by simp; omega)] at hj; cases hj
      · omega
    subst hjx
    simp at hj
    subst hj
    have hr : ∀ k, (L ++ [c0, c1, c2, c3, c4, c5])[ts.length * 6 + k]? = [c0, c1, c2, c3, c4, c5][k]? := fun k => by
      rw [List.getElem?_append_right (by omega)]
      congr 1
      omega
    exact ⟨c0, c1, c2, c3, c4, c5, hr 0, hr 1, hr 2, hr 3, hr 4, hr 5, step hx hF⟩
theorem StRow.row {m base D d : Nat} {w : World} {A : Option Addr} {n c : Nat} {ts : List St} {L : List Value} (h : StRow m base D d w (.slice A n c) ts L) : n = ts.length ∧ RowS (fun b => base ≤ b ∧ b < w.heap.size ∧ lb w m ≠ some b) w D d ts A c := by
  rcases h.own.2 with ⟨e, h0⟩ | ⟨g, cap, cur, e, hb, hh, hc, _⟩
  · injection e with e1 e2 e3
    subst e1 e2 e3
    exact ⟨h0.symm, by rw [h0]; exact Nat.le_refl _, fun i x hi => by rw [List.eq_nil_of_length_eq_zero h0] at hi; simp at hi⟩
  · injection e with e1 e2 e3
    subst e1 e2 e3
    refine ⟨rfl, hc, fun i x hi => ?_⟩
    obtain ⟨c0, c1, c2, c3, c4, c5, e0, e1, e2, e3, e4, e5, hx⟩ := h.at_ i x hi
    have hi2 : i < ts.length := by
      rcases Nat.lt_or_ge i ts.length with h' | h'
      · exact h'
      · rw [List.getElem?_eq_none h'] at hi; cases hi
    have hcell : ∀ k u, L[k]? = some u → w.cell? ⟨g, 0 + k, none⟩ = some u := fun k u hk => by
      rw [Nat.zero_add]
      have hk2 : k < L.length := by
        rcases Nat.lt_or_ge k L.length with h' | h'
        · exact h'
        · rw [List.getElem?_eq_none h'] at hk; cases hk
      exact (h.own.cellAt k (by have := h.own.1; omega)).trans hk
    exact ⟨g, 0, c0, c1, c2, c3, c4, c5, rfl, ⟨hb, (Array.getElem?_eq_some_iff.1 hh).1, h.sep g rfl⟩, hcell _ _ e0, hcell _ _ e1, hcell _ _ e2, hcell _ _ e3, hcell _ _ e4, hcell _ _ e5, hx.keep (fun b hb => ⟨hb.1, hb.2.1, hb.2.2.2⟩) (fun _ _ => rfl)⟩
theorem wpList_append_st {ops : Array Oper} {rest : List Oper} {o : Oper} {a : Act} {Q : Exit → Act → World → Prop} (w : World) (hgd : o.guard = none) (s x : Operand)
    (ho : o.op = .call { callee := .builtin .append, args := #[s, x], argTypes := #[62, 62] }) (m base D d : Nat) (v : Value) (ts : List St) (L : List Value) (y : St) (k l : Int) (t : ByteArray) (eA tA uA : Option Addr) (en ec tn tc un uc : Nat) (F : Nat → Prop)
    (hs : a.eval s = v) (hx : a.eval x = .slice (some ⟨w.heap.size, 0, none⟩) 1 1) (h : StRow m base D d w v ts L) (hlen : ts.length ≤ 1000000) (hbase : base ≤ w.heap.size) (hm : m < base) (hlb : ∀ b, lb w m = some b → b < w.heap.size)
    (hy : StV F w D d y (.agg #[.int .i64 k, .int .i64 l, .string t, .slice eA en ec, .slice tA tn tc, .slice uA un uc])) (hF : ∀ b, F b → base ≤ b ∧ b < w.heap.size ∧ v.ownBlock ≠ some b ∧ lb w m ≠ some b)
    (hk : ∀ g cap w', StRow m base D d w' (.slice (some ⟨g, 0, none⟩) (ts.length + 1) cap) (ts ++ [y]) (L ++ [.int .i64 k, .int .i64 l, .string t, .slice eA en ec, .slice tA tn tc, .slice uA un uc]) → w.grownBy w' v.ownBlock → wpList Tryz.prog ops Q rest (a.put o.dst (.slice (some ⟨g, 0, none⟩) (ts.length + 1) cap)) w') :
    wpList Tryz.prog ops Q (o :: rest) a (w.alloc (.cells #[.int .i64 k, .int .i64 l, .string t, .slice eA en ec, .slice tA tn tc, .slice uA un uc] 84)) := by
  obtain ⟨i, hi, hz, hsz, hby⟩ := info_parts infoStmt
  refine wpList_append_lies _ hgd s x _ ho base 84 i _ 6 104 Tryz.underlying62 hi hz hsz hby rfl (by decide) v ts.length L hs (h.own.alloc _) ⟨w.heap.size, 0, none⟩ 1 1 [.int .i64 k, .int .i64 l, .string t, .slice eA en ec, .slice tA tn tc, .slice uA un uc] hx (by simp) ?_ ?_ (by decide) (by unfold maxLen; omega) (by omega) (by simp; omega) _ rfl fun g cap w' h1 h2 h3 _ => hk g cap w' (h.push hy hF hm (by omega) hlb h1 ((Below.refl _ w).alloc (Nat.le_refl _) _) h2 h3) ((World.grownBy_alloc _ _ _).trans h2)
  · intro j u hu
    rw [Addr.add_lit, Nat.zero_add]
    exact (cell_of_row _ _ _ _ _ _ (heap_alloc_new w _)).trans (by simpa using hu)
  · intro u hu
    simp at hu
    rcases hu with rfl | rfl | rfl | rfl | rfl | rfl <;> rfl
end Go.Proofs.YtifabkoomojklaaGreatDoor
