/-
  The maker of sources: a local is added. No condition.
-/
import Derived.Test.YtifabkoomojklaaGreatDoorGen10
namespace Go.Proofs.YtifabkoomojklaaGreatDoor
open Go.RowKit

/-- A name is appended to the locals, and the row is put back into the maker. -/
theorem LS.local {w wa w' : World} {m g : Nat} {l : List Nat} {E : Env} {bud : Int} {base : Nat} {v : Value} {g' cap : Nat} {s : ByteArray} (h : LS w m g l E bud base) (ha : Below w.heap.size w wa) (hv : w.cell? ⟨m, 3, none⟩ = some v)
    (hown : w'.ownsRow base 9 1 (.slice (some ⟨g', 0, none⟩) (E.locals.length + 1) cap) (E.locals.length + 1) (strV E.locals ++ [.string s])) (hcap : E.locals.length + 1 ≤ cap) (hg : wa.grownBy w' v.ownBlock) (hat : v.ownBlock = some g' ∨ g' = wa.heap.size) (hgb : base ≤ g') :
    LS (w'.setCell ⟨m, 3, none⟩ (.slice (some ⟨g', 0, none⟩) (E.locals.length + 1) cap)) m g l { E with locals := E.locals ++ [s] } bud base ∧ Chg m g w (w'.setCell ⟨m, 3, none⟩ (.slice (some ⟨g', 0, none⟩) (E.locals.length + 1) cap)) := by
  have hmb := h.mb
  have hgm := h.gb
  have hlbl : ∀ b, v.ownBlock = some b → base ≤ b ∧ b < w.heap.size := fun b hb => h.lbl b (by rw [lb_at hv]; exact hb)
  have hbw : Below base w w' := (ha.mono h.bs).trans (grown_any hg (fun b hb => (hlbl b hb).1) (Nat.le_trans h.bs ha.size))
  have hgr := set_grown w' ⟨m, 3, none⟩ (.slice (some ⟨g', 0, none⟩) (E.locals.length + 1) cap)
  generalize hw2 : w'.setCell ⟨m, 3, none⟩ (.slice (some ⟨g', 0, none⟩) (E.locals.length + 1) cap) = w2 at *
  obtain ⟨gA, gc, fA, fc, lA, lc, h0, h1, h2, h3⟩ := h.gs.mka
  obtain ⟨gA', gc', fA', fc', k1, k2, l1, l2⟩ := h.low
  have k1o := k1
  have k2o := k2
  rw [cell_of_row _ _ 1 _ _ _ h0] at k1
  rw [cell_of_row _ _ 2 _ _ _ h0] at k2
  injection k1 with k1
  injection k1 with e1 e2 e3
  injection k2 with k2
  injection k2 with e4 e5 e6
  subst e1 e3 e4 e6
  have hm0 : w2.heap[m]? = some (.cells #[.pointer (some ⟨g, 0, none⟩), .slice gA E.globs.length gc, .slice fA E.funs.length fc, .slice (some ⟨g', 0, none⟩) (E.locals.length + 1) cap, .int .i64 bud] 68 (0, 0)) := by
    have := row_set (i := 3) (.slice (some ⟨g', 0, none⟩) (E.locals.length + 1) cap) ((hbw.block m hmb).trans h0)
    rw [hw2] at this
    simpa using this
  have hblk : ∀ r, r < base → r ≠ m → w2.heap[r]? = w.heap[r]? := fun r hr hne => (hgr.block r (Nat.lt_of_lt_of_le hr (Nat.le_trans h.bs hbw.size)) (fun e => hne (by injection e))).trans (hbw.block r hr)
  have hlow : ∀ {r o : Nat} {u : Value}, r < base → r ≠ m → w.cell? ⟨r, o, none⟩ = some u → w2.cell? ⟨r, o, none⟩ = some u := fun hr hne hu => (World.cell?_of_block (hblk _ hr hne)).trans hu
  have hg1 : ∀ {F : Nat → Prop}, GlobsAt F w E.globs gA gc → GlobsAt F w2 E.globs gA gc := fun hG => ⟨hG.1, fun i x hi => by
    obtain ⟨r, hA, hr, z0, z1⟩ := hG.2 i x hi
    obtain ⟨r', hA', hr', _⟩ := l1.2 i x hi
    have hl : 0 < E.globs.length := by
      rcases Nat.lt_or_ge 0 E.globs.length with h' | h'
      · exact h'
      · rw [List.getElem?_eq_none (by omega)] at hi; cases hi
    obtain ⟨r'', hA'', _, y0, _⟩ := hG.2 0 _ (List.getElem?_eq_getElem hl)
    rw [hA] at hA' hA''
    injection hA' with hA'
    injection hA' with hA'
    injection hA'' with hA''
    injection hA'' with hA''
    subst hA' hA''
    have hne := ne_maker h0 rfl y0
    exact ⟨r, hA, hr, hlow hr' hne z0, hlow hr' hne z1⟩⟩
  have hf1 : ∀ {F : Nat → Prop}, FunsAt F w E.funs fA fc → FunsAt F w2 E.funs fA fc := fun hF => ⟨hF.1, fun i x hi => by
    obtain ⟨r, pA, pc, bA, bn, bc, ln, hA, hr, z0, z1, z2, z3⟩ := hF.2 i x hi
    obtain ⟨r', _, _, _, _, _, _, hA', hr', _⟩ := l2.2 i x hi
    have hl : 0 < E.funs.length := by
      rcases Nat.lt_or_ge 0 E.funs.length with h' | h'
      · exact h'
      · rw [List.getElem?_eq_none (by omega)] at hi; cases hi
    obtain ⟨r'', _, _, _, _, _, _, hA'', _, y0, _⟩ := hF.2 0 _ (List.getElem?_eq_getElem hl)
    rw [hA] at hA' hA''
    injection hA' with hA'
    injection hA' with hA'
    injection hA'' with hA''
    injection hA'' with hA''
    subst hA' hA''
    have hne := ne_maker h0 rfl y0
    exact ⟨r, pA, pc, bA, bn, bc, ln, hA, hr, hlow hr' hne z0, hlow hr' hne z1, hlow hr' hne z2, hlow hr' hne z3⟩⟩
  have hown2 : w2.ownsRow base 9 1 (.slice (some ⟨g', 0, none⟩) (E.locals.length + 1) cap) (E.locals.length + 1) (strV E.locals ++ [.string s]) := own_kept hown (fun b hb => hgr.block b (hown.lt b hb).2 (maker_ne hown hmb hb))
  have hc3 : w2.cell? ⟨m, 3, none⟩ = some (.slice (some ⟨g', 0, none⟩) (E.locals.length + 1) cap) := by rw [cell_of_row _ _ 3 _ _ _ hm0]; rfl
  have hlen : (E.locals ++ [s]).length = E.locals.length + 1 := by simp
  have hstr : strV (E.locals ++ [s]) = strV E.locals ++ [.string s] := by simp [strV]
  refine ⟨⟨⟨h.gs.ne, ⟨gA, gc, fA, fc, some ⟨g', 0, none⟩, cap, by rw [hm0, hlen], hg1 h1, hf1 h2, ⟨by rw [hlen]; exact hcap, fun i t hi => ?_⟩⟩, ?_, h.gs.len, h.gs.lb⟩, ⟨_, hc3, by rw [hlen, hstr]; exact hown2⟩, hmb, hgm, Nat.le_trans h.bs (Nat.le_trans hbw.size hgr.size), ⟨gA, gc, fA, fc, by rw [cell_of_row _ _ 1 _ _ _ hm0]; rfl, by rw [cell_of_row _ _ 2 _ _ _ hm0]; rfl, hg1 l1, hf1 l2⟩⟩, ?_⟩
  · refine ⟨g', rfl, by omega, ?_⟩
    have hi2 : i < E.locals.length + 1 := by
      rcases Nat.lt_or_ge i (E.locals.length + 1) with h' | h'
      · exact h'
      · rw [List.getElem?_eq_none (by rw [hlen]; exact h')] at hi; cases hi
    have := hown2.cellAt i (by omega)
    rw [this, ← hstr]
    have hi3 : (E.locals ++ [s])[i]? = some t := hi
    rw [strV, List.getElem?_map, hi3]
    rfl
  · obtain ⟨k, hk⟩ := h.gs.co
    exact ⟨k, codes_other (codes_low hk hbw (by omega)) hgr hgm⟩
  · refine ⟨hgr.os.trans hbw.os, hgr.tape.trans hbw.tape, hgr.output.trans hbw.output, Nat.le_trans hbw.size hgr.size, fun k hk h1 h2 h3 => ?_, ?_, fun j hj => by
        rw [cell_of_row _ _ j _ _ _ hm0, cell_of_row _ _ j _ _ _ h0]
        have hj3 : j = 0 ∨ j = 1 ∨ j = 2 := by omega
        rcases hj3 with rfl | rfl | rfl <;> rfl⟩
    · refine (hgr.block k (Nat.lt_of_lt_of_le hk hbw.size) (fun e => h1 (by injection e))).trans ?_
      refine (hg.block k (Nat.lt_of_lt_of_le hk ha.size) (fun e => h3 ?_)).trans (ha.block k hk)
      rw [lb_at hv]
      exact e.symm
    · rw [lb_at hc3, lb_at hv]
      rcases hat with e | e
      · exact .inl (by rw [e]; rfl)
      · exact .inr ⟨g', rfl, by have := ha.size; omega⟩
end Go.Proofs.YtifabkoomojklaaGreatDoor
