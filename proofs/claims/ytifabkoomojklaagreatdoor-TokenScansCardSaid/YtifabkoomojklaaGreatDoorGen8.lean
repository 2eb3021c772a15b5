/-
  The maker of sources: its state between statements (locals grow, the budget falls). No condition.
-/
import Derived.Test.YtifabkoomojklaaGreatDoorGen7
namespace Go.Proofs.YtifabkoomojklaaGreatDoor
open Go.RowKit

/-- The block in which the locals' names lie. -/
def lb (w : World) (m : Nat) : Option Nat := match w.cell? ⟨m, 3, none⟩ with | some v => v.ownBlock | none => none
/-- What a statement's making leaves as it was: all blocks but the maker's, the codes' and the locals'. -/
structure Chg (m g : Nat) (w w' : World) : Prop where
  os : w'.os = w.os
  tape : w'.tape = w.tape
  output : w'.output = w.output
  size : w.heap.size ≤ w'.heap.size
  block : ∀ k, k < w.heap.size → k ≠ m → k ≠ g → lb w m ≠ some k → w'.heap[k]? = w.heap[k]?
  lbs : lb w' m = lb w m ∨ ∃ k, lb w' m = some k ∧ w.heap.size ≤ k
  pas : ∀ k, k < 3 → w'.cell? ⟨m, k, none⟩ = w.cell? ⟨m, k, none⟩
theorem Chg.refl (m g : Nat) (w : World) : Chg m g w w := ⟨rfl, rfl, rfl, Nat.le_refl _, fun _ _ _ _ _ => rfl, .inl rfl, fun _ _ => rfl⟩
theorem Chg.trans {m g : Nat} {a b c : World} (h : Chg m g a b) (k : Chg m g b c) : Chg m g a c := by
  refine ⟨k.os.trans h.os, k.tape.trans h.tape, k.output.trans h.output, Nat.le_trans h.size k.size, fun i hi h1 h2 h3 => ?_, ?_, fun j hj => (k.pas j hj).trans (h.pas j hj)⟩
  · refine (k.block i (Nat.lt_of_lt_of_le hi h.size) h1 h2 ?_).trans (h.block i hi h1 h2 h3)
    rcases h.lbs with e | ⟨q, e, hq⟩
    · rw [e]; exact h3
    · rw [e]
      intro e2
      injection e2 with e2
      omega
  · rcases k.lbs with e | ⟨q, e, hq⟩
    · rw [e]
      exact h.lbs
    · exact .inr ⟨q, e, Nat.le_trans h.size hq⟩
theorem lb_of {w w' : World} {m : Nat} (h : w'.cell? ⟨m, 3, none⟩ = w.cell? ⟨m, 3, none⟩) : lb w' m = lb w m := by unfold lb; rw [h]
theorem lb_at {w : World} {m : Nat} {v : Value} (h : w.cell? ⟨m, 3, none⟩ = some v) : lb w m = v.ownBlock := by unfold lb; rw [h]
/-- A step that changes the codes alone. -/
theorem Chg.grown {m g : Nat} {w w' : World} (hg : w.grownBy w' (some g)) (hm : m < w.heap.size) (hne : m ≠ g) : Chg m g w w' :=
  ⟨hg.os, hg.tape, hg.output, hg.size, fun k hk _ h2 _ => hg.block k hk (fun e => h2 (by injection e)), .inl (lb_of (World.cell?_of_block (hg.block m hm (fun e => hne (by injection e))))), fun _ _ => World.cell?_of_block (hg.block m hm (fun e => hne (by injection e)))⟩
/-- Where trees may lie that were made between two states. -/
def Made (m : Nat) (w0 w : World) (b : Nat) : Prop := w0.heap.size ≤ b ∧ b < w.heap.size ∧ lb w m ≠ some b
theorem made_chg {m g : Nat} {w0 w w' : World} (h : Chg m g w w') (hm : m < w0.heap.size) (hg : g < w0.heap.size) : ∀ b, Made m w0 w b → Made m w0 w' b ∧ w'.heap[b]? = w.heap[b]? := fun b ⟨h1, h2, h3⟩ =>
  ⟨⟨h1, Nat.lt_of_lt_of_le h2 h.size, by
    rcases h.lbs with e | ⟨q, e, hq⟩
    · rw [e]; exact h3
    · rw [e]
      intro e2
      injection e2 with e2
      omega⟩, h.block b h2 (by omega) (by omega) h3⟩
/-- The names of a maker's locals lie in a row of its own. -/
structure LS (w : World) (m g : Nat) (l : List Nat) (E : Env) (bud : Int) (base : Nat) : Prop where
  gs : GS w m g l E bud
  own : ∃ v, w.cell? ⟨m, 3, none⟩ = some v ∧ w.ownsRow base 9 1 v E.locals.length (strV E.locals)
  mb : m < base
  gb : g < m
  bs : base ≤ w.heap.size
  low : ∃ gA gc fA fc, w.cell? ⟨m, 1, none⟩ = some (.slice gA E.globs.length gc) ∧ w.cell? ⟨m, 2, none⟩ = some (.slice fA E.funs.length fc) ∧ GlobsAt (fun k => k < base) w E.globs gA gc ∧ FunsAt (fun k => k < base) w E.funs fA fc
theorem Chg.far {m g : Nat} {w0 w w' : World} {row : Option Nat} (h : Chg m g w0 w) (hg : w.grownBy w' row) (hrow : ∀ b, row = some b → w0.heap.size ≤ b) (hm : m < w0.heap.size) : Chg m g w0 w' := by
  have hb : Below w0.heap.size w w' := grown_any hg hrow h.size
  have hl : lb w' m = lb w m := lb_of (World.cell?_of_block (hb.block m hm))
  exact ⟨hg.os.trans h.os, hg.tape.trans h.tape, hg.output.trans h.output, Nat.le_trans h.size hg.size, fun k hk h1 h2 h3 => (hb.block k hk).trans (h.block k hk h1 h2 h3), by rw [hl]; exact h.lbs, fun j hj => (World.cell?_of_block (hb.block m hm)).trans (h.pas j hj)⟩
theorem LS.lbl {w : World} {m g : Nat} {l : List Nat} {E : Env} {bud : Int} {base : Nat} (h : LS w m g l E bud base) : ∀ b, lb w m = some b → base ≤ b ∧ b < w.heap.size := fun b hb => by
  obtain ⟨v, hv, ho⟩ := h.own
  rw [lb_at hv] at hb
  exact ho.lt b hb
/-- A step that writes a row of the call's own, not the locals'. -/
theorem LS.far {w w' : World} {m g : Nat} {l : List Nat} {E : Env} {bud : Int} {base : Nat} {row : Option Nat} (h : LS w m g l E bud base) (hg : w.grownBy w' row) (hrow : ∀ b, row = some b → base ≤ b ∧ lb w m ≠ some b) : LS w' m g l E bud base := by
  have hb : Below base w w' := grown_any hg (fun b e => (hrow b e).1) h.bs
  obtain ⟨gA, gc, fA, fc, lA, lc, h0, h1, h2, h3⟩ := h.gs.mka
  obtain ⟨gA', gc', fA', fc', k1, k2, l1, l2⟩ := h.low
  obtain ⟨v, hv, ho⟩ := h.own
  rw [cell_of_row _ _ 1 _ _ _ h0] at k1
  rw [cell_of_row _ _ 2 _ _ _ h0] at k2
  rw [cell_of_row _ _ 3 _ _ _ h0] at hv
  injection k1 with k1
  injection k1 with e1 e2 e3
  injection k2 with k2
  injection k2 with e4 e5 e6
  injection hv with hv
  subst hv e1 e3 e4 e6
  have ho : w.ownsRow base 9 1 (.slice lA E.locals.length lc) E.locals.length (strV E.locals) := ho
  have hm0 := (hb.block m h.mb).trans h0
  have hlow : ∀ {r o : Nat} {u : Value}, r < base → w.cell? ⟨r, o, none⟩ = some u → w'.cell? ⟨r, o, none⟩ = some u := fun hr hu => (World.cell?_of_block (hb.block _ hr)).trans hu
  have hl : lb w m = (Value.slice lA E.locals.length lc).ownBlock := lb_at (by rw [cell_of_row _ _ 3 _ _ _ h0]; rfl)
  have hg1 : ∀ {F : Nat → Prop}, GlobsAt F w E.globs gA gc → GlobsAt F w' E.globs gA gc := fun hG => ⟨hG.1, fun i x hi => by
    obtain ⟨r, hA, hr, z0, z1⟩ := hG.2 i x hi
    obtain ⟨r', hA', hr', _⟩ := l1.2 i x hi
    rw [hA] at hA'
    injection hA' with hA'
    injection hA' with hA'
    subst hA'
    exact ⟨r, hA, hr, hlow hr' z0, hlow hr' z1⟩⟩
  have hf1 : ∀ {F : Nat → Prop}, FunsAt F w E.funs fA fc → FunsAt F w' E.funs fA fc := fun hF => ⟨hF.1, fun i x hi => by
    obtain ⟨r, pA, pc, bA, bn, bc, ln, hA, hr, z0, z1, z2, z3⟩ := hF.2 i x hi
    obtain ⟨r', _, _, _, _, _, _, hA', hr', _⟩ := l2.2 i x hi
    rw [hA] at hA'
    injection hA' with hA'
    injection hA' with hA'
    subst hA'
    exact ⟨r, pA, pc, bA, bn, bc, ln, hA, hr, hlow hr' z0, hlow hr' z1, hlow hr' z2, hlow hr' z3⟩⟩
  refine ⟨⟨h.gs.ne, ⟨gA, gc, fA, fc, lA, lc, hm0, hg1 h1, hf1 h2, ⟨h3.1, fun i s hi => ?_⟩⟩, ?_, h.gs.len, h.gs.lb⟩, ⟨.slice lA E.locals.length lc, by rw [cell_of_row _ _ 3 _ _ _ hm0]; rfl, ?_⟩, h.mb, h.gb, Nat.le_trans h.bs hg.size, ⟨gA, gc, fA, fc, by rw [cell_of_row _ _ 1 _ _ _ hm0]; rfl, by rw [cell_of_row _ _ 2 _ _ _ hm0]; rfl, hg1 l1, hf1 l2⟩⟩
  · obtain ⟨r, hA, hr, z0⟩ := h3.2 i s hi
    exact ⟨r, hA, hr, (World.cell?_of_block (hg.block r (World.block_lt_of_cell? _ _ z0) (fun e => (hrow r e.symm).2 (by rw [hl, hA]; rfl)))).trans z0⟩
  · obtain ⟨k, hk⟩ := h.gs.co
    have := h.gb
    have := h.mb
    exact ⟨k, codes_low hk hb (by omega)⟩
  · rcases ho.2 with hn | ⟨g', cap, cur, e, hb', hh, rest⟩
    · exact ⟨ho.1, .inl hn⟩
    · exact ⟨ho.1, .inr ⟨g', cap, cur, e, hb', (hg.block g' (Array.getElem?_eq_some_iff.1 hh).1 (fun e2 => (hrow g' e2.symm).2 (by rw [hl, e]; rfl))).trans hh, rest⟩⟩
end Go.Proofs.YtifabkoomojklaaGreatDoor
