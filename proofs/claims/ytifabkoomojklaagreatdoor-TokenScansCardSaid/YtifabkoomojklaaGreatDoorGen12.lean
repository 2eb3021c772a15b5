/-
  The maker of sources: steps that change the codes alone, as steps of a statement. No condition.
-/
import Derived.Test.YtifabkoomojklaaGreatDoorGen11
namespace Go.Proofs.YtifabkoomojklaaGreatDoor
open Go.RowKit

theorem LS.grown {w w' : World} {m g : Nat} {l : List Nat} {E : Env} {bud : Int} {base : Nat} (h : LS w m g l E bud base) (h2 : GS w' m g l E bud) (hg : w.grownBy w' (some g)) : LS w' m g l E bud base ∧ Chg m g w w' := by
  have hne := h.gs.ne
  have hmb := h.mb
  have hgm := h.gb
  obtain ⟨gA, gc, fA, fc, lA, lc, h0, h1, h3, _⟩ := h.gs.mka
  obtain ⟨gA', gc', fA', fc', k1, k2, l1, l2⟩ := h.low
  obtain ⟨v, hv, ho⟩ := h.own
  have k1' := cell_grown hg hne k1
  have k2' := cell_grown hg hne k2
  rw [cell_of_row _ _ 1 _ _ _ h0] at k1
  rw [cell_of_row _ _ 2 _ _ _ h0] at k2
  injection k1 with k1
  injection k1 with e1 e2 e3
  injection k2 with k2
  injection k2 with e4 e5 e6
  subst e1 e3 e4 e6
  refine ⟨⟨h2, ⟨v, cell_grown hg hne hv, own_kept ho (fun b hb => hg.block b (ho.lt b hb).2 (maker_ne (o := 0) ho (Nat.lt_trans hgm hmb) hb))⟩, hmb, hgm, Nat.le_trans h.bs hg.size, ⟨gA, gc, fA, fc, k1', k2', ⟨l1.1, fun i x hi => ?_⟩, ⟨l2.1, fun i x hi => ?_⟩⟩⟩, Chg.grown hg (Nat.lt_of_lt_of_le hmb h.bs) hne⟩
  · obtain ⟨r, hA, hr, z0, z1⟩ := l1.2 i x hi
    obtain ⟨r', hA', hr', _⟩ := h1.2 i x hi
    rw [hA] at hA'
    injection hA' with hA'
    injection hA' with hA'
    subst hA'
    exact ⟨r, hA, hr, cell_grown hg hr' z0, cell_grown hg hr' z1⟩
  · obtain ⟨r, pA, pc, bA, bn, bc, ln, hA, hr, z0, z1, z2, z3⟩ := l2.2 i x hi
    obtain ⟨r', _, _, _, _, _, _, hA', hr', _⟩ := h3.2 i x hi
    rw [hA] at hA'
    injection hA' with hA'
    injection hA' with hA'
    subst hA'
    exact ⟨r, pA, pc, bA, bn, bc, ln, hA, hr, cell_grown hg hr' z0, cell_grown hg hr' z1, cell_grown hg hr' z2, cell_grown hg hr' z3⟩
theorem LS.below {w w' : World} {m g : Nat} {l : List Nat} {E : Env} {bud : Int} {base : Nat} (h : LS w m g l E bud base) (hb : Below w.heap.size w w') : LS w' m g l E bud base ∧ Chg m g w w' := h.grown (h.gs.below hb) (grown_of_below hb _)
end Go.Proofs.YtifabkoomojklaaGreatDoor
