/-
  The walk of the closure that gathers a call's operands, given the walk of expr. Condition: at most a million.
-/
import Derived.Test.YtmpnkbhlagalkaaGreatDoorPsCall0
namespace Go.Proofs.YtmpnkbhlagalkaaGreatDoor
open Go.RowKit

/-- A call under way: the parser, the captured variables, the call's own struct and its operands. -/
structure CS (w0 : World) (lw p tb xv pbx xb base : Nat) (k l : Int) (nm : ByteArray) (s : PS) (xs : List Ex) (W : World) : Prop where
  pa : PA W p tb s
  cv : W.cell? ⟨xv, 0, none⟩ = some (.pointer (some ⟨xb, 0, none⟩))
  cp : W.cell? ⟨pbx, 0, none⟩ = some (.pointer (some ⟨p, 0, none⟩))
  row : ∃ A n c d L, W.heap[xb]? = some (.cells #[.int .i64 k, .int .i64 0, .int .i64 0, .int .i64 l, .string nm, .slice A n c] 30 (0, 0)) ∧ ArgG lw w0.heap.size base d W (.slice A n c) xs L
  gr : w0.grownBy W (some p)
  lo : p < lw ∧ lw ≤ w0.heap.size ∧ tb < w0.heap.size ∧ w0.heap.size ≤ xv ∧ w0.heap.size ≤ pbx ∧ w0.heap.size ≤ xb ∧ xv < base ∧ pbx < base ∧ xb < base ∧ base ≤ W.heap.size ∧ xv ≠ xb ∧ pbx ≠ xb
  few : xs.length + s.rest.length ≤ 1000002
theorem CS.step {w0 W W2 : World} {lw p tb xv pbx xb base : Nat} {k l : Int} {nm : ByteArray} {s s2 : PS} {xs : List Ex} (h : CS w0 lw p tb xv pbx xb base k l nm s xs W) (hg : W.grownBy W2 (some p)) (hp : PA W2 p tb s2) (hl : s2.rest.length ≤ s.rest.length) : CS w0 lw p tb xv pbx xb base k l nm s2 xs W2 := by
  obtain ⟨h1, hlw, h2, h3, h4, h5, h6, h7, h8, h9, h10, h11⟩ := h.lo
  obtain ⟨A, n, c, d, L, hr, ha⟩ := h.row
  exact ⟨hp, cell_grown hg (by omega) h.cv, cell_grown hg (by omega) h.cp, ⟨A, n, c, d, L, blk_keep hg (by omega) hr, ha.grown hg (by omega) (by omega)⟩, h.gr.trans hg, ⟨h1, hlw, h2, h3, h4, h5, h6, h7, h8, Nat.le_trans h9 hg.size, h10, h11⟩, by have := h.few; omega⟩
theorem CS.below {w0 W W2 : World} {lw p tb xv pbx xb base : Nat} {k l : Int} {nm : ByteArray} {s : PS} {xs : List Ex} (h : CS w0 lw p tb xv pbx xb base k l nm s xs W) (hb : Below W.heap.size W W2) : CS w0 lw p tb xv pbx xb base k l nm s xs W2 :=
  h.step (grown_of_below hb _) (h.pa.below hb) (Nat.le_refl _)
/-- An operand more: the row has grown, and the struct holds it. -/
theorem CS.push {w0 W w6 : World} {lw p tb xv pbx xb base g cap n c d : Nat} {k l : Int} {nm : ByteArray} {s : PS} {xs : List Ex} {y : Ex} {A : Option Addr} {L L2 : List Value} (h : CS w0 lw p tb xv pbx xb base k l nm s xs W) (hx : xs.length + 1 + s.rest.length ≤ 1000002)
    (hr : W.heap[xb]? = some (.cells #[.int .i64 k, .int .i64 0, .int .i64 0, .int .i64 l, .string nm, .slice A n c] 30 (0, 0))) (hown : ArgG lw w0.heap.size base d W (.slice A n c) xs L) (hg : W.grownBy w6 (Value.slice A n c).ownBlock) (ha : ArgG lw w0.heap.size base d w6 (.slice (some ⟨g, 0, none⟩) (xs.length + 1) cap) (xs ++ [y]) L2) :
    CS w0 lw p tb xv pbx xb base k l nm s (xs ++ [y]) (w6.setCell ⟨xb, 5, none⟩ (.slice (some ⟨g, 0, none⟩) (xs.length + 1) cap)) := by
  obtain ⟨h1, hlw, h2, h3, h4, h5, h6, h7, h8, h9, h10, h11⟩ := h.lo
  have hge : ∀ b, (Value.slice A n c).ownBlock = some b → base ≤ b := fun b e => (hown.own.lt b e).1
  have hne : ∀ b, b < base → some b ≠ (Value.slice A n c).ownBlock := fun b hb e => by have := hge b e.symm; omega
  have hsz := h.gr.size
  have hgs : w6.grownBy (w6.setCell ⟨xb, 5, none⟩ (.slice (some ⟨g, 0, none⟩) (xs.length + 1) cap)) (some xb) := set_grown w6 ⟨xb, 5, none⟩ (.slice (some ⟨g, 0, none⟩) (xs.length + 1) cap)
  have hk : ∀ b o v, b < base → b ≠ xb → W.cell? ⟨b, o, none⟩ = some v → (w6.setCell ⟨xb, 5, none⟩ (.slice (some ⟨g, 0, none⟩) (xs.length + 1) cap)).cell? ⟨b, o, none⟩ = some v := fun b o v hb hbx hc =>
    cell_grown hgs hbx ((World.cell?_of_block (hg.block b (World.block_lt_of_cell? W _ hc) (hne b hb))).trans hc)
  have hr6 := (hg.block xb (Array.getElem?_eq_some_iff.1 hr).1 (hne xb h8)).trans hr
  refine ⟨(h.pa.keep (hg.block p h.pa.lt.1 (hne p (by omega))) (hg.block tb h.pa.lt.2.1 (hne tb (by omega)))).other hgs (by omega) (by omega), hk xv 0 _ h6 h10 h.cv, hk pbx 0 _ h7 h11 h.cp, ⟨_, _, _, d, L2, row_set (i := 5) _ hr6, ha.grown hgs h8 (.inr h5)⟩, ?_, ⟨h1, hlw, h2, h3, h4, h5, h6, h7, h8, Nat.le_trans h9 (Nat.le_trans hg.size hgs.size), h10, h11⟩, by rw [List.length_append]; simpa using hx⟩
  have hb6 : Below w0.heap.size W w6 := grown_any hg (fun b e => by have := hge b e; omega) hsz
  exact grown_new (grown_low h.gr hb6 (Nat.le_refl _)) hgs h5
/-- What lies about for a walk, behind the operand's expression. -/
theorem CS.after {w0 W w2 : World} {lw p tb xv pbx xb base n c d b5 : Nat} {k l : Int} {nm : ByteArray} {s s' : PS} {xs : List Ex} {y : Ex} {A : Option Addr} {L : List Value} (h : CS w0 lw p tb xv pbx xb base k l nm s xs W)
    (hr : W.heap[xb]? = some (.cells #[.int .i64 k, .int .i64 0, .int .i64 0, .int .i64 l, .string nm, .slice A n c] 30 (0, 0))) (ha : ArgG lw w0.heap.size base d W (.slice A n c) xs L) (hx : XAt W.heap.size w2 b5 y) (hp : PA w2 p tb s') (hg : W.grownBy w2 (some p)) (hl : s'.rest.length ≤ s.rest.length) :
    ∃ dy ky oy ay ly sy Ay ny cy, w2.heap[b5]? = some (.cells #[.int .i64 ky, .int .i64 oy, .int .i64 ay, .int .i64 ly, .string sy, .slice Ay ny cy] 30 (0, 0)) ∧ CS w0 lw p tb xv pbx xb base k l nm s' xs w2 ∧ w2.heap[xb]? = some (.cells #[.int .i64 k, .int .i64 0, .int .i64 0, .int .i64 l, .string nm, .slice A n c] 30 (0, 0)) ∧ ArgG lw w0.heap.size base (d + dy) w2 (.slice A n c) xs L ∧
      ExV (fun b => W.heap.size ≤ b ∧ b < w2.heap.size) w2 (d + dy) y (.agg #[.int .i64 ky, .int .i64 oy, .int .i64 ay, .int .i64 ly, .string sy, .slice Ay ny cy]) ∧ (∀ b, (W.heap.size ≤ b ∧ b < w2.heap.size) → (lw ≤ b ∧ b < w0.heap.size ∨ base ≤ b) ∧ b < w2.heap.size ∧ (Value.slice A n c).ownBlock ≠ some b) ∧ base ≤ w2.heap.size := by
  obtain ⟨h1, hlw, h2, h3, h4, h5, h6, h7, h8, h9, h10, h11⟩ := h.lo
  obtain ⟨_, dy, ky, oy, ay, ly, sy, Ay, ny, cy, rx, vx⟩ := hx
  refine ⟨dy, ky, oy, ay, ly, sy, Ay, ny, cy, rx, h.step hg hp hl, blk_keep hg (by omega) hr, (ha.grown hg (by omega) (by omega)).mono dy, by rw [Nat.add_comm]; exact vx.mono d, fun b hb => ⟨.inr (by omega), hb.2, fun e => by have := (ha.own.lt b e).2; omega⟩, Nat.le_trans h9 hg.size⟩
/-- The captured variable stays where the row grows. -/
theorem CS.far {w0 W w6 : World} {lw p tb xv pbx xb base d : Nat} {k l : Int} {nm : ByteArray} {s : PS} {xs : List Ex} {v : Value} {L : List Value} (h : CS w0 lw p tb xv pbx xb base k l nm s xs W) (ha : ArgG lw w0.heap.size base d W v xs L) (hg : W.grownBy w6 v.ownBlock) : w6.cell? ⟨xv, 0, none⟩ = some (.pointer (some ⟨xb, 0, none⟩)) := by
  have hl := h.lo.2.2.2.2.2.2.1
  exact (World.cell?_of_block (hg.block xv (World.block_lt_of_cell? W _ h.cv) (fun e => by have := (ha.own.lt xv e.symm).1; omega))).trans h.cv
end Go.Proofs.YtmpnkbhlagalkaaGreatDoor
