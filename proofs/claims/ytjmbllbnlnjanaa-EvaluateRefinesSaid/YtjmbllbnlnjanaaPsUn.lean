/-
  The walk of unary, given the walk of called. No condition.
-/
import Derived.Test.YtjmbllbnlnjanaaPsLev
namespace Go.Proofs.Ytjmbllbnlnjanaa
open Go.RowKit

theorem codes_fz {w : World} {g : Nat} {cs : Array Value} {t : TypeId} (h : w.heap[g]? = some (.cells cs t (0, 0))) (i : Nat) : w.frozen? ⟨g, i, none⟩ = false := by simp [World.frozen?, h]
theorem undrew {w w' : World} {q : Nat} {row : Option Nat} (h : (w.drewN q).grownBy w' row) : w.grownBy w' row := ⟨h.os, h.tape, h.output, h.size, h.block⟩
theorem un_out {lo dx : Nat} {w : World} {x : Ex} {k o l : Int} {nm : ByteArray} {c0 c1 c2 c3 c4 c5 : Value} {t : TypeId} (hlo : lo ≤ w.heap.size)
    (hx : ExV (fun q => lo ≤ q ∧ q < w.heap.size) w dx x (.agg #[c0, c1, c2, c3, c4, c5])) :
    XAt lo ((w.alloc (.cells #[c0, c1, c2, c3, c4, c5] t)).alloc (.cells #[.int .i64 k, .int .i64 o, .int .i64 0, .int .i64 l, .string nm, .slice (some ⟨w.heap.size, 0, none⟩) 1 1] 104)) (w.heap.size + 1) (.mk k o 0 l nm [x]) := by
  have hb := ((Below.refl _ w).alloc (Nat.le_refl _) (.cells #[c0, c1, c2, c3, c4, c5] t)).alloc (by simp) (.cells #[.int .i64 k, .int .i64 o, .int .i64 0, .int .i64 l, .string nm, .slice (some ⟨w.heap.size, 0, none⟩) 1 1] 104)
  have r1 := alloc2_old w (.cells #[c0, c1, c2, c3, c4, c5] t) (.cells #[.int .i64 k, .int .i64 o, .int .i64 0, .int .i64 l, .string nm, .slice (some ⟨w.heap.size, 0, none⟩) 1 1] 104)
  have r2 := alloc2_new w (.cells #[c0, c1, c2, c3, c4, c5] t) (.cells #[.int .i64 k, .int .i64 o, .int .i64 0, .int .i64 l, .string nm, .slice (some ⟨w.heap.size, 0, none⟩) 1 1] 104)
  exact ⟨by omega, dx + 1, k, o, 0, l, nm, _, _, _, r2, _, _, rfl, row_one hx (fun q hq => ⟨hq.1, Nat.lt_of_lt_of_le hq.2 hb.size⟩) (fun q hq => hb.block q hq.2) ⟨hlo, by simp; omega⟩ r1⟩
/-- The operand of a sign, ahead of the node that is made of it. -/
theorem un_end {p tb : Nat} {s s1 s2 : PS} {x : Ex} {k o l : Int} {nm : ByteArray} {w w1 w3 : World} {dx : Nat} {c0 c1 c2 c3 c4 c5 : Value} {t : TypeId} (hg : w.grownBy w1 (some p)) (hl : s1.rest.length ≤ s.rest.length) (hx : ExV (fun q => w1.heap.size ≤ q ∧ q < w3.heap.size) w3 dx x (.agg #[c0, c1, c2, c3, c4, c5])) (hp3 : PA w3 p tb s2) (hg3 : w1.grownBy w3 (some p)) (hl3 : s2.rest.length ≤ s1.rest.length) :
    ExG p tb (.mk k o 0 l nm [x]) s s2 w (.returned (.pointer (some ⟨w3.heap.size + 1, 0, none⟩))) ((w3.alloc (.cells #[c0, c1, c2, c3, c4, c5] t)).alloc (.cells #[.int .i64 k, .int .i64 o, .int .i64 0, .int .i64 l, .string nm, .slice (some ⟨w3.heap.size, 0, none⟩) 1 1] 104)) := by
  have h1 := hg.size
  have h3 := hg3.size
  have hb := ((Below.refl _ w3).alloc (Nat.le_refl _) (.cells #[c0, c1, c2, c3, c4, c5] t)).alloc (by simp) (.cells #[.int .i64 k, .int .i64 o, .int .i64 0, .int .i64 l, .string nm, .slice (some ⟨w3.heap.size, 0, none⟩) 1 1] 104)
  exact ⟨_, rfl, un_out (by omega) (hx.keep (fun q hq => ⟨by omega, hq.2⟩) (fun _ _ => rfl)), hp3.below hb, (hg.trans hg3).trans (grown_of_below hb _), by omega⟩
end Go.Proofs.Ytjmbllbnlnjanaa
