/-
  Trees that the parser makes; the walk of binary. No condition.
-/
import Derived.Test.YtjmbllbnlnjanaaPsAcc
namespace Go.Proofs.Ytjmbllbnlnjanaa
open Go.RowKit

theorem ExV.succ {F : Nat → Prop} {w : World} : ∀ (d : Nat) (x : Ex) (v : Value), ExV F w d x v → ExV F w (d + 1) x v
  | 0, _, _, h => h.elim
  | d + 1, .mk k o a l s xs, v, ⟨A, c, hv, hc, h⟩ => ⟨A, c, hv, hc, fun i x hi => by
      obtain ⟨g, off, c0, c1, c2, c3, c4, c5, hA, hF, h0, h1, h2, h3, h4, h5, hx⟩ := h i x hi
      exact ⟨g, off, c0, c1, c2, c3, c4, c5, hA, hF, h0, h1, h2, h3, h4, h5, ExV.succ d x _ hx⟩⟩
theorem ExV.mono {F : Nat → Prop} {w : World} {d : Nat} {x : Ex} {v : Value} (h : ExV F w d x v) : ∀ n, ExV F w (d + n) x v
  | 0 => h
  | n + 1 => (h.mono n).succ
/-- A tree in its block b; its operands lie from lo on. -/
def XAt (lo : Nat) (w : World) (b : Nat) (x : Ex) : Prop := lo ≤ b ∧ ∃ d k o a l s A n c, w.heap[b]? = some (.cells #[.int .i64 k, .int .i64 o, .int .i64 a, .int .i64 l, .string s, .slice A n c] 104 (0, 0)) ∧ ExV (fun q => lo ≤ q ∧ q < w.heap.size) w d x (.agg #[.int .i64 k, .int .i64 o, .int .i64 a, .int .i64 l, .string s, .slice A n c])
theorem XAt.lt {lo : Nat} {w : World} {b : Nat} {x : Ex} (h : XAt lo w b x) : b < w.heap.size := by
  obtain ⟨_, d, k, o, a, l, s, A, n, c, hr, _⟩ := h
  exact (Array.getElem?_eq_some_iff.1 hr).1
theorem XAt.keep {lo lo' : Nat} {w w' : World} {b : Nat} {x : Ex} (h : XAt lo w b x) (hl : lo' ≤ lo) (hs : w.heap.size ≤ w'.heap.size) (hk : ∀ q, lo ≤ q → q < w.heap.size → w'.heap[q]? = w.heap[q]?) : XAt lo' w' b x := by
  have hlt := h.lt
  obtain ⟨h1, d, k, o, a, l, s, A, n, c, hr, hx⟩ := h
  exact ⟨by omega, d, k, o, a, l, s, A, n, c, (hk b h1 hlt).trans hr, hx.keep (fun q hq => ⟨by omega, by omega⟩) (fun q hq => hk q hq.1 hq.2)⟩
theorem XAt.below {lo : Nat} {w w' : World} {b : Nat} {x : Ex} (h : XAt lo w b x) (hb : Below w.heap.size w w') : XAt lo w' b x := h.keep (Nat.le_refl _) hb.size (fun q _ hq => hb.block q hq)
theorem XAt.grown {lo p : Nat} {w w' : World} {b : Nat} {x : Ex} (h : XAt lo w b x) (hg : w.grownBy w' (some p)) (hp : p < lo) : XAt lo w' b x := h.keep (Nat.le_refl _) hg.size (fun q hq hq2 => hg.block q hq2 (fun e => by injection e with e; omega))
/-- A tree is handed back in a block of its own; memory has grown at most. -/
def BinG (lo : Nat) (x : Ex) (w : World) (e : Ending) (w' : World) : Prop := ∃ b, e = .returned (.pointer (some ⟨b, 0, none⟩)) ∧ XAt lo w' b x ∧ Below w.heap.size w w'
theorem cmpS (a b : Bytes) : ((nmB a).toList == (nmB b).toList) = decide (a = b) := by
  rw [Lib.toList_data, Lib.toList_data, Bool.eq_iff_iff]
  simp [nmB]
def signsE : List Bytes := [[124, 124], [38, 38], [60], [60, 61], [61, 61], [33, 61], [43], [45], [42], [47], [37]]
theorem bin_out {lo b1 b2 : Nat} {w W : World} {x y : Ex} {k o l : Int} {dx dy : Nat} {c0 c1 c2 c3 c4 c5 e0 e1 e2 e3 e4 e5 : Value} {t : TypeId} (hlo : lo ≤ w.heap.size) (hb : Below w.heap.size w W) (hb1 : w.heap.size ≤ b1) (hb2 : w.heap.size ≤ b2)
    (hx : ExV (fun q => lo ≤ q ∧ q < w.heap.size) w dx x (.agg #[c0, c1, c2, c3, c4, c5])) (hy : ExV (fun q => lo ≤ q ∧ q < w.heap.size) w dy y (.agg #[e0, e1, e2, e3, e4, e5]))
    (h1 : W.heap[b1]? = some (.cells #[c0, c1, c2, c3, c4, c5, e0, e1, e2, e3, e4, e5] t (0, 0)))
    (h2 : W.heap[b2]? = some (.cells #[.int .i64 k, .int .i64 o, .int .i64 0, .int .i64 l, .string ⟨#[]⟩, .slice (some ⟨b1, 0, none⟩) 2 2] 104 (0, 0))) :
    XAt lo W b2 (.mk k o 0 l ⟨#[]⟩ [x, y]) := by
  have hb1' := (Array.getElem?_eq_some_iff.1 h1).1
  have X := (hx.keep (G := fun q => lo ≤ q ∧ q < W.heap.size) (w' := W) (fun q hq => ⟨hq.1, Nat.lt_of_lt_of_le hq.2 hb.size⟩) (fun q hq => hb.block q hq.2)).mono dy
  have Y := (hy.keep (G := fun q => lo ≤ q ∧ q < W.heap.size) (w' := W) (fun q hq => ⟨hq.1, Nat.lt_of_lt_of_le hq.2 hb.size⟩) (fun q hq => hb.block q hq.2)).mono dx
  rw [Nat.add_comm dy dx] at Y
  exact ⟨by omega, dx + dy + 1, k, o, 0, l, ⟨#[]⟩, _, _, _, h2, _, _, rfl, row_two X Y ⟨by omega, hb1'⟩ h1⟩
end Go.Proofs.Ytjmbllbnlnjanaa
