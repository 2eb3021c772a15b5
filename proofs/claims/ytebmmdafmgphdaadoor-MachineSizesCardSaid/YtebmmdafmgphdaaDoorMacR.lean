/-
  What the rows of this seat list: machine's table lies where it was laid; and one start that fits. No condition.
-/
import Derived.Test.YtebmmdafmgphdaaDoorCards
import Derived.Test.YtebmmdafmgphdaaDoorTie
import Derived.Test.YtebmmdafmgphdaaDoorMacT
import Derived.Deep.Strs
import Derived.LaidLaws
import Derived.OpenShut
namespace Go.Proofs.YtebmmdafmgphdaaDoor
open Go.RowKit

theorem gRows : Tryd.prog.globalNamed "warmpath/machine.rows" = some 0 := by kernel_rfl
theorem gRowsType : (Tryd.prog.globals[0]?).map (·.type) = some 47 := by kernel_rfl
theorem cellsRow : Tryd.prog.cellsOf 46 = 3 := by kernel_rfl
theorem cellsStr : Tryd.prog.cellsOf 9 = 1 := by kernel_rfl
theorem cellsInt : Tryd.prog.cellsOf 3 = 1 := by kernel_rfl
def rowD {H : Type} (n : Nat) : DataW H := .agg [.lit (.string ((lets n).map UInt8.ofNat)), .lit (.int .i64 (sizeN n)), .lit (.int .i64 (grtN n))]
theorem laid_rows {H : Type} : (Rows.laid_warmpath_machine_rows : DataW H) = .agg ((List.range 19).map rowD) := rfl
theorem rows_laid {W : World} (h : laidMet Tryd.prog [("warmpath/machine.rows", Rows.laid_warmpath_machine_rows)] W) : RowsT W := by
  obtain ⟨ps, ⟨g', t', cs, fuel, p, q, hg', ht', hvar, hd, _, _⟩, _⟩ := h
  obtain rfl := Option.some.inj (gRows.symm.trans hg')
  obtain rfl := Option.some.inj (gRowsType.symm.trans ht')
  obtain ⟨xs, m, _, hx, hlen, hxl, hel⟩ := DataW.trod_array Tryd.underlying47 hd
  rw [laid_rows] at hx
  have hx1 : (List.range 19).map rowD = xs.map (·.1) := by
    have := congrArg Prod.fst hx
    simpa using this
  have key : ∀ n, n < 19 → W.cell? ⟨0, n * 3, none⟩ = some (.string (strL (lets n))) ∧ W.cell? ⟨0, n * 3 + 1, none⟩ = some (.int .i64 (sizeN n)) ∧ W.cell? ⟨0, n * 3 + 2, none⟩ = some (.int .i64 (grtN n)) := by
    intro n hn
    have h1 := hel n hn
    rw [cellsRow] at h1
    have h2 : (xs[n]?).map (·.1) = some (rowD n) := by
      rw [← List.getElem?_map, ← hx1, List.getElem?_map, List.getElem?_range hn]
      rfl
    obtain ⟨y, hy⟩ : ∃ y, xs[n]? = some y := ⟨_, List.getElem?_eq_getElem (by omega)⟩
    rw [hy] at h1 h2
    simp only [Option.map_some, Option.some.injEq] at h2
    obtain ⟨y0, y1, y2, k, rfl, hl, e0, e1, e2⟩ := Deep.trod_struct3 Tryd.underlying46 h1
    dsimp only at e0 e1 e2
    obtain ⟨s, c0, z0, _⟩ := DataW.trod_string Tryd.underlying9 e0
    obtain ⟨a, c1, z1, _⟩ := DataW.trod_int Tryd.underlying3 e1
    obtain ⟨b, c2, z2, _⟩ := DataW.trod_int Tryd.underlying3 e2
    rw [z0, z1, z2] at h2
    simp only [rowD, DataW.agg.injEq, List.cons.injEq, DataW.lit.injEq, Lit.string.injEq, Lit.int.injEq, and_true, true_and] at h2
    obtain ⟨hs, rfl, rfl⟩ := h2
    have hsL : s = strL (lets n) := by
      obtain ⟨d⟩ := s
      unfold strL
      congr 1
      rw [← hs]
    subst hsL
    rw [cellsStr] at c0
    rw [cellsInt] at c1 c2
    refine ⟨?_, ?_, ?_⟩
    · rw [World.var?_cell gRows hvar]
      have := congrArg (·[0]?) c0
      simpa [List.getElem?_take, List.getElem?_drop] using this
    · rw [World.var?_cell gRows hvar]
      have := congrArg (·[0]?) c1
      simpa [List.getElem?_take, List.getElem?_drop] using this
    · rw [World.var?_cell gRows hvar]
      have := congrArg (·[0]?) c2
      simpa [List.getElem?_take, List.getElem?_drop] using this
  exact ⟨fun n hn => (key n hn).1, fun n hn => (key n hn).2.1, fun n hn => (key n hn).2.2⟩
/-- A world for the witness: the settled one, the table holding what its initialiser lays. -/
noncomputable def laidWorld (os : Os) : World :=
  { World.holding Tryd.prog os ⟨#[], #[], []⟩ with heap := (World.holding Tryd.prog os ⟨#[], #[], []⟩).heap.modify 0 fun
      | .cells _ t frozen => .cells (((List.range 19).flatMap fun n => [Value.string (strL (lets n)), Value.int .i64 (sizeN n), Value.int .i64 (grtN n)]).toArray) t frozen
      | o => o }
end Go.Proofs.YtebmmdafmgphdaaDoor
