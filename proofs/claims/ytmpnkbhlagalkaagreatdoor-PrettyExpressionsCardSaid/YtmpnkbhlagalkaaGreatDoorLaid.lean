/-
  What the rows of this seat list of the library's variables: strconv's two errors lie where they were laid; and one start that fits. No condition.
-/
import Derived.Test.YtmpnkbhlagalkaaGreatDoorCards
import Derived.Test.YtmpnkbhlagalkaaGreatDoorTie
import Derived.Test.YtmpnkbhlagalkaaGreatDoorTok2
import Derived.Stop.LaidErr
import Derived.LaidLaws
namespace Go.Proofs.YtmpnkbhlagalkaaGreatDoor
open Go.RowKit

theorem gES : Tryz.prog.globalNamed "strconv.ErrSyntax" = some 2 := by kernel_rfl
theorem gER : Tryz.prog.globalNamed "strconv.ErrRange" = some 3 := by kernel_rfl
theorem gESType : (Tryz.prog.globals[2]?).map (·.type) = some 70 := by kernel_rfl
theorem gERType : (Tryz.prog.globals[3]?).map (·.type) = some 70 := by kernel_rfl
theorem cellsE : Tryz.prog.cellsOf 142 = 1 := by kernel_rfl
theorem cellsS : Tryz.prog.cellsOf 9 = 1 := by kernel_rfl
theorem starE : "*" ++ "errors.errorString" = "*errors.errorString" := by decide
theorem rowE (u : TypeId) (h : Tryz.prog.typeName? 3 u = some "*errors.errorString") : u = 140 :=
  typeName_ptr_named (nm := "errors.errorString") (by rw [starE]; kernel_rfl) (by kernel_rfl) (by decide) u (by rw [starE]; exact h)
theorem errs_laid {W : World} (h : laidMet Tryz.prog [("math/bits.deBruijn32tab", Rows.laid_math_bits_deBruijn32tab), ("math/bits.deBruijn64tab", Rows.laid_math_bits_deBruijn64tab), ("internal/strconv.uint64pow10", Rows.laid_internal_strconv_uint64pow10), ("strconv.ErrRange", Rows.laid_strconv_ErrRange), ("strconv.ErrSyntax", Rows.laid_strconv_ErrSyntax)] W) : Errs W := by
  obtain ⟨a0, s0, hv0, -, -, -⟩ := laid_sentinel h.tail.tail.tail gER gERType Tryz.underlying70 rowE Tryz.underlying140 Tryz.underlying142 rfl rfl Tryz.underlying9 cellsE cellsS
  obtain ⟨a1, s1, hv1, -, -, -⟩ := laid_sentinel h.tail.tail.tail.tail gES gESType Tryz.underlying70 rowE Tryz.underlying140 Tryz.underlying142 rfl rfl Tryz.underlying9 cellsE cellsS
  exact ⟨⟨_, _, by have h0 := World.var?_cell gES hv1 0; simpa using h0⟩, _, _, by have h0 := World.var?_cell gER hv0 0; simpa using h0⟩
/-- A table's numbers as cells. -/
def tabCells : DataW Unit → Array Value
  | .agg ds => (ds.map fun | .lit (.int k x) => Value.int k x | _ => undef).toArray
  | _ => #[]
/-- So many blocks has the settled world. -/
noncomputable def low : Nat := (World.holding Tryz.prog default ⟨#[], #[], []⟩).heap.size
/-- A world for the witness: the settled one with the two errors' blocks, the variables holding what their initialisers lay. -/
noncomputable def laidWorld (os : Os) : World :=
  let w0 := World.holding Tryz.prog os ⟨#[.cells #[.string ⟨#[105, 110, 118, 97, 108, 105, 100, 32, 115, 121, 110, 116, 97, 120]⟩] 142, .cells #[.string ⟨#[118, 97, 108, 117, 101, 32, 111, 117, 116, 32, 111, 102, 32, 114, 97, 110, 103, 101]⟩] 142], #[], []⟩
  let put (h : Array Obj) (g : Nat) (cs : Array Value) : Array Obj := h.modify g fun
      | .cells _ t frozen => .cells cs t frozen
      | o => o
  { w0 with heap := put (put (put (put (put w0.heap 2 #[.iface 140 (.pointer (some ⟨low, 0, none⟩))]) 3 #[.iface 140 (.pointer (some ⟨low + 1, 0, none⟩))])
      1 (tabCells Rows.laid_internal_strconv_uint64pow10)) 4 (tabCells Rows.laid_math_bits_deBruijn32tab)) 5 (tabCells Rows.laid_math_bits_deBruijn64tab) }
end Go.Proofs.YtmpnkbhlagalkaaGreatDoor
