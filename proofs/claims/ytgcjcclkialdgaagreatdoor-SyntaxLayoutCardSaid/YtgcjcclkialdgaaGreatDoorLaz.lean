/-
  Laz: Laid. Walks and laws that the statement's proof is made of. No condition of its own.
-/
import Derived.Test.YtgcjcclkialdgaaGreatDoorCards
import Derived.Test.YtgcjcclkialdgaaGreatDoorTie
import Derived.Test.YtgcjcclkialdgaaGreatDoorKa
import Derived.Stop.LaidErr
import Derived.LaidLaws
namespace Go.Proofs.YtgcjcclkialdgaaGreatDoor
open Go.RowKit
theorem gES : Tryz.prog.globalNamed "strconv.ErrSyntax" = some 1 := by kernel_rfl
theorem gER : Tryz.prog.globalNamed "strconv.ErrRange" = some 2 := by kernel_rfl
theorem zct:(Tryz.prog.globals[1]?).map (·.type)=some 117:=by kernel_rfl
theorem zcs:(Tryz.prog.globals[2]?).map (·.type)=some 117:=by kernel_rfl
theorem zbF:Tryz.prog.cellsOf 147=1:=by kernel_rfl
theorem zbG:Tryz.prog.cellsOf 9=1:=by kernel_rfl
theorem zer : "*" ++ "errors.errorString" = "*errors.errorString" := by decide
theorem rowE (u : TypeId) (h : Tryz.prog.typeName? 3 u = some "*errors.errorString") : u = 145 :=
  typeName_ptr_named (nm := "errors.errorString") (by rw [zer]; kernel_rfl) (by kernel_rfl) (by decide) u (by rw [zer]; exact h)
theorem errs_laid {W : World} (h : laidMet Tryz.prog [("math/bits.deBruijn32tab", Rows.laid_math_bits_deBruijn32tab), ("math/bits.deBruijn64tab", Rows.laid_math_bits_deBruijn64tab), ("internal/strconv.uint64pow10", Rows.laid_internal_strconv_uint64pow10), ("strconv.ErrRange", Rows.laid_strconv_ErrRange), ("strconv.ErrSyntax", Rows.laid_strconv_ErrSyntax)] W) : Errs W := by
 obtain ⟨a0,s0,hv0,-,-,-⟩:=laid_sentinel h.tail.tail.tail gER zcs Tryz.underlying117 rowE Tryz.underlying145 Tryz.underlying147 rfl rfl Tryz.underlying9 zbF zbG
 obtain ⟨a1,s1,hv1,-,-,-⟩:=laid_sentinel h.tail.tail.tail.tail gES zct Tryz.underlying117 rowE Tryz.underlying145 Tryz.underlying147 rfl rfl Tryz.underlying9 zbF zbG
 exact ⟨⟨_,_,by have h0:=World.var?_cell gES hv1 0; simpa using h0⟩,_,_,by have h0:=World.var?_cell gER hv0 0; simpa using h0⟩
def z5C:DataW Unit→Array Value
 | .agg ds=>(ds.map fun | .lit (.int k x)=>Value.int k x | _=>undef).toArray
 | _=>#[]
noncomputable def low:Nat:=(World.holding Tryz.prog default ⟨#[],#[],[]⟩).heap.size
noncomputable def laidWorld (os:Os):World :=
 let w0:=World.holding Tryz.prog os ⟨#[.cells #[.string ⟨#[105,110,118,97,108,105,100,32,115,121,110,116,97,120]⟩] 147,.cells #[.string ⟨#[118,97,108,117,101,32,111,117,116,32,111,102,32,114,97,110,103,101]⟩] 147],#[],[]⟩
 let put (h:Array Obj) (g:Nat) (cs:Array Value):Array Obj:=h.modify g fun
   | .cells _ t frozen=>.cells cs t frozen
   | o=>o
 { w0 with heap:=put (put (put (put (put w0.heap 1 #[.iface 145 (.pointer (some ⟨low,0,none⟩))]) 2 #[.iface 145 (.pointer (some ⟨low+1,0,none⟩))])
   3 (z5C Rows.laid_internal_strconv_uint64pow10)) 4 (z5C Rows.laid_math_bits_deBruijn32tab)) 5 (z5C Rows.laid_math_bits_deBruijn64tab) }
end Go.Proofs.YtgcjcclkialdgaaGreatDoor
