/-
  Laz: Laid. Walks and laws that the statement's proof is made of. No condition of its own.
-/
import Derived.Test.YtdplfnemedckaaaGreatDoorCards
import Derived.Test.YtdplfnemedckaaaGreatDoorTie
import Derived.Test.YtdplfnemedckaaaGreatDoorKa
import Derived.Stop.LaidErr
import Derived.LaidLaws
namespace Go.Proofs.YtdplfnemedckaaaGreatDoor
open Go.RowKit
theorem gES : Tryz.prog.globalNamed "strconv.ErrSyntax" = some 4 := by kernel_rfl
theorem gER : Tryz.prog.globalNamed "strconv.ErrRange" = some 5 := by kernel_rfl
theorem zf4:(Tryz.prog.globals[4]?).map (·.type)=some 106:=by kernel_rfl
theorem zf3:(Tryz.prog.globals[5]?).map (·.type)=some 106:=by kernel_rfl
theorem zeb:Tryz.prog.cellsOf 194=1:=by kernel_rfl
theorem zec:Tryz.prog.cellsOf 9=1:=by kernel_rfl
theorem zhf : "*" ++ "errors.errorString" = "*errors.errorString" := by decide
theorem rowE (u : TypeId) (h : Tryz.prog.typeName? 3 u = some "*errors.errorString") : u = 192 :=
  typeName_ptr_named (nm := "errors.errorString") (by rw [zhf]; kernel_rfl) (by kernel_rfl) (by decide) u (by rw [zhf]; exact h)
theorem errs_laid {W : World} (h : laidMet Tryz.prog [("math/bits.deBruijn32tab", Rows.laid_math_bits_deBruijn32tab), ("math/bits.deBruijn64tab", Rows.laid_math_bits_deBruijn64tab), ("internal/strconv.uint64pow10", Rows.laid_internal_strconv_uint64pow10), ("strconv.ErrRange", Rows.laid_strconv_ErrRange), ("strconv.ErrSyntax", Rows.laid_strconv_ErrSyntax)] W) : Errs W := by
 obtain ⟨a0,s0,hv0,-,-,-⟩:=laid_sentinel h.tail.tail.tail gER zf3 Tryz.underlying106 rowE Tryz.underlying192 Tryz.underlying194 rfl rfl Tryz.underlying9 zeb zec
 obtain ⟨a1,s1,hv1,-,-,-⟩:=laid_sentinel h.tail.tail.tail.tail gES zf4 Tryz.underlying106 rowE Tryz.underlying192 Tryz.underlying194 rfl rfl Tryz.underlying9 zeb zec
 exact ⟨⟨_,_,by have h0:=World.var?_cell gES hv1 0; simpa using h0⟩,_,_,by have h0:=World.var?_cell gER hv0 0; simpa using h0⟩
def z6x:DataW Unit→Array Value
 | .agg ds=>(ds.map fun | .lit (.int k x)=>Value.int k x | _=>undef).toArray
 | _=>#[]
noncomputable def low:Nat:=(World.holding Tryz.prog default ⟨#[],#[],[]⟩).heap.size
noncomputable def laidWorld (os:Os):World :=
 let w0:=World.holding Tryz.prog os ⟨#[.cells #[.string ⟨#[105,110,118,97,108,105,100,32,115,121,110,116,97,120]⟩] 194,.cells #[.string ⟨#[118,97,108,117,101,32,111,117,116,32,111,102,32,114,97,110,103,101]⟩] 194],#[],[]⟩
 let put (h:Array Obj) (g:Nat) (cs:Array Value):Array Obj:=h.modify g fun
   | .cells _ t frozen=>.cells cs t frozen
   | o=>o
 { w0 with heap:=put (put (put (put (put w0.heap 4 #[.iface 192 (.pointer (some ⟨low,0,none⟩))]) 5 #[.iface 192 (.pointer (some ⟨low+1,0,none⟩))])
   1 (z6x Rows.laid_internal_strconv_uint64pow10)) 2 (z6x Rows.laid_math_bits_deBruijn32tab)) 3 (z6x Rows.laid_math_bits_deBruijn64tab) }
end Go.Proofs.YtdplfnemedckaaaGreatDoor
