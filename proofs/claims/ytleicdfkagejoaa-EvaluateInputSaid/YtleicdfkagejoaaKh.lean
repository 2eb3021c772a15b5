/-
  Kh: PsWalk, PsNext, PsAcc, PsBin, PsLev, PsUn. Walks and laws that the statement's proof is made of. No condition of its own.
-/
import Derived.Test.YtleicdfkagejoaaKd
import Derived.RegionTactic
import Derived.ChangeAlike
import Derived.BigRegion
namespace Go.Proofs.Ytleicdfkagejoaa
open Go.RowKit
end Go.Proofs.Ytleicdfkagejoaa
namespace Go.Proofs.Ytleicdfkagejoaa
open Go.RowKit
theorem z0Y (w:World) (a o:Obj):((w.alloc a).alloc o).heap[w.heap.size+1]?=some o:=by
 have:=heap_alloc_new (w.alloc a) o
 simpa using this
theorem z0Z (w:World) (a o:Obj):((w.alloc a).alloc o).heap[w.heap.size]?=some a:=by
 have h1:=heap_alloc_new w a
 have h2:=((Below.refl _ (w.alloc a)).alloc (Nat.le_refl _) o).block w.heap.size (by simp)
 exact h2.trans h1
end Go.Proofs.Ytleicdfkagejoaa
namespace Go.Proofs.Ytleicdfkagejoaa
open Go.RowKit
end Go.Proofs.Ytleicdfkagejoaa
namespace Go.Proofs.Ytleicdfkagejoaa
open Go.RowKit
theorem ExV.succ {F:Nat→Prop} {w:World}:∀ (d:Nat) (x:Ex) (v:Value),ExV F w d x v→ExV F w (d+1) x v
 | 0,_,_,h=>h.elim
 | d+1,.mk k o a l s xs,v,⟨A,c,hv,hc,h⟩=>⟨A,c,hv,hc,fun i x hi=>by
   obtain ⟨g,off,c0,c1,c2,c3,c4,c5,hA,hF,h0,h1,h2,h3,h4,h5,hx⟩:=h i x hi
   exact ⟨g,off,c0,c1,c2,c3,c4,c5,hA,hF,h0,h1,h2,h3,h4,h5,ExV.succ d x _ hx⟩⟩
theorem ExV.mono {F:Nat→Prop} {w:World} {d:Nat} {x:Ex} {v:Value} (h:ExV F w d x v):∀ n,ExV F w (d+n) x v
 | 0=>h
 | n+1=>(h.mono n).succ
end Go.Proofs.Ytleicdfkagejoaa
namespace Go.Proofs.Ytleicdfkagejoaa
open Go.RowKit
end Go.Proofs.Ytleicdfkagejoaa
namespace Go.Proofs.Ytleicdfkagejoaa
open Go.RowKit
end Go.Proofs.Ytleicdfkagejoaa
