/-
  Kh: PsWalk, PsNext, PsAcc, PsBin, PsLev, PsUn. Part of the proof. No condition.
-/
import Derived.Test.YtdflbhofmmlpgaaGreatKd
set_option maxRecDepth 100000
set_option maxHeartbeats 8000000
namespace Go.Proofs.YtdflbhofmmlpgaaGreat
open Go.RowKit
theorem z0T (w:World) (a o:Obj):((w.alloc a).alloc o).heap[w.heap.size+1]?=some o:=by
 have:=q_4 (w.alloc a) o;simpa using this
theorem z14 (w:World) (a o:Obj):((w.alloc a).alloc o).heap[w.heap.size]?=some a:=by
 have h1:=q_4 w a;have h2:=((q_i _ (w.alloc a)).alloc (q_2 _) o).block w.heap.size (by simp);exact h2.trans h1
theorem ExV.succ {F:Nat->Prop} {w:World}:∀ (d:Nat) (x:Ex) (v:Value),ExV F w d x v->ExV F w (d+1) x v
 | 0,_,_,h=>h.elim
 | d+1,.mk k o a l s xs,v,⟨A,c,hv,hc,h⟩=>⟨A,c,hv,hc,fun i x hi=>by
   obtain ⟨g,off,c0,c1,c2,c3,c4,c5,hA,hF,h0,h1,h2,h3,h4,h5,hx⟩:=h i x hi;exact ⟨g,off,c0,c1,c2,c3,c4,c5,hA,hF,h0,h1,h2,h3,h4,h5,ExV.succ d x _ hx⟩⟩
theorem ExV.mono {F:Nat->Prop} {w:World} {d:Nat} {x:Ex} {v:Value} (h:ExV F w d x v):∀ n,ExV F w (d+n) x v
 | 0=>h
 | n+1=>(h.mono n).succ
end Go.Proofs.YtdflbhofmmlpgaaGreat
