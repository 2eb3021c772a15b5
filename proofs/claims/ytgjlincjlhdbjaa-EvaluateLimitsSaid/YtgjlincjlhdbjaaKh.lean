/-
  Kh: PsWalk, PsNext, PsAcc, PsBin, PsLev, PsUn. Walks and laws that the statement's proof is made of. No condition of its own.
-/
import Derived.Test.YtgjlincjlhdbjaaKd
import Derived.RegionTactic
import Derived.ChangeAlike
import Derived.BigRegion
namespace Go.Proofs.Ytgjlincjlhdbjaa
open Go.RowKit
end Go.Proofs.Ytgjlincjlhdbjaa
namespace Go.Proofs.Ytgjlincjlhdbjaa
open Go.RowKit
theorem PR.keep {w w':World} {p tb off c n:Nat} {s:PS} (h:PR w p tb off c n s) (hp:w'.heap[p]?=w.heap[p]?) (ht:w'.heap[tb]?=w.heap[tb]?):PR w' p tb off c n s:=by
 obtain ⟨T,hr⟩:=h.row
 exact ⟨h.wf,h.ne,h.len,h.cap,h.sm,⟨T,hp.trans hr⟩,fun k t hk=>(h.tok k t hk).keep ht⟩
theorem PR.low {w w':World} {p tb off c n B:Nat} {s:PS} (h:PR w p tb off c n s) (hb:Below B w w') (h1:p<B) (h2:tb<B):PR w' p tb off c n s:=h.keep (hb.block _ h1) (hb.block _ h2)
theorem z0Y (w:World) (a o:Obj):((w.alloc a).alloc o).heap[w.heap.size+1]?=some o:=by
 have:=heap_alloc_new (w.alloc a) o
 simpa using this
theorem z0Z (w:World) (a o:Obj):((w.alloc a).alloc o).heap[w.heap.size]?=some a:=by
 have h1:=heap_alloc_new w a
 have h2:=((Below.refl _ (w.alloc a)).alloc (Nat.le_refl _) o).block w.heap.size (by simp)
 exact h2.trans h1
theorem PR.slice {w:World} {p tb off c n off' c' n':Nat} {s:PS} (h:PR w p tb off c n s):∃ T,(w.setCell ⟨p,0,none⟩ (.slice (some ⟨tb,off',none⟩) n' c')).heap[p]?=some (.cells #[.slice (some ⟨tb,off',none⟩) n' c',.int .i64 (s.ref:Int),.int .i64 (s.out:Int)] T (0,0)):=by
 obtain ⟨T,hr⟩:=h.row
 exact ⟨T,z0d _ hr⟩
end Go.Proofs.Ytgjlincjlhdbjaa
namespace Go.Proofs.Ytgjlincjlhdbjaa
open Go.RowKit
theorem PA.drew {w:World} {p tb:Nat} {s:PS} (h:PA w p tb s):PA w.drew p tb s:=h.keep rfl rfl
end Go.Proofs.Ytgjlincjlhdbjaa
namespace Go.Proofs.Ytgjlincjlhdbjaa
open Go.RowKit
theorem ExV.succ {F:Nat→Prop} {w:World}:∀ (d:Nat) (x:Ex) (v:Value),ExV F w d x v→ExV F w (d+1) x v
 | 0,_,_,h=>h.elim
 | d+1,.mk k o a l s xs,v,⟨A,c,hv,hc,h⟩=>⟨A,c,hv,hc,fun i x hi=>by
   obtain ⟨g,off,c0,c1,c2,c3,c4,c5,hA,hF,h0,h1,h2,h3,h4,h5,hx⟩:=h i x hi
   exact ⟨g,off,c0,c1,c2,c3,c4,c5,hA,hF,h0,h1,h2,h3,h4,h5,ExV.succ d x _ hx⟩⟩
theorem ExV.mono {F:Nat→Prop} {w:World} {d:Nat} {x:Ex} {v:Value} (h:ExV F w d x v):∀ n,ExV F w (d+n) x v
 | 0=>h
 | n+1=>(h.mono n).succ
def XAt (lo:Nat) (w:World) (b:Nat) (x:Ex):Prop:=lo≤b∧∃ d k o a l s A n c,w.heap[b]?=some (.cells #[.int .i64 k,.int .i64 o,.int .i64 a,.int .i64 l,.string s,.slice A n c] 114 (0,0))∧ExV (fun q=>lo≤q∧q<w.heap.size) w d x (.agg #[.int .i64 k,.int .i64 o,.int .i64 a,.int .i64 l,.string s,.slice A n c])
theorem XAt.lt {lo:Nat} {w:World} {b:Nat} {x:Ex} (h:XAt lo w b x):b<w.heap.size:=by
 obtain ⟨_,d,k,o,a,l,s,A,n,c,hr,_⟩:=h
 exact (Array.getElem?_eq_some_iff.1 hr).1
theorem XAt.keep {lo lo':Nat} {w w':World} {b:Nat} {x:Ex} (h:XAt lo w b x) (hl:lo'≤lo) (hs:w.heap.size≤w'.heap.size) (hk:∀ q,lo≤q→q<w.heap.size→w'.heap[q]?=w.heap[q]?):XAt lo' w' b x:=by
 have hlt:=h.lt
 obtain ⟨h1,d,k,o,a,l,s,A,n,c,hr,hx⟩:=h
 exact ⟨by omega,d,k,o,a,l,s,A,n,c,(hk b h1 hlt).trans hr,hx.keep (fun q hq=>⟨by omega,by omega⟩) (fun q hq=>hk q hq.1 hq.2)⟩
theorem XAt.below {lo:Nat} {w w':World} {b:Nat} {x:Ex} (h:XAt lo w b x) (hb:Below w.heap.size w w'):XAt lo w' b x:=h.keep (Nat.le_refl _) hb.size (fun q _ hq=>hb.block q hq)
theorem XAt.grown {lo p:Nat} {w w':World} {b:Nat} {x:Ex} (h:XAt lo w b x) (hg:w.grownBy w' (some p)) (hp:p<lo):XAt lo w' b x:=h.keep (Nat.le_refl _) hg.size (fun q hq hq2=>hg.block q hq2 (fun e=>by injection e with e; omega))
end Go.Proofs.Ytgjlincjlhdbjaa
namespace Go.Proofs.Ytgjlincjlhdbjaa
open Go.RowKit
def z9E (w:World) (p:Nat):Nat:=match w.cell? ⟨p,0,none⟩ with | some (.slice _ n _)=>n | _=>0
theorem PA.rest {w:World} {p tb:Nat} {s:PS} (h:PA w p tb s):z9E w p=s.rest.length:=by
 obtain ⟨off,c,n,h⟩:=h
 simp [z9E,h.cells.1,h.len]
theorem XAt.lo {lo lo':Nat} {w:World} {b:Nat} {x:Ex} (h:XAt lo w b x) (hl:lo'≤lo):XAt lo' w b x:=h.keep hl (Nat.le_refl _) (fun _ _ _=>rfl)
end Go.Proofs.Ytgjlincjlhdbjaa
namespace Go.Proofs.Ytgjlincjlhdbjaa
open Go.RowKit
end Go.Proofs.Ytgjlincjlhdbjaa
