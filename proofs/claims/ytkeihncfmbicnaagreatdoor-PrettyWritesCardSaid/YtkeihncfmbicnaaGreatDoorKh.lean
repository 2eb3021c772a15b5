/-
  Kh: PsWalk, PsNext, PsAcc, PsBin, PsLev, PsUn, PsPrim, PsCall0, PsCall1. Walks and laws that the statement's proof is made of. No condition of its own.
-/
import Derived.Test.YtkeihncfmbicnaaGreatDoorKd
import Derived.RegionTactic
import Derived.ChangeAlike
import Derived.BigRegion
import Derived.Deep.RegionLaw
namespace Go.Proofs.YtkeihncfmbicnaaGreatDoor
open Go.RowKit
end Go.Proofs.YtkeihncfmbicnaaGreatDoor
namespace Go.Proofs.YtkeihncfmbicnaaGreatDoor
open Go.RowKit
theorem PR.keep {w w':World} {p tb off c n:Nat} {s:PS} (h:PR w p tb off c n s) (hp:w'.heap[p]?=w.heap[p]?) (ht:w'.heap[tb]?=w.heap[tb]?):PR w' p tb off c n s:=by
 obtain ⟨T,hr⟩:=h.row
 exact ⟨h.wf,h.ne,h.len,h.cap,h.sm,⟨T,hp.trans hr⟩,fun k t hk=>(h.tok k t hk).keep ht⟩
theorem PR.low {w w':World} {p tb off c n B:Nat} {s:PS} (h:PR w p tb off c n s) (hb:Below B w w') (h1:p<B) (h2:tb<B):PR w' p tb off c n s:=h.keep (hb.block _ h1) (hb.block _ h2)
theorem z2o (w:World) (a o:Obj):((w.alloc a).alloc o).heap[w.heap.size+1]?=some o:=by
 have:=heap_alloc_new (w.alloc a) o
 simpa using this
theorem z1N (w:World) (a o:Obj):((w.alloc a).alloc o).heap[w.heap.size]?=some a:=by
 have h1:=heap_alloc_new w a
 have h2:=((Below.refl _ (w.alloc a)).alloc (Nat.le_refl _) o).block w.heap.size (by simp)
 exact h2.trans h1
theorem PR.slice {w:World} {p tb off c n off' c' n':Nat} {s:PS} (h:PR w p tb off c n s):∃ T,(w.setCell ⟨p,0,none⟩ (.slice (some ⟨tb,off',none⟩) n' c')).heap[p]?=some (.cells #[.slice (some ⟨tb,off',none⟩) n' c',.int .i64 (s.ref:Int),.int .i64 (s.out:Int)] T (0,0)):=by
 obtain ⟨T,hr⟩:=h.row
 exact ⟨T,z0g _ hr⟩
end Go.Proofs.YtkeihncfmbicnaaGreatDoor
namespace Go.Proofs.YtkeihncfmbicnaaGreatDoor
open Go.RowKit
theorem PA.drew {w:World} {p tb:Nat} {s:PS} (h:PA w p tb s):PA w.drew p tb s:=h.keep rfl rfl
end Go.Proofs.YtkeihncfmbicnaaGreatDoor
namespace Go.Proofs.YtkeihncfmbicnaaGreatDoor
open Go.RowKit
theorem ExV.succ {F:Nat→Prop} {w:World}:∀ (d:Nat) (x:Ex) (v:Value),ExV F w d x v→ExV F w (d+1) x v
 | 0,_,_,h=>h.elim
 | d+1,.mk k o a l s xs,v,⟨A,c,hv,hc,h⟩=>⟨A,c,hv,hc,fun i x hi=>by
   obtain ⟨g,off,c0,c1,c2,c3,c4,c5,hA,hF,h0,h1,h2,h3,h4,h5,hx⟩:=h i x hi
   exact ⟨g,off,c0,c1,c2,c3,c4,c5,hA,hF,h0,h1,h2,h3,h4,h5,ExV.succ d x _ hx⟩⟩
theorem ExV.mono {F:Nat→Prop} {w:World} {d:Nat} {x:Ex} {v:Value} (h:ExV F w d x v):∀ n,ExV F w (d+n) x v
 | 0=>h
 | n+1=>(h.mono n).succ
def XAt (lo:Nat) (w:World) (b:Nat) (x:Ex):Prop:=lo≤b∧∃ d k o a l s A n c,w.heap[b]?=some (.cells #[.int .i64 k,.int .i64 o,.int .i64 a,.int .i64 l,.string s,.slice A n c] 37 (0,0))∧ExV (fun q=>lo≤q∧q<w.heap.size) w d x (.agg #[.int .i64 k,.int .i64 o,.int .i64 a,.int .i64 l,.string s,.slice A n c])
theorem XAt.lt {lo:Nat} {w:World} {b:Nat} {x:Ex} (h:XAt lo w b x):b<w.heap.size:=by
 obtain ⟨_,d,k,o,a,l,s,A,n,c,hr,_⟩:=h
 exact (Array.getElem?_eq_some_iff.1 hr).1
theorem XAt.keep {lo lo':Nat} {w w':World} {b:Nat} {x:Ex} (h:XAt lo w b x) (hl:lo'≤lo) (hs:w.heap.size≤w'.heap.size) (hk:∀ q,lo≤q→q<w.heap.size→w'.heap[q]?=w.heap[q]?):XAt lo' w' b x:=by
 have hlt:=h.lt
 obtain ⟨h1,d,k,o,a,l,s,A,n,c,hr,hx⟩:=h
 exact ⟨by omega,d,k,o,a,l,s,A,n,c,(hk b h1 hlt).trans hr,hx.keep (fun q hq=>⟨by omega,by omega⟩) (fun q hq=>hk q hq.1 hq.2)⟩
theorem XAt.below {lo:Nat} {w w':World} {b:Nat} {x:Ex} (h:XAt lo w b x) (hb:Below w.heap.size w w'):XAt lo w' b x:=h.keep (Nat.le_refl _) hb.size (fun q _ hq=>hb.block q hq)
theorem XAt.grown {lo p:Nat} {w w':World} {b:Nat} {x:Ex} (h:XAt lo w b x) (hg:w.grownBy w' (some p)) (hp:p<lo):XAt lo w' b x:=h.keep (Nat.le_refl _) hg.size (fun q hq hq2=>hg.block q hq2 (fun e=>by injection e with e; omega))
end Go.Proofs.YtkeihncfmbicnaaGreatDoor
namespace Go.Proofs.YtkeihncfmbicnaaGreatDoor
open Go.RowKit
def z9I (w:World) (p:Nat):Nat:=match w.cell? ⟨p,0,none⟩ with | some (.slice _ n _)=>n | _=>0
theorem PA.rest {w:World} {p tb:Nat} {s:PS} (h:PA w p tb s):z9I w p=s.rest.length:=by
 obtain ⟨off,c,n,h⟩:=h
 simp [z9I,h.cells.1,h.len]
theorem XAt.lo {lo lo':Nat} {w:World} {b:Nat} {x:Ex} (h:XAt lo w b x) (hl:lo'≤lo):XAt lo' w b x:=h.keep hl (Nat.le_refl _) (fun _ _ _=>rfl)
end Go.Proofs.YtkeihncfmbicnaaGreatDoor
namespace Go.Proofs.YtkeihncfmbicnaaGreatDoor
open Go.RowKit
end Go.Proofs.YtkeihncfmbicnaaGreatDoor
namespace Go.Proofs.YtkeihncfmbicnaaGreatDoor
open Go.RowKit
end Go.Proofs.YtkeihncfmbicnaaGreatDoor
namespace Go.Proofs.YtkeihncfmbicnaaGreatDoor
open Go.RowKit
structure ArgG (lw hi base d:Nat) (wr:World) (v:Value) (xs:List Ex) (L:List Value):Prop where
 own:wr.ownsRow base 37 6 v xs.length L
 at_:∀ j x,xs[j]?=some x→∃ c0 c1 c2 c3 c4 c5,L[j * 6]?=some c0∧L[j * 6+1]?=some c1∧L[j * 6+2]?=some c2∧L[j * 6+3]?=some c3∧L[j * 6+4]?=some c4∧L[j * 6+5]?=some c5∧ExV (fun b=>(lw≤b∧b<hi∨base≤b)∧b<wr.heap.size∧v.ownBlock≠some b) wr d x (.agg #[c0,c1,c2,c3,c4,c5])
theorem ArgG.nil (lw hi base d:Nat) (w:World):ArgG lw hi base d w (.slice none 0 0) [] []:=⟨World.ownsRow_nil _ _ _ _,fun j x h=>by simp at h⟩
theorem ArgG.grown {lw hi base d g:Nat} {w w':World} {v:Value} {xs:List Ex} {L:List Value} (h:ArgG lw hi base d w v xs L) (hg:w.grownBy w' (some g)) (hb:g<base) (hgl:g<lw∨hi≤g):ArgG lw hi base d w' v xs L:=by
 refine ⟨?_,fun j x hj=>?_⟩
 ·rcases h.own.2 with hn | ⟨g',cap,cur,e,hb',hh,rest⟩
  ·exact ⟨h.own.1,.inl hn⟩
  ·exact ⟨h.own.1,.inr ⟨g',cap,cur,e,hb',(hg.block g' (Array.getElem?_eq_some_iff.1 hh).1 (fun e=>by injection e with e; omega)).trans hh,rest⟩⟩
 ·obtain ⟨c0,c1,c2,c3,c4,c5,e0,e1,e2,e3,e4,e5,hx⟩:=h.at_ j x hj
  exact ⟨c0,c1,c2,c3,c4,c5,e0,e1,e2,e3,e4,e5,z0C hx (fun k hk=>⟨⟨hk.1,Nat.lt_of_lt_of_le hk.2.1 hg.size,hk.2.2⟩,hk.2.1,by have:=hk.1; omega⟩) hg⟩
theorem ArgG.push {lw hi base d g:Nat} {w wa w':World} {v:Value} {xs:List Ex} {L:List Value} {x:Ex} {cap:Nat} {c0 c1 c2 c3 c4 c5:Value} {F:Nat→Prop} (h:ArgG lw hi base d w v xs L) (hx:ExV F w d x (.agg #[c0,c1,c2,c3,c4,c5])) (hF:∀ b,F b→(lw≤b∧b<hi∨base≤b)∧b<w.heap.size∧v.ownBlock≠some b)
  (hown:w'.ownsRow base 37 6 (.slice (some ⟨g,0,none⟩) (xs.length+1) cap) (xs.length+1) (L++[c0,c1,c2,c3,c4,c5])) (ha:Below w.heap.size w wa) (hg:wa.grownBy w' v.ownBlock) (hat:v.ownBlock=some g∨g=wa.heap.size) :
  ArgG lw hi base d w' (.slice (some ⟨g,0,none⟩) (xs.length+1) cap) (xs++[x]) (L++[c0,c1,c2,c3,c4,c5]):=by
 have hL:L.length=xs.length * 6:=h.own.1
 have step:∀ {F:Nat→Prop} {y:Ex} {u:Value},ExV F w d y u→(∀ b,F b→(lw≤b∧b<hi∨base≤b)∧b<w.heap.size∧v.ownBlock≠some b)→ExV (fun b=>(lw≤b∧b<hi∨base≤b)∧b<w'.heap.size∧(Value.slice (some ⟨g,0,none⟩) (xs.length+1) cap).ownBlock≠some b) w' d y u:=fun hy hF=>hy.keep (fun b hb=>by
   obtain ⟨h1,h2,h3⟩:=hF b hb
   refine ⟨h1,Nat.lt_of_lt_of_le h2 (Nat.le_trans ha.size hg.size),?_⟩
   intro e
   have e2:g=b:=by simpa [Value.ownBlock] using e
   subst e2
   rcases hat with hh | hh
   ·exact h3 hh
   ·have:=ha.size
    omega) (fun b hb=>by
   obtain ⟨h1,h2,h3⟩:=hF b hb
   exact (hg.block b (Nat.lt_of_lt_of_le h2 ha.size) (fun e=>h3 e.symm)).trans (ha.block b h2))
 refine ⟨by simpa using hown,fun j y hj=>?_⟩
 rcases Nat.lt_or_ge j xs.length with hlt | hge
 ·rw [List.getElem?_append_left hlt] at hj
  obtain ⟨d0,d1,d2,d3,d4,d5,e0,e1,e2,e3,e4,e5,hy⟩:=h.at_ j y hj
  have hl:∀ k u,L[k]?=some u→(L++[c0,c1,c2,c3,c4,c5])[k]?=some u:=fun k u hk=>by
   have hk2:k<L.length:=by
    rcases Nat.lt_or_ge k L.length with h' | h'
    ·exact h'
    ·rw [List.getElem?_eq_none h'] at hk; cases hk
   rw [List.getElem?_append_left hk2]; exact hk
  exact ⟨d0,d1,d2,d3,d4,d5,hl _ _ e0,hl _ _ e1,hl _ _ e2,hl _ _ e3,hl _ _ e4,hl _ _ e5,step hy (fun b hb=>hb)⟩
 ·have hjx:j=xs.length:=by
   rcases Nat.lt_or_ge xs.length j with h' | h'
   ·rw [List.getElem?_eq_none (by simp; omega)] at hj; cases hj
   ·omega
  subst hjx
  simp at hj
  subst hj
  have hr:∀ k,(L++[c0,c1,c2,c3,c4,c5])[xs.length * 6+k]?=[c0,c1,c2,c3,c4,c5][k]?:=fun k=>by
   rw [List.getElem?_append_right (by omega)]
   congr 1
   omega
  exact ⟨c0,c1,c2,c3,c4,c5,hr 0,hr 1,hr 2,hr 3,hr 4,hr 5,step hx hF⟩
theorem ArgG.row {lw hi base d:Nat} {w:World} {A:Option Addr} {n c:Nat} {xs:List Ex} {L:List Value} (h:ArgG lw hi base d w (.slice A n c) xs L):n=xs.length∧RowE (fun b=>(lw≤b∧b<hi∨base≤b)∧b<w.heap.size) w d xs A c:=by
 rcases h.own.2 with ⟨e,h0⟩ | ⟨g,cap,cur,e,hb,hh,hc,_⟩
 ·injection e with e1 e2 e3
  subst e1 e2 e3
  exact ⟨h0.symm,by rw [h0]; exact Nat.le_refl _,fun i x hi=>by rw [List.eq_nil_of_length_eq_zero h0] at hi; simp at hi⟩
 ·injection e with e1 e2 e3
  subst e1 e2 e3
  refine ⟨rfl,hc,fun i x hi=>?_⟩
  obtain ⟨c0,c1,c2,c3,c4,c5,e0,e1,e2,e3,e4,e5,hx⟩:=h.at_ i x hi
  have hi2:i<xs.length:=by
   rcases Nat.lt_or_ge i xs.length with h' | h'
   ·exact h'
   ·rw [List.getElem?_eq_none h'] at hi; cases hi
  have hcell:∀ k u,L[k]?=some u→w.cell? ⟨g,0+k,none⟩=some u:=fun k u hk=>by
   rw [Nat.zero_add]
   have hk2:k<L.length:=by
    rcases Nat.lt_or_ge k L.length with h' | h'
    ·exact h'
    ·rw [List.getElem?_eq_none h'] at hk; cases hk
   exact (h.own.cellAt k (by have:=h.own.1; omega)).trans hk
  exact ⟨g,0,c0,c1,c2,c3,c4,c5,rfl,⟨.inr hb,(Array.getElem?_eq_some_iff.1 hh).1⟩,hcell _ _ e0,hcell _ _ e1,hcell _ _ e2,hcell _ _ e3,hcell _ _ e4,hcell _ _ e5,hx.keep (fun b hb=>⟨hb.1,hb.2.1⟩) (fun _ _=>rfl)⟩
theorem ArgG.mono {lw hi base d:Nat} {w:World} {v:Value} {xs:List Ex} {L:List Value} (h:ArgG lw hi base d w v xs L) (n:Nat):ArgG lw hi base (d+n) w v xs L :=
 ⟨h.own,fun j x hj=>by
  obtain ⟨c0,c1,c2,c3,c4,c5,e0,e1,e2,e3,e4,e5,hx⟩:=h.at_ j x hj
  exact ⟨c0,c1,c2,c3,c4,c5,e0,e1,e2,e3,e4,e5,hx.mono n⟩⟩
theorem ArgG.last {lw hi base d g cap n:Nat} {w:World} {xs:List Ex} {L:List Value} {x y:Ex} {z0 z1 z2 z3 z4 z5 c0 c1 c2 c3 c4 c5:Value} {F:Nat→Prop} (hn:xs.length=n) (hL:L.length=n * 6) (h:ArgG lw hi base d w (.slice (some ⟨g,0,none⟩) (n+1) cap) (xs++[x]) (L++[z0,z1,z2,z3,z4,z5]))
  (hy:ExV F w d y (.agg #[c0,c1,c2,c3,c4,c5])) (hF:∀ b,F b→(lw≤b∧b<hi∨base≤b)∧b<w.heap.size∧b≠g) :
  ArgG lw hi base d ((((((w.setCell ⟨g,n * 6,none⟩ c0).setCell ⟨g,n * 6+1,none⟩ c1).setCell ⟨g,n * 6+2,none⟩ c2).setCell ⟨g,n * 6+3,none⟩ c3).setCell ⟨g,n * 6+4,none⟩ c4).setCell ⟨g,n * 6+5,none⟩ c5) (.slice (some ⟨g,0,none⟩) (n+1) cap) (xs++[y]) (L++[c0,c1,c2,c3,c4,c5]) ∧
  w.grownBy ((((((w.setCell ⟨g,n * 6,none⟩ c0).setCell ⟨g,n * 6+1,none⟩ c1).setCell ⟨g,n * 6+2,none⟩ c2).setCell ⟨g,n * 6+3,none⟩ c3).setCell ⟨g,n * 6+4,none⟩ c4).setCell ⟨g,n * 6+5,none⟩ c5) (some g):=by
 have ho:w.ownsRow base 37 6 (.slice (some ⟨g,0,none⟩) (n+1) cap) (n+1) (L++[z0,z1,z2,z3,z4,z5]):=by
  have:=h.own
  rwa [List.length_append,List.length_singleton,hn] at this
 have o0:=ho.stored (n * 6) c0
 have o1:=o0.1.stored (n * 6+1) c1
 have o2:=o1.1.stored (n * 6+2) c2
 have o3:=o2.1.stored (n * 6+3) c3
 have o4:=o3.1.stored (n * 6+4) c4
 have o5:=o4.1.stored (n * 6+5) c5
 have hg:=((((o0.2.trans o1.2).trans o2.2).trans o3.2).trans o4.2).trans o5.2
 have hset:((((((L++[z0,z1,z2,z3,z4,z5]).set (n * 6) c0).set (n * 6+1) c1).set (n * 6+2) c2).set (n * 6+3) c3).set (n * 6+4) c4).set (n * 6+5) c5=L++[c0,c1,c2,c3,c4,c5]:=by
  simp [hL]
 have hown:=o5.1
 rw [hset] at hown
 refine ⟨⟨by rw [List.length_append,List.length_singleton,hn]; exact hown,fun j u hj=>?_⟩,hg⟩
 have keepX:∀ {G:Nat→Prop} {u:Ex} {v:Value},ExV G w d u v→(∀ b,G b→(lw≤b∧b<hi∨base≤b)∧b<w.heap.size∧b≠g)→ExV (fun b=>(lw≤b∧b<hi∨base≤b)∧b<((((((w.setCell ⟨g,n * 6,none⟩ c0).setCell ⟨g,n * 6+1,none⟩ c1).setCell ⟨g,n * 6+2,none⟩ c2).setCell ⟨g,n * 6+3,none⟩ c3).setCell ⟨g,n * 6+4,none⟩ c4).setCell ⟨g,n * 6+5,none⟩ c5).heap.size∧(Value.slice (some ⟨g,0,none⟩) (n+1) cap).ownBlock≠some b) _ d u v:=fun hu hG=>hu.keep (fun b hb=>⟨(hG b hb).1,Nat.lt_of_lt_of_le (hG b hb).2.1 hg.size,fun e=>(hG b hb).2.2 (by simpa [Value.ownBlock] using e.symm)⟩) (fun b hb=>hg.block b (hG b hb).2.1 (fun e=>(hG b hb).2.2 (by injection e)))
 rcases Nat.lt_or_ge j n with hlt | hge
 ·have hj2:(xs++[x])[j]?=some u:=by
   rw [List.getElem?_append_left (by omega)] at hj ⊢
   exact hj
  obtain ⟨d0,d1,d2,d3,d4,d5,e0,e1,e2,e3,e4,e5,hu⟩:=h.at_ j u hj2
  have hl:∀ q v,q<n * 6→(L++[z0,z1,z2,z3,z4,z5])[q]?=some v→(L++[c0,c1,c2,c3,c4,c5])[q]?=some v:=fun q v hq hv=>by
   rw [List.getElem?_append_left (by omega)] at hv ⊢
   exact hv
  exact ⟨d0,d1,d2,d3,d4,d5,hl _ _ (by omega) e0,hl _ _ (by omega) e1,hl _ _ (by omega) e2,hl _ _ (by omega) e3,hl _ _ (by omega) e4,hl _ _ (by omega) e5,keepX hu (fun b hb=>⟨hb.1,hb.2.1,fun e=>hb.2.2 (by simp [Value.ownBlock,e])⟩)⟩
 ·have hjn:j=n:=by
   have:=(List.getElem?_eq_some_iff.1 hj).1
   simp at this
   omega
  subst hjn
  rw [List.getElem?_append_right (by omega)] at hj
  simp [hn] at hj
  subst hj
  have hr:∀ q,(L++[c0,c1,c2,c3,c4,c5])[j * 6+q]?=[c0,c1,c2,c3,c4,c5][q]?:=fun q=>by
   rw [List.getElem?_append_right (by omega)]
   congr 1
   omega
  exact ⟨c0,c1,c2,c3,c4,c5,hr 0,hr 1,hr 2,hr 3,hr 4,hr 5,keepX hy hF⟩
end Go.Proofs.YtkeihncfmbicnaaGreatDoor
namespace Go.Proofs.YtkeihncfmbicnaaGreatDoor
open Go.RowKit
structure CS (w0:World) (lw p tb xv pbx xb base:Nat) (k l:Int) (nm:ByteArray) (s:PS) (xs:List Ex) (W:World):Prop where
 pa:PA W p tb s
 cv:W.cell? ⟨xv,0,none⟩=some (.pointer (some ⟨xb,0,none⟩))
 cp:W.cell? ⟨pbx,0,none⟩=some (.pointer (some ⟨p,0,none⟩))
 row:∃ A n c d L,W.heap[xb]?=some (.cells #[.int .i64 k,.int .i64 0,.int .i64 0,.int .i64 l,.string nm,.slice A n c] 37 (0,0))∧ArgG lw w0.heap.size base d W (.slice A n c) xs L
 gr:w0.grownBy W (some p)
 lo:p<lw∧lw≤w0.heap.size∧tb<w0.heap.size∧w0.heap.size≤xv∧w0.heap.size≤pbx∧w0.heap.size≤xb∧xv<base∧pbx<base∧xb<base∧base≤W.heap.size∧xv≠xb∧pbx≠xb
 few:xs.length+s.rest.length≤1000002
theorem CS.step {w0 W W2:World} {lw p tb xv pbx xb base:Nat} {k l:Int} {nm:ByteArray} {s s2:PS} {xs:List Ex} (h:CS w0 lw p tb xv pbx xb base k l nm s xs W) (hg:W.grownBy W2 (some p)) (hp:PA W2 p tb s2) (hl:s2.rest.length≤s.rest.length):CS w0 lw p tb xv pbx xb base k l nm s2 xs W2:=by
 obtain ⟨h1,hlw,h2,h3,h4,h5,h6,h7,h8,h9,h10,h11⟩:=h.lo
 obtain ⟨A,n,c,d,L,hr,ha⟩:=h.row
 exact ⟨hp,z08 hg (by omega) h.cv,z08 hg (by omega) h.cp,⟨A,n,c,d,L,z06 hg (by omega) hr,ha.grown hg (by omega) (by omega)⟩,h.gr.trans hg,⟨h1,hlw,h2,h3,h4,h5,h6,h7,h8,Nat.le_trans h9 hg.size,h10,h11⟩,by have:=h.few; omega⟩
theorem CS.below {w0 W W2:World} {lw p tb xv pbx xb base:Nat} {k l:Int} {nm:ByteArray} {s:PS} {xs:List Ex} (h:CS w0 lw p tb xv pbx xb base k l nm s xs W) (hb:Below W.heap.size W W2):CS w0 lw p tb xv pbx xb base k l nm s xs W2 :=
 h.step (z03 hb _) (h.pa.below hb) (Nat.le_refl _)
theorem CS.push {w0 W w6:World} {lw p tb xv pbx xb base g cap n c d:Nat} {k l:Int} {nm:ByteArray} {s:PS} {xs:List Ex} {y:Ex} {A:Option Addr} {L L2:List Value} (h:CS w0 lw p tb xv pbx xb base k l nm s xs W) (hx:xs.length+1+s.rest.length≤1000002)
  (hr:W.heap[xb]?=some (.cells #[.int .i64 k,.int .i64 0,.int .i64 0,.int .i64 l,.string nm,.slice A n c] 37 (0,0))) (hown:ArgG lw w0.heap.size base d W (.slice A n c) xs L) (hg:W.grownBy w6 (Value.slice A n c).ownBlock) (ha:ArgG lw w0.heap.size base d w6 (.slice (some ⟨g,0,none⟩) (xs.length+1) cap) (xs++[y]) L2) :
  CS w0 lw p tb xv pbx xb base k l nm s (xs++[y]) (w6.setCell ⟨xb,5,none⟩ (.slice (some ⟨g,0,none⟩) (xs.length+1) cap)):=by
 obtain ⟨h1,hlw,h2,h3,h4,h5,h6,h7,h8,h9,h10,h11⟩:=h.lo
 have hge:∀ b,(Value.slice A n c).ownBlock=some b→base≤b:=fun b e=>(hown.own.lt b e).1
 have hne:∀ b,b<base→some b≠(Value.slice A n c).ownBlock:=fun b hb e=>by have:=hge b e.symm; omega
 have hsz:=h.gr.size
 have hgs:w6.grownBy (w6.setCell ⟨xb,5,none⟩ (.slice (some ⟨g,0,none⟩) (xs.length+1) cap)) (some xb):=z07 w6 ⟨xb,5,none⟩ (.slice (some ⟨g,0,none⟩) (xs.length+1) cap)
 have hk:∀ b o v,b<base→b≠xb→W.cell? ⟨b,o,none⟩=some v→(w6.setCell ⟨xb,5,none⟩ (.slice (some ⟨g,0,none⟩) (xs.length+1) cap)).cell? ⟨b,o,none⟩=some v:=fun b o v hb hbx hc =>
  z08 hgs hbx ((World.cell?_of_block (hg.block b (World.block_lt_of_cell? W _ hc) (hne b hb))).trans hc)
 have hr6:=(hg.block xb (Array.getElem?_eq_some_iff.1 hr).1 (hne xb h8)).trans hr
 refine ⟨(h.pa.keep (hg.block p h.pa.lt.1 (hne p (by omega))) (hg.block tb h.pa.lt.2.1 (hne tb (by omega)))).other hgs (by omega) (by omega),hk xv 0 _ h6 h10 h.cv,hk pbx 0 _ h7 h11 h.cp,⟨_,_,_,d,L2,z0g (i:=5) _ hr6,ha.grown hgs h8 (.inr h5)⟩,?_,⟨h1,hlw,h2,h3,h4,h5,h6,h7,h8,Nat.le_trans h9 (Nat.le_trans hg.size hgs.size),h10,h11⟩,by rw [List.length_append]; simpa using hx⟩
 have hb6:Below w0.heap.size W w6:=z09 hg (fun b e=>by have:=hge b e; omega) hsz
 exact z0T (z2K h.gr hb6 (Nat.le_refl _)) hgs h5
theorem CS.after {w0 W w2:World} {lw p tb xv pbx xb base n c d b5:Nat} {k l:Int} {nm:ByteArray} {s s':PS} {xs:List Ex} {y:Ex} {A:Option Addr} {L:List Value} (h:CS w0 lw p tb xv pbx xb base k l nm s xs W)
  (hr:W.heap[xb]?=some (.cells #[.int .i64 k,.int .i64 0,.int .i64 0,.int .i64 l,.string nm,.slice A n c] 37 (0,0))) (ha:ArgG lw w0.heap.size base d W (.slice A n c) xs L) (hx:XAt W.heap.size w2 b5 y) (hp:PA w2 p tb s') (hg:W.grownBy w2 (some p)) (hl:s'.rest.length≤s.rest.length) :
  ∃ dy ky oy ay ly sy Ay ny cy,w2.heap[b5]?=some (.cells #[.int .i64 ky,.int .i64 oy,.int .i64 ay,.int .i64 ly,.string sy,.slice Ay ny cy] 37 (0,0))∧CS w0 lw p tb xv pbx xb base k l nm s' xs w2∧w2.heap[xb]?=some (.cells #[.int .i64 k,.int .i64 0,.int .i64 0,.int .i64 l,.string nm,.slice A n c] 37 (0,0))∧ArgG lw w0.heap.size base (d+dy) w2 (.slice A n c) xs L ∧
   ExV (fun b=>W.heap.size≤b∧b<w2.heap.size) w2 (d+dy) y (.agg #[.int .i64 ky,.int .i64 oy,.int .i64 ay,.int .i64 ly,.string sy,.slice Ay ny cy])∧(∀ b,(W.heap.size≤b∧b<w2.heap.size)→(lw≤b∧b<w0.heap.size∨base≤b)∧b<w2.heap.size∧(Value.slice A n c).ownBlock≠some b)∧base≤w2.heap.size:=by
 obtain ⟨h1,hlw,h2,h3,h4,h5,h6,h7,h8,h9,h10,h11⟩:=h.lo
 obtain ⟨_,dy,ky,oy,ay,ly,sy,Ay,ny,cy,rx,vx⟩:=hx
 refine ⟨dy,ky,oy,ay,ly,sy,Ay,ny,cy,rx,h.step hg hp hl,z06 hg (by omega) hr,(ha.grown hg (by omega) (by omega)).mono dy,by rw [Nat.add_comm]; exact vx.mono d,fun b hb=>⟨.inr (by omega),hb.2,fun e=>by have:=(ha.own.lt b e).2; omega⟩,Nat.le_trans h9 hg.size⟩
theorem CS.far {w0 W w6:World} {lw p tb xv pbx xb base d:Nat} {k l:Int} {nm:ByteArray} {s:PS} {xs:List Ex} {v:Value} {L:List Value} (h:CS w0 lw p tb xv pbx xb base k l nm s xs W) (ha:ArgG lw w0.heap.size base d W v xs L) (hg:W.grownBy w6 v.ownBlock):w6.cell? ⟨xv,0,none⟩=some (.pointer (some ⟨xb,0,none⟩)):=by
 have hl:=h.lo.2.2.2.2.2.2.1
 exact (World.cell?_of_block (hg.block xv (World.block_lt_of_cell? W _ h.cv) (fun e=>by have:=(ha.own.lt xv e.symm).1; omega))).trans h.cv
end Go.Proofs.YtkeihncfmbicnaaGreatDoor
