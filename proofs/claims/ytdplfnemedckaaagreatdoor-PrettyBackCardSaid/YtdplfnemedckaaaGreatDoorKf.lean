/-
  Kf: RpSrcM, RpStA, RpStm. Walks and laws that the statement's proof is made of. No condition of its own.
-/
import Derived.Test.YtdplfnemedckaaaGreatDoorKe
import Derived.Test.YtdplfnemedckaaaGreatDoorKb
import Derived.Deep.RegionLawGrows
namespace Go.Proofs.YtdplfnemedckaaaGreatDoor
open Go.RowKit
abbrev Gls:=List (ByteArray × Int)
end Go.Proofs.YtdplfnemedckaaaGreatDoor
namespace Go.Proofs.YtdplfnemedckaaaGreatDoor
open Go.RowKit
def FF (lo sb:Nat) (w:World):Nat→Prop:=fun q=>lo≤q∧q<w.heap.size∧q≠sb
def z3A:Obj:=.cells #[.int .i64 0,.int .i64 0,.string { data:=#[] },.slice none 0 0,.slice none 0 0,.slice none 0 0] 84
structure StU (p tb sb:Nat) (s:RS) (x:St) (w wr:World):Prop where
 ra:RA wr p tb s
 gr:w.grownBy wr (some p)
 z:wr.heap[w.heap.size]?=some z3A
 lt:w.heap.size<sb
 at_:∃ D d k l t eA en ec tA tn tc uA un uc,wr.heap[sb]?=some (.cells #[.int .i64 k,.int .i64 l,.string t,.slice eA en ec,.slice tA tn tc,.slice uA un uc] 84 (0,0)) ∧
  StV (FF (w.heap.size+1) sb wr) wr D d x (.agg #[.int .i64 k,.int .i64 l,.string t,.slice eA en ec,.slice tA tn tc,.slice uA un uc])
section
variable {p tb sb:Nat} {s s':RS} {x:St} {w wr w':World}
theorem StU.row (h:StU p tb sb s x w wr):∃ v0 v1 v2 v3 v4 v5,wr.heap[sb]?=some (.cells #[v0,v1,v2,v3,v4,v5] 84 (0,0)):=by
 obtain ⟨D,d,k,l,t,eA,en,ec,tA,tn,tc,uA,un,uc,hr,_⟩:=h.at_
 exact ⟨_,_,_,_,_,_,hr⟩
theorem StU.slt (h:StU p tb sb s x w wr):sb<wr.heap.size:=by
 obtain ⟨_,_,_,_,_,_,hr⟩:=h.row
 exact (Array.getElem?_eq_some_iff.1 hr).1
theorem StU.step (h:StU p tb sb s x w wr) (hp:p<w.heap.size) (hg:wr.grownBy w' (some p)) (ha:RA w' p tb s'):StU p tb sb s' x w w':=by
 obtain ⟨D,d,k,l,t,eA,en,ec,tA,tn,tc,uA,un,uc,hr,hv⟩:=h.at_
 have hlt:=h.lt
 exact ⟨ha,h.gr.trans hg,z04 hg (by omega) h.z,h.lt,D,d,k,l,t,eA,en,ec,tA,tn,tc,uA,un,uc,z04 hg (by omega) hr,hv.keep (fun q hq=>⟨hq.1,Nat.lt_of_lt_of_le hq.2.1 hg.size,hq.2.2⟩) (fun q hq=>hg.block q hq.2.1 (fun e=>by injection e with e; have:=hq.1; omega))⟩
theorem StU.alloc (h:StU p tb sb s x w wr) (hp:p<w.heap.size) (o:Obj):StU p tb sb s x w (wr.alloc o) :=
 h.step hp (z01 ((Below.refl _ wr).alloc (Nat.le_refl _) o) _) (h.ra.alloc o)
theorem StU.set_ (h:StU p tb sb s x w wr) (hp:p<w.heap.size) (ht:tb<w.heap.size) (i:Nat) (v:Value):RA (wr.setCell ⟨sb,i,none⟩ v) p tb s∧w.grownBy (wr.setCell ⟨sb,i,none⟩ v) (some p)∧(wr.setCell ⟨sb,i,none⟩ v).heap[w.heap.size]?=some z3A:=by
 have hg:wr.grownBy (wr.setCell ⟨sb,i,none⟩ v) (some sb):=z06 wr ⟨sb,i,none⟩ v
 have hlt:=h.lt
 exact ⟨h.ra.other hg (by omega) (by omega),z0g h.gr hg (by omega),z04 hg (by omega) h.z⟩
theorem z5n (lo sb i:Nat) (wr:World) (v:Value):(∀ q,FF lo sb wr q→FF lo sb (wr.setCell ⟨sb,i,none⟩ v) q)∧(∀ q,FF lo sb wr q→(wr.setCell ⟨sb,i,none⟩ v).heap[q]?=wr.heap[q]?):=by
 have hg:wr.grownBy (wr.setCell ⟨sb,i,none⟩ v) (some sb):=z06 wr ⟨sb,i,none⟩ v
 exact ⟨fun q hq=>⟨hq.1,Nat.lt_of_lt_of_le hq.2.1 hg.size,hq.2.2⟩,fun q hq=>hg.block q hq.2.1 (fun e=>by injection e with e; exact hq.2.2 e)⟩
variable {k l:Int} {t:ByteArray} {es:List Ex} {ts us:List St}
theorem StU.kind (h:StU p tb sb s (.mk k l t es ts us) w wr) (hp:p<w.heap.size) (ht:tb<w.heap.size) (k':Int):StU p tb sb s (.mk k' l t es ts us) w (wr.setCell ⟨sb,0,none⟩ (.int .i64 k')):=by
 obtain ⟨h1,h2,h3⟩:=h.set_ hp ht 0 (.int .i64 k')
 obtain ⟨f1,f2⟩:=z5n (w.heap.size+1) sb 0 wr (.int .i64 k')
 obtain ⟨D,d,k0,l0,t0,eA,en,ec,tA,tn,tc,uA,un,uc,hr,hv⟩:=h.at_
 refine ⟨h1,h2,h3,h.lt,D,d,k',l0,t0,eA,en,ec,tA,tn,tc,uA,un,uc,z0f (i:=0) (.int .i64 k') hr,?_⟩
 cases d with
 | zero=>exact hv.elim
 | succ d =>
  obtain ⟨eA',ec',tA',tc',uA',uc',hv,he,h4,h5⟩:=hv
  injection hv with hv
  injection hv with hv
  injection hv with _ hv
  injection hv with q1 hv
  injection hv with q2 hv
  injection hv with q3 hv
  injection hv with q4 hv
  injection hv with q5 _
  exact ⟨eA',ec',tA',tc',uA',uc',by rw [q1,q2,q3,q4,q5],he.keep f1 f2,RowS.keep f1 f2 h4,RowS.keep f1 f2 h5⟩
theorem StU.name (h:StU p tb sb s (.mk k l t es ts us) w wr) (hp:p<w.heap.size) (ht:tb<w.heap.size) (t':ByteArray):StU p tb sb s (.mk k l t' es ts us) w (wr.setCell ⟨sb,2,none⟩ (.string t')):=by
 obtain ⟨h1,h2,h3⟩:=h.set_ hp ht 2 (.string t')
 obtain ⟨f1,f2⟩:=z5n (w.heap.size+1) sb 2 wr (.string t')
 obtain ⟨D,d,k0,l0,t0,eA,en,ec,tA,tn,tc,uA,un,uc,hr,hv⟩:=h.at_
 refine ⟨h1,h2,h3,h.lt,D,d,k0,l0,t',eA,en,ec,tA,tn,tc,uA,un,uc,z0f (i:=2) (.string t') hr,?_⟩
 cases d with
 | zero=>exact hv.elim
 | succ d =>
  obtain ⟨eA',ec',tA',tc',uA',uc',hv,he,h4,h5⟩:=hv
  injection hv with hv
  injection hv with hv
  injection hv with q0 hv
  injection hv with q1 hv
  injection hv with _ hv
  injection hv with q3 hv
  injection hv with q4 hv
  injection hv with q5 _
  exact ⟨eA',ec',tA',tc',uA',uc',by rw [q0,q1,q3,q4,q5],he.keep f1 f2,RowS.keep f1 f2 h4,RowS.keep f1 f2 h5⟩
theorem StU.exprs (h:StU p tb sb s (.mk k l t es ts us) w wr) (hp:p<w.heap.size) (ht:tb<w.heap.size) {D':Nat} {xs:List Ex} {A:Option Addr} {m c:Nat} (hx:RowE (FF (w.heap.size+1) sb wr) wr D' xs A c) (hm:m=xs.length):StU p tb sb s (.mk k l t xs ts us) w (wr.setCell ⟨sb,3,none⟩ (.slice A m c)):=by
 subst hm
 obtain ⟨h1,h2,h3⟩:=h.set_ hp ht 3 (.slice A xs.length c)
 obtain ⟨f1,f2⟩:=z5n (w.heap.size+1) sb 3 wr (.slice A xs.length c)
 obtain ⟨D,d,k0,l0,t0,eA,en,ec,tA,tn,tc,uA,un,uc,hr,hv⟩:=h.at_
 refine ⟨h1,h2,h3,h.lt,D+D',d+1,k0,l0,t0,A,xs.length,c,tA,tn,tc,uA,un,uc,z0f (i:=3) (.slice A xs.length c) hr,?_⟩
 cases d with
 | zero=>exact hv.elim
 | succ d =>
  obtain ⟨eA',ec',tA',tc',uA',uc',hv,he,h4,h5⟩:=hv
  injection hv with hv
  injection hv with hv
  injection hv with q0 hv
  injection hv with q1 hv
  injection hv with q2 hv
  injection hv with _ hv
  injection hv with q4 hv
  injection hv with q5 _
  have hx2:=hx.up D
  rw [Nat.add_comm D' D] at hx2
  exact ⟨A,c,tA',tc',uA',uc',by rw [q0,q1,q2,q4,q5],hx2.keep f1 f2,RowS.keep f1 f2 (RowS.more h4 D' 0),RowS.keep f1 f2 (RowS.more h5 D' 0)⟩
theorem RowS.join {F:Nat→Prop} {w:World} {D d:Nat} {ts:List St} {A:Option Addr} {c:Nat} (h:RowS F w D d ts A c) (D' d':Nat):RowS F w (D'+D) (d'+d+1) ts A c:=by
 have:=h.more D' d'
 have e:d+(d'+1)=d'+d+1:=by omega
 rw [Nat.add_comm D D',e] at this
 exact this
theorem StU.thens (h:StU p tb sb s (.mk k l t es ts us) w wr) (hp:p<w.heap.size) (ht:tb<w.heap.size) {D' d':Nat} {xs:List St} {A:Option Addr} {m c:Nat} (hx:RowS (FF (w.heap.size+1) sb wr) wr D' d' xs A c) (hm:m=xs.length):StU p tb sb s (.mk k l t es xs us) w (wr.setCell ⟨sb,4,none⟩ (.slice A m c)):=by
 subst hm
 obtain ⟨h1,h2,h3⟩:=h.set_ hp ht 4 (.slice A xs.length c)
 obtain ⟨f1,f2⟩:=z5n (w.heap.size+1) sb 4 wr (.slice A xs.length c)
 obtain ⟨D,d,k0,l0,t0,eA,en,ec,tA,tn,tc,uA,un,uc,hr,hv⟩:=h.at_
 refine ⟨h1,h2,h3,h.lt,D+D',d+d'+1,k0,l0,t0,eA,en,ec,A,xs.length,c,uA,un,uc,z0f (i:=4) (.slice A xs.length c) hr,?_⟩
 cases d with
 | zero=>exact hv.elim
 | succ d =>
  obtain ⟨eA',ec',tA',tc',uA',uc',hv,he,h4,h5⟩:=hv
  injection hv with hv
  injection hv with hv
  injection hv with q0 hv
  injection hv with q1 hv
  injection hv with q2 hv
  injection hv with q3 hv
  injection hv with _ hv
  injection hv with q5 _
  have e:d+1+d'=d+d'+1:=by omega
  have h5':=RowS.more h5 D' d'
  rw [e]
  exact ⟨eA',ec',A,c,uA',uc',by rw [q0,q1,q2,q3,q5],(he.up D').keep f1 f2,RowS.keep f1 f2 (hx.join D d),RowS.keep f1 f2 h5'⟩
theorem StU.elses (h:StU p tb sb s (.mk k l t es ts us) w wr) (hp:p<w.heap.size) (ht:tb<w.heap.size) {D' d':Nat} {xs:List St} {A:Option Addr} {m c:Nat} (hx:RowS (FF (w.heap.size+1) sb wr) wr D' d' xs A c) (hm:m=xs.length):StU p tb sb s (.mk k l t es ts xs) w (wr.setCell ⟨sb,5,none⟩ (.slice A m c)):=by
 subst hm
 obtain ⟨h1,h2,h3⟩:=h.set_ hp ht 5 (.slice A xs.length c)
 obtain ⟨f1,f2⟩:=z5n (w.heap.size+1) sb 5 wr (.slice A xs.length c)
 obtain ⟨D,d,k0,l0,t0,eA,en,ec,tA,tn,tc,uA,un,uc,hr,hv⟩:=h.at_
 refine ⟨h1,h2,h3,h.lt,D+D',d+d'+1,k0,l0,t0,eA,en,ec,tA,tn,tc,A,xs.length,c,z0f (i:=5) (.slice A xs.length c) hr,?_⟩
 cases d with
 | zero=>exact hv.elim
 | succ d =>
  obtain ⟨eA',ec',tA',tc',uA',uc',hv,he,h4,h5⟩:=hv
  injection hv with hv
  injection hv with hv
  injection hv with q0 hv
  injection hv with q1 hv
  injection hv with q2 hv
  injection hv with q3 hv
  injection hv with q4 hv
  have e:d+1+d'=d+d'+1:=by omega
  have h4':=RowS.more h4 D' d'
  rw [e]
  exact ⟨eA',ec',tA',tc',A,c,by rw [q0,q1,q2,q3,q4],(he.up D').keep f1 f2,RowS.keep f1 f2 h4',RowS.keep f1 f2 (hx.join D d)⟩
end
theorem z2p {P:Program} {w:World} {ops:Array Oper} {rest:List Oper} {d:Option Tmp} {ty:TypeId} {x y:Operand} {pos:String} {af:Array Edge} {gd:Option (Nat × Bool)} {a:Act} {Q:Exit→Act→World→Prop}
  (h:z0a (wpList P ops Q ({ dst:=d,op:=.store 84 x y,type:=ty,pos:=pos,after:=af,guard:=gd } :: rest) a w)):wpList P ops Q ({ dst:=d,op:=.store 84 x y,type:=ty,pos:=pos,after:=af,guard:=gd } :: rest) a w:=h
theorem zfx {lo sb d:Nat} {w:World} {y:Ex} {k o a l:Int} {t:ByteArray} {A:Option Addr} {n c:Nat} {T:TypeId} (hv:ExV (fun q=>lo≤q∧q<w.heap.size∧q≠sb) w d y (.agg #[.int .i64 k,.int .i64 o,.int .i64 a,.int .i64 l,.string t,.slice A n c])) (hlo:lo≤w.heap.size) (hs:sb<w.heap.size) :
  RowE (FF lo sb (w.alloc (.cells #[.int .i64 k,.int .i64 o,.int .i64 a,.int .i64 l,.string t,.slice A n c] T))) (w.alloc (.cells #[.int .i64 k,.int .i64 o,.int .i64 a,.int .i64 l,.string t,.slice A n c] T)) d [y] (some ⟨w.heap.size,0,none⟩) 1:=by
 have hb:=(Below.refl _ w).alloc (Nat.le_refl _) (.cells #[.int .i64 k,.int .i64 o,.int .i64 a,.int .i64 l,.string t,.slice A n c] T)
 exact z2y hv (fun q hq=>⟨hq.1,Nat.lt_of_lt_of_le hq.2.1 hb.size,hq.2.2⟩) (fun q hq=>hb.block q hq.2.1) ⟨hlo,by simp,by omega⟩ (heap_alloc_new w _)
end Go.Proofs.YtdplfnemedckaaaGreatDoor
namespace Go.Proofs.YtdplfnemedckaaaGreatDoor
open Go.RowKit
theorem zaY:(Tryz.prog.info? 84).map (fun i=>(i.zero,i.size,i.bytes))=some (some (.agg #[.int .i64 0,.int .i64 0,.string ⟨#[]⟩,.slice none 0 0,.slice none 0 0,.slice none 0 0]),6,104):=by kernel_rfl
def MSt (D d:Nat):z3I St:=fun F w x cs=>StV F w D d x (.agg cs.toArray)
theorem z2F (D d:Nat):(MSt D d).Keeps:=fun _ _ _ _ _ _ h1 h2 h=>StV.keep h1 h2 _ _ _ h
theorem zbM {F:Nat→Prop} {w:World} {D d c:Nat} {A:Option Addr} {xs:List St} (h:RowG 6 (MSt D d) F w xs A c):RowS F w D d xs A c:=by
 refine ⟨h.1,fun i x hi=>?_⟩
 obtain ⟨g,cs,hA,hF,hlen,hcell,hv⟩:=h.2 i x hi
 match cs,hlen with
 | [c0,c1,c2,c3,c4,c5],_=>exact ⟨g,0,c0,c1,c2,c3,c4,c5,hA,hF,by rw [Nat.zero_add]; exact hcell 0 c0 rfl,by rw [Nat.zero_add]; exact hcell 1 c1 rfl,by rw [Nat.zero_add]; exact hcell 2 c2 rfl,by rw [Nat.zero_add]; exact hcell 3 c3 rfl,by rw [Nat.zero_add]; exact hcell 4 c4 rfl,by rw [Nat.zero_add]; exact hcell 5 c5 rfl,hv⟩
def z8T (v:Value):Nat:=match v with | .slice _ n _=>n | _=>0
end Go.Proofs.YtdplfnemedckaaaGreatDoor
namespace Go.Proofs.YtdplfnemedckaaaGreatDoor
open Go.RowKit
def zeG (F:Nat→Prop) (w:World) (d:Nat) (es:List Ex) (L:List Value):Prop:=L.length=es.length * 6∧∀ (j:Nat) (x:Ex),es[j]?=some x→∃ c0 c1 c2 c3 c4 c5,L[j * 6]?=some c0∧L[j * 6+1]?=some c1∧L[j * 6+2]?=some c2∧L[j * 6+3]?=some c3∧L[j * 6+4]?=some c4∧L[j * 6+5]?=some c5∧ExV F w d x (.agg #[c0,c1,c2,c3,c4,c5])
theorem zeG.keep {F G:Nat→Prop} {w w':World} {d:Nat} {es:List Ex} {L:List Value} (hFG:∀ k,F k→G k) (hk:∀ k,F k→w'.heap[k]?=w.heap[k]?) (h:zeG F w d es L):zeG G w' d es L :=
 ⟨h.1,fun j x hj=>by
  obtain ⟨c0,c1,c2,c3,c4,c5,e0,e1,e2,e3,e4,e5,hx⟩:=h.2 j x hj
  exact ⟨c0,c1,c2,c3,c4,c5,e0,e1,e2,e3,e4,e5,hx.keep hFG hk⟩⟩
end Go.Proofs.YtdplfnemedckaaaGreatDoor
