/-
  Kf: RpSrcM, RpStA, RpStm. Walks and laws that the statement's proof is made of. No condition of its own.
-/
import Derived.Test.YtjpojmigghbnpaaGreatDoorKe
import Derived.Test.YtjpojmigghbnpaaGreatDoorKb
import Derived.Deep.RegionLawGrows
namespace Go.Proofs.YtjpojmigghbnpaaGreatDoor
open Go.RowKit
def z1R (E:R1):R1:=fun s =>
 match E s with
 | none=>none
 | some (x,s1)=>some (x,z0a [59] s1)
abbrev RS1:=RS→Option (St × RS)
abbrev RSL:=RS→Option (List St × RS)
def z3n (S:RS1):Nat→List St→RSL
 | 0,_,_=>none
 | n+1,l,s =>
  if s.bad then some (l,s)
  else if isR [125] s then some (l,popR s)
  else
   match S s with
   | none=>none
   | some (t,s1)=>z3n S n (l++[t]) s1
def z3C (S:RS1):RSL:=fun s=>z3n S ((z0a [123] s).rest.length+1) [] (z0a [123] s)
def varW:z09:=[118,97,114]
def ifW:z09:=[105,102]
def z65:z09:=[101,108,115,101]
def z5W:z09:=[119,104,105,108,101]
def z4o:z09:=[114,101,116,117,114,110]
def z5N:z09:=[112,114,105,110,116]
def z9b:z09:=[99,97,108,108]
def oneR (k line:Int) (nm:ByteArray) (V:R1) (s:RS):Option (St × RS) :=
 match V s with
 | none=>none
 | some (x,s1)=>some (.mk k line nm [x] [] [],s1)
def z4r (B:RSL) (E:R1):RS1:=fun s =>
 if isR varW s then oneR 1 ((hdR s).line:Int) (nmB (z03 1 (popR s)).1.text) (z1R E) (z0a [61] (z03 1 (popR s)).2)
 else if isR ifW s then
  match E (popR s) with
  | none=>none
  | some (x,s1) =>
   match B s1 with
   | none=>none
   | some (t,s2) =>
    if isR z65 s2 then
     match B (popR s2) with
     | none=>none
     | some (u,s3)=>some (.mk 4 ((hdR s).line:Int) ⟨#[]⟩ [x] t u,s3)
    else some (.mk 4 ((hdR s).line:Int) ⟨#[]⟩ [x] t [],s2)
 else if isR z5W s then
  match E (popR s) with
  | none=>none
  | some (x,s1) =>
   match B s1 with
   | none=>none
   | some (t,s2)=>some (.mk 5 ((hdR s).line:Int) ⟨#[]⟩ [x] t [],s2)
 else if isR z4o s then oneR 6 ((hdR s).line:Int) ⟨#[]⟩ (z1R E) (popR s)
 else if isR z5N s then oneR 7 ((hdR s).line:Int) ⟨#[]⟩ (z1R E) (popR s)
 else if isR z9b s then oneR 8 ((hdR s).line:Int) ⟨#[]⟩ (z1R E) (popR s)
 else if isR [91] (z03 1 s).2 then
  match E (popR (z03 1 s).2) with
  | none=>none
  | some (x,s1) =>
   match z1R E (z0a [61] (z0a [93] s1)) with
   | none=>none
   | some (y,s2)=>some (.mk 3 ((hdR s).line:Int) (nmB (z03 1 s).1.text) [x,y] [] [],s2)
 else oneR 2 ((hdR s).line:Int) (nmB (z03 1 s).1.text) (z1R E) (z0a [61] (z03 1 s).2)
def z7p:Nat→RS1
 | 0=>fun _=>none
 | d+1=>z4r (z3C (z7p d)) z9i
def z29:Nat→List ByteArray→RS→Option (List ByteArray × RS)
 | 0,_,_=>none
 | n+1,l,s=>if isR [44] s then z29 n (l++[nmB (z03 1 (popR s)).1.text]) (z03 1 (popR s)).2 else some (l,z0a [41] s)
def z2Y (s:RS):Option (List ByteArray × RS) :=
 if isR [41] s then some ([],popR s) else z29 ((z03 1 s).2.rest.length+1) [nmB (z03 1 s).1.text] (z03 1 s).2
def z25 (B:RSL) (s:RS):Option (Fn × RS) :=
 match z2Y (z0a [40] (z03 1 s).2) with
 | none=>none
 | some (ps,s1) =>
  match B s1 with
  | none=>none
  | some (b,s2)=>some (⟨nmB (z03 1 s).1.text,0,ps,b⟩,s2)
def z1C (t:Tok) (s:RS):RS:=if s.bad=false∧(t.value<1∨1024<t.value)∧s.wrong=0 then { s with wrong:=t.line } else s
def z0B (s:RS):(ByteArray × Int) × RS :=
 if isR [91] (z03 1 s).2 then
  ((nmB (z03 1 s).1.text,((z03 2 (popR (z03 1 s).2)).1.value:Int)),z0a [59] (z0a [93] (z1C (z03 2 (popR (z03 1 s).2)).1 (z03 2 (popR (z03 1 s).2)).2)))
 else ((nmB (z03 1 s).1.text,0),z0a [59] (z03 1 s).2)
def z3J:z09:=[103,108,111,98,97,108]
def z5o:z09:=[102,117,110,99]
abbrev Gls:=List (ByteArray × Int)
def z1D (B:RSL):Nat→Gls→List Fn→RS→Option (Gls × List Fn × RS)
 | 0,_,_,_=>none
 | n+1,gl,fl,s =>
  if s.bad then some (gl,fl,s)
  else if (hdR s).kind=0 then some (gl,fl,s)
  else if isR z3J s then z1D B n (gl++[(z0B (popR s)).1]) fl (z0B (popR s)).2
  else
   match z25 B (z0a z5o s) with
   | none=>none
   | some (f,s1)=>z1D B n gl (fl++[{ f with line:=((hdR s).line:Int) }]) s1
end Go.Proofs.YtjpojmigghbnpaaGreatDoor
namespace Go.Proofs.YtjpojmigghbnpaaGreatDoor
open Go.RowKit
def FF (lo sb:Nat) (w:World):Nat→Prop:=fun q=>lo≤q∧q<w.heap.size∧q≠sb
def z2C:Obj:=.cells #[.int .i64 0,.int .i64 0,.string { data:=#[] },.slice none 0 0,.slice none 0 0,.slice none 0 0] 90
structure StU (p tb sb:Nat) (s:RS) (x:St) (w wr:World):Prop where
 ra:RA wr p tb s
 gr:w.grownBy wr (some p)
 z:wr.heap[w.heap.size]?=some z2C
 lt:w.heap.size<sb
 at_:∃ D d k l t eA en ec tA tn tc uA un uc,wr.heap[sb]?=some (.cells #[.int .i64 k,.int .i64 l,.string t,.slice eA en ec,.slice tA tn tc,.slice uA un uc] 90 (0,0)) ∧
  StV (FF (w.heap.size+1) sb wr) wr D d x (.agg #[.int .i64 k,.int .i64 l,.string t,.slice eA en ec,.slice tA tn tc,.slice uA un uc])
section
variable {p tb sb:Nat} {s s':RS} {x:St} {w wr w':World}
theorem StU.row (h:StU p tb sb s x w wr):∃ v0 v1 v2 v3 v4 v5,wr.heap[sb]?=some (.cells #[v0,v1,v2,v3,v4,v5] 90 (0,0)):=by
 obtain ⟨D,d,k,l,t,eA,en,ec,tA,tn,tc,uA,un,uc,hr,_⟩:=h.at_
 exact ⟨_,_,_,_,_,_,hr⟩
theorem StU.slt (h:StU p tb sb s x w wr):sb<wr.heap.size:=by
 obtain ⟨_,_,_,_,_,_,hr⟩:=h.row
 exact (Array.getElem?_eq_some_iff.1 hr).1
theorem StU.step (h:StU p tb sb s x w wr) (hp:p<w.heap.size) (hg:wr.grownBy w' (some p)) (ha:RA w' p tb s'):StU p tb sb s' x w w':=by
 obtain ⟨D,d,k,l,t,eA,en,ec,tA,tn,tc,uA,un,uc,hr,hv⟩:=h.at_
 have hlt:=h.lt
 exact ⟨ha,h.gr.trans hg,z04 hg (by omega) h.z,h.lt,D,d,k,l,t,eA,en,ec,tA,tn,tc,uA,un,uc,z04 hg (by omega) hr,hv.keep (fun q hq=>⟨hq.1,Nat.lt_of_lt_of_le hq.2.1 hg.size,hq.2.2⟩) (fun q hq=>hg.block q hq.2.1 (fun e=>by injection e with e; have:=hq.1; omega))⟩
theorem StU.alloc (h:StU p tb sb s x w wr) (hp:p<w.heap.size) (o:Obj):StU p tb sb s x w (wr.alloc o) :=
 h.step hp (z01 ((Below.refl _ wr).alloc (Nat.le_refl _) o) _) (h.ra.alloc o)
theorem StU.set_ (h:StU p tb sb s x w wr) (hp:p<w.heap.size) (ht:tb<w.heap.size) (i:Nat) (v:Value):RA (wr.setCell ⟨sb,i,none⟩ v) p tb s∧w.grownBy (wr.setCell ⟨sb,i,none⟩ v) (some p)∧(wr.setCell ⟨sb,i,none⟩ v).heap[w.heap.size]?=some z2C:=by
 have hg:wr.grownBy (wr.setCell ⟨sb,i,none⟩ v) (some sb):=z06 wr ⟨sb,i,none⟩ v
 have hlt:=h.lt
 exact ⟨h.ra.other hg (by omega) (by omega),z0g h.gr hg (by omega),z04 hg (by omega) h.z⟩
theorem z27 (lo sb i:Nat) (wr:World) (v:Value):(∀ q,FF lo sb wr q→FF lo sb (wr.setCell ⟨sb,i,none⟩ v) q)∧(∀ q,FF lo sb wr q→(wr.setCell ⟨sb,i,none⟩ v).heap[q]?=wr.heap[q]?):=by
 have hg:wr.grownBy (wr.setCell ⟨sb,i,none⟩ v) (some sb):=z06 wr ⟨sb,i,none⟩ v
 exact ⟨fun q hq=>⟨hq.1,Nat.lt_of_lt_of_le hq.2.1 hg.size,hq.2.2⟩,fun q hq=>hg.block q hq.2.1 (fun e=>by injection e with e; exact hq.2.2 e)⟩
variable {k l:Int} {t:ByteArray} {es:List Ex} {ts us:List St}
theorem StU.kind (h:StU p tb sb s (.mk k l t es ts us) w wr) (hp:p<w.heap.size) (ht:tb<w.heap.size) (k':Int):StU p tb sb s (.mk k' l t es ts us) w (wr.setCell ⟨sb,0,none⟩ (.int .i64 k')):=by
 obtain ⟨h1,h2,h3⟩:=h.set_ hp ht 0 (.int .i64 k')
 obtain ⟨f1,f2⟩:=z27 (w.heap.size+1) sb 0 wr (.int .i64 k')
 obtain ⟨D,d,k0,l0,t0,eA,en,ec,tA,tn,tc,uA,un,uc,hr,hv⟩:=h.at_
 refine ⟨h1,h2,h3,h.lt,D,d,k',l0,t0,eA,en,ec,tA,tn,tc,uA,un,uc,z0i (i:=0) (.int .i64 k') hr,?_⟩
 cases d with
 | zero=>exact hv.elim
 | succ d =>
  obtain ⟨eA',ec',tA',tc',uA',uc',hv,he,h4,h5⟩:=hv
  injection hv with hv
  injection hv with hv
  injection hv with _ hv
  injection hv with q1 hv
  injection hv with q2 hv
  injection hv with q3 hv
  injection hv with q4 hv
  injection hv with q5 _
  exact ⟨eA',ec',tA',tc',uA',uc',by rw [q1,q2,q3,q4,q5],he.keep f1 f2,RowS.keep f1 f2 h4,RowS.keep f1 f2 h5⟩
theorem StU.name (h:StU p tb sb s (.mk k l t es ts us) w wr) (hp:p<w.heap.size) (ht:tb<w.heap.size) (t':ByteArray):StU p tb sb s (.mk k l t' es ts us) w (wr.setCell ⟨sb,2,none⟩ (.string t')):=by
 obtain ⟨h1,h2,h3⟩:=h.set_ hp ht 2 (.string t')
 obtain ⟨f1,f2⟩:=z27 (w.heap.size+1) sb 2 wr (.string t')
 obtain ⟨D,d,k0,l0,t0,eA,en,ec,tA,tn,tc,uA,un,uc,hr,hv⟩:=h.at_
 refine ⟨h1,h2,h3,h.lt,D,d,k0,l0,t',eA,en,ec,tA,tn,tc,uA,un,uc,z0i (i:=2) (.string t') hr,?_⟩
 cases d with
 | zero=>exact hv.elim
 | succ d =>
  obtain ⟨eA',ec',tA',tc',uA',uc',hv,he,h4,h5⟩:=hv
  injection hv with hv
  injection hv with hv
  injection hv with q0 hv
  injection hv with q1 hv
  injection hv with _ hv
  injection hv with q3 hv
  injection hv with q4 hv
  injection hv with q5 _
  exact ⟨eA',ec',tA',tc',uA',uc',by rw [q0,q1,q3,q4,q5],he.keep f1 f2,RowS.keep f1 f2 h4,RowS.keep f1 f2 h5⟩
theorem StU.exprs (h:StU p tb sb s (.mk k l t es ts us) w wr) (hp:p<w.heap.size) (ht:tb<w.heap.size) {D':Nat} {xs:List Ex} {A:Option Addr} {m c:Nat} (hx:RowE (FF (w.heap.size+1) sb wr) wr D' xs A c) (hm:m=xs.length):StU p tb sb s (.mk k l t xs ts us) w (wr.setCell ⟨sb,3,none⟩ (.slice A m c)):=by
 subst hm
 obtain ⟨h1,h2,h3⟩:=h.set_ hp ht 3 (.slice A xs.length c)
 obtain ⟨f1,f2⟩:=z27 (w.heap.size+1) sb 3 wr (.slice A xs.length c)
 obtain ⟨D,d,k0,l0,t0,eA,en,ec,tA,tn,tc,uA,un,uc,hr,hv⟩:=h.at_
 refine ⟨h1,h2,h3,h.lt,D+D',d+1,k0,l0,t0,A,xs.length,c,tA,tn,tc,uA,un,uc,z0i (i:=3) (.slice A xs.length c) hr,?_⟩
 cases d with
 | zero=>exact hv.elim
 | succ d =>
  obtain ⟨eA',ec',tA',tc',uA',uc',hv,he,h4,h5⟩:=hv
  injection hv with hv
  injection hv with hv
  injection hv with q0 hv
  injection hv with q1 hv
  injection hv with q2 hv
  injection hv with _ hv
  injection hv with q4 hv
  injection hv with q5 _
  have hx2:=hx.up D
  rw [Nat.add_comm D' D] at hx2
  exact ⟨A,c,tA',tc',uA',uc',by rw [q0,q1,q2,q4,q5],hx2.keep f1 f2,RowS.keep f1 f2 (RowS.more h4 D' 0),RowS.keep f1 f2 (RowS.more h5 D' 0)⟩
theorem RowS.join {F:Nat→Prop} {w:World} {D d:Nat} {ts:List St} {A:Option Addr} {c:Nat} (h:RowS F w D d ts A c) (D' d':Nat):RowS F w (D'+D) (d'+d+1) ts A c:=by
 have:=h.more D' d'
 have e:d+(d'+1)=d'+d+1:=by omega
 rw [Nat.add_comm D D',e] at this
 exact this
theorem StU.thens (h:StU p tb sb s (.mk k l t es ts us) w wr) (hp:p<w.heap.size) (ht:tb<w.heap.size) {D' d':Nat} {xs:List St} {A:Option Addr} {m c:Nat} (hx:RowS (FF (w.heap.size+1) sb wr) wr D' d' xs A c) (hm:m=xs.length):StU p tb sb s (.mk k l t es xs us) w (wr.setCell ⟨sb,4,none⟩ (.slice A m c)):=by
 subst hm
 obtain ⟨h1,h2,h3⟩:=h.set_ hp ht 4 (.slice A xs.length c)
 obtain ⟨f1,f2⟩:=z27 (w.heap.size+1) sb 4 wr (.slice A xs.length c)
 obtain ⟨D,d,k0,l0,t0,eA,en,ec,tA,tn,tc,uA,un,uc,hr,hv⟩:=h.at_
 refine ⟨h1,h2,h3,h.lt,D+D',d+d'+1,k0,l0,t0,eA,en,ec,A,xs.length,c,uA,un,uc,z0i (i:=4) (.slice A xs.length c) hr,?_⟩
 cases d with
 | zero=>exact hv.elim
 | succ d =>
  obtain ⟨eA',ec',tA',tc',uA',uc',hv,he,h4,h5⟩:=hv
  injection hv with hv
  injection hv with hv
  injection hv with q0 hv
  injection hv with q1 hv
  injection hv with q2 hv
  injection hv with q3 hv
  injection hv with _ hv
  injection hv with q5 _
  have e:d+1+d'=d+d'+1:=by omega
  have h5':=RowS.more h5 D' d'
  rw [e]
  exact ⟨eA',ec',A,c,uA',uc',by rw [q0,q1,q2,q3,q5],(he.up D').keep f1 f2,RowS.keep f1 f2 (hx.join D d),RowS.keep f1 f2 h5'⟩
theorem StU.elses (h:StU p tb sb s (.mk k l t es ts us) w wr) (hp:p<w.heap.size) (ht:tb<w.heap.size) {D' d':Nat} {xs:List St} {A:Option Addr} {m c:Nat} (hx:RowS (FF (w.heap.size+1) sb wr) wr D' d' xs A c) (hm:m=xs.length):StU p tb sb s (.mk k l t es ts xs) w (wr.setCell ⟨sb,5,none⟩ (.slice A m c)):=by
 subst hm
 obtain ⟨h1,h2,h3⟩:=h.set_ hp ht 5 (.slice A xs.length c)
 obtain ⟨f1,f2⟩:=z27 (w.heap.size+1) sb 5 wr (.slice A xs.length c)
 obtain ⟨D,d,k0,l0,t0,eA,en,ec,tA,tn,tc,uA,un,uc,hr,hv⟩:=h.at_
 refine ⟨h1,h2,h3,h.lt,D+D',d+d'+1,k0,l0,t0,eA,en,ec,tA,tn,tc,A,xs.length,c,z0i (i:=5) (.slice A xs.length c) hr,?_⟩
 cases d with
 | zero=>exact hv.elim
 | succ d =>
  obtain ⟨eA',ec',tA',tc',uA',uc',hv,he,h4,h5⟩:=hv
  injection hv with hv
  injection hv with hv
  injection hv with q0 hv
  injection hv with q1 hv
  injection hv with q2 hv
  injection hv with q3 hv
  injection hv with q4 hv
  have e:d+1+d'=d+d'+1:=by omega
  have h4':=RowS.more h4 D' d'
  rw [e]
  exact ⟨eA',ec',tA',tc',A,c,by rw [q0,q1,q2,q3,q4],(he.up D').keep f1 f2,RowS.keep f1 f2 h4',RowS.keep f1 f2 (hx.join D d)⟩
end
def SRG (p tb:Nat) (x:St) (s s':RS) (w:World) (e:Ending) (w':World):Prop:=∃ D d k l t eA en ec tA tn tc uA un uc,e=.returned (.agg #[.int .i64 k,.int .i64 l,.string t,.slice eA en ec,.slice tA tn tc,.slice uA un uc]) ∧
 StV (fun q=>w.heap.size≤q∧q<w'.heap.size) w' D d x (.agg #[.int .i64 k,.int .i64 l,.string t,.slice eA en ec,.slice tA tn tc,.slice uA un uc])∧RA w' p tb s'∧w.grownBy w' (some p)∧s'.rest.length≤s.rest.length
def SubS (f:FuncId) (P:RS1):Prop:=∀ (p tb:Nat) (s s':RS) (x:St) (w:World),RA w p tb s→P s=some (x,s')→Calls Tryz.prog f #[.pointer (some ⟨p,0,none⟩)] w (SRG p tb x s s' w)
def BRG (p tb:Nat) (xs:List St) (s s':RS) (w:World) (e:Ending) (w':World):Prop:=∃ D d A m c,e=.returned (.slice A m c)∧m=xs.length∧RowS (fun q=>w.heap.size≤q∧q<w'.heap.size) w' D d xs A c∧RA w' p tb s'∧w.grownBy w' (some p)∧s'.rest.length≤s.rest.length
def SubB (f:FuncId) (P:RSL):Prop:=∀ (p tb:Nat) (s s':RS) (xs:List St) (w:World),RA w p tb s→P s=some (xs,s')→Calls Tryz.prog f #[.pointer (some ⟨p,0,none⟩)] w (BRG p tb xs s s' w)
theorem z14 {P:Program} {w:World} {ops:Array Oper} {rest:List Oper} {d:Option Tmp} {ty:TypeId} {x y:Operand} {pos:String} {af:Array Edge} {gd:Option (Nat × Bool)} {a:Act} {Q:Exit→Act→World→Prop}
  (h:z0d (wpList P ops Q ({ dst:=d,op:=.store 90 x y,type:=ty,pos:=pos,after:=af,guard:=gd } :: rest) a w)):wpList P ops Q ({ dst:=d,op:=.store 90 x y,type:=ty,pos:=pos,after:=af,guard:=gd } :: rest) a w:=h
theorem z32 {p tb sb D d:Nat} {x:St} {s s':RS} {w wr w9:World} {k l:Int} {t:ByteArray} {eA tA uA:Option Addr} {en ec tn tc un uc:Nat} (hv:StV (FF (w.heap.size+1) sb wr) wr D d x (.agg #[.int .i64 k,.int .i64 l,.string t,.slice eA en ec,.slice tA tn tc,.slice uA un uc])) (h:StU p tb sb s' x w wr) (hl:s'.rest.length≤s.rest.length) (hp:p<w.heap.size) (ht:tb<w.heap.size) (hg9:wr.grownBy w9 (some w.heap.size)) :
  SRG p tb x s s' w (.returned (.agg #[.int .i64 k,.int .i64 l,.string t,.slice eA en ec,.slice tA tn tc,.slice uA un uc])) w9 :=
 ⟨D,d,k,l,t,eA,en,ec,tA,tn,tc,uA,un,uc,rfl,hv.keep (fun q hq=>⟨by have:=hq.1; omega,Nat.lt_of_lt_of_le hq.2.1 hg9.size⟩) (fun q hq=>hg9.block q hq.2.1 (fun e=>by injection e with e; have:=hq.1; omega)),h.ra.other hg9 (by omega) (by omega),z0g h.gr hg9 (Nat.le_refl _),hl⟩
theorem z3j {lo sb d:Nat} {w:World} {y:Ex} {k o a l:Int} {t:ByteArray} {A:Option Addr} {n c:Nat} {T:TypeId} (hv:ExV (fun q=>lo≤q∧q<w.heap.size∧q≠sb) w d y (.agg #[.int .i64 k,.int .i64 o,.int .i64 a,.int .i64 l,.string t,.slice A n c])) (hlo:lo≤w.heap.size) (hs:sb<w.heap.size) :
  RowE (FF lo sb (w.alloc (.cells #[.int .i64 k,.int .i64 o,.int .i64 a,.int .i64 l,.string t,.slice A n c] T))) (w.alloc (.cells #[.int .i64 k,.int .i64 o,.int .i64 a,.int .i64 l,.string t,.slice A n c] T)) d [y] (some ⟨w.heap.size,0,none⟩) 1:=by
 have hb:=(Below.refl _ w).alloc (Nat.le_refl _) (.cells #[.int .i64 k,.int .i64 o,.int .i64 a,.int .i64 l,.string t,.slice A n c] T)
 exact z2G hv (fun q hq=>⟨hq.1,Nat.lt_of_lt_of_le hq.2.1 hb.size,hq.2.2⟩) (fun q hq=>hb.block q hq.2.1) ⟨hlo,by simp,by omega⟩ (heap_alloc_new w _)
end Go.Proofs.YtjpojmigghbnpaaGreatDoor
namespace Go.Proofs.YtjpojmigghbnpaaGreatDoor
open Go.RowKit
set_option maxRecDepth 100000 in
set_option maxHeartbeats 2000000 in
theorem zee (E:R1) (he:SubR 103 E):SubR 102 (z1R E):=by
 intro p tb s s' x w h hP
 obtain ⟨s1,hq,rfl⟩:∃ s1,E s=some (x,s1)∧s'=z0a [59] s1:=by
  unfold z1R at hP
  cases hq:E s with
  | none=>rw [hq] at hP; cases hP
  | some q =>
   obtain ⟨y,s1⟩:=q
   rw [hq] at hP
   injection hP with hP
   injection hP with e1 e2
   subst e1
   exact ⟨s1,rfl,e2.symm⟩
 have plt:=h.lt.1
 have tlt:=h.lt.2.1
 have HX:=zhi (he p tb s s1 x (w.alloc z1O) (h.alloc _) hq)
 have hb0:=(Below.refl _ w).alloc (Nat.le_refl _) z1O
 have HZ0:=zhi (heap_alloc_new w z1O)
 have HB0:=zhi hb0
 unfold z1O at HX HZ0 HB0
 clear he hP hq h hb0
 go_enter Tryz.func102,Tryz.ntmps102
 go_wp2_with fail
 refine HX.out.mono ?_
 rintro e w6 ⟨d5,k5,o5,a5,l5,t5,A5,n5,c5,rfl,hv5,hp6,hg6,hl5⟩
 have hba:=(Below.refl _ w6).alloc (Nat.le_refl _) (.cells #[.int .i64 k5,.int .i64 o5,.int .i64 a5,.int .i64 l5,.string t5,.slice A5 n5 c5] 42)
 have HX6:=zhi (z0D [59] (w6.alloc (.cells #[.int .i64 k5,.int .i64 o5,.int .i64 a5,.int .i64 l5,.string t5,.slice A5 n5 c5] 42)) (hp6.below hba))
 have HB6:=zhi (heap_alloc_new w6 (.cells #[.int .i64 k5,.int .i64 o5,.int .i64 a5,.int .i64 l5,.string t5,.slice A5 n5 c5] 42))
 have HBA:=zhi hba
 have HV5:=zhi hv5
 have hsz6:w.heap.size+1≤w6.heap.size:=by have:=hg6.size; simpa using this
 have HZ6:=zhi ((hba.block w.heap.size (by omega)).trans (z04 hg6 (by omega) HZ0.out))
 have HG6:=zhi (((z01 HB0.out (some p)).trans hg6).trans (z01 hba _))
 have HLn:=zhi hl5
 clear hba hv5 hp6 hg6 hl5 HX HZ0
 go_wp2_with fail
 refine HX6.out.mono ?_
 rintro e w7 ⟨⟨v7,rfl⟩,hp7,hg7⟩
 have hx7:=z04 hg7 (by omega) HB6.out
 have HZ7:=zhi (z04 hg7 (by omega) HZ6.out)
 obtain ⟨q0,q1,q2,q3,q4,q5⟩:=cl6 hx7
 have HP7:=zhi hp7
 have HG7:=zhi (HG6.out.trans hg7)
 have H67:=zhi ((z01 HBA.out (some p)).trans hg7)
 clear hp7 hg7 hx7 HX6 HG6 HZ6
 go_wp2_with (with_reducible refine z0M ?_)
 refine z0d.of (z00 _ rfl _ _ _ rfl w.heap.size _ rfl (by rfl) _ _ HZ7.out (by kernel_rfl) (by rfl) (by simp [Value.oneCell']) ?_)
 intro w9 hrow9 hg9
 obtain ⟨j0,j1,j2,j3,j4,j5⟩:=cl6 hrow9
 have HH:=zhi (z2q (xb:=w.heap.size) (s:=s) (z0N HV5.out (fun q hq=>by
  have h1:=hq.1
  simp at h1
  exact ⟨⟨by omega,Nat.lt_of_lt_of_le hq.2 H67.out.size,by omega⟩,hq.2,by omega⟩) H67.out) HP7.out HG7.out (by have:=HLn.out; have h1:=z0m [59] s1; omega) plt tlt hg9)
 clear hrow9 hg9 q0 q1 q2 q3 q4 q5
 go_wp2_with fail
 exact bodyPost_ret (by simp [results,Tryz.results102,go_sem,j0,j1,j2,j3,j4,j5]) rfl HH.out
theorem z71:(Tryz.prog.info? 90).map (fun i=>(i.zero,i.size,i.bytes))=some (some (.agg #[.int .i64 0,.int .i64 0,.string ⟨#[]⟩,.slice none 0 0,.slice none 0 0,.slice none 0 0]),6,104):=by kernel_rfl
def MSt (D d:Nat):z3a St:=fun F w x cs=>StV F w D d x (.agg cs.toArray)
theorem z1m (D d:Nat):(MSt D d).Keeps:=fun _ _ _ _ _ _ h1 h2 h=>StV.keep h1 h2 _ _ _ h
theorem z6z {F:Nat→Prop} {w:World} {D d c:Nat} {A:Option Addr} {xs:List St} (h:RowG 6 (MSt D d) F w xs A c):RowS F w D d xs A c:=by
 refine ⟨h.1,fun i x hi=>?_⟩
 obtain ⟨g,cs,hA,hF,hlen,hcell,hv⟩:=h.2 i x hi
 match cs,hlen with
 | [c0,c1,c2,c3,c4,c5],_=>exact ⟨g,0,c0,c1,c2,c3,c4,c5,hA,hF,by rw [Nat.zero_add]; exact hcell 0 c0 rfl,by rw [Nat.zero_add]; exact hcell 1 c1 rfl,by rw [Nat.zero_add]; exact hcell 2 c2 rfl,by rw [Nat.zero_add]; exact hcell 3 c3 rfl,by rw [Nat.zero_add]; exact hcell 4 c4 rfl,by rw [Nat.zero_add]; exact hcell 5 c5 rfl,hv⟩
def BlkR (S:RS1) (p tb n0:Nat) (ts:List St) (s s':RS) (w:World) (v:Value) (wr:World):Prop :=
 ∃ n xs ss L A m c D d,v=.slice A m c∧m=xs.length∧n+xs.length=n0∧z3n S n xs ss=some (ts,s')∧GRow 6 90 (MSt D d) w.heap.size wr (.slice A m c) xs L∧RA wr p tb ss∧w.grownBy wr (some p)∧ss.rest.length≤s.rest.length
def z4M (v:Value):Nat:=match v with | .slice _ n _=>n | _=>0
theorem z7t {S:RS1} {n:Nat} {xs ts:List St} {s s':RS} (h:z3n S n xs s=some (ts,s')):(s.bad=true∧ts=xs∧s'=s)∨(s.bad=false∧((isR [125] s=true∧ts=xs∧s'=popR s)∨(isR [125] s=false∧∃ m t s1,n=m+1∧S s=some (t,s1)∧z3n S m (xs++[t]) s1=some (ts,s')))):=by
 cases n with
 | zero=>cases h
 | succ m =>
  simp only [z3n] at h
  cases hb:s.bad with
  | true =>
   simp only [hb,if_true] at h
   injection h with h
   injection h with e1 e2
   exact .inl ⟨rfl,e1.symm,e2.symm⟩
  | false =>
   simp only [hb,Bool.false_eq_true,if_false] at h
   refine .inr ⟨rfl,?_⟩
   cases hi:isR [125] s with
   | true =>
    simp only [hi,if_true] at h
    injection h with h
    injection h with e1 e2
    exact .inl ⟨rfl,e1.symm,e2.symm⟩
   | false =>
    simp only [hi,Bool.false_eq_true,if_false] at h
    refine .inr ⟨rfl,?_⟩
    cases hq:S s with
    | none=>rw [hq] at h; cases h
    | some q=>rw [hq] at h; exact ⟨m,q.1,q.2,rfl,rfl,h⟩
set_option maxRecDepth 100000 in
set_option maxHeartbeats 4000000 in
theorem zaf (S:RS1) (hs:SubS 89 S):SubB 69 (z3C S):=by
 intro p tb s s' ts w h hP
 have plt:=h.lt.1
 have tlt:=h.lt.2.1
 have HS:=zhi hs
 have HP:=zhi hP
 have HX:=zhi (z0D [123] w h)
 have hsm:=h.sm
 have hel:=z0m [123] s
 have HSM:Hid ((z0a [123] s).rest.length≤1000000):=zhi (by omega)
 have HEL:=zhi hel
 clear hs hP h hsm hel
 go_enter Tryz.func69,Tryz.ntmps69
 go_wp2_with fail
 refine HX.out.mono ?_
 rintro e w1 ⟨⟨v1,rfl⟩,hp1,hg1⟩
 have HR:Hid (BlkR S p tb ((z0a [123] s).rest.length+1) ts s s' w (.slice none 0 0) w1):=zhi ⟨_,[],_,[],none,0,0,0,0,rfl,rfl,rfl,HP.out,GRow.nil,hp1,hg1,HEL.out⟩
 clear HP HX hp1 hg1
 go_wp2_with fail
 go_loopw [3] (fun v wr=>BlkR S p tb ((z0a [123] s).rest.length+1) ts s s' w v wr) (fun v _=>(z0a [123] s).rest.length+1 - z4M v)
 case atStart=>exact HR.out
 case round =>
  obtain ⟨n,xs,ss,L,A,m,c,D,d,rfl,hm,hn,hst,hgr,hp,hg,hl⟩:=hrel
  subst hm
  clear HR
  have HG:=zhi hg
  have HGR:=zhi hgr
  have Hl:=zhi hl
  have HN:=zhi hn
  have HC:=zhi (z7t hst)
  have hszr:=hg.size
  have HAC:=zhi (z0R [125] wr hp)
  have HPP:=zhi hp
  obtain ⟨a,cc,N,hr⟩:=hp
  have c2:=hr.cells.2.2.1
  clear hg hgr hl hst hr hn
  cases hb:ss.bad with
  | true =>
   rw [hb] at c2
   rcases HC.out with ⟨_,rfl,rfl⟩ | ⟨h0,_⟩
   ·have HE:Hid (BRG p tb ts s s' w (.returned (.slice A ts.length c)) wr):=zhi ⟨D,d,A,ts.length,c,rfl,rfl,z6z (HGR.out.row (z1m D d)).2,HPP.out,HG.out,Hl.out⟩
    clear HC HAC hb
    go_wp2_with fail
    go_ret
    exact HE.out
   ·rw [hb] at h0; cases h0
  | false =>
   rw [hb] at c2
   rcases HC.out with ⟨h0,_⟩ | ⟨_,hc⟩
   ·rw [hb] at h0; cases h0
   ·clear HC hb
    go_wp2_with fail
    refine HAC.out.mono ?_
    rintro e w2 ⟨rfl,hp2,hg2⟩
    have HGR2:=zhi (HGR.out.grown (z1m D d) hg2 plt)
    have HG2:=zhi (HG.out.trans hg2)
    have hsz2:=hg2.size
    clear HAC hg2 HGR HG HPP
    rcases hc with ⟨hi,rfl,rfl⟩ | ⟨hi,m,t,s1,rfl,hq,hst⟩
    ·rw [z0O hi] at hp2
     have HE:Hid (BRG p tb ts s (popR ss) w (.returned (.slice A ts.length c)) w2):=zhi ⟨D,d,A,ts.length,c,rfl,rfl,z6z (HGR2.out.row (z1m D d)).2,hp2,HG2.out,by rw [z0o]; have:=Hl.out; omega⟩
     clear hp2
     go_wp2_with fail
     go_ret
     exact HE.out
    ·rw [z18 hi] at hp2
     have HX2:=zhi (HS.out p tb ss s1 t w2 hp2 hq)
     have HST:=zhi hst
     have hxs:xs.length≤1000000:=by have:=HN.out; have:=HSM.out; omega
     clear hp2 hq hst
     go_wp2_with fail
     refine HX2.out.mono ?_
     rintro e w3 ⟨D3,d3,k3,l3,t3,eA,en,ec,tA,tn,tc,uA,un,uc,rfl,hv3,hp3,hg3,hl3⟩
     have hsz3:=hg3.size
     have HV3:=zhi (show MSt (D+D3) (d+d3+1) (fun q=>w2.heap.size≤q∧q<w3.heap.size) w3 t [.int .i64 k3,.int .i64 l3,.string t3,.slice eA en ec,.slice tA tn tc,.slice uA un uc] from by
      have:=hv3.more D d
      have e:d3+(d+1)=d+d3+1:=by omega
      rw [Nat.add_comm D3 D,e] at this
      exact this)
     have HGR3:=zhi ((HGR2.out.grown (z1m D d) hg3 plt).map (V':=MSt (D+D3) (d+d3+1)) (fun F w x cs h=>by
      have:=StV.more h D3 d3
      have e:d+(d3+1)=d+d3+1:=by omega
      rw [e] at this
      exact this))
     have HOU:=zhi (fun b hb=>(HGR2.out.own.lt b hb).2)
     have HP3:=zhi hp3
     have HG3:=zhi (HG2.out.trans hg3)
     have HL3:=zhi hl3
     clear hv3 hp3 hg3 hl3 HX2 HGR2 HG2
     go_wp2_with (at_builtin; refine z0d.out ?_)
     refine z0d.of (z3q (k:=6) (T:=90) (S:=63) (V:=MSt (D+D3) (d+d3+1)) w3 rfl (.tmp 16) (.tmp 19) rfl (z1m _ _) _ _ Tryz.underlying63 z71 rfl (by decide) (by decide) w.heap.size (.slice A xs.length c) xs L t [.int .i64 k3,.int .i64 l3,.string t3,.slice eA en ec,.slice tA tn tc,.slice uA un uc] (fun q=>w2.heap.size≤q∧q<w3.heap.size) rfl rfl HGR3.out hxs (by omega) rfl (by simp [Value.oneCell']) HV3.out (fun b hb=>⟨by omega,hb.2,fun e=>by have:=HOU.out b e; omega⟩) ?_)
     intro g9 cap9 wz harz hgz
     have hbz:Below w.heap.size w3 wz:=z0e hgz (fun k hk=>(HGR3.out.own.lt k hk).1) (by omega)
     have HST2:Hid (BlkR S p tb ((z0a [123] s).rest.length+1) ts s s' w (.slice (some ⟨g9,0,none⟩) (xs.length+1) cap9) wz):=zhi ⟨m,xs++[t],s1,_,_,_,_,D+D3,d+d3+1,rfl,by simp,by have:=HN.out; simp; omega,HST.out,harz,HP3.out.low hbz plt tlt,z1a HG3.out hbz (Nat.le_refl _),by have:=HL3.out; have:=Hl.out; omega⟩
     have HNN:=zhi (show (z0a [123] s).rest.length+1 - (xs.length+1)<(z0a [123] s).rest.length+1 - xs.length by have:=HN.out; omega)
     clear harz hgz hbz HOU HL3 HP3 HGR3 HV3 HST
     go_wp2_with fail
     exact ⟨HST2.out,by simpa [z4M] using HNN.out⟩
end Go.Proofs.YtjpojmigghbnpaaGreatDoor
namespace Go.Proofs.YtjpojmigghbnpaaGreatDoor
open Go.RowKit
theorem z3h {k line:Int} {nm:ByteArray} {V:R1} {s s':RS} {x:St} (h:oneR k line nm V s=some (x,s')):∃ y s1,V s=some (y,s1)∧x=.mk k line nm [y] [] []∧s'=s1:=by
 unfold oneR at h
 cases hq:V s with
 | none=>rw [hq] at h; cases h
 | some q =>
  obtain ⟨y,s1⟩:=q
  rw [hq] at h
  injection h with h
  injection h with e1 e2
  exact ⟨y,s1,rfl,e1.symm,e2.symm⟩
theorem zbG {p tb:Nat} {s:RS} {w w1:World} {ln:Int} (h:RA w1 p tb s) (hb:Below (w.alloc z2C).heap.size (w.alloc z2C) w1):StU p tb w1.heap.size s (.mk 0 ln ⟨#[]⟩ [] [] []) w (w1.alloc (.cells #[.int .i64 0,.int .i64 ln,.string ⟨#[]⟩,.slice none 0 0,.slice none 0 0,.slice none 0 0] 90)):=by
 have hs:=hb.size
 simp at hs
 have hba:=(Below.refl _ w1).alloc (Nat.le_refl _) (.cells #[.int .i64 0,.int .i64 ln,.string ⟨#[]⟩,.slice none 0 0,.slice none 0 0,.slice none 0 0] 90)
 have hb0:=(Below.refl _ w).alloc (Nat.le_refl _) z2C
 exact ⟨h.alloc _,(z01 (hb0.trans (hb.mono (by simp))) (some p)).trans (z01 hba _),(hba.block _ (by omega)).trans ((hb.block _ (by simp)).trans (heap_alloc_new w z2C)),by omega,0,1,0,ln,⟨#[]⟩,none,0,0,none,0,0,none,0,0,heap_alloc_new _ _,none,0,none,0,none,0,rfl,⟨Nat.le_refl _,fun i x hi=>by simp at hi⟩,⟨Nat.le_refl _,fun i x hi=>by simp at hi⟩,⟨Nat.le_refl _,fun i x hi=>by simp at hi⟩⟩
def z7A (F:Nat→Prop) (w:World) (d:Nat) (es:List Ex) (L:List Value):Prop:=L.length=es.length * 6∧∀ (j:Nat) (x:Ex),es[j]?=some x→∃ c0 c1 c2 c3 c4 c5,L[j * 6]?=some c0∧L[j * 6+1]?=some c1∧L[j * 6+2]?=some c2∧L[j * 6+3]?=some c3∧L[j * 6+4]?=some c4∧L[j * 6+5]?=some c5∧ExV F w d x (.agg #[c0,c1,c2,c3,c4,c5])
theorem zbe {F:Nat→Prop} {w:World}:z7A F w 0 [] []:=⟨rfl,fun j x h=>by simp at h⟩
theorem z2r {F:Nat→Prop} {w:World} {d:Nat} {x:Ex} {c0 c1 c2 c3 c4 c5:Value} (h:ExV F w d x (.agg #[c0,c1,c2,c3,c4,c5])):z7A F w d [x] [c0,c1,c2,c3,c4,c5]:=⟨rfl,fun j y hj=>by
 match j,hj with
 | 0,hj=>cases hj; exact ⟨c0,c1,c2,c3,c4,c5,rfl,rfl,rfl,rfl,rfl,rfl,h⟩
 | j+1,hj=>simp at hj⟩
theorem z7A.keep {F G:Nat→Prop} {w w':World} {d:Nat} {es:List Ex} {L:List Value} (hFG:∀ k,F k→G k) (hk:∀ k,F k→w'.heap[k]?=w.heap[k]?) (h:z7A F w d es L):z7A G w' d es L :=
 ⟨h.1,fun j x hj=>by
  obtain ⟨c0,c1,c2,c3,c4,c5,e0,e1,e2,e3,e4,e5,hx⟩:=h.2 j x hj
  exact ⟨c0,c1,c2,c3,c4,c5,e0,e1,e2,e3,e4,e5,hx.keep hFG hk⟩⟩
theorem z8G {F:Nat→Prop} {base d d' m c:Nat} {w w':World} {es:List Ex} {L:List Value} {y:Ex} {A:Option Addr} {e0 e1 e2 e3 e4 e5:Value} (h:z7A F w d es L) (hy:ExV F w d' y (.agg #[e0,e1,e2,e3,e4,e5])) (hF:∀ q,F q→q<w.heap.size) (hw:Below w.heap.size w w') (own:w'.ownsRow base 42 6 (.slice A m c) m (L++[e0,e1,e2,e3,e4,e5])) (hm:m=(es++[y]).length) :
  RowE (fun q=>F q∨base≤q∧q<w'.heap.size) w' (d+d') (es++[y]) A c:=by
 refine zbq own hm ?_ (fun b h1 h2=>.inr ⟨h1,h2⟩)
 intro j x hj
 have hL:=h.1
 rcases Nat.lt_or_ge j es.length with hlt | hge
 ·rw [List.getElem?_append_left hlt] at hj
  obtain ⟨d0,d1,d2,d3,d4,d5,q0,q1,q2,q3,q4,q5,hx⟩:=h.2 j x hj
  have hl:∀ k u,L[k]?=some u→(L++[e0,e1,e2,e3,e4,e5])[k]?=some u:=fun k u hk=>by
   have hk2:k<L.length:=by
    rcases Nat.lt_or_ge k L.length with h' | h'
    ·exact h'
    ·rw [List.getElem?_eq_none h'] at hk; cases hk
   rw [List.getElem?_append_left hk2]; exact hk
  exact ⟨d0,d1,d2,d3,d4,d5,hl _ _ q0,hl _ _ q1,hl _ _ q2,hl _ _ q3,hl _ _ q4,hl _ _ q5,(hx.mono d').keep (fun q hq=>.inl hq) (fun q hq=>hw.block q (hF q hq))⟩
 ·have hjx:j=es.length:=by
   rcases Nat.lt_or_ge es.length j with h' | h'
   ·rw [List.getElem?_eq_none (by simp; omega)] at hj; cases hj
   ·omega
  subst hjx
  simp at hj
  subst hj
  have hr:∀ k,(L++[e0,e1,e2,e3,e4,e5])[es.length * 6+k]?=[e0,e1,e2,e3,e4,e5][k]?:=fun k=>by
   rw [List.getElem?_append_right (by omega)]
   congr 1
   omega
  have hy2:=hy.mono d
  rw [Nat.add_comm d' d] at hy2
  exact ⟨e0,e1,e2,e3,e4,e5,hr 0,hr 1,hr 2,hr 3,hr 4,hr 5,hy2.keep (fun q hq=>.inl hq) (fun q hq=>hw.block q (hF q hq))⟩
set_option maxRecDepth 10000 in
theorem z5R {ops:Array Oper} {o:Oper} {a:Act} {K:Act→World→Prop} {Q:Exit→Act→World→Prop} {E:Prop} (w:World) (hgd:o.guard=none) (s x:Operand)
  (ho:o.op=.call { callee:=.builtin .append,args:=#[s,x],argTypes:=#[40,40] }) (EA:Option Addr) (EN:Nat) (L:List Value) (k o' a' l':Int) (t:ByteArray) (A:Option Addr) (n c:Nat)
  (hs:a.eval s=.slice EA EN EN) (hx:a.eval x=.slice (some ⟨w.heap.size,0,none⟩) 1 1) (hnone:EA=none→EN=0) (hn:EN≤1) (hL:L.length=EN * 6) (holds:∀ b,EA=some b→∀ j u,L[j]?=some u→w.cell? (b.add j)=some u)
  (hk:∀ A' m' c' w',m'=EN+1→w'.ownsRow w.heap.size 42 6 (.slice A' m' c') m' (L++[.int .i64 k,.int .i64 o',.int .i64 a',.int .i64 l',.string t,.slice A n c])→Below w.heap.size w w'→K (a.put o.dst (.slice A' m' c')) w') :
  if Region.wanted o (yielded ops a.tmps)=true then Oper.wp Tryz.prog o a (w.alloc (.cells #[.int .i64 k,.int .i64 o',.int .i64 a',.int .i64 l',.string t,.slice A n c] 42)) K Q else E:=by
 obtain ⟨i,hi,hz,hsz,hby⟩:=info_parts z3v
 have hb:=(Below.refl _ w).alloc (Nat.le_refl _) (.cells #[.int .i64 k,.int .i64 o',.int .i64 a',.int .i64 l',.string t,.slice A n c] 42)
 refine step_append_grows hgd s x 40 ho 42 i _ 6 72 Tryz.underlying40 hi hz hsz hby rfl (by decide) EA EN EN L hs (fun h=>⟨hnone h,hnone h⟩) hL (fun b hb' j u hu=>hold hb (holds b hb' j u hu)) ⟨w.heap.size,0,none⟩ 1 1 [.int .i64 k,.int .i64 o',.int .i64 a',.int .i64 l',.string t,.slice A n c] hx rfl ?_ ?_ (by omega) (by unfold maxLen; omega) (by omega) fun v' w' h1 h2=>?_
 ·intro j u hu
  rw [Addr.add_lit,Nat.zero_add]
  exact (cell_of_row _ _ _ _ _ _ (heap_alloc_new w _)).trans (by simpa using hu)
 ·intro u hu
  simp at hu
  rcases hu with rfl | rfl | rfl | rfl | rfl | rfl <;> rfl
 ·obtain ⟨A',c',rfl⟩:=z1i h1
  exact hk A' _ c' w' rfl (z8H h1 (by simp)) (hb.trans (z0e h2 (fun k hk=>by cases hk) (by simp)))
theorem z7o {p tb sb:Nat} {s:RS} {x:St} {w wr:World} {v:Value} (h:StU p tb sb s x w wr) (hc:wr.cell? ⟨sb,3,none⟩=some v):∃ v0 v1 v2 v4 v5,wr.heap[sb]?=some (.cells #[v0,v1,v2,v,v4,v5] 90 (0,0)):=by
 obtain ⟨v0,v1,v2,v3,v4,v5,hr⟩:=h.row
 have h3:=(cell_of_row _ _ 3 _ _ _ hr).symm.trans hc
 have e:v3=v:=by simpa using h3
 subst e
 exact ⟨v0,v1,v2,v4,v5,hr⟩
theorem z7I {w w':World} {p j:Nat} {b:Addr} {u:Value} (hg:w.grownBy w' (some p)) (hb:b.block≠p∧b=⟨b.block,0,none⟩) (h:w.cell? (b.add j)=some u):w'.cell? (b.add j)=some u:=by
 rw [hb.2,Addr.add_lit] at h ⊢
 exact z08 hg hb.1 h
theorem zbp {w:World} {g p:Nat} {cs:List Value} {T:TypeId} (hr:w.heap[g]?=some (.cells cs.toArray T (0,0))) (hp:g≠p):∀ b:Addr,some (⟨g,0,none⟩:Addr)=some b→(b.block≠p∧b=⟨b.block,0,none⟩)∧∀ (j:Nat) (u:Value),cs[j]?=some u→w.cell? (b.add j)=some u:=by
 intro b hb
 injection hb with hb
 subst hb
 refine ⟨⟨hp,rfl⟩,fun j u hu=>?_⟩
 rw [Addr.add_lit,Nat.zero_add]
 exact (cell_of_row _ _ _ _ _ _ hr).trans (by simpa using hu)
theorem zcl {B:RSL} {E:R1} {s s':RS} {x:St} {ln:Int} (h:(match E (popR s) with
  | none=>none
  | some (x,s1) =>
   match B s1 with
   | none=>none
   | some (t,s2) =>
    if isR z65 s2 then
     match B (popR s2) with
     | none=>none
     | some (u,s3)=>some (St.mk 4 ln ⟨#[]⟩ [x] t u,s3)
    else some (.mk 4 ln ⟨#[]⟩ [x] t [],s2))=some (x,s')):∃ y s1 ts s2,E (popR s)=some (y,s1)∧B s1=some (ts,s2)∧((isR z65 s2=true∧∃ us,B (popR s2)=some (us,s')∧x=.mk 4 ln ⟨#[]⟩ [y] ts us)∨(isR z65 s2=false∧x=.mk 4 ln ⟨#[]⟩ [y] ts []∧s'=s2)):=by
 cases h1:E (popR s) with
 | none=>rw [h1] at h; cases h
 | some q =>
  obtain ⟨y,s1⟩:=q
  rw [h1] at h
  dsimp only at h
  cases h2:B s1 with
  | none=>rw [h2] at h; cases h
  | some q2 =>
   obtain ⟨ts,s2⟩:=q2
   rw [h2] at h
   dsimp only at h
   cases h3:isR z65 s2 with
   | true =>
    rw [if_pos h3] at h
    cases h4:B (popR s2) with
    | none=>rw [h4] at h; cases h
    | some q4 =>
     obtain ⟨us,s4⟩:=q4
     rw [h4] at h
     injection h with h
     injection h with e1 e2
     subst e2
     exact ⟨y,s1,ts,s2,rfl,h2,.inl ⟨h3,us,h4,e1.symm⟩⟩
   | false =>
    rw [if_neg (by rw [h3]; decide)] at h
    injection h with h
    injection h with e1 e2
    exact ⟨y,s1,ts,s2,rfl,h2,.inr ⟨h3,e1.symm,e2.symm⟩⟩
theorem z8i {B:RSL} {E:R1} {s s':RS} {x:St} {ln:Int} (h:(match E (popR s) with
  | none=>none
  | some (x,s1) =>
   match B s1 with
   | none=>none
   | some (t,s2)=>some (St.mk 5 ln ⟨#[]⟩ [x] t [],s2))=some (x,s')):∃ y s1 ts,E (popR s)=some (y,s1)∧B s1=some (ts,s')∧x=.mk 5 ln ⟨#[]⟩ [y] ts []:=by
 cases h1:E (popR s) with
 | none=>rw [h1] at h; cases h
 | some q =>
  obtain ⟨y,s1⟩:=q
  rw [h1] at h
  dsimp only at h
  cases h2:B s1 with
  | none=>rw [h2] at h; cases h
  | some q2 =>
   obtain ⟨ts,s2⟩:=q2
   rw [h2] at h
   injection h with h
   injection h with e1 e2
   subst e2
   exact ⟨y,s1,ts,rfl,h2,e1.symm⟩
theorem z8g {E:R1} {s1' s':RS} {x:St} {ln:Int} {nm:ByteArray} (h:(match E s1' with
  | none=>none
  | some (x,s1) =>
   match z1R E (z0a [61] (z0a [93] s1)) with
   | none=>none
   | some (y,s2)=>some (St.mk 3 ln nm [x,y] [] [],s2))=some (x,s')):∃ y s1 z,E s1'=some (y,s1)∧z1R E (z0a [61] (z0a [93] s1))=some (z,s')∧x=.mk 3 ln nm [y,z] [] []:=by
 cases h1:E s1' with
 | none=>rw [h1] at h; cases h
 | some q =>
  obtain ⟨y,s1⟩:=q
  rw [h1] at h
  dsimp only at h
  cases h2:z1R E (z0a [61] (z0a [93] s1)) with
  | none=>rw [h2] at h; cases h
  | some q2 =>
   obtain ⟨z,s2⟩:=q2
   rw [h2] at h
   injection h with h
   injection h with e1 e2
   subst e2
   exact ⟨y,s1,z,rfl,h2,e1.symm⟩
set_option maxRecDepth 100000 in
set_option maxHeartbeats 8000000 in
theorem zeP (B:RSL) (E:R1) (he:SubR 103 E) (hbk:SubB 69 B):SubS 89 (z4r B E):=by
 intro p tb s s' x w h hP
 have HP:=zhi hP
 have HExp:=zhi he
 have HVal:=zhi (zee E he)
 have HBlk:=zhi hbk
 have plt:=h.lt.1
 have tlt:=h.lt.2.1
 have HN:=zhi (z4m (w.alloc (.cells #[.int .i64 0,.int .i64 0,.string { data:=#[] },.slice none 0 0,.slice none 0 0,.slice none 0 0] 90)) (h.alloc _))
 have HA:=zhi (h.alloc (.cells #[.int .i64 0,.int .i64 0,.string { data:=#[] },.slice none 0 0,.slice none 0 0,.slice none 0 0] 90))
 clear he hbk hP h
 go_enter Tryz.func89,Tryz.ntmps89
 go_wp2_with fail
 refine HN.out.mono ?_
 rintro e w1 ⟨rfl,hb1⟩
 unfold z2a
 have hfd:∀ w:World,(Instr.field 83 (.agg #[.int .i64 ((hdR s).kind:Int),.int .i64 ((hdR s).line:Int),.int .i64 ((hdR s).value:Int),.string (nmB (hdR s).text)]) 1).run Tryz.prog w=.ok (.int .i64 ((hdR s).line:Int)) w:=fun _=>by kernel_rfl
 have H0:=zhi (zbG (ln:=((hdR s).line:Int)) (HA.out.below hb1) hb1)
 clear HN hb1 HA
 go_upto_region 8 with fail
 obtain ⟨sb,hsb0⟩:∃ sb,sb=w1.heap.size:=⟨_,rfl⟩
 rw [← hsb0] at H0 ⊢
 obtain ⟨w2,hw2⟩:∃ w2,w2=w1.alloc (.cells #[.int .i64 0,.int .i64 ((hdR s).line:Int),.string ⟨#[]⟩,.slice none 0 0,.slice none 0 0,.slice none 0 0] 90):=⟨_,rfl⟩
 rw [← hw2] at H0 ⊢
 have HC3:=zhi (show w2.cell? ⟨sb,3,none⟩=some (.slice none 0 0) by rw [hw2,hsb0]; exact cell_of_row _ _ 3 _ _ _ (heap_alloc_new w1 _))
 clear hw2 hsb0 hfd
 have H:=H0
 have hP:=HP.out
 unfold z4r at hP
 have HP0:=zhi hP
 clear H0 HP hP
 have HAc:=zhi (z0R varW w2 H.out.ra)
 go_wp2_with fail
 refine HAc.out.mono ?_
 rintro e wa0 ⟨rfl,hpa,hga⟩
 have Hn:=zhi (fun s1 (hpa:RA wa0 p tb s1)=>H.out.step plt hga hpa)
 have hc3:=z08 hga (by have:=H.out.lt; omega) HC3.out
 have HPA:=zhi hpa
 clear hpa hga HAc HC3 H
 have HC3:=zhi hc3
 clear hc3
 cases hv:isR varW s with
 | true =>
  have hpa:=HPA.out
  rw [z0O hv] at hpa
  have H:=zhi (Hn.out _ hpa)
  have hP:=HP0.out
  rw [if_pos hv] at hP
  clear hpa HPA Hn HP0
  obtain ⟨y,s1,hq,rfl,rfl⟩:=z3h hP
  clear hP
  have HK:=zhi (show Calls Tryz.prog 68 #[.pointer (some ⟨p,0,none⟩),.int .i64 1] wa0 (fun e w'=>e=.returned (.agg #[.int .i64 ((z03 1 (popR s)).1.kind:Int),.int .i64 ((z03 1 (popR s)).1.line:Int),.int .i64 ((z03 1 (popR s)).1.value:Int),.string (nmB (z03 1 (popR s)).1.text)])∧RA w' p tb (z03 1 (popR s)).2∧World.grownBy wa0 w' (some p)) from z4u 1 wa0 H.out.ra (by omega))
  have hfd:∀ w:World,(Instr.field 83 (.agg #[.int .i64 ((z03 1 (popR s)).1.kind:Int),.int .i64 ((z03 1 (popR s)).1.line:Int),.int .i64 ((z03 1 (popR s)).1.value:Int),.string (nmB (z03 1 (popR s)).1.text)]) 3).run Tryz.prog w=.ok (.string (nmB (z03 1 (popR s)).1.text)) w:=fun _=>by kernel_rfl
  go_wp2_with fail
  refine HK.out.mono ?_
  rintro e w4 ⟨rfl,hp4,hg4⟩
  have H4:=zhi (H.out.step plt hg4 hp4)
  have hc3:=z08 hg4 (by have:=H.out.lt; omega) HC3.out
  have hsb:=H.out.lt
  clear hp4 hg4 HK H HC3
  obtain ⟨v0,v1,v2,v3,v4,v5,hrowU⟩:=H4.out.row
  obtain ⟨b0,b1,b2,b3,b4,b5⟩:=cl6 hrowU
  have f0:=z0j hrowU 0
  have f1:=z0j hrowU 1
  have f2:=z0j hrowU 2
  have f3:=z0j hrowU 3
  have f4:=z0j hrowU 4
  have f5:=z0j hrowU 5
  clear hrowU
  have H:=zhi ((H4.out.kind plt tlt 1).name plt tlt (nmB (z03 1 (popR s)).1.text))
  have HC3:=zhi (show ((w4.setCell ⟨sb,0,none⟩ (.int .i64 1)).setCell ⟨sb,2,none⟩ (.string (nmB (z03 1 (popR s)).1.text))).cell? ⟨sb,3,none⟩=some (.slice none 0 0) by
   rw [World.cell?_setCell_other _ _ _ _ (fun he=>by simp at he),World.cell?_setCell_other _ _ _ _ (fun he=>by simp at he)]
   exact hc3)
  clear H4 hc3
  have HXe:=zhi (z0D [61] ((w4.setCell ⟨sb,0,none⟩ (.int .i64 1)).setCell ⟨sb,2,none⟩ (.string (nmB (z03 1 (popR s)).1.text))) H.out.ra)
  go_wp2_with fail
  clear b0 b1 b2 b3 b4 b5 f0 f1 f2 f3 f4 f5
  refine HXe.out.mono ?_
  rintro e wq ⟨⟨vewq,rfl⟩,hpe,hge⟩
  clear hfd HC3
  have Hq:=zhi (H.out.step plt hge hpe)
  clear hpe hge HXe H
  have H:=Hq
  clear Hq
  have HXc:=zhi (HVal.out p tb (z0a [61] (z03 1 (popR s)).2) s' y wq H.out.ra hq)
  clear hq
  go_wp2_with fail
  refine HXc.out.mono ?_
  rintro e w5 ⟨d5,k5,o5,a5,l5,t5,A5,n5,c5,rfl,hv5,hp5,hg5,hl5⟩
  have hsb:=H.out.lt
  have hsl:=H.out.slt
  have hsz5:=hg5.size
  have H5:=H.out.step plt hg5 hp5
  have HO5:=zhi (z2r (hv5.keep (G:=fun q=>w.heap.size+1≤q∧q<w5.heap.size∧q≠sb) (fun q hq=>⟨by omega,hq.2,by omega⟩) (fun _ _=>rfl)))
  have HB5:=zhi (heap_alloc_new w5 (.cells #[.int .i64 k5,.int .i64 o5,.int .i64 a5,.int .i64 l5,.string t5,.slice A5 n5 c5] 42))
  have H6:=zhi (H5.alloc plt (.cells #[.int .i64 k5,.int .i64 o5,.int .i64 a5,.int .i64 l5,.string t5,.slice A5 n5 c5] 42))
  have HR6:=zhi (z3j (lo:=w.heap.size+1) (sb:=sb) (T:=42) (hv5.keep (G:=fun q=>w.heap.size+1≤q∧q<w5.heap.size∧q≠sb) (fun q hq=>⟨by omega,hq.2,by omega⟩) (fun _ _=>rfl)) (by omega) (by omega))
  have HL5:=zhi hl5
  clear hv5 hp5 hg5 hl5 HXc H5 H
  obtain ⟨v0,v1,v2,v3,v4,v5,hrowU⟩:=H6.out.row
  obtain ⟨b0,b1,b2,b3,b4,b5⟩:=cl6 hrowU
  have f0:=z0j hrowU 0
  have f1:=z0j hrowU 1
  have f2:=z0j hrowU 2
  have f3:=z0j hrowU 3
  have f4:=z0j hrowU 4
  have f5:=z0j hrowU 5
  clear hrowU
  have H:=zhi (H6.out.exprs (m:=1) plt tlt HR6.out rfl)
  clear H6 HR6
  have HL:=zhi (show s'.rest.length≤s.rest.length by
   have h1:=HL5.out
   have h2:=z0m [61] (z03 1 (popR s)).2
   have h3:=z0H 1 (popR s)
   rw [z0o] at h3
   omega)
  clear HO5 HB5
  go_upto_region 26 with fail
  clear b0 b1 b2 b3 b4 b5 f0 f1 f2 f3 f4 f5
  obtain ⟨wz,hwz⟩:∃ wz,wz=((w5.alloc (.cells #[.int .i64 k5,.int .i64 o5,.int .i64 a5,.int .i64 l5,.string t5,.slice A5 n5 c5] 42)).setCell ⟨sb,3,none⟩ (.slice (some ⟨w5.heap.size,0,none⟩) 1 1)):=⟨_,rfl⟩
  rw [← hwz] at H ⊢
  clear hwz
  obtain ⟨D9,d9,k9,l9,t9,eA9,en9,ec9,tA9,tn9,tc9,uA9,un9,uc9,hr9,hv9⟩:=H.out.at_
  obtain ⟨b0,b1,b2,b3,b4,b5⟩:=cl6 hr9
  have HV9:=zhi hv9
  clear hr9 hv9
  go_wp2_with (with_reducible refine z14 ?_)
  refine z0d.of (z00 _ rfl _ _ _ rfl w.heap.size _ rfl (by rfl) _ _ H.out.z (by kernel_rfl) (by rfl) (by simp [Value.oneCell']) ?_)
  intro w9 hrow9 hg9
  obtain ⟨j0,j1,j2,j3,j4,j5⟩:=cl6 hrow9
  have HH:=zhi (z32 HV9.out H.out HL.out plt tlt hg9)
  clear hrow9 hg9 b0 b1 b2 b3 b4 b5
  go_wp2_with fail
  exact bodyPost_ret (by simp [results,Tryz.results89,go_sem,j0,j1,j2,j3,j4,j5]) rfl HH.out
 | false =>
  have hpa:=HPA.out
  rw [z18 hv] at hpa
  have H:=zhi (Hn.out _ hpa)
  have hP:=HP0.out
  rw [if_neg (by rw [hv]; decide)] at hP
  have HP1:=zhi hP
  clear hpa HPA Hn HP0 hP
  have HAc:=zhi (z0R ifW wa0 H.out.ra)
  go_wp2_with fail
  refine HAc.out.mono ?_
  rintro e wa1 ⟨rfl,hpa,hga⟩
  have Hn:=zhi (fun s1 (hpa:RA wa1 p tb s1)=>H.out.step plt hga hpa)
  have hc3:=z08 hga (by have:=H.out.lt; omega) HC3.out
  have HPA:=zhi hpa
  clear hpa hga HAc HC3 H
  have HC3:=zhi hc3
  clear hc3
  cases hv:isR ifW s with
  | true =>
   have hpa:=HPA.out
   rw [z0O hv] at hpa
   have H:=zhi (Hn.out _ hpa)
   have hP:=HP1.out
   rw [if_pos hv] at hP
   clear hpa HPA Hn HP1
   obtain ⟨y,s1,ts,s2,hq,hb,hcase⟩:=zcl hP
   clear hP
   have HXc:=zhi (HExp.out p tb (popR s) s1 y wa1 H.out.ra hq)
   clear hq
   go_wp2_with fail
   refine HXc.out.mono ?_
   rintro e w5 ⟨d5,k5,o5,a5,l5,t5,A5,n5,c5,rfl,hv5,hp5,hg5,hl5⟩
   have hsb:=H.out.lt
   have hsl:=H.out.slt
   have hsz5:=hg5.size
   have H5:=H.out.step plt hg5 hp5
   have HO5:=zhi (z2r (hv5.keep (G:=fun q=>w.heap.size+1≤q∧q<w5.heap.size∧q≠sb) (fun q hq=>⟨by omega,hq.2,by omega⟩) (fun _ _=>rfl)))
   have HB5:=zhi (heap_alloc_new w5 (.cells #[.int .i64 k5,.int .i64 o5,.int .i64 a5,.int .i64 l5,.string t5,.slice A5 n5 c5] 42))
   have H6:=zhi (H5.alloc plt (.cells #[.int .i64 k5,.int .i64 o5,.int .i64 a5,.int .i64 l5,.string t5,.slice A5 n5 c5] 42))
   have HR6:=zhi (z3j (lo:=w.heap.size+1) (sb:=sb) (T:=42) (hv5.keep (G:=fun q=>w.heap.size+1≤q∧q<w5.heap.size∧q≠sb) (fun q hq=>⟨by omega,hq.2,by omega⟩) (fun _ _=>rfl)) (by omega) (by omega))
   have HL5:=zhi hl5
   clear hv5 hp5 hg5 hl5 HXc H5 H
   obtain ⟨v0,v1,v2,v3,v4,v5,hrowU⟩:=H6.out.row
   obtain ⟨b0,b1,b2,b3,b4,b5⟩:=cl6 hrowU
   have f0:=z0j hrowU 0
   have f1:=z0j hrowU 1
   have f2:=z0j hrowU 2
   have f3:=z0j hrowU 3
   have f4:=z0j hrowU 4
   have f5:=z0j hrowU 5
   clear hrowU
   have H:=zhi ((H6.out.kind plt tlt 4).exprs (m:=1) plt tlt (HR6.out.keep (z27 _ _ 0 _ _).1 (z27 _ _ 0 _ _).2) rfl)
   clear H6 HR6
   clear HO5 HB5
   have HBc:=zhi (HBlk.out p tb s1 s2 ts (((w5.alloc (.cells #[.int .i64 k5,.int .i64 o5,.int .i64 a5,.int .i64 l5,.string t5,.slice A5 n5 c5] 42)).setCell ⟨sb,0,none⟩ (.int .i64 4)).setCell ⟨sb,3,none⟩ (.slice (some ⟨w5.heap.size,0,none⟩) 1 1)) H.out.ra hb)
   clear hb
   go_wp2_with fail
   clear b0 b1 b2 b3 b4 b5 f0 f1 f2 f3 f4 f5
   refine HBc.out.mono ?_
   rintro e wb ⟨Db,db,Ab,mb,cb,rfl,hmb,hrb,hpb,hgb,hlb⟩
   have hsb:=H.out.lt
   have hsl:=H.out.slt
   have Hb:=zhi (H.out.step plt hgb hpb)
   have HRb:=zhi (RowS.keep (G:=FF (w.heap.size+1) sb wb) (fun q hq=>⟨by omega,hq.2,by omega⟩) (fun _ _=>rfl) hrb)
   have HMb:=zhi hmb
   have HLb:=zhi hlb
   clear hmb hrb hpb hgb hlb HBc H
   obtain ⟨v0,v1,v2,v3,v4,v5,hrowU⟩:=Hb.out.row
   obtain ⟨b0,b1,b2,b3,b4,b5⟩:=cl6 hrowU
   have f0:=z0j hrowU 0
   have f1:=z0j hrowU 1
   have f2:=z0j hrowU 2
   have f3:=z0j hrowU 3
   have f4:=z0j hrowU 4
   have f5:=z0j hrowU 5
   clear hrowU
   have H:=zhi (Hb.out.thens plt tlt HRb.out HMb.out)
   clear Hb HRb HMb
   have HAc:=zhi (z0R z65 (wb.setCell ⟨sb,4,none⟩ (.slice Ab mb cb)) H.out.ra)
   go_wp2_with fail
   clear b0 b1 b2 b3 b4 b5 f0 f1 f2 f3 f4 f5
   refine HAc.out.mono ?_
   rintro e we ⟨rfl,hpa,hga⟩
   rcases hcase with ⟨hv2,us,hb,rfl⟩ | ⟨hv2,rfl,rfl⟩
   ·rw [z0O hv2] at hpa
    have Hq:=zhi (H.out.step plt hga hpa)
    clear hpa hga HAc H
    have H:=Hq
    clear Hq
    have HBc:=zhi (HBlk.out p tb (popR s2) s' us we H.out.ra hb)
    clear hb
    go_wp2_with fail
    refine HBc.out.mono ?_
    rintro e wf ⟨Db2,db2,Ab2,mb2,cb2,rfl,hmb2,hrb2,hpb2,hgb2,hlb2⟩
    have hsb:=H.out.lt
    have hsl:=H.out.slt
    have Hb2:=zhi (H.out.step plt hgb2 hpb2)
    have HRb2:=zhi (RowS.keep (G:=FF (w.heap.size+1) sb wf) (fun q hq=>⟨by omega,hq.2,by omega⟩) (fun _ _=>rfl) hrb2)
    have HMb2:=zhi hmb2
    have HLb2:=zhi hlb2
    clear hmb2 hrb2 hpb2 hgb2 hlb2 HBc H
    obtain ⟨v0,v1,v2,v3,v4,v5,hrowU⟩:=Hb2.out.row
    obtain ⟨b0,b1,b2,b3,b4,b5⟩:=cl6 hrowU
    have f0:=z0j hrowU 0
    have f1:=z0j hrowU 1
    have f2:=z0j hrowU 2
    have f3:=z0j hrowU 3
    have f4:=z0j hrowU 4
    have f5:=z0j hrowU 5
    clear hrowU
    have H:=zhi (Hb2.out.elses plt tlt HRb2.out HMb2.out)
    clear Hb2 HRb2 HMb2
    have HL:=zhi (show s'.rest.length≤s.rest.length by
     have h1:=HL5.out
     have h2:=HLb.out
     have h3:=HLb2.out
     rw [z0o] at h1 h3
     omega)
    go_upto_region 26 with fail
    clear b0 b1 b2 b3 b4 b5 f0 f1 f2 f3 f4 f5
    obtain ⟨wz,hwz⟩:∃ wz,wz=(wf.setCell ⟨sb,5,none⟩ (.slice Ab2 mb2 cb2)):=⟨_,rfl⟩
    rw [← hwz] at H ⊢
    clear hwz
    obtain ⟨D9,d9,k9,l9,t9,eA9,en9,ec9,tA9,tn9,tc9,uA9,un9,uc9,hr9,hv9⟩:=H.out.at_
    obtain ⟨b0,b1,b2,b3,b4,b5⟩:=cl6 hr9
    have HV9:=zhi hv9
    clear hr9 hv9
    go_wp2_with (with_reducible refine z14 ?_)
    refine z0d.of (z00 _ rfl _ _ _ rfl w.heap.size _ rfl (by rfl) _ _ H.out.z (by kernel_rfl) (by rfl) (by simp [Value.oneCell']) ?_)
    intro w9 hrow9 hg9
    obtain ⟨j0,j1,j2,j3,j4,j5⟩:=cl6 hrow9
    have HH:=zhi (z32 HV9.out H.out HL.out plt tlt hg9)
    clear hrow9 hg9 b0 b1 b2 b3 b4 b5
    go_wp2_with fail
    exact bodyPost_ret (by simp [results,Tryz.results89,go_sem,j0,j1,j2,j3,j4,j5]) rfl HH.out
   ·rw [z18 hv2] at hpa
    have Hq:=zhi (H.out.step plt hga hpa)
    clear hpa hga HAc H
    have H:=Hq
    clear Hq
    have HL:=zhi (show s'.rest.length≤s.rest.length by
     have h1:=HL5.out
     have h2:=HLb.out
     rw [z0o] at h1
     omega)
    go_upto_region 26 with fail
    obtain ⟨wz,hwz⟩:∃ wz,wz=we:=⟨_,rfl⟩
    rw [← hwz] at H ⊢
    clear hwz
    obtain ⟨D9,d9,k9,l9,t9,eA9,en9,ec9,tA9,tn9,tc9,uA9,un9,uc9,hr9,hv9⟩:=H.out.at_
    obtain ⟨b0,b1,b2,b3,b4,b5⟩:=cl6 hr9
    have HV9:=zhi hv9
    clear hr9 hv9
    go_wp2_with (with_reducible refine z14 ?_)
    refine z0d.of (z00 _ rfl _ _ _ rfl w.heap.size _ rfl (by rfl) _ _ H.out.z (by kernel_rfl) (by rfl) (by simp [Value.oneCell']) ?_)
    intro w9 hrow9 hg9
    obtain ⟨j0,j1,j2,j3,j4,j5⟩:=cl6 hrow9
    have HH:=zhi (z32 HV9.out H.out HL.out plt tlt hg9)
    clear hrow9 hg9 b0 b1 b2 b3 b4 b5
    go_wp2_with fail
    exact bodyPost_ret (by simp [results,Tryz.results89,go_sem,j0,j1,j2,j3,j4,j5]) rfl HH.out
  | false =>
   have hpa:=HPA.out
   rw [z18 hv] at hpa
   have H:=zhi (Hn.out _ hpa)
   have hP:=HP1.out
   rw [if_neg (by rw [hv]; decide)] at hP
   have HP2:=zhi hP
   clear hpa HPA Hn HP1 hP
   have HAc:=zhi (z0R z5W wa1 H.out.ra)
   go_wp2_with fail
   refine HAc.out.mono ?_
   rintro e wa2 ⟨rfl,hpa,hga⟩
   have Hn:=zhi (fun s1 (hpa:RA wa2 p tb s1)=>H.out.step plt hga hpa)
   have hc3:=z08 hga (by have:=H.out.lt; omega) HC3.out
   have HPA:=zhi hpa
   clear hpa hga HAc HC3 H
   have HC3:=zhi hc3
   clear hc3
   cases hv:isR z5W s with
   | true =>
    have hpa:=HPA.out
    rw [z0O hv] at hpa
    have H:=zhi (Hn.out _ hpa)
    have hP:=HP2.out
    rw [if_pos hv] at hP
    clear hpa HPA Hn HP2
    obtain ⟨y,s1,ts,hq,hb,rfl⟩:=z8i hP
    clear hP
    have HXc:=zhi (HExp.out p tb (popR s) s1 y wa2 H.out.ra hq)
    clear hq
    go_wp2_with fail
    refine HXc.out.mono ?_
    rintro e w5 ⟨d5,k5,o5,a5,l5,t5,A5,n5,c5,rfl,hv5,hp5,hg5,hl5⟩
    have hsb:=H.out.lt
    have hsl:=H.out.slt
    have hsz5:=hg5.size
    have H5:=H.out.step plt hg5 hp5
    have HO5:=zhi (z2r (hv5.keep (G:=fun q=>w.heap.size+1≤q∧q<w5.heap.size∧q≠sb) (fun q hq=>⟨by omega,hq.2,by omega⟩) (fun _ _=>rfl)))
    have HB5:=zhi (heap_alloc_new w5 (.cells #[.int .i64 k5,.int .i64 o5,.int .i64 a5,.int .i64 l5,.string t5,.slice A5 n5 c5] 42))
    have H6:=zhi (H5.alloc plt (.cells #[.int .i64 k5,.int .i64 o5,.int .i64 a5,.int .i64 l5,.string t5,.slice A5 n5 c5] 42))
    have HR6:=zhi (z3j (lo:=w.heap.size+1) (sb:=sb) (T:=42) (hv5.keep (G:=fun q=>w.heap.size+1≤q∧q<w5.heap.size∧q≠sb) (fun q hq=>⟨by omega,hq.2,by omega⟩) (fun _ _=>rfl)) (by omega) (by omega))
    have HL5:=zhi hl5
    clear hv5 hp5 hg5 hl5 HXc H5 H
    obtain ⟨v0,v1,v2,v3,v4,v5,hrowU⟩:=H6.out.row
    obtain ⟨b0,b1,b2,b3,b4,b5⟩:=cl6 hrowU
    have f0:=z0j hrowU 0
    have f1:=z0j hrowU 1
    have f2:=z0j hrowU 2
    have f3:=z0j hrowU 3
    have f4:=z0j hrowU 4
    have f5:=z0j hrowU 5
    clear hrowU
    have H:=zhi ((H6.out.kind plt tlt 5).exprs (m:=1) plt tlt (HR6.out.keep (z27 _ _ 0 _ _).1 (z27 _ _ 0 _ _).2) rfl)
    clear H6 HR6
    clear HO5 HB5
    have HBc:=zhi (HBlk.out p tb s1 s' ts (((w5.alloc (.cells #[.int .i64 k5,.int .i64 o5,.int .i64 a5,.int .i64 l5,.string t5,.slice A5 n5 c5] 42)).setCell ⟨sb,0,none⟩ (.int .i64 5)).setCell ⟨sb,3,none⟩ (.slice (some ⟨w5.heap.size,0,none⟩) 1 1)) H.out.ra hb)
    clear hb
    go_wp2_with fail
    clear b0 b1 b2 b3 b4 b5 f0 f1 f2 f3 f4 f5
    refine HBc.out.mono ?_
    rintro e wb ⟨Db,db,Ab,mb,cb,rfl,hmb,hrb,hpb,hgb,hlb⟩
    have hsb:=H.out.lt
    have hsl:=H.out.slt
    have Hb:=zhi (H.out.step plt hgb hpb)
    have HRb:=zhi (RowS.keep (G:=FF (w.heap.size+1) sb wb) (fun q hq=>⟨by omega,hq.2,by omega⟩) (fun _ _=>rfl) hrb)
    have HMb:=zhi hmb
    have HLb:=zhi hlb
    clear hmb hrb hpb hgb hlb HBc H
    obtain ⟨v0,v1,v2,v3,v4,v5,hrowU⟩:=Hb.out.row
    obtain ⟨b0,b1,b2,b3,b4,b5⟩:=cl6 hrowU
    have f0:=z0j hrowU 0
    have f1:=z0j hrowU 1
    have f2:=z0j hrowU 2
    have f3:=z0j hrowU 3
    have f4:=z0j hrowU 4
    have f5:=z0j hrowU 5
    clear hrowU
    have H:=zhi (Hb.out.thens plt tlt HRb.out HMb.out)
    clear Hb HRb HMb
    have HL:=zhi (show s'.rest.length≤s.rest.length by
     have h1:=HL5.out
     have h2:=HLb.out
     rw [z0o] at h1
     omega)
    go_upto_region 26 with fail
    clear b0 b1 b2 b3 b4 b5 f0 f1 f2 f3 f4 f5
    obtain ⟨wz,hwz⟩:∃ wz,wz=(wb.setCell ⟨sb,4,none⟩ (.slice Ab mb cb)):=⟨_,rfl⟩
    rw [← hwz] at H ⊢
    clear hwz
    obtain ⟨D9,d9,k9,l9,t9,eA9,en9,ec9,tA9,tn9,tc9,uA9,un9,uc9,hr9,hv9⟩:=H.out.at_
    obtain ⟨b0,b1,b2,b3,b4,b5⟩:=cl6 hr9
    have HV9:=zhi hv9
    clear hr9 hv9
    go_wp2_with (with_reducible refine z14 ?_)
    refine z0d.of (z00 _ rfl _ _ _ rfl w.heap.size _ rfl (by rfl) _ _ H.out.z (by kernel_rfl) (by rfl) (by simp [Value.oneCell']) ?_)
    intro w9 hrow9 hg9
    obtain ⟨j0,j1,j2,j3,j4,j5⟩:=cl6 hrow9
    have HH:=zhi (z32 HV9.out H.out HL.out plt tlt hg9)
    clear hrow9 hg9 b0 b1 b2 b3 b4 b5
    go_wp2_with fail
    exact bodyPost_ret (by simp [results,Tryz.results89,go_sem,j0,j1,j2,j3,j4,j5]) rfl HH.out
   | false =>
    have hpa:=HPA.out
    rw [z18 hv] at hpa
    have H:=zhi (Hn.out _ hpa)
    have hP:=HP2.out
    rw [if_neg (by rw [hv]; decide)] at hP
    have HP3:=zhi hP
    clear hpa HPA Hn HP2 hP
    have HAc:=zhi (z0R z4o wa2 H.out.ra)
    go_wp2_with fail
    refine HAc.out.mono ?_
    rintro e wa3 ⟨rfl,hpa,hga⟩
    have Hn:=zhi (fun s1 (hpa:RA wa3 p tb s1)=>H.out.step plt hga hpa)
    have hc3:=z08 hga (by have:=H.out.lt; omega) HC3.out
    have HPA:=zhi hpa
    clear hpa hga HAc HC3 H
    have HC3:=zhi hc3
    clear hc3
    cases hv:isR z4o s with
    | true =>
     have hpa:=HPA.out
     rw [z0O hv] at hpa
     have H:=zhi (Hn.out _ hpa)
     have hP:=HP3.out
     rw [if_pos hv] at hP
     clear hpa HPA Hn HP3
     obtain ⟨y,s1,hq,rfl,rfl⟩:=z3h hP
     clear hP
     have HXc:=zhi (HVal.out p tb (popR s) s' y wa3 H.out.ra hq)
     clear hq
     go_wp2_with fail
     refine HXc.out.mono ?_
     rintro e w5 ⟨d5,k5,o5,a5,l5,t5,A5,n5,c5,rfl,hv5,hp5,hg5,hl5⟩
     have hsb:=H.out.lt
     have hsl:=H.out.slt
     have hsz5:=hg5.size
     have H5:=H.out.step plt hg5 hp5
     have HO5:=zhi (z2r (hv5.keep (G:=fun q=>w.heap.size+1≤q∧q<w5.heap.size∧q≠sb) (fun q hq=>⟨by omega,hq.2,by omega⟩) (fun _ _=>rfl)))
     have HB5:=zhi (heap_alloc_new w5 (.cells #[.int .i64 k5,.int .i64 o5,.int .i64 a5,.int .i64 l5,.string t5,.slice A5 n5 c5] 42))
     have H6:=zhi (H5.alloc plt (.cells #[.int .i64 k5,.int .i64 o5,.int .i64 a5,.int .i64 l5,.string t5,.slice A5 n5 c5] 42))
     have HR6:=zhi (z3j (lo:=w.heap.size+1) (sb:=sb) (T:=42) (hv5.keep (G:=fun q=>w.heap.size+1≤q∧q<w5.heap.size∧q≠sb) (fun q hq=>⟨by omega,hq.2,by omega⟩) (fun _ _=>rfl)) (by omega) (by omega))
     have HL5:=zhi hl5
     clear hv5 hp5 hg5 hl5 HXc H5 H
     obtain ⟨v0,v1,v2,v3,v4,v5,hrowU⟩:=H6.out.row
     obtain ⟨b0,b1,b2,b3,b4,b5⟩:=cl6 hrowU
     have f0:=z0j hrowU 0
     have f1:=z0j hrowU 1
     have f2:=z0j hrowU 2
     have f3:=z0j hrowU 3
     have f4:=z0j hrowU 4
     have f5:=z0j hrowU 5
     clear hrowU
     have H:=zhi ((H6.out.kind plt tlt 6).exprs (m:=1) plt tlt (HR6.out.keep (z27 _ _ 0 _ _).1 (z27 _ _ 0 _ _).2) rfl)
     clear H6 HR6
     have HL:=zhi (show s'.rest.length≤s.rest.length by have:=HL5.out; rw [z0o] at this; omega)
     clear HO5 HB5
     go_upto_region 26 with fail
     clear b0 b1 b2 b3 b4 b5 f0 f1 f2 f3 f4 f5
     obtain ⟨wz,hwz⟩:∃ wz,wz=(((w5.alloc (.cells #[.int .i64 k5,.int .i64 o5,.int .i64 a5,.int .i64 l5,.string t5,.slice A5 n5 c5] 42)).setCell ⟨sb,0,none⟩ (.int .i64 6)).setCell ⟨sb,3,none⟩ (.slice (some ⟨w5.heap.size,0,none⟩) 1 1)):=⟨_,rfl⟩
     rw [← hwz] at H ⊢
     clear hwz
     obtain ⟨D9,d9,k9,l9,t9,eA9,en9,ec9,tA9,tn9,tc9,uA9,un9,uc9,hr9,hv9⟩:=H.out.at_
     obtain ⟨b0,b1,b2,b3,b4,b5⟩:=cl6 hr9
     have HV9:=zhi hv9
     clear hr9 hv9
     go_wp2_with (with_reducible refine z14 ?_)
     refine z0d.of (z00 _ rfl _ _ _ rfl w.heap.size _ rfl (by rfl) _ _ H.out.z (by kernel_rfl) (by rfl) (by simp [Value.oneCell']) ?_)
     intro w9 hrow9 hg9
     obtain ⟨j0,j1,j2,j3,j4,j5⟩:=cl6 hrow9
     have HH:=zhi (z32 HV9.out H.out HL.out plt tlt hg9)
     clear hrow9 hg9 b0 b1 b2 b3 b4 b5
     go_wp2_with fail
     exact bodyPost_ret (by simp [results,Tryz.results89,go_sem,j0,j1,j2,j3,j4,j5]) rfl HH.out
    | false =>
     have hpa:=HPA.out
     rw [z18 hv] at hpa
     have H:=zhi (Hn.out _ hpa)
     have hP:=HP3.out
     rw [if_neg (by rw [hv]; decide)] at hP
     have HP4:=zhi hP
     clear hpa HPA Hn HP3 hP
     have HAc:=zhi (z0R z5N wa3 H.out.ra)
     go_wp2_with fail
     refine HAc.out.mono ?_
     rintro e wa4 ⟨rfl,hpa,hga⟩
     have Hn:=zhi (fun s1 (hpa:RA wa4 p tb s1)=>H.out.step plt hga hpa)
     have hc3:=z08 hga (by have:=H.out.lt; omega) HC3.out
     have HPA:=zhi hpa
     clear hpa hga HAc HC3 H
     have HC3:=zhi hc3
     clear hc3
     cases hv:isR z5N s with
     | true =>
      have hpa:=HPA.out
      rw [z0O hv] at hpa
      have H:=zhi (Hn.out _ hpa)
      have hP:=HP4.out
      rw [if_pos hv] at hP
      clear hpa HPA Hn HP4
      obtain ⟨y,s1,hq,rfl,rfl⟩:=z3h hP
      clear hP
      have HXc:=zhi (HVal.out p tb (popR s) s' y wa4 H.out.ra hq)
      clear hq
      go_wp2_with fail
      refine HXc.out.mono ?_
      rintro e w5 ⟨d5,k5,o5,a5,l5,t5,A5,n5,c5,rfl,hv5,hp5,hg5,hl5⟩
      have hsb:=H.out.lt
      have hsl:=H.out.slt
      have hsz5:=hg5.size
      have H5:=H.out.step plt hg5 hp5
      have HO5:=zhi (z2r (hv5.keep (G:=fun q=>w.heap.size+1≤q∧q<w5.heap.size∧q≠sb) (fun q hq=>⟨by omega,hq.2,by omega⟩) (fun _ _=>rfl)))
      have HB5:=zhi (heap_alloc_new w5 (.cells #[.int .i64 k5,.int .i64 o5,.int .i64 a5,.int .i64 l5,.string t5,.slice A5 n5 c5] 42))
      have H6:=zhi (H5.alloc plt (.cells #[.int .i64 k5,.int .i64 o5,.int .i64 a5,.int .i64 l5,.string t5,.slice A5 n5 c5] 42))
      have HR6:=zhi (z3j (lo:=w.heap.size+1) (sb:=sb) (T:=42) (hv5.keep (G:=fun q=>w.heap.size+1≤q∧q<w5.heap.size∧q≠sb) (fun q hq=>⟨by omega,hq.2,by omega⟩) (fun _ _=>rfl)) (by omega) (by omega))
      have HL5:=zhi hl5
      clear hv5 hp5 hg5 hl5 HXc H5 H
      obtain ⟨v0,v1,v2,v3,v4,v5,hrowU⟩:=H6.out.row
      obtain ⟨b0,b1,b2,b3,b4,b5⟩:=cl6 hrowU
      have f0:=z0j hrowU 0
      have f1:=z0j hrowU 1
      have f2:=z0j hrowU 2
      have f3:=z0j hrowU 3
      have f4:=z0j hrowU 4
      have f5:=z0j hrowU 5
      clear hrowU
      have H:=zhi ((H6.out.kind plt tlt 7).exprs (m:=1) plt tlt (HR6.out.keep (z27 _ _ 0 _ _).1 (z27 _ _ 0 _ _).2) rfl)
      clear H6 HR6
      have HL:=zhi (show s'.rest.length≤s.rest.length by have:=HL5.out; rw [z0o] at this; omega)
      clear HO5 HB5
      go_upto_region 26 with fail
      clear b0 b1 b2 b3 b4 b5 f0 f1 f2 f3 f4 f5
      obtain ⟨wz,hwz⟩:∃ wz,wz=(((w5.alloc (.cells #[.int .i64 k5,.int .i64 o5,.int .i64 a5,.int .i64 l5,.string t5,.slice A5 n5 c5] 42)).setCell ⟨sb,0,none⟩ (.int .i64 7)).setCell ⟨sb,3,none⟩ (.slice (some ⟨w5.heap.size,0,none⟩) 1 1)):=⟨_,rfl⟩
      rw [← hwz] at H ⊢
      clear hwz
      obtain ⟨D9,d9,k9,l9,t9,eA9,en9,ec9,tA9,tn9,tc9,uA9,un9,uc9,hr9,hv9⟩:=H.out.at_
      obtain ⟨b0,b1,b2,b3,b4,b5⟩:=cl6 hr9
      have HV9:=zhi hv9
      clear hr9 hv9
      go_wp2_with (with_reducible refine z14 ?_)
      refine z0d.of (z00 _ rfl _ _ _ rfl w.heap.size _ rfl (by rfl) _ _ H.out.z (by kernel_rfl) (by rfl) (by simp [Value.oneCell']) ?_)
      intro w9 hrow9 hg9
      obtain ⟨j0,j1,j2,j3,j4,j5⟩:=cl6 hrow9
      have HH:=zhi (z32 HV9.out H.out HL.out plt tlt hg9)
      clear hrow9 hg9 b0 b1 b2 b3 b4 b5
      go_wp2_with fail
      exact bodyPost_ret (by simp [results,Tryz.results89,go_sem,j0,j1,j2,j3,j4,j5]) rfl HH.out
     | false =>
      have hpa:=HPA.out
      rw [z18 hv] at hpa
      have H:=zhi (Hn.out _ hpa)
      have hP:=HP4.out
      rw [if_neg (by rw [hv]; decide)] at hP
      have HP5:=zhi hP
      clear hpa HPA Hn HP4 hP
      have HAc:=zhi (z0R z9b wa4 H.out.ra)
      go_wp2_with fail
      refine HAc.out.mono ?_
      rintro e wa5 ⟨rfl,hpa,hga⟩
      have Hn:=zhi (fun s1 (hpa:RA wa5 p tb s1)=>H.out.step plt hga hpa)
      have hc3:=z08 hga (by have:=H.out.lt; omega) HC3.out
      have HPA:=zhi hpa
      clear hpa hga HAc HC3 H
      have HC3:=zhi hc3
      clear hc3
      cases hv:isR z9b s with
      | true =>
       have hpa:=HPA.out
       rw [z0O hv] at hpa
       have H:=zhi (Hn.out _ hpa)
       have hP:=HP5.out
       rw [if_pos hv] at hP
       clear hpa HPA Hn HP5
       obtain ⟨y,s1,hq,rfl,rfl⟩:=z3h hP
       clear hP
       have HXc:=zhi (HVal.out p tb (popR s) s' y wa5 H.out.ra hq)
       clear hq
       go_wp2_with fail
       refine HXc.out.mono ?_
       rintro e w5 ⟨d5,k5,o5,a5,l5,t5,A5,n5,c5,rfl,hv5,hp5,hg5,hl5⟩
       have hsb:=H.out.lt
       have hsl:=H.out.slt
       have hsz5:=hg5.size
       have H5:=H.out.step plt hg5 hp5
       have HO5:=zhi (z2r (hv5.keep (G:=fun q=>w.heap.size+1≤q∧q<w5.heap.size∧q≠sb) (fun q hq=>⟨by omega,hq.2,by omega⟩) (fun _ _=>rfl)))
       have HB5:=zhi (heap_alloc_new w5 (.cells #[.int .i64 k5,.int .i64 o5,.int .i64 a5,.int .i64 l5,.string t5,.slice A5 n5 c5] 42))
       have H6:=zhi (H5.alloc plt (.cells #[.int .i64 k5,.int .i64 o5,.int .i64 a5,.int .i64 l5,.string t5,.slice A5 n5 c5] 42))
       have HR6:=zhi (z3j (lo:=w.heap.size+1) (sb:=sb) (T:=42) (hv5.keep (G:=fun q=>w.heap.size+1≤q∧q<w5.heap.size∧q≠sb) (fun q hq=>⟨by omega,hq.2,by omega⟩) (fun _ _=>rfl)) (by omega) (by omega))
       have HL5:=zhi hl5
       clear hv5 hp5 hg5 hl5 HXc H5 H
       obtain ⟨v0,v1,v2,v3,v4,v5,hrowU⟩:=H6.out.row
       obtain ⟨b0,b1,b2,b3,b4,b5⟩:=cl6 hrowU
       have f0:=z0j hrowU 0
       have f1:=z0j hrowU 1
       have f2:=z0j hrowU 2
       have f3:=z0j hrowU 3
       have f4:=z0j hrowU 4
       have f5:=z0j hrowU 5
       clear hrowU
       have H:=zhi ((H6.out.kind plt tlt 8).exprs (m:=1) plt tlt (HR6.out.keep (z27 _ _ 0 _ _).1 (z27 _ _ 0 _ _).2) rfl)
       clear H6 HR6
       have HL:=zhi (show s'.rest.length≤s.rest.length by have:=HL5.out; rw [z0o] at this; omega)
       clear HO5 HB5
       go_upto_region 26 with fail
       clear b0 b1 b2 b3 b4 b5 f0 f1 f2 f3 f4 f5
       obtain ⟨wz,hwz⟩:∃ wz,wz=(((w5.alloc (.cells #[.int .i64 k5,.int .i64 o5,.int .i64 a5,.int .i64 l5,.string t5,.slice A5 n5 c5] 42)).setCell ⟨sb,0,none⟩ (.int .i64 8)).setCell ⟨sb,3,none⟩ (.slice (some ⟨w5.heap.size,0,none⟩) 1 1)):=⟨_,rfl⟩
       rw [← hwz] at H ⊢
       clear hwz
       obtain ⟨D9,d9,k9,l9,t9,eA9,en9,ec9,tA9,tn9,tc9,uA9,un9,uc9,hr9,hv9⟩:=H.out.at_
       obtain ⟨b0,b1,b2,b3,b4,b5⟩:=cl6 hr9
       have HV9:=zhi hv9
       clear hr9 hv9
       go_wp2_with (with_reducible refine z14 ?_)
       refine z0d.of (z00 _ rfl _ _ _ rfl w.heap.size _ rfl (by rfl) _ _ H.out.z (by kernel_rfl) (by rfl) (by simp [Value.oneCell']) ?_)
       intro w9 hrow9 hg9
       obtain ⟨j0,j1,j2,j3,j4,j5⟩:=cl6 hrow9
       have HH:=zhi (z32 HV9.out H.out HL.out plt tlt hg9)
       clear hrow9 hg9 b0 b1 b2 b3 b4 b5
       go_wp2_with fail
       exact bodyPost_ret (by simp [results,Tryz.results89,go_sem,j0,j1,j2,j3,j4,j5]) rfl HH.out
      | false =>
       have hpa:=HPA.out
       rw [z18 hv] at hpa
       have H:=zhi (Hn.out _ hpa)
       have hP:=HP5.out
       rw [if_neg (by rw [hv]; decide)] at hP
       have HP6:=zhi hP
       clear hpa HPA Hn HP5 hP
       have HK:=zhi (show Calls Tryz.prog 68 #[.pointer (some ⟨p,0,none⟩),.int .i64 1] wa5 (fun e w'=>e=.returned (.agg #[.int .i64 ((z03 1 s).1.kind:Int),.int .i64 ((z03 1 s).1.line:Int),.int .i64 ((z03 1 s).1.value:Int),.string (nmB (z03 1 s).1.text)])∧RA w' p tb (z03 1 s).2∧World.grownBy wa5 w' (some p)) from z4u 1 wa5 H.out.ra (by omega))
       have hfd:∀ w:World,(Instr.field 83 (.agg #[.int .i64 ((z03 1 s).1.kind:Int),.int .i64 ((z03 1 s).1.line:Int),.int .i64 ((z03 1 s).1.value:Int),.string (nmB (z03 1 s).1.text)]) 3).run Tryz.prog w=.ok (.string (nmB (z03 1 s).1.text)) w:=fun _=>by kernel_rfl
       go_wp2_with fail
       refine HK.out.mono ?_
       rintro e w4 ⟨rfl,hp4,hg4⟩
       have H4:=zhi (H.out.step plt hg4 hp4)
       have hc3:=z08 hg4 (by have:=H.out.lt; omega) HC3.out
       have hsb:=H.out.lt
       clear hp4 hg4 HK H HC3
       obtain ⟨v0,v1,v2,v3,v4,v5,hrowU⟩:=H4.out.row
       obtain ⟨b0,b1,b2,b3,b4,b5⟩:=cl6 hrowU
       have f0:=z0j hrowU 0
       have f1:=z0j hrowU 1
       have f2:=z0j hrowU 2
       have f3:=z0j hrowU 3
       have f4:=z0j hrowU 4
       have f5:=z0j hrowU 5
       clear hrowU
       have H:=zhi ((H4.out.kind plt tlt 2).name plt tlt (nmB (z03 1 s).1.text))
       have HC3:=zhi (show ((w4.setCell ⟨sb,0,none⟩ (.int .i64 2)).setCell ⟨sb,2,none⟩ (.string (nmB (z03 1 s).1.text))).cell? ⟨sb,3,none⟩=some (.slice none 0 0) by
        rw [World.cell?_setCell_other _ _ _ _ (fun he=>by simp at he),World.cell?_setCell_other _ _ _ _ (fun he=>by simp at he)]
        exact hc3)
       clear H4 hc3
       have HAc:=zhi (z0R [91] ((w4.setCell ⟨sb,0,none⟩ (.int .i64 2)).setCell ⟨sb,2,none⟩ (.string (nmB (z03 1 s).1.text))) H.out.ra)
       go_wp2_with fail
       clear b0 b1 b2 b3 b4 b5 f0 f1 f2 f3 f4 f5
       refine HAc.out.mono ?_
       rintro e wk ⟨rfl,hpa,hga⟩
       have hc3:=z08 hga (by have:=H.out.lt; omega) HC3.out
       clear HC3
       clear hfd
       cases hv:isR [91] (z03 1 s).2 with
       | true =>
        have hP:=HP6.out
        rw [if_pos hv] at hP
        rw [z0O hv] at hpa
        have Hq:=zhi (H.out.step plt hga hpa)
        clear hpa hga HAc H
        have H:=Hq
        clear Hq
        obtain ⟨y,s1,z,hq0,hqz,rfl⟩:=z8g hP
        have HQZ:=zhi hqz
        have hq:=hq0
        clear hP hq0 hqz hc3 HP6
        have HXc:=zhi (HExp.out p tb (popR (z03 1 s).2) s1 y wk H.out.ra hq)
        clear hq
        go_wp2_with fail
        refine HXc.out.mono ?_
        rintro e w5 ⟨d5,k5,o5,a5,l5,t5,A5,n5,c5,rfl,hv5,hp5,hg5,hl5⟩
        have hsb:=H.out.lt
        have hsl:=H.out.slt
        have hsz5:=hg5.size
        have H5:=H.out.step plt hg5 hp5
        have HO5:=zhi (z2r (hv5.keep (G:=fun q=>w.heap.size+1≤q∧q<w5.heap.size∧q≠sb) (fun q hq=>⟨by omega,hq.2,by omega⟩) (fun _ _=>rfl)))
        have HB5:=zhi (heap_alloc_new w5 (.cells #[.int .i64 k5,.int .i64 o5,.int .i64 a5,.int .i64 l5,.string t5,.slice A5 n5 c5] 42))
        have H6:=zhi (H5.alloc plt (.cells #[.int .i64 k5,.int .i64 o5,.int .i64 a5,.int .i64 l5,.string t5,.slice A5 n5 c5] 42))
        have HR6:=zhi (z3j (lo:=w.heap.size+1) (sb:=sb) (T:=42) (hv5.keep (G:=fun q=>w.heap.size+1≤q∧q<w5.heap.size∧q≠sb) (fun q hq=>⟨by omega,hq.2,by omega⟩) (fun _ _=>rfl)) (by omega) (by omega))
        have HL5:=zhi hl5
        clear hv5 hp5 hg5 hl5 HXc H5 H
        obtain ⟨v0,v1,v2,v3,v4,v5,hrowU⟩:=H6.out.row
        obtain ⟨b0,b1,b2,b3,b4,b5⟩:=cl6 hrowU
        have f0:=z0j hrowU 0
        have f1:=z0j hrowU 1
        have f2:=z0j hrowU 2
        have f3:=z0j hrowU 3
        have f4:=z0j hrowU 4
        have f5:=z0j hrowU 5
        clear hrowU
        have H:=zhi ((H6.out.kind plt tlt 3).exprs (m:=1) plt tlt (HR6.out.keep (z27 _ _ 0 _ _).1 (z27 _ _ 0 _ _).2) rfl)
        clear H6 HR6
        have HC3:=zhi (show (((w5.alloc (.cells #[.int .i64 k5,.int .i64 o5,.int .i64 a5,.int .i64 l5,.string t5,.slice A5 n5 c5] 42)).setCell ⟨sb,0,none⟩ (.int .i64 3)).setCell ⟨sb,3,none⟩ (.slice (some ⟨w5.heap.size,0,none⟩) 1 1)).cell? ⟨sb,3,none⟩=some (.slice (some ⟨w5.heap.size,0,none⟩) 1 1) from World.cell?_setCell_same _ _ _ (by rw [World.cell?_setCell_other _ _ _ _ (fun he=>by simp at he)]; exact b3))
        have HB8a:=zhi (show (((w5.alloc (.cells #[.int .i64 k5,.int .i64 o5,.int .i64 a5,.int .i64 l5,.string t5,.slice A5 n5 c5] 42)).setCell ⟨sb,0,none⟩ (.int .i64 3)).setCell ⟨sb,3,none⟩ (.slice (some ⟨w5.heap.size,0,none⟩) 1 1)).heap[w5.heap.size]?=some (.cells #[.int .i64 k5,.int .i64 o5,.int .i64 a5,.int .i64 l5,.string t5,.slice A5 n5 c5] 42) from z04 (z06 _ ⟨sb,3,none⟩ _) (by simp; omega) (z04 (z06 _ ⟨sb,0,none⟩ _) (by simp; omega) HB5.out))
        have HO8a:=zhi (show z7A (FF (w.heap.size+1) sb (((w5.alloc (.cells #[.int .i64 k5,.int .i64 o5,.int .i64 a5,.int .i64 l5,.string t5,.slice A5 n5 c5] 42)).setCell ⟨sb,0,none⟩ (.int .i64 3)).setCell ⟨sb,3,none⟩ (.slice (some ⟨w5.heap.size,0,none⟩) 1 1))) (((w5.alloc (.cells #[.int .i64 k5,.int .i64 o5,.int .i64 a5,.int .i64 l5,.string t5,.slice A5 n5 c5] 42)).setCell ⟨sb,0,none⟩ (.int .i64 3)).setCell ⟨sb,3,none⟩ (.slice (some ⟨w5.heap.size,0,none⟩) 1 1)) d5 [y] _ from ((HO5.out.keep (G:=FF (w.heap.size+1) sb (w5.alloc (.cells #[.int .i64 k5,.int .i64 o5,.int .i64 a5,.int .i64 l5,.string t5,.slice A5 n5 c5] 42))) (fun q hq=>⟨hq.1,by simp; have:=hq.2.1; omega,hq.2.2⟩) (fun q hq=>((Below.refl _ w5).alloc (Nat.le_refl _) _).block q hq.2.1)).keep (z27 _ _ 0 _ _).1 (z27 _ _ 0 _ _).2).keep (z27 _ _ 3 _ _).1 (z27 _ _ 3 _ _).2)
        have HSB5:=zhi (show w.heap.size<w5.heap.size by omega)
        clear HO5 HB5
        have HXe:=zhi (z0D [93] (((w5.alloc (.cells #[.int .i64 k5,.int .i64 o5,.int .i64 a5,.int .i64 l5,.string t5,.slice A5 n5 c5] 42)).setCell ⟨sb,0,none⟩ (.int .i64 3)).setCell ⟨sb,3,none⟩ (.slice (some ⟨w5.heap.size,0,none⟩) 1 1)) H.out.ra)
        go_wp2_with fail
        clear b0 b1 b2 b3 b4 b5 f0 f1 f2 f3 f4 f5
        refine HXe.out.mono ?_
        rintro e wx ⟨⟨vewx,rfl⟩,hpe,hge⟩
        have hc3:=z08 hge (by have:=H.out.lt; omega) HC3.out
        have hB8:=z04 hge (by have:=hsz5; have:=H.out.lt; have:=HSB5.out; omega) HB8a.out
        have hO8:=HO8a.out.keep (G:=FF (w.heap.size+1) sb wx) (fun q hq=>⟨hq.1,Nat.lt_of_lt_of_le hq.2.1 hge.size,hq.2.2⟩) (fun q hq=>hge.block q hq.2.1 (fun e=>by injection e with e; have:=hq.1; omega))
        clear HC3 HB8a HO8a
        have HC3:=zhi hc3
        have HB8a:=zhi hB8
        have HO8a:=zhi hO8
        clear hc3 hB8 hO8
        have Hq:=zhi (H.out.step plt hge hpe)
        clear hpe hge HXe H
        have H:=Hq
        clear Hq
        have HXe:=zhi (z0D [61] wx H.out.ra)
        go_wp2_with fail
        refine HXe.out.mono ?_
        rintro e wy ⟨⟨vewy,rfl⟩,hpe,hge⟩
        have hc3:=z08 hge (by have:=H.out.lt; omega) HC3.out
        have hB8:=z04 hge (by have:=hsz5; have:=H.out.lt; have:=HSB5.out; omega) HB8a.out
        have hO8:=HO8a.out.keep (G:=FF (w.heap.size+1) sb wy) (fun q hq=>⟨hq.1,Nat.lt_of_lt_of_le hq.2.1 hge.size,hq.2.2⟩) (fun q hq=>hge.block q hq.2.1 (fun e=>by injection e with e; have:=hq.1; omega))
        clear HC3 HB8a HO8a
        have HC3:=zhi hc3
        have HB8a:=zhi hB8
        have HO8a:=zhi hO8
        clear hc3 hB8 hO8
        have Hq:=zhi (H.out.step plt hge hpe)
        clear hpe hge HXe H
        have H:=Hq
        clear Hq
        have HO:=HO8a
        have HRb:=zhi (zbp HB8a.out (p:=p) (by have:=HSB5.out; omega))
        have hq:=HQZ.out
        clear HO8a HB8a HQZ
        have HVc:=zhi (HVal.out p tb (z0a [61] (z0a [93] s1)) s' z wy.drew H.out.ra.drew hq)
        have hc3:=HC3.out
        have hsb:=H.out.lt
        have hsl:=H.out.slt
        have hszw:=H.out.gr.size
        clear hq
        go_upto_region 7 with fail
        go_region_law
         (first
          | ((with_reducible refine z5R w14 rfl (.tmp 25) (.tmp 28) rfl (some ⟨w5.heap.size,0,none⟩) 1 [.int .i64 k5,.int .i64 o5,.int .i64 a5,.int .i64 l5,.string t5,.slice A5 n5 c5] k6 o6 a6 l6 t6 A6 n6 c6 rfl rfl (fun h=>by cases h) (by omega) rfl HRb6.out ?_); intro A8 m8 c8 w15 hm8 how8 hb8; have hrow8:=((hb8.block sb (by omega)).trans HRow6.out); have q3:=(cell_of_row _ _ 3 _ _ _ hrow8); have g3:=(z0j hrow8 3); have HM8:=zhi hm8; have HOW8:=zhi how8; have HB8:=zhi hb8; clear hm8 how8 hb8 hrow8)
          | (go_simp; go_at_call 102; (with_reducible refine HVc.out.mono ?_); rintro e w14 ⟨d6,k6,o6,a6,l6,t6,A6,n6,c6,rfl,hv6,hp6,hg6,hl6⟩; dsimp only; have hg6':=(z0I hg6); have hc4:=(z08 hg6' (by omega) hc3); have hsl14:sb<w14.heap.size:=(Nat.lt_of_lt_of_le hsl hg6'.size); have hsw14:=hg6'.size; have H14:=zhi (H.out.step plt hg6' hp6); obtain ⟨v0,v1,v2,v4,v5,hrow6⟩:=(z7o H14.out hc4); have HRow6:=zhi hrow6; have HRb6:=zhi (fun (b:Addr) (hb:(some ⟨w5.heap.size,0,none⟩)=some b) (j:Nat) (u:Value) (hu:([.int .i64 k5,.int .i64 o5,.int .i64 a5,.int .i64 l5,.string t5,.slice A5 n5 c5]:List Value)[j]?=some u)=>z7I hg6' ((HRb.out b hb).1) ((HRb.out b hb).2 j u hu)); have HO6:=zhi (HO.out.keep (G:=FF (w.heap.size+1) sb w14) (fun q hq=>⟨hq.1,Nat.lt_of_lt_of_le hq.2.1 hsw14,hq.2.2⟩) (fun q hq=>hg6'.block q hq.2.1 (fun e=>by injection e with e; have:=hq.1; omega))); have HV6:=zhi (hv6.keep (G:=FF (w.heap.size+1) sb w14) (fun q hq=>⟨Nat.le_trans (show w.heap.size+1≤wy.heap.size by omega) hq.1,hq.2,fun e=>absurd hq.1 (Nat.not_le_of_lt (by rw [e]; exact hsl))⟩) (fun _ _=>rfl)); have HL6:=zhi hl6; clear hg6 hg6' hv6 hp6 hl6 hrow6))
        all_goals
         have hh15:=H14.out.step plt (z01 HB8.out _) (H14.out.ra.below HB8.out)
         have hre:=z8G (F:=FF (w.heap.size+1) sb w14) HO6.out HV6.out (fun q hq=>hq.2.1) HB8.out HOW8.out (by rw [HM8.out]; rfl)
         have hsz15:=HB8.out.size
         have H:=zhi (hh15.exprs (m:=m8) plt tlt (hre.keep (G:=FF (w.heap.size+1) sb w15) (fun q hq=>by
          rcases hq with hq | hq
          ·exact ⟨hq.1,Nat.lt_of_lt_of_le hq.2.1 hsz15,hq.2.2⟩
          ·exact ⟨by omega,hq.2,by omega⟩) (fun _ _=>rfl)) (by rw [HM8.out]; rfl))
         have HL:=zhi (show s'.rest.length≤s.rest.length by
          have h1:=HL5.out
          have h2:=z0m [61] (z0a [93] s1)
          have h3:=z0m [93] s1
          have h4:=z0H 1 s
          have h5:=HL6.out
          rw [z0o] at h1
          omega)
         clear hh15 hre
         go_upto_region 26 with fail
         clear q3 g3
         obtain ⟨wz,hwz⟩:∃ wz,wz=(w15.setCell ⟨sb,3,none⟩ (.slice A8 m8 c8)):=⟨_,rfl⟩
         rw [← hwz] at H ⊢
         clear hwz
         obtain ⟨D9,d9,k9,l9,t9,eA9,en9,ec9,tA9,tn9,tc9,uA9,un9,uc9,hr9,hv9⟩:=H.out.at_
         obtain ⟨b0,b1,b2,b3,b4,b5⟩:=cl6 hr9
         have HV9:=zhi hv9
         clear hr9 hv9
         go_wp2_with (with_reducible refine z14 ?_)
         refine z0d.of (z00 _ rfl _ _ _ rfl w.heap.size _ rfl (by rfl) _ _ H.out.z (by kernel_rfl) (by rfl) (by simp [Value.oneCell']) ?_)
         intro w9 hrow9 hg9
         obtain ⟨j0,j1,j2,j3,j4,j5⟩:=cl6 hrow9
         have HH:=zhi (z32 HV9.out H.out HL.out plt tlt hg9)
         clear hrow9 hg9 b0 b1 b2 b3 b4 b5
         go_wp2_with fail
         exact bodyPost_ret (by simp [results,Tryz.results89,go_sem,j0,j1,j2,j3,j4,j5]) rfl HH.out
       | false =>
        have hP:=HP6.out
        rw [if_neg (by rw [hv]; decide)] at hP
        rw [z18 hv] at hpa
        have Hq:=zhi (H.out.step plt hga hpa)
        clear hpa hga HAc H
        have H:=Hq
        clear Hq
        obtain ⟨z,sz,hq0,rfl,hsz⟩:=z3h hP
        have HQZ:=zhi (show z1R E (z0a [61] (z03 1 s).2)=some (z,s') by rw [hsz]; exact hq0)
        have HC3:=zhi hc3
        clear hP hq0 hsz hc3 HP6
        have HXe:=zhi (z0D [61] wk H.out.ra)
        go_wp2_with fail
        refine HXe.out.mono ?_
        rintro e wy ⟨⟨vewy,rfl⟩,hpe,hge⟩
        have hc3:=z08 hge (by have:=H.out.lt; omega) HC3.out
        clear HC3
        have HC3:=zhi hc3
        clear hc3
        have Hq:=zhi (H.out.step plt hge hpe)
        clear hpe hge HXe H
        have H:=Hq
        clear Hq
        have HO:=zhi (zbe (F:=FF (w.heap.size+1) sb wy) (w:=wy))
        have hq:=HQZ.out
        clear HQZ
        have HVc:=zhi (HVal.out p tb (z0a [61] (z03 1 s).2) s' z wy.drew H.out.ra.drew hq)
        have hc3:=HC3.out
        have hsb:=H.out.lt
        have hsl:=H.out.slt
        have hszw:=H.out.gr.size
        clear hq
        go_upto_region 7 with fail
        go_region_law
         (first
          | ((with_reducible refine z5R w14 rfl (.tmp 25) (.tmp 28) rfl none 0 [] k6 o6 a6 l6 t6 A6 n6 c6 rfl rfl (fun _=>rfl) (by omega) rfl (fun b h=>by cases h) ?_); intro A8 m8 c8 w15 hm8 how8 hb8; have hrow8:=((hb8.block sb (by omega)).trans HRow6.out); have q3:=(cell_of_row _ _ 3 _ _ _ hrow8); have g3:=(z0j hrow8 3); have HM8:=zhi hm8; have HOW8:=zhi how8; have HB8:=zhi hb8; clear hm8 how8 hb8 hrow8)
          | (go_simp; go_at_call 102; (with_reducible refine HVc.out.mono ?_); rintro e w14 ⟨d6,k6,o6,a6,l6,t6,A6,n6,c6,rfl,hv6,hp6,hg6,hl6⟩; dsimp only; have hg6':=(z0I hg6); have hc4:=(z08 hg6' (by omega) hc3); have hsl14:sb<w14.heap.size:=(Nat.lt_of_lt_of_le hsl hg6'.size); have hsw14:=hg6'.size; have H14:=zhi (H.out.step plt hg6' hp6); obtain ⟨v0,v1,v2,v4,v5,hrow6⟩:=(z7o H14.out hc4); have HRow6:=zhi hrow6; have HO6:=zhi (HO.out.keep (G:=FF (w.heap.size+1) sb w14) (fun q hq=>⟨hq.1,Nat.lt_of_lt_of_le hq.2.1 hsw14,hq.2.2⟩) (fun q hq=>hg6'.block q hq.2.1 (fun e=>by injection e with e; have:=hq.1; omega))); have HV6:=zhi (hv6.keep (G:=FF (w.heap.size+1) sb w14) (fun q hq=>⟨Nat.le_trans (show w.heap.size+1≤wy.heap.size by omega) hq.1,hq.2,fun e=>absurd hq.1 (Nat.not_le_of_lt (by rw [e]; exact hsl))⟩) (fun _ _=>rfl)); have HL6:=zhi hl6; clear hg6 hg6' hv6 hp6 hl6 hrow6))
        all_goals
         have hh15:=H14.out.step plt (z01 HB8.out _) (H14.out.ra.below HB8.out)
         have hre:=z8G (F:=FF (w.heap.size+1) sb w14) HO6.out HV6.out (fun q hq=>hq.2.1) HB8.out HOW8.out (by rw [HM8.out]; rfl)
         have hsz15:=HB8.out.size
         have H:=zhi (hh15.exprs (m:=m8) plt tlt (hre.keep (G:=FF (w.heap.size+1) sb w15) (fun q hq=>by
          rcases hq with hq | hq
          ·exact ⟨hq.1,Nat.lt_of_lt_of_le hq.2.1 hsz15,hq.2.2⟩
          ·exact ⟨by omega,hq.2,by omega⟩) (fun _ _=>rfl)) (by rw [HM8.out]; rfl))
         have HL:=zhi (show s'.rest.length≤s.rest.length by
          have h2:=z0m [61] (z03 1 s).2
          have h4:=z0H 1 s
          have h5:=HL6.out
          omega)
         clear hh15 hre
         go_upto_region 26 with fail
         clear q3 g3
         obtain ⟨wz,hwz⟩:∃ wz,wz=(w15.setCell ⟨sb,3,none⟩ (.slice A8 m8 c8)):=⟨_,rfl⟩
         rw [← hwz] at H ⊢
         clear hwz
         obtain ⟨D9,d9,k9,l9,t9,eA9,en9,ec9,tA9,tn9,tc9,uA9,un9,uc9,hr9,hv9⟩:=H.out.at_
         obtain ⟨b0,b1,b2,b3,b4,b5⟩:=cl6 hr9
         have HV9:=zhi hv9
         clear hr9 hv9
         go_wp2_with (with_reducible refine z14 ?_)
         refine z0d.of (z00 _ rfl _ _ _ rfl w.heap.size _ rfl (by rfl) _ _ H.out.z (by kernel_rfl) (by rfl) (by simp [Value.oneCell']) ?_)
         intro w9 hrow9 hg9
         obtain ⟨j0,j1,j2,j3,j4,j5⟩:=cl6 hrow9
         have HH:=zhi (z32 HV9.out H.out HL.out plt tlt hg9)
         clear hrow9 hg9 b0 b1 b2 b3 b4 b5
         go_wp2_with fail
         exact bodyPost_ret (by simp [results,Tryz.results89,go_sem,j0,j1,j2,j3,j4,j5]) rfl HH.out
end Go.Proofs.YtjpojmigghbnpaaGreatDoor
