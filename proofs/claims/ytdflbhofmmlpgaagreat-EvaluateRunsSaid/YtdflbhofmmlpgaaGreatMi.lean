/-
  Mi: Yl, RpSrcM, RpStA. Part of the proof. No condition.
-/
import Derived.Test.YtdflbhofmmlpgaaGreatMe
import Derived.Test.YtdflbhofmmlpgaaGreatLf
import Derived.Test.YtdflbhofmmlpgaaGreatKe
set_option maxRecDepth 100000
set_option maxHeartbeats 8000000
namespace Go.Proofs.YtdflbhofmmlpgaaGreat
open Go.RowKit
theorem z6I:∀ {xs:List Ex},(∀ x∈xs,shA x)->shAL xs
 | [],_=>trivial
 | x :: xs,h=>⟨h x (by simp),z6I fun y hy=>h y (by simp [hy])⟩
theorem zdO:∀ (d:Nat) (x:Ex),GE d x->shA x
 | 0,.mk k o a l s xs,h=>by
  obtain ⟨_,_,_,_,_,_,rfl,hk⟩:=h;exact ⟨.inl (by omega),trivial⟩
 | d+1,.mk k o a l s xs,h=>by
  obtain ⟨_,_,_,_,_,_,hk⟩:=h;rcases hk with ⟨rfl,hk⟩ | ⟨hx,hk⟩
  ·exact ⟨.inl (by omega),trivial⟩
  ·exact ⟨by omega,z6I fun x hm=>zdO d x (hx x hm)⟩
section
variable {gl:GlL} {fl:List Fn}
theorem za6 {ls:List Zb}:∀ {xs:List Ex},(∀ x∈xs,szX (rsX gl fl ls x))->szL (rsL gl fl ls xs)
 | [],_=>trivial
 | x :: xs,h=>⟨h x (by simp),za6 fun y hy=>h y (by simp [hy])⟩
theorem zdP (ls:List Zb):∀ (d:Nat) (x:Ex),GE d x->szX (rsX gl fl ls x)
 | 0,.mk k o a l s xs,h=>by
  obtain ⟨_,_,_,_,_,hs,rfl,hk⟩:=h;unfold rsX;split
  ·exact ⟨⟨by omega,by simp⟩,trivial⟩
  ·split
   ·exact ⟨⟨by decide,by simp [rsL]⟩,⟨⟨by omega,by simp⟩,trivial⟩,trivial⟩
   ·exact ⟨⟨by omega,by simp [rsL]⟩,trivial⟩
 | d+1,.mk k o a l s xs,h=>by
  obtain ⟨_,_,_,_,_,hs,hk⟩:=h;have hx:xs.length<=3/\∀ x∈xs,GE d x:=by
   rcases hk with ⟨rfl,hk⟩ | ⟨hx,hk⟩
   ·exact ⟨by simp,fun x hm=>by simp at hm⟩
   ·exact ⟨by omega,hx⟩
  have hr:=za6 (ls:=ls) fun x hm=>zdP ls d x (hx.2 x hm)
  unfold rsX;split
  ·exact ⟨⟨by omega,by simp⟩,trivial⟩
  ·split
   ·exact ⟨⟨by decide,by simp [z11]; omega⟩,⟨⟨by omega,by simp⟩,trivial⟩,hr⟩
   ·exact ⟨⟨by omega,by simp [z11]; omega⟩,hr⟩
theorem zbx {L:List Zb} {s:Zb} (h:z0s gl fl L s=0):s ∉ L:=fun e=>by
 unfold z0s at h;rw [z4X e,if_pos rfl] at h;cases h
def RoK (gl:GlL) (fl:List Fn) (d:Nat):Prop:=∀ (t:St) (L:List Zb),GSt d t->okS gl fl L t->shT t/\szS (rsS gl fl L t)/\fwS (rsS gl fl L t)/\(L.Nodup->(L++vrS t).Nodup)
theorem zay {d:Nat} (hS:RoK gl fl d):∀ (ts:List St) (L:List Zb),(∀ t∈ts,GSt d t)->okB gl fl L ts->shTL ts/\szB (rsB gl fl L ts)/\fwB (rsB gl fl L ts)/\(L.Nodup->(L++vrL ts).Nodup)
 | [],L,_,_=>⟨trivial,trivial,trivial,fun h=>by simpa [vrL] using h⟩
 | t :: ts,L,hg,ho=>by
  obtain ⟨a1,a2,a3,a4⟩:=hS t L (hg t (by simp)) ho.1;obtain ⟨b1,b2,b3,b4⟩:=zay hS ts (L++vrS t) (fun x hx=>hg x (by simp [hx])) ho.2;refine ⟨⟨a1,b1⟩,⟨a2,b2⟩,⟨a3,b3⟩,fun h=>?_⟩;have:=b4 (a4 h);rw [List.append_assoc] at this;exact this
theorem zd8:∀ d:Nat,RoK gl fl d
 | 0=>fun _ _ hg=>hg.elim
 | d+1=>fun t L hg ho=>by
  cases t with
  | mk k l s es ts us =>
   obtain ⟨rfl,hes,hts,hus,hk⟩:=hg;obtain ⟨⟨o1,o2,o3,o4⟩,⟨p1,p2,p3⟩,⟨q1,q2⟩,r1,r2⟩:=ho;obtain ⟨a1,a2,a3,a4⟩:=zay (zd8 d) ts _ hts r1;obtain ⟨b1,b2,b3,b4⟩:=zay (zd8 d) us _ hus r2;have hs:s.size<=16/\1<=es.length/\es.length<=2/\1<=k/\k<=8/\(k=3->2<=es.length):=by
    rcases hk with ⟨h,hn,h2⟩ | ⟨h,hn,h2⟩ | ⟨h,hn,h2⟩ | h | h | h
    ·have:=hn.1; omega
    ·have:=hn.1; omega
    ·have:=hn.1; omega
    ·omega
    ·omega
    ·omega
   refine ⟨⟨⟨hs.2.2.2.1,hs.2.2.2.2.1,hs.2.1,hs.2.2.2.2.2,by omega,by omega⟩,z6I fun x hm=>zdO 2 x (hes x hm),a1,b1⟩,⟨⟨by omega,by rw [z11]; omega,by rw [z1m]; omega,by rw [z1m]; omega⟩,za6 fun x hm=>zdP L 2 x (hes x hm),a2,b2⟩,⟨⟨by rw [z1m]; omega,by rw [z1m]; omega⟩,a3,b3⟩,fun hL=>?_⟩;have hh:(L++hdS k s).Nodup:=by
    unfold hdS;split
    ·rename_i h1;rw [List.nodup_append];refine ⟨hL,by simp,fun a ha b hb e=>?_⟩;simp at hb;subst hb;subst e;exact zbx (p1 h1) ha
    ·simpa using hL
   have:=b4 (a4 hh);have hv:vrS (.mk k 0 s es ts us)=hdS k s++vrL ts++vrL us:=by
    show (if k=1 then [s] else [])++vrL ts++vrL us=_
    unfold hdS;rfl
   rw [hv];simpa [List.append_assoc] using this
end
mutual
theorem zer:∀ (t:St),szS t->∀ s∈vrS t,s.size<=1000
 | .mk k l s es ts us,h,x,hx=>by
  obtain ⟨⟨h1,_⟩,_,h2,h3⟩:=h;have hx':x∈(if k=1 then [s] else [])++vrL ts++vrL us:=hx;rcases q_8.1 hx' with hx' | hx'
  ·rcases q_8.1 hx' with hx' | hx'
   ·split at hx'
    ·simp at hx';subst hx';exact h1
    ·simp at hx'
   ·exact z7A ts h2 x hx'
  ·exact z7A us h3 x hx'
theorem z7A:∀ (ts:List St),szB ts->∀ s∈vrL ts,s.size<=1000
 | [],_,x,hx=>by simp [vrL] at hx
 | t :: ts,h,x,hx=>by
  have hx':x∈vrS t++vrL ts:=hx;rcases q_8.1 hx' with hx' | hx'
  ·exact zer t h.1 x hx'
  ·exact z7A ts h.2 x hx'
end
theorem z9r:∀ {l:List Zb},(∀ (k:Nat) (q:Zb),l[k]?=some q->hasB (l.take k) q=false)->l.Nodup:=fun {l} h=>by
 rw [List.Nodup,List.pairwise_iff_getElem];intro i j hi hj hij e;have h1:=h j l[j] (q_7 hj);have h2:l[j]∈l.take j:=by
  rw [<- e];exact List.mem_iff_getElem.2 ⟨i,by rw [List.length_take]; omega,by rw [List.getElem_take]⟩
 rw [z4X h2] at h1;cases h1
theorem zc4 (gl:GlL) (fl:List Fn):outF gl (fl.map (rsFn gl fl))=outF gl fl:=by
 unfold outF;rw [List.map_map];rfl
theorem z6L {gl:GlL} {fl:List Fn} (ho:z4n gl fl) (hg:∀ x∈gl,GG x) (hF:∀ f∈fl,GF 2 f) :
  (∀ x∈gl,x.1.size<=1000)/\(∀ m∈z10 gl,m<=1000000)/\(∀ f∈fl.map (rsFn gl fl),zar f) /\
   (∀ (i:Nat) (x:Fz),((fl.map (rsFn gl fl)).map (nF (outF gl (fl.map (rsFn gl fl)))))[i]?=some x->wzB x.locals (z10 gl) ((fl.map (rsFn gl fl)).map (nF (outF gl (fl.map (rsFn gl fl))))).length x.body/\x.locals<=1000/\x.params<=1000/\x.body.length<=1000000):=by
 have hrun:∀ f∈fl,shTL f.body/\szB (rsB gl fl f.params f.body)/\fwB (rsB gl fl f.params f.body)/\(f.params++vrL f.body).Nodup:=fun f hf=>by
  obtain ⟨i,hi⟩:=q_l hf;obtain ⟨_,_,_,_,_,h6,h7⟩:=ho.fs i f hi;obtain ⟨a1,a2,a3,a4⟩:=zay (zd8 3) f.body f.params (hF f hf).2.2.2.1 h6;exact ⟨a1,a2,a3,a4 (z9r fun k q hk=>(h7 k q hk).1)⟩
 refine ⟨fun x hx=>by have:=(hg x hx).1.1; omega,fun m hm=>?_,fun f hf=>?_,fun i x hi=>?_⟩
 ·obtain ⟨x,hx,rfl⟩:=List.mem_map.1 hm;have:=(hg x hx).2
  show (max x.2 1).toNat<=_
  omega
 ·obtain ⟨f,hm,rfl⟩:=List.mem_map.1 hf;obtain ⟨i,hi⟩:=q_l hm;obtain ⟨h1,h2,_,_,h5,_⟩:=ho.fs i f hi;obtain ⟨a1,a2,a3,a4⟩:=hrun f hm;have hv:vrL (rsFn gl fl f).body=vrL f.body:=z65 _ _;refine ⟨by show f.name.size<=1000; have:=(hF f hm).1.1; omega,by show f.params.length<=1000; omega,by show (rsB gl fl f.params f.body).length<=_; rw [z1m]; omega,a3,a2,by show f.params.length+(vrL (rsFn gl fl f).body).length<=_; rw [hv]; omega,by show (f.params++vrL (rsFn gl fl f).body).Nodup; rw [hv]; exact a4,fun s hs=>?_⟩;rcases q_8.1 hs with hs | hs
  ·have:=((hF f hm).2.2.1 s hs).1;omega
  ·exact z7A _ a2 s hs
 ·rw [List.length_map,List.length_map];rw [List.map_map,q_b,q_c] at hi;obtain ⟨f,hfi,rfl⟩:=hi;have hm:=q_a hfi;obtain ⟨h1,h2,_,_,h5,_⟩:=ho.fs i f hfi;have hv:vrL (rsFn gl fl f).body=vrL f.body:=z65 _ _;rw [zc4]
  show wzB (nF (outF gl fl) (rsFn gl fl f)).locals (z10 gl) fl.length (nF (outF gl fl) (rsFn gl fl f)).body/\(f.params++vrL (rsFn gl fl f).body).length<=1000/\f.params.length<=1000/\(nB (locF (rsFn gl fl f)) (outF gl fl) (rsB gl fl f.params f.body)).length<=1000000
  rw [hv,z1Z,z1m,List.length_append];exact ⟨zcc ho (fun f hf=>(hrun f hf).1) hfi,by omega,by omega,by omega⟩
def z7z (E:R1):R1:=fun s =>
 match E s with
 | none=>none
 | some (x,s1)=>some (x,z0h [59] s1)
abbrev RS1:=RS->Option (St × RS)
abbrev RSL:=RS->Option (List St × RS)
def z4F (S:RS1):Nat->List St->RSL
 | 0,_,_=>none
 | n+1,l,s =>
  if s.bad then some (l,s)
  else if isR [125] s then some (l,popR s)
  else
   match S s with
   | none=>none
   | some (t,s1)=>z4F S n (l++[t]) s1
def z4u (S:RS1):RSL:=fun s=>z4F S ((z0h [123] s).rest.length+1) [] (z0h [123] s)
def varW:z0e:=[118,97,114]
def ifW:z0e:=[105,102]
def zaf:z0e:=[119,104,105,108,101]
def z6D:z0e:=[114,101,116,117,114,110]
def z9G:z0e:=[112,114,105,110,116]
def zcw:z0e:=[99,97,108,108]
def oneR (k line:Int) (nm:Zb) (V:R1) (s:RS):Option (St × RS) :=
 match V s with
 | none=>none
 | some (x,s1)=>some (.mk k line nm [x] [] [],s1)
def z2i:Nat->List Zb->RS->Option (List Zb × RS)
 | 0,_,_=>none
 | n+1,l,s=>if isR [44] s then z2i n (l++[nmB (z0n 1 (popR s)).1.text]) (z0n 1 (popR s)).2 else some (l,z0h [41] s)
def z48 (s:RS):Option (List Zb × RS) :=
 if isR [41] s then some ([],popR s) else z2i ((z0n 1 s).2.rest.length+1) [nmB (z0n 1 s).1.text] (z0n 1 s).2
def z26 (B:RSL) (s:RS):Option (Fn × RS) :=
 match z48 (z0h [40] (z0n 1 s).2) with
 | none=>none
 | some (ps,s1) =>
  match B s1 with
  | none=>none
  | some (b,s2)=>some (⟨nmB (z0n 1 s).1.text,0,ps,b⟩,s2)
def zeX (t:Tok) (s:RS):RS:=if s.bad=false/\(t.value<1\/1024<t.value)/\s.wrong=0 then { s with wrong:=t.line } else s
def z4W (s:RS):(Zb × Int) × RS :=
 if isR [91] (z0n 1 s).2 then
  ((nmB (z0n 1 s).1.text,((z0n 2 (popR (z0n 1 s).2)).1.value:Int)),z0h [59] (z0h [93] (zeX (z0n 2 (popR (z0n 1 s).2)).1 (z0n 2 (popR (z0n 1 s).2)).2)))
 else ((nmB (z0n 1 s).1.text,0),z0h [59] (z0n 1 s).2)
def z3X:z0e:=[103,108,111,98,97,108]
def z7O:z0e:=[102,117,110,99]
abbrev Gls:=List (Zb × Int)
def z1E (B:RSL):Nat->Gls->List Fn->RS->Option (Gls × List Fn × RS)
 | 0,_,_,_=>none
 | n+1,gl,fl,s =>
  if s.bad then some (gl,fl,s)
  else if (hdR s).kind=0 then some (gl,fl,s)
  else if isR z3X s then z1E B n (gl++[(z4W (popR s)).1]) fl (z4W (popR s)).2
  else
   match z26 B (z0h z7O s) with
   | none=>none
   | some (f,s1)=>z1E B n gl (fl++[{ f with line:=((hdR s).line:Int) }]) s1
def FF (lo sb:Nat) (w:World):Nat->Prop:=fun q=>lo<=q/\q<w.heap.size/\q≠sb
def z4I:Obj:=.cells #[.int .i64 0,.int .i64 0,.string { data:=#[] },.slice none 0 0,.slice none 0 0,.slice none 0 0] 121
structure StU (p tb sb:Nat) (s:RS) (x:St) (w wr:World):Prop where
 ra:RA wr p tb s
 gr:w.grownBy wr (some p)
 z:wr.heap[w.heap.size]?=some z4I
 lt:w.heap.size<sb
 at_:∃ D d k l t eA en ec tA tn tc uA un uc,wr.heap[sb]?=some (.cells #[.int .i64 k,.int .i64 l,.string t,.slice eA en ec,.slice tA tn tc,.slice uA un uc] 121 (0,0)) /\
  StV (FF (w.heap.size+1) sb wr) wr D d x (.agg #[.int .i64 k,.int .i64 l,.string t,.slice eA en ec,.slice tA tn tc,.slice uA un uc])
section
variable {p tb sb:Nat} {s s':RS} {x:St} {w wr w':World}
theorem StU.row (h:StU p tb sb s x w wr):∃ v0 v1 v2 v3 v4 v5,wr.heap[sb]?=some (.cells #[v0,v1,v2,v3,v4,v5] 121 (0,0)):=by
 obtain ⟨D,d,k,l,t,eA,en,ec,tA,tn,tc,uA,un,uc,hr,_⟩:=h.at_;exact ⟨_,_,_,_,_,_,hr⟩
theorem StU.slt (h:StU p tb sb s x w wr):sb<wr.heap.size:=by
 obtain ⟨_,_,_,_,_,_,hr⟩:=h.row;exact (q_0.1 hr).1
theorem StU.step (h:StU p tb sb s x w wr) (hp:p<w.heap.size) (hg:wr.grownBy w' (some p)) (ha:RA w' p tb s'):StU p tb sb s' x w w':=by
 obtain ⟨D,d,k,l,t,eA,en,ec,tA,tn,tc,uA,un,uc,hr,hv⟩:=h.at_;have hlt:=h.lt;exact ⟨ha,h.gr.trans hg,z04 hg (by omega) h.z,h.lt,D,d,k,l,t,eA,en,ec,tA,tn,tc,uA,un,uc,z04 hg (by omega) hr,hv.keep (fun q hq=>⟨hq.1,q_1 hq.2.1 hg.size,hq.2.2⟩) (fun q hq=>hg.block q hq.2.1 (fun e=>by injection e with e; have:=hq.1; omega))⟩
theorem StU.alloc (h:StU p tb sb s x w wr) (hp:p<w.heap.size) (o:Obj):StU p tb sb s x w (wr.alloc o) :=
 h.step hp (z02 ((q_i _ wr).alloc (q_2 _) o) _) (h.ra.alloc o)
theorem StU.set_ (h:StU p tb sb s x w wr) (hp:p<w.heap.size) (ht:tb<w.heap.size) (i:Nat) (v:Value):RA (wr.setCell ⟨sb,i,none⟩ v) p tb s/\w.grownBy (wr.setCell ⟨sb,i,none⟩ v) (some p)/\(wr.setCell ⟨sb,i,none⟩ v).heap[w.heap.size]?=some z4I:=by
 have hg:wr.grownBy (wr.setCell ⟨sb,i,none⟩ v) (some sb):=z03 wr ⟨sb,i,none⟩ v;have hlt:=h.lt;exact ⟨h.ra.other hg (by omega) (by omega),z0r h.gr hg (by omega),z04 hg (by omega) h.z⟩
theorem z5l (lo sb i:Nat) (wr:World) (v:Value):(∀ q,FF lo sb wr q->FF lo sb (wr.setCell ⟨sb,i,none⟩ v) q)/\(∀ q,FF lo sb wr q->(wr.setCell ⟨sb,i,none⟩ v).heap[q]?=wr.heap[q]?):=by
 have hg:wr.grownBy (wr.setCell ⟨sb,i,none⟩ v) (some sb):=z03 wr ⟨sb,i,none⟩ v;exact ⟨fun q hq=>⟨hq.1,q_1 hq.2.1 hg.size,hq.2.2⟩,fun q hq=>hg.block q hq.2.1 (fun e=>by injection e with e; exact hq.2.2 e)⟩
variable {k l:Int} {t:Zb} {es:List Ex} {ts us:List St}
theorem StU.kind (h:StU p tb sb s (.mk k l t es ts us) w wr) (hp:p<w.heap.size) (ht:tb<w.heap.size) (k':Int):StU p tb sb s (.mk k' l t es ts us) w (wr.setCell ⟨sb,0,none⟩ (.int .i64 k')):=by
 obtain ⟨h1,h2,h3⟩:=h.set_ hp ht 0 (.int .i64 k');obtain ⟨f1,f2⟩:=z5l (w.heap.size+1) sb 0 wr (.int .i64 k');obtain ⟨D,d,k0,l0,t0,eA,en,ec,tA,tn,tc,uA,un,uc,hr,hv⟩:=h.at_;refine ⟨h1,h2,h3,h.lt,D,d,k',l0,t0,eA,en,ec,tA,tn,tc,uA,un,uc,z0a (i:=0) (.int .i64 k') hr,?_⟩;cases d with
 | zero=>exact hv.elim
 | succ d =>
  obtain ⟨eA',ec',tA',tc',uA',uc',hv,he,h4,h5⟩:=hv;injection hv with hv;injection hv with hv;injection hv with _ hv;injection hv with q1 hv;injection hv with q2 hv;injection hv with q3 hv;injection hv with q4 hv;injection hv with q5 _;exact ⟨eA',ec',tA',tc',uA',uc',by rw [q1,q2,q3,q4,q5],he.keep f1 f2,RowS.keep f1 f2 h4,RowS.keep f1 f2 h5⟩
theorem StU.name (h:StU p tb sb s (.mk k l t es ts us) w wr) (hp:p<w.heap.size) (ht:tb<w.heap.size) (t':Zb):StU p tb sb s (.mk k l t' es ts us) w (wr.setCell ⟨sb,2,none⟩ (.string t')):=by
 obtain ⟨h1,h2,h3⟩:=h.set_ hp ht 2 (.string t');obtain ⟨f1,f2⟩:=z5l (w.heap.size+1) sb 2 wr (.string t');obtain ⟨D,d,k0,l0,t0,eA,en,ec,tA,tn,tc,uA,un,uc,hr,hv⟩:=h.at_;refine ⟨h1,h2,h3,h.lt,D,d,k0,l0,t',eA,en,ec,tA,tn,tc,uA,un,uc,z0a (i:=2) (.string t') hr,?_⟩;cases d with
 | zero=>exact hv.elim
 | succ d =>
  obtain ⟨eA',ec',tA',tc',uA',uc',hv,he,h4,h5⟩:=hv;injection hv with hv;injection hv with hv;injection hv with q0 hv;injection hv with q1 hv;injection hv with _ hv;injection hv with q3 hv;injection hv with q4 hv;injection hv with q5 _;exact ⟨eA',ec',tA',tc',uA',uc',by rw [q0,q1,q3,q4,q5],he.keep f1 f2,RowS.keep f1 f2 h4,RowS.keep f1 f2 h5⟩
theorem StU.exprs (h:StU p tb sb s (.mk k l t es ts us) w wr) (hp:p<w.heap.size) (ht:tb<w.heap.size) {D':Nat} {xs:List Ex} {A:Option Addr} {m c:Nat} (hx:RowE (FF (w.heap.size+1) sb wr) wr D' xs A c) (hm:m=xs.length):StU p tb sb s (.mk k l t xs ts us) w (wr.setCell ⟨sb,3,none⟩ (.slice A m c)):=by
 subst hm;obtain ⟨h1,h2,h3⟩:=h.set_ hp ht 3 (.slice A xs.length c);obtain ⟨f1,f2⟩:=z5l (w.heap.size+1) sb 3 wr (.slice A xs.length c);obtain ⟨D,d,k0,l0,t0,eA,en,ec,tA,tn,tc,uA,un,uc,hr,hv⟩:=h.at_;refine ⟨h1,h2,h3,h.lt,D+D',d+1,k0,l0,t0,A,xs.length,c,tA,tn,tc,uA,un,uc,z0a (i:=3) (.slice A xs.length c) hr,?_⟩;cases d with
 | zero=>exact hv.elim
 | succ d =>
  obtain ⟨eA',ec',tA',tc',uA',uc',hv,he,h4,h5⟩:=hv;injection hv with hv;injection hv with hv;injection hv with q0 hv;injection hv with q1 hv;injection hv with q2 hv;injection hv with _ hv;injection hv with q4 hv;injection hv with q5 _;have hx2:=hx.up D;rw [Nat.add_comm D' D] at hx2;exact ⟨A,c,tA',tc',uA',uc',by rw [q0,q1,q2,q4,q5],hx2.keep f1 f2,RowS.keep f1 f2 (RowS.more h4 D' 0),RowS.keep f1 f2 (RowS.more h5 D' 0)⟩
theorem RowS.join {F:Nat->Prop} {w:World} {D d:Nat} {ts:List St} {A:Option Addr} {c:Nat} (h:RowS F w D d ts A c) (D' d':Nat):RowS F w (D'+D) (d'+d+1) ts A c:=by
 have:=h.more D' d';have e:d+(d'+1)=d'+d+1:=by omega
 rw [Nat.add_comm D D',e] at this;exact this
theorem StU.thens (h:StU p tb sb s (.mk k l t es ts us) w wr) (hp:p<w.heap.size) (ht:tb<w.heap.size) {D' d':Nat} {xs:List St} {A:Option Addr} {m c:Nat} (hx:RowS (FF (w.heap.size+1) sb wr) wr D' d' xs A c) (hm:m=xs.length):StU p tb sb s (.mk k l t es xs us) w (wr.setCell ⟨sb,4,none⟩ (.slice A m c)):=by
 subst hm;obtain ⟨h1,h2,h3⟩:=h.set_ hp ht 4 (.slice A xs.length c);obtain ⟨f1,f2⟩:=z5l (w.heap.size+1) sb 4 wr (.slice A xs.length c);obtain ⟨D,d,k0,l0,t0,eA,en,ec,tA,tn,tc,uA,un,uc,hr,hv⟩:=h.at_;refine ⟨h1,h2,h3,h.lt,D+D',d+d'+1,k0,l0,t0,eA,en,ec,A,xs.length,c,uA,un,uc,z0a (i:=4) (.slice A xs.length c) hr,?_⟩;cases d with
 | zero=>exact hv.elim
 | succ d =>
  obtain ⟨eA',ec',tA',tc',uA',uc',hv,he,h4,h5⟩:=hv;injection hv with hv;injection hv with hv;injection hv with q0 hv;injection hv with q1 hv;injection hv with q2 hv;injection hv with q3 hv;injection hv with _ hv;injection hv with q5 _;have e:d+1+d'=d+d'+1:=by omega
  have h5':=RowS.more h5 D' d';rw [e];exact ⟨eA',ec',A,c,uA',uc',by rw [q0,q1,q2,q3,q5],(he.up D').keep f1 f2,RowS.keep f1 f2 (hx.join D d),RowS.keep f1 f2 h5'⟩
theorem StU.elses (h:StU p tb sb s (.mk k l t es ts us) w wr) (hp:p<w.heap.size) (ht:tb<w.heap.size) {D' d':Nat} {xs:List St} {A:Option Addr} {m c:Nat} (hx:RowS (FF (w.heap.size+1) sb wr) wr D' d' xs A c) (hm:m=xs.length):StU p tb sb s (.mk k l t es ts xs) w (wr.setCell ⟨sb,5,none⟩ (.slice A m c)):=by
 subst hm;obtain ⟨h1,h2,h3⟩:=h.set_ hp ht 5 (.slice A xs.length c);obtain ⟨f1,f2⟩:=z5l (w.heap.size+1) sb 5 wr (.slice A xs.length c);obtain ⟨D,d,k0,l0,t0,eA,en,ec,tA,tn,tc,uA,un,uc,hr,hv⟩:=h.at_;refine ⟨h1,h2,h3,h.lt,D+D',d+d'+1,k0,l0,t0,eA,en,ec,tA,tn,tc,A,xs.length,c,z0a (i:=5) (.slice A xs.length c) hr,?_⟩;cases d with
 | zero=>exact hv.elim
 | succ d =>
  obtain ⟨eA',ec',tA',tc',uA',uc',hv,he,h4,h5⟩:=hv;injection hv with hv;injection hv with hv;injection hv with q0 hv;injection hv with q1 hv;injection hv with q2 hv;injection hv with q3 hv;injection hv with q4 hv;have e:d+1+d'=d+d'+1:=by omega
  have h4':=RowS.more h4 D' d';rw [e];exact ⟨eA',ec',tA',tc',A,c,by rw [q0,q1,q2,q3,q4],(he.up D').keep f1 f2,RowS.keep f1 f2 h4',RowS.keep f1 f2 (hx.join D d)⟩
end
def SRG (p tb:Nat) (x:St) (s s':RS) (w:World) (e:Ending) (w':World):Prop:=∃ D d k l t eA en ec tA tn tc uA un uc,e=.returned (.agg #[.int .i64 k,.int .i64 l,.string t,.slice eA en ec,.slice tA tn tc,.slice uA un uc]) /\
 StV (fun q=>w.heap.size<=q/\q<w'.heap.size) w' D d x (.agg #[.int .i64 k,.int .i64 l,.string t,.slice eA en ec,.slice tA tn tc,.slice uA un uc])/\RA w' p tb s'/\w.grownBy w' (some p)/\s'.rest.length<=s.rest.length
def SubS (f:FuncId) (P:RS1):Prop:=∀ (p tb:Nat) (s s':RS) (x:St) (w:World),RA w p tb s->P s=some (x,s')->Calls Tryz.prog f #[.pointer (some ⟨p,0,none⟩)] w (SRG p tb x s s' w)
def BRG (p tb:Nat) (xs:List St) (s s':RS) (w:World) (e:Ending) (w':World):Prop:=∃ D d A m c,e=.returned (.slice A m c)/\m=xs.length/\RowS (fun q=>w.heap.size<=q/\q<w'.heap.size) w' D d xs A c/\RA w' p tb s'/\w.grownBy w' (some p)/\s'.rest.length<=s.rest.length
def SubB (f:FuncId) (P:RSL):Prop:=∀ (p tb:Nat) (s s':RS) (xs:List St) (w:World),RA w p tb s->P s=some (xs,s')->Calls Tryz.prog f #[.pointer (some ⟨p,0,none⟩)] w (BRG p tb xs s s' w)
theorem z7l {P:Program} {w:World} {ops:Array Oper} {rest:List Oper} {d:Option Tmp} {ty:TypeId} {x y:Operand} {pos:String} {af:Array Edge} {gd:Option (Nat × Bool)} {a:Act} {Q:Exit->Act->World->Prop}
  (h:z07 (wpList P ops Q ({ dst:=d,op:=.store 121 x y,type:=ty,pos:=pos,after:=af,guard:=gd } :: rest) a w)):wpList P ops Q ({ dst:=d,op:=.store 121 x y,type:=ty,pos:=pos,after:=af,guard:=gd } :: rest) a w:=h
theorem za1 {p tb sb D d:Nat} {x:St} {s s':RS} {w wr w9:World} {k l:Int} {t:Zb} {eA tA uA:Option Addr} {en ec tn tc un uc:Nat} (hv:StV (FF (w.heap.size+1) sb wr) wr D d x (.agg #[.int .i64 k,.int .i64 l,.string t,.slice eA en ec,.slice tA tn tc,.slice uA un uc])) (h:StU p tb sb s' x w wr) (hl:s'.rest.length<=s.rest.length) (hp:p<w.heap.size) (ht:tb<w.heap.size) (hg9:wr.grownBy w9 (some w.heap.size)) :
  SRG p tb x s s' w (.returned (.agg #[.int .i64 k,.int .i64 l,.string t,.slice eA en ec,.slice tA tn tc,.slice uA un uc])) w9 :=
 ⟨D,d,k,l,t,eA,en,ec,tA,tn,tc,uA,un,uc,rfl,hv.keep (fun q hq=>⟨by have:=hq.1; omega,q_1 hq.2.1 hg9.size⟩) (fun q hq=>hg9.block q hq.2.1 (fun e=>by injection e with e; have:=hq.1; omega)),h.ra.other hg9 (by omega) (by omega),z0r h.gr hg9 (q_2 _),hl⟩
theorem z9z {lo sb d:Nat} {w:World} {y:Ex} {k o a l:Int} {t:Zb} {A:Option Addr} {n c:Nat} {T:TypeId} (hv:ExV (fun q=>lo<=q/\q<w.heap.size/\q≠sb) w d y (.agg #[.int .i64 k,.int .i64 o,.int .i64 a,.int .i64 l,.string t,.slice A n c])) (hlo:lo<=w.heap.size) (hs:sb<w.heap.size) :
  RowE (FF lo sb (w.alloc (.cells #[.int .i64 k,.int .i64 o,.int .i64 a,.int .i64 l,.string t,.slice A n c] T))) (w.alloc (.cells #[.int .i64 k,.int .i64 o,.int .i64 a,.int .i64 l,.string t,.slice A n c] T)) d [y] (some ⟨w.heap.size,0,none⟩) 1:=by
 have hb:=(q_i _ w).alloc (q_2 _) (.cells #[.int .i64 k,.int .i64 o,.int .i64 a,.int .i64 l,.string t,.slice A n c] T);exact z2w hv (fun q hq=>⟨hq.1,q_1 hq.2.1 hb.size,hq.2.2⟩) (fun q hq=>hb.block q hq.2.1) ⟨hlo,by simp,by omega⟩ (q_4 w _)
theorem zdr (E:R1) (he:SubR 96 E):SubR 95 (z7z E):=by
 intro p tb s s' x w h hP;obtain ⟨s1,hq,rfl⟩:∃ s1,E s=some (x,s1)/\s'=z0h [59] s1:=by
  unfold z7z at hP;cases hq:E s with
  | none=>rw [hq] at hP; cases hP
  | some q =>
   obtain ⟨y,s1⟩:=q;rw [hq] at hP;injection hP with hP;injection hP with e1 e2;subst e1;exact ⟨s1,rfl,e2.symm⟩
 have plt:=h.lt.1;have tlt:=h.lt.2.1;have HX:=zhi (he p tb s s1 x (w.alloc z1o) (h.alloc _) hq);have hb0:=(q_i _ w).alloc (q_2 _) z1o;have HZ0:=zhi (q_4 w z1o);have HB0:=zhi hb0;unfold z1o at HX HZ0 HB0;clear he hP hq h hb0;go_enter Tryz.func95,Tryz.ntmps95;go_wp2_with fail;refine HX.out.mono ?_;rintro e w6 ⟨d5,k5,o5,a5,l5,t5,A5,n5,c5,rfl,hv5,hp6,hg6,hl5⟩;have hba:=(q_i _ w6).alloc (q_2 _) (.cells #[.int .i64 k5,.int .i64 o5,.int .i64 a5,.int .i64 l5,.string t5,.slice A5 n5 c5] 124);have HX6:=zhi (z1X [59] (w6.alloc (.cells #[.int .i64 k5,.int .i64 o5,.int .i64 a5,.int .i64 l5,.string t5,.slice A5 n5 c5] 124)) (hp6.below hba));have HB6:=zhi (q_4 w6 (.cells #[.int .i64 k5,.int .i64 o5,.int .i64 a5,.int .i64 l5,.string t5,.slice A5 n5 c5] 124));have HBA:=zhi hba;have HV5:=zhi hv5;have hsz6:w.heap.size+1<=w6.heap.size:=by have:=hg6.size; simpa using this
 have HZ6:=zhi ((hba.block w.heap.size (by omega)).trans (z04 hg6 (by omega) HZ0.out));have HG6:=zhi (((z02 HB0.out (some p)).trans hg6).trans (z02 hba _));have HLn:=zhi hl5;clear hba hv5 hp6 hg6 hl5 HX HZ0;go_wp2_with fail;refine HX6.out.mono ?_;rintro e w7 ⟨⟨v7,rfl⟩,hp7,hg7⟩;have hx7:=z04 hg7 (by omega) HB6.out;have HZ7:=zhi (z04 hg7 (by omega) HZ6.out);obtain ⟨q0,q1,q2,q3,q4,q5⟩:=cl6 hx7;have HP7:=zhi hp7;have HG7:=zhi (HG6.out.trans hg7);have H67:=zhi ((z02 HBA.out (some p)).trans hg7);clear hp7 hg7 hx7 HX6 HG6 HZ6;go_wp2_with (with_reducible refine z0z ?_);refine z07.of (z00 _ rfl _ _ _ rfl w.heap.size _ rfl (by rfl) _ _ HZ7.out (by kernel_rfl) (by rfl) (by simp [Value.oneCell']) ?_);intro w9 hrow9 hg9;obtain ⟨j0,j1,j2,j3,j4,j5⟩:=cl6 hrow9;have HH:=zhi (z1P (xb:=w.heap.size) (s:=s) (z0H HV5.out (fun q hq=>by
  have h1:=hq.1;simp at h1;exact ⟨⟨by omega,q_1 hq.2 H67.out.size,by omega⟩,hq.2,by omega⟩) H67.out) HP7.out HG7.out (by have:=HLn.out; have h1:=z13 [59] s1; omega) plt tlt hg9)
 clear hrow9 hg9 q0 q1 q2 q3 q4 q5;go_wp2_with fail;exact q_3 (by simp [results,Tryz.results95,go_sem,j0,j1,j2,j3,j4,j5]) rfl HH.out
theorem z95:(Tryz.prog.info? 121).map (fun i=>(i.zero,i.size,i.bytes))=some (some (.agg #[.int .i64 0,.int .i64 0,.string ⟨#[]⟩,.slice none 0 0,.slice none 0 0,.slice none 0 0]),6,104):=by kernel_rfl
def MSt (D d:Nat):z1H St:=fun F w x cs=>StV F w D d x (.agg cs.toArray)
theorem z2s (D d:Nat):(MSt D d).Keeps:=fun _ _ _ _ _ _ h1 h2 h=>StV.keep h1 h2 _ _ _ h
theorem z9K {F:Nat->Prop} {w:World} {D d c:Nat} {A:Option Addr} {xs:List St} (h:RowG 6 (MSt D d) F w xs A c):RowS F w D d xs A c:=by
 refine ⟨h.1,fun i x hi=>?_⟩;obtain ⟨g,cs,hA,hF,hlen,hcell,hv⟩:=h.2 i x hi
 match cs,hlen with
 | [c0,c1,c2,c3,c4,c5],_=>exact ⟨g,0,c0,c1,c2,c3,c4,c5,hA,hF,by rw [Nat.zero_add]; exact hcell 0 c0 rfl,by rw [Nat.zero_add]; exact hcell 1 c1 rfl,by rw [Nat.zero_add]; exact hcell 2 c2 rfl,by rw [Nat.zero_add]; exact hcell 3 c3 rfl,by rw [Nat.zero_add]; exact hcell 4 c4 rfl,by rw [Nat.zero_add]; exact hcell 5 c5 rfl,hv⟩
def BlkR (S:RS1) (p tb n0:Nat) (ts:List St) (s s':RS) (w:World) (v:Value) (wr:World):Prop :=
 ∃ n xs ss L A m c D d,v=.slice A m c/\m=xs.length/\n+xs.length=n0/\z4F S n xs ss=some (ts,s')/\GRow 6 121 (MSt D d) w.heap.size wr (.slice A m c) xs L/\RA wr p tb ss/\w.grownBy wr (some p)/\ss.rest.length<=s.rest.length
def z7q (v:Value):Nat:=match v with | .slice _ n _=>n | _=>0
theorem z61 {S:RS1} {n:Nat} {xs ts:List St} {s s':RS} (h:z4F S n xs s=some (ts,s')):(s.bad=true/\ts=xs/\s'=s)\/(s.bad=false/\((isR [125] s=true/\ts=xs/\s'=popR s)\/(isR [125] s=false/\∃ m t s1,n=m+1/\S s=some (t,s1)/\z4F S m (xs++[t]) s1=some (ts,s')))):=by
 cases n with
 | zero=>cases h
 | succ m =>
  simp only [z4F] at h;cases hb:s.bad with
  | true =>
   simp only [hb,if_true] at h;injection h with h;injection h with e1 e2;exact .inl ⟨rfl,e1.symm,e2.symm⟩
  | false =>
   simp only [hb,Bool.false_eq_true,if_false] at h;refine .inr ⟨rfl,?_⟩;cases hi:isR [125] s with
   | true =>
    simp only [hi,if_true] at h;injection h with h;injection h with e1 e2;exact .inl ⟨rfl,e1.symm,e2.symm⟩
   | false =>
    simp only [hi,Bool.false_eq_true,if_false] at h;refine .inr ⟨rfl,?_⟩;cases hq:S s with
    | none=>rw [hq] at h; cases h
    | some q=>rw [hq] at h; exact ⟨m,q.1,q.2,rfl,rfl,h⟩
theorem zcu (S:RS1) (hs:SubS 85 S):SubB 63 (z4u S):=by
 intro p tb s s' ts w h hP;have plt:=h.lt.1;have tlt:=h.lt.2.1;have HS:=zhi hs;have HP:=zhi hP;have HX:=zhi (z1X [123] w h);have hsm:=h.sm;have hel:=z13 [123] s;have HSM:Hid ((z0h [123] s).rest.length<=1000000):=zhi (by omega);have HEL:=zhi hel;clear hs hP h hsm hel;go_enter Tryz.func63,Tryz.ntmps63;go_wp2_with fail;refine HX.out.mono ?_;rintro e w1 ⟨⟨v1,rfl⟩,hp1,hg1⟩;have HR:Hid (BlkR S p tb ((z0h [123] s).rest.length+1) ts s s' w (.slice none 0 0) w1):=zhi ⟨_,[],_,[],none,0,0,0,0,rfl,rfl,rfl,HP.out,GRow.nil,hp1,hg1,HEL.out⟩;clear HP HX hp1 hg1;go_wp2_with fail
 go_loopw [3] (fun v wr=>BlkR S p tb ((z0h [123] s).rest.length+1) ts s s' w v wr) (fun v _=>(z0h [123] s).rest.length+1 - z7q v)
 case atStart=>exact HR.out
 case round =>
  obtain ⟨n,xs,ss,L,A,m,c,D,d,rfl,hm,hn,hst,hgr,hp,hg,hl⟩:=hrel;subst hm;clear HR;have HG:=zhi hg;have HGR:=zhi hgr;have Hl:=zhi hl;have HN:=zhi hn;have HC:=zhi (z61 hst);have hszr:=hg.size;have HAC:=zhi (z0U [125] wr hp);have HPP:=zhi hp;obtain ⟨a,cc,N,hr⟩:=hp;have c2:=hr.cells.2.2.1;clear hg hgr hl hst hr hn;cases hb:ss.bad with
  | true =>
   rw [hb] at c2;rcases HC.out with ⟨_,rfl,rfl⟩ | ⟨h0,_⟩
   ·have HE:Hid (BRG p tb ts s s' w (.returned (.slice A ts.length c)) wr):=zhi ⟨D,d,A,ts.length,c,rfl,rfl,z9K (HGR.out.row (z2s D d)).2,HPP.out,HG.out,Hl.out⟩;clear HC HAC hb;go_wp2_with fail;go_ret;exact HE.out
   ·rw [hb] at h0; cases h0
  | false =>
   rw [hb] at c2;rcases HC.out with ⟨h0,_⟩ | ⟨_,hc⟩
   ·rw [hb] at h0; cases h0
   ·clear HC hb;go_wp2_with fail;refine HAC.out.mono ?_;rintro e w2 ⟨rfl,hp2,hg2⟩;have HGR2:=zhi (HGR.out.grown (z2s D d) hg2 plt);have HG2:=zhi (HG.out.trans hg2);have hsz2:=hg2.size;clear HAC hg2 HGR HG HPP;rcases hc with ⟨hi,rfl,rfl⟩ | ⟨hi,m,t,s1,rfl,hq,hst⟩
    ·rw [z1h hi] at hp2;have HE:Hid (BRG p tb ts s (popR ss) w (.returned (.slice A ts.length c)) w2):=zhi ⟨D,d,A,ts.length,c,rfl,rfl,z9K (HGR2.out.row (z2s D d)).2,hp2,HG2.out,by rw [z0u]; have:=Hl.out; omega⟩;clear hp2;go_wp2_with fail;go_ret;exact HE.out
    ·rw [z1b hi] at hp2;have HX2:=zhi (HS.out p tb ss s1 t w2 hp2 hq);have HST:=zhi hst;have hxs:xs.length<=1000000:=by have:=HN.out; have:=HSM.out; omega
     clear hp2 hq hst;go_wp2_with fail;refine HX2.out.mono ?_;rintro e w3 ⟨D3,d3,k3,l3,t3,eA,en,ec,tA,tn,tc,uA,un,uc,rfl,hv3,hp3,hg3,hl3⟩;have hsz3:=hg3.size;have HV3:=zhi (show MSt (D+D3) (d+d3+1) (fun q=>w2.heap.size<=q/\q<w3.heap.size) w3 t [.int .i64 k3,.int .i64 l3,.string t3,.slice eA en ec,.slice tA tn tc,.slice uA un uc] from by
      have:=hv3.more D d;have e:d3+(d+1)=d+d3+1:=by omega
      rw [Nat.add_comm D3 D,e] at this;exact this)
     have HGR3:=zhi ((HGR2.out.grown (z2s D d) hg3 plt).map (V':=MSt (D+D3) (d+d3+1)) (fun F w x cs h=>by
      have:=StV.more h D3 d3;have e:d+(d3+1)=d+d3+1:=by omega
      rw [e] at this;exact this))
     have HOU:=zhi (fun b hb=>(HGR2.out.own.lt b hb).2);have HP3:=zhi hp3;have HG3:=zhi (HG2.out.trans hg3);have HL3:=zhi hl3;clear hv3 hp3 hg3 hl3 HX2 HGR2 HG2;go_wp2_with (at_builtin; refine z07.out ?_);refine z07.of (z1T (k:=6) (T:=121) (S:=81) (V:=MSt (D+D3) (d+d3+1)) w3 rfl (.tmp 16) (.tmp 19) rfl (z2s _ _) _ _ Tryz.underlying81 z95 rfl (by decide) (by decide) w.heap.size (.slice A xs.length c) xs L t [.int .i64 k3,.int .i64 l3,.string t3,.slice eA en ec,.slice tA tn tc,.slice uA un uc] (fun q=>w2.heap.size<=q/\q<w3.heap.size) rfl rfl HGR3.out hxs (by omega) rfl (by simp [Value.oneCell']) HV3.out (fun b hb=>⟨by omega,hb.2,fun e=>by have:=HOU.out b e; omega⟩) ?_);intro g9 cap9 wz harz hgz;have hbz:Below w.heap.size w3 wz:=z05 hgz (fun k hk=>(HGR3.out.own.lt k hk).1) (by omega);have HST2:Hid (BlkR S p tb ((z0h [123] s).rest.length+1) ts s s' w (.slice (some ⟨g9,0,none⟩) (xs.length+1) cap9) wz):=zhi ⟨m,xs++[t],s1,_,_,_,_,D+D3,d+d3+1,rfl,by simp,by have:=HN.out; simp; omega,HST.out,harz,HP3.out.low hbz plt tlt,z1N HG3.out hbz (q_2 _),by have:=HL3.out; have:=Hl.out; omega⟩;have HNN:=zhi (show (z0h [123] s).rest.length+1 - (xs.length+1)<(z0h [123] s).rest.length+1 - xs.length by have:=HN.out; omega);clear harz hgz hbz HOU HL3 HP3 HGR3 HV3 HST;go_wp2_with fail;exact ⟨HST2.out,by simpa [z7q] using HNN.out⟩
end Go.Proofs.YtdflbhofmmlpgaaGreat
