/-
  Na: Yt, Yu, Yv, Yw. Part of the proof. No condition.
-/
import Derived.Test.YtdflbhofmmlpgaaGreatMf
set_option maxRecDepth 100000
set_option maxHeartbeats 8000000
namespace Go.Proofs.YtdflbhofmmlpgaaGreat
open Go.RowKit
def Rn7 (p:Nat) (K:RK) (st dp:Int) (iv ov:Value) (tr vl:Int) (w:World):Prop :=
 w.heap[p]?=some (.cells #[K.sz,K.fn,iv,.int .i64 K.ls,.int .i64 K.ld,.int .i64 st,.int .i64 dp,K.gv,ov,.int .i64 tr,.int .i64 vl] 66 (0,0))
def Loc7 (p:Nat) (K:RK) (lb nl:Nat) (l:List Int) (w:World):Prop :=
 l.length=nl/\((nl=0/\lb=p/\True)\/(p<lb/\lb≠K.gb/\lb ∉ K.ga/\True/\IntB w lb l))
structure Run7 (p:Nat) (K:RK) (lb nl:Nat) (dp:Int) (s:Sx) (iv ov:Value) (tr vl:Int) (w:World):Prop where
 r:Rn7 p K s.st dp iv ov tr vl w
 i:InZ p s.inp iv w
 o:∃ L,GRow 1 3 ZInt (p+1) w ov s.out L
 on:∀ b,ov.ownBlock=some b->b≠lb/\b ∉ K.ga/\b≠K.gb
 g:GlZ K s.gl w
 l:Loc7 p K lb nl s.lv w
 k:KOk p K
 st:0<=s.st/\s.st<=max K.ls 0
 ol:s.out.length<=4096
 dp:0<=dp/\dp<=100000
 nl:nl<=1000
 lt:∀ b,(b=K.gb\/b∈K.ga)->b<w.heap.size
def RuS7 (p:Nat) (K:RK) (lb nl:Nat) (dp:Int) (s:Sx) (w:World):Prop:=∃ iv ov tr vl,Run7 p K lb nl dp s iv ov tr vl w
def z4o (p:Nat) (w:World) (b:Nat):Prop:=∃ v:Value,w.cell? ⟨p,8,none⟩=some v/\v.ownBlock=some b
def Fre7 (p:Nat) (K:RK) (lb:Nat) (w:World) (b:Nat):Prop:=p<b/\b≠lb/\b ∉ K.ga/\b≠K.gb/\¬ z4o p w b
structure Fr7 (p:Nat) (K:RK) (lb:Nat) (w w':World):Prop where
 lo:Below p w w'
 keep:∀ b,b<w.heap.size->b≠p->b≠lb->b ∉ K.ga->¬ z4o p w b->w'.heap[b]?=w.heap[b]?
 own:∀ b,z4o p w' b->z4o p w b\/w.heap.size<=b
section
variable {p:Nat} {K:RK} {lb nl:Nat} {dp:Int} {s:Sx} {iv ov:Value} {tr vl:Int} {w w' w2:World}
theorem Run7.plt (h:Run7 p K lb nl dp s iv ov tr vl w):p<w.heap.size:=(q_0.1 h.r).1
theorem RuS7.lt (h:RuS7 p K lb nl dp s w):p<w.heap.size:=by
 obtain ⟨_,_,_,_,h⟩:=h;exact h.plt
theorem Run7.out_iff (h:Run7 p K lb nl dp s iv ov tr vl w) (b:Nat):z4o p w b ↔ ov.ownBlock=some b:=by
 have hc:w.cell? ⟨p,8,none⟩=some ov:=zcr 8 h.r;exact ⟨fun ⟨v,h1,h2⟩=>by rw [hc] at h1; injection h1 with h1; rw [h1]; exact h2,fun h2=>⟨ov,hc,h2⟩⟩
theorem Run7.out_lt (h:Run7 p K lb nl dp s iv ov tr vl w) {b:Nat} (hb:ov.ownBlock=some b):p<b/\b<w.heap.size:=by
 obtain ⟨L,ho⟩:=h.o;have:=ho.own.lt b hb;exact ⟨by omega,this.2⟩
theorem Run7.keep (h:Run7 p K lb nl dp s iv ov tr vl w) (hs:w.heap.size<=w'.heap.size) (hk:∀ b,b<w.heap.size->(b<=p\/b=lb\/b∈K.ga\/b=K.gb\/ov.ownBlock=some b)->w'.heap[b]?=w.heap[b]?):Run7 p K lb nl dp s iv ov tr vl w' where
 r:=(hk p h.plt (.inl (q_2 _))).trans h.r
 i:=by
  obtain ⟨A,c,h1,h2,h3,h4,h5⟩:=h.i;refine ⟨A,c,h1,h2,h3,fun j u hu=>?_,h5⟩;obtain ⟨ad,e,hc⟩:=h4 j u hu;have hb:=h5 ad e;refine ⟨ad,e,(q_6 (a:=ad.add j) (hk _ ?_ (.inl ?_))).trans hc⟩
  ·rw [z0i]; have:=h.plt; omega
  ·rw [z0i]; omega
 o:=by
  obtain ⟨L,ho⟩:=h.o;exact ⟨L,z1q ho fun b hb=>hk b (h.out_lt hb).2 (.inr (.inr (.inr (.inr hb))))⟩
 on:=h.on
 g:=⟨h.g.ln,h.g.sl,fun i l hi=>by
  obtain ⟨b,c,h1,h2,h3⟩:=h.g.at_ i l hi;refine ⟨b,c,h1,(q_6 (a:=⟨K.gb,i,none⟩) (hk _ (q_k w _ h2) (.inr (.inr (.inr (.inl rfl)))))).trans h2,(hk b h3.lt (.inr (.inr (.inl (q_a h1))))).trans h3⟩⟩
 l:=by
  refine ⟨h.l.1,?_⟩;rcases h.l.2 with h1 | ⟨h1,h2,h3,h4,h5⟩
  ·exact .inl h1
  ·exact .inr ⟨h1,h2,h3,h4,(hk lb h5.lt (.inr (.inl rfl))).trans h5⟩
 k:=h.k
 st:=h.st
 ol:=h.ol
 dp:=h.dp
 nl:=h.nl
 lt:=fun b hb=>q_1 (h.lt b hb) hs
theorem RuS7.below (h:RuS7 p K lb nl dp s w) (hb:Below w.heap.size w w'):RuS7 p K lb nl dp s w':=by
 obtain ⟨iv,ov,tr,vl,h⟩:=h;exact ⟨iv,ov,tr,vl,h.keep hb.size fun b hb' _=>hb.block b hb'⟩
theorem RuS7.grown {b:Nat} (h:RuS7 p K lb nl dp s w) (hg:w.grownBy w' (some b)) (hf:Fre7 p K lb w b):RuS7 p K lb nl dp s w':=by
 obtain ⟨iv,ov,tr,vl,h⟩:=h;obtain ⟨h1,h2,h3,h4,h5⟩:=hf;refine ⟨iv,ov,tr,vl,h.keep hg.size fun b' hb' hc=>hg.block b' hb' fun e=>?_⟩;injection e with e;subst e;rcases hc with hc | hc | hc | hc | hc
 ·omega
 ·exact h2 hc
 ·exact h3 hc
 ·exact h4 hc
 ·exact h5 ((h.out_iff _).2 hc)
theorem RuS7.free (h:RuS7 p K lb nl dp s w) {b:Nat} (hb:w.heap.size<=b):Fre7 p K lb w b:=by
 obtain ⟨iv,ov,tr,vl,h⟩:=h;have hlt:=h.plt;refine ⟨by omega,fun e=>?_,fun e=>?_,fun e=>?_,fun e=>?_⟩
 ·rcases h.l.2 with ⟨_,h1,_⟩ | ⟨_,_,_,_,h5⟩
  ·omega
  ·have:=h5.lt; omega
 ·have:=h.lt b (.inr e); omega
 ·have:=h.lt b (.inl e); omega
 ·have:=(h.out_lt ((h.out_iff _).1 e)).2;omega
theorem RuS7.bound (h:RuS7 p K lb nl dp s w):0<=s.st/\s.st<=1099511627776/\s.st<=max K.ls 0/\0<=dp/\dp<=100000/\s.out.length<=4096/\s.lv.length=nl/\nl<=1000:=by
 obtain ⟨iv,ov,tr,vl,h⟩:=h;have:=h.k.ls;have:=h.st;exact ⟨this.1,by omega,this.2,h.dp.1,h.dp.2,h.ol,h.l.1,h.nl⟩
theorem Fr7.refl (p:Nat) (K:RK) (lb:Nat) (w:World):Fr7 p K lb w w:=⟨q_i _ _,fun _ _ _ _ _ _=>rfl,fun _ h=>.inl h⟩
theorem Fr7.trans (h:Fr7 p K lb w w') (k:Fr7 p K lb w' w2):Fr7 p K lb w w2 :=
 ⟨h.lo.trans k.lo,fun b hb h1 h2 h3 h4=>(k.keep b (q_1 hb h.lo.size) h1 h2 h3 (fun e=>by
  rcases h.own b e with e2 | e2
  ·exact h4 e2
  ·omega)).trans (h.keep b hb h1 h2 h3 h4),fun b e=>by
  rcases k.own b e with e1 | e1
  ·exact h.own b e1
  ·exact .inr (q_9 h.lo.size e1)⟩
theorem z2h {b:Nat} (hk:w'.heap[p]?=w.heap[p]?) (h:z4o p w' b):z4o p w b:=by
 obtain ⟨v,h1,h2⟩:=h;exact ⟨v,(q_6 (a:=⟨p,8,none⟩) hk).symm.trans h1,h2⟩
theorem Fr7.below (h:Fr7 p K lb w w') (hb:Below w'.heap.size w' w2) (hp:p<w.heap.size):Fr7 p K lb w w2 :=
 h.trans ⟨hb.mono (by have:=h.lo.size; omega),fun b hb' _ _ _ _=>hb.block b hb',fun b e=>.inl (z2h (hb.block p (by have:=h.lo.size; omega)) e)⟩
theorem Fr7.put {b:Nat} (h:Fr7 p K lb w w') (hg:w'.grownBy w2 (some b)) (hb:w.heap.size<=b) (hp:p<w.heap.size):Fr7 p K lb w w2 :=
 ⟨h.lo.trans (z05 hg (fun k hk=>by injection hk with hk; omega) (by have:=h.lo.size; omega)),fun b' hb' h1 h2 h3 h4=>(hg.block b' (q_1 hb' h.lo.size) (fun e=>by injection e with e; omega)).trans (h.keep b' hb' h1 h2 h3 h4),
  fun b' e=>h.own b' (z2h (hg.block p (by have:=h.lo.size; omega) (fun e=>by injection e with e; omega)) e)⟩
theorem Fr7.free {b:Nat} (h:Fr7 p K lb w w') (hb:b<w.heap.size) (hf:Fre7 p K lb w b):Fre7 p K lb w' b :=
 ⟨hf.1,hf.2.1,hf.2.2.1,hf.2.2.2.1,fun e=>by
  rcases h.own b e with e2 | e2
  ·exact hf.2.2.2.2 e2
  ·omega⟩
theorem Fr7.at_ {b:Nat} {o:Obj} (h:Fr7 p K lb w w') (hf:Fre7 p K lb w b) (hz:w.heap[b]?=some o):w'.heap[b]?=some o :=
 (h.keep b (q_0.1 hz).1 (by have:=hf.1; omega) hf.2.1 hf.2.2.1 hf.2.2.2.2).trans hz
theorem z6k {b:Nat} (hf:Fre7 p K lb w b) (hb:Below w.heap.size w w') (hp:p<w.heap.size):Fre7 p K lb w' b :=
 ⟨hf.1,hf.2.1,hf.2.2.1,hf.2.2.2.1,fun e=>hf.2.2.2.2 (z2h (hb.block p hp) e)⟩
theorem Run7.self {lb' nl':Nat} {dp':Int} {s':Sx} {iv':Value} {tr' vl':Int} (h:Run7 p K lb nl dp s iv ov tr vl w) (hg:w.grownBy w' (some p)) (hr:Rn7 p K s'.st dp' iv' ov tr' vl' w')
  (hi:InZ p s'.inp iv' w') (hl:Loc7 p K lb' nl' s'.lv w') (ho:s'.out=s.out) (hgl:s'.gl=s.gl) (hlo:∀ b,ov.ownBlock=some b->b≠lb') (hst:0<=s'.st/\s'.st<=max K.ls 0) (hdp:0<=dp'/\dp'<=100000) (hnl:nl'<=1000):Run7 p K lb' nl' dp' s' iv' ov tr' vl' w' where
 r:=hr
 i:=hi
 o:=by
  obtain ⟨L,hL⟩:=h.o;rw [ho];exact ⟨L,z1q hL fun b hb=>hg.block b (h.out_lt hb).2 (fun e=>by injection e with e; have:=(h.out_lt hb).1; omega)⟩
 on:=fun b hb=>⟨hlo b hb,(h.on b hb).2⟩
 g:=by
  rw [hgl];refine ⟨h.g.ln,h.g.sl,fun i l hi=>?_⟩;obtain ⟨b,c,h1,h2,h3⟩:=h.g.at_ i l hi;have hgb:p<K.gb:=by
   rcases h.k.gp with e | e
   ·have hl:=h.g.ln;rw [e] at hl;rw [List.map_eq_nil_iff.1 hl] at hi;simp at hi
   ·exact e
  have hb:p<b:=h.k.ga b (q_a h1);exact ⟨b,c,h1,(q_6 (a:=⟨K.gb,i,none⟩) (hg.block _ (q_k w _ h2) (fun e=>by injection e with e; have e':K.gb=p:=e; omega))).trans h2,(hg.block b h3.lt (fun e=>by injection e with e; omega)).trans h3⟩
 l:=hl
 k:=h.k
 st:=hst
 ol:=by rw [ho]; exact h.ol
 dp:=hdp
 nl:=hnl
 lt:=fun b hb=>q_1 (h.lt b hb) hg.size
theorem z1M {l:List Int} {v:Value} (h:InZ p l v w) (hg:w.grownBy w' (some p)) (hp:p<w.heap.size):InZ p l v w':=by
 obtain ⟨A,c,h1,h2,h3,h4,h5⟩:=h;refine ⟨A,c,h1,h2,h3,fun j u hu=>?_,h5⟩;obtain ⟨ad,e,hc⟩:=h4 j u hu;have hb:=h5 ad e;exact ⟨ad,e,(q_6 (a:=ad.add j) (hg.block _ (by rw [z0i]; omega) (fun e=>by injection e with e; rw [z0i] at e; omega))).trans hc⟩
theorem Loc7.grown {l:List Int} (h:Loc7 p K lb nl l w) (hg:w.grownBy w' (some p)):Loc7 p K lb nl l w':=by
 refine ⟨h.1,?_⟩;rcases h.2 with h1 | ⟨h1,h2,h3,h4,h5⟩
 ·exact .inl h1
 ·exact .inr ⟨h1,h2,h3,h4,(hg.block lb h5.lt (fun e=>by injection e with e; omega)).trans h5⟩
theorem z2C (hg:w.grownBy w' (some p)) (hp:p<w.heap.size) (ho:∀ b,z4o p w' b->z4o p w b):Fr7 p K lb w w' :=
 ⟨z05 hg (fun k hk=>by injection hk with hk; omega) (by omega),fun b hb h1 _ _ _=>hg.block b hb (fun e=>h1 (by injection e)),fun b e=>.inl (ho b e)⟩
theorem Run7.setL {i:Nat} {x:Int} (h:Run7 p K lb nl dp s iv ov tr vl w) (hi:i<nl):Run7 p K lb nl dp { s with lv:=s.lv.set i x } iv ov tr vl (w.setCell ⟨lb,i,none⟩ (.int .i64 x))/\Fr7 p K lb w (w.setCell ⟨lb,i,none⟩ (.int .i64 x)):=by
 obtain ⟨hl0,hl⟩:=h.l;rcases hl with hl | ⟨h1,h2,h3,h4,h5⟩
 ·omega
 ·have hg:w.grownBy (w.setCell ⟨lb,i,none⟩ (.int .i64 x)) (some lb):=z03 w ⟨lb,i,none⟩ _;have hk:∀ b,b<w.heap.size->b≠lb->(w.setCell ⟨lb,i,none⟩ (.int .i64 x)).heap[b]?=w.heap[b]?:=fun b hb hne=>hg.block b hb (fun e=>hne (by injection e))
  refine ⟨⟨(hk p h.plt (by omega)).trans h.r,?_,?_,h.on,?_,⟨by simpa using hl0,.inr ⟨h1,h2,h3,h4,h5.set_ x⟩⟩,h.k,h.st,h.ol,h.dp,h.nl,fun b hb=>q_1 (h.lt b hb) hg.size⟩,?_⟩
  ·obtain ⟨A,c,i1,i2,i3,i4,i5⟩:=h.i;refine ⟨A,c,i1,i2,i3,fun j u hu=>?_,i5⟩;obtain ⟨ad,e,hc⟩:=i4 j u hu;have hb:=i5 ad e;have hp:=h.plt;exact ⟨ad,e,(q_6 (a:=ad.add j) (hk _ (by rw [z0i]; omega) (by rw [z0i]; omega))).trans hc⟩
  ·obtain ⟨L,ho⟩:=h.o;exact ⟨L,z1q ho fun b hb=>hk b (h.out_lt hb).2 (h.on b hb).1⟩
  ·exact ⟨h.g.ln,h.g.sl,fun j l hj=>by
    obtain ⟨b,c,e1,e2,e3⟩:=h.g.at_ j l hj;exact ⟨b,c,e1,(q_6 (a:=⟨K.gb,j,none⟩) (hk _ (q_k w _ e2) (fun e=>h2 e.symm))).trans e2,(hk b e3.lt (fun e=>h3 (e ▸ q_a e1))).trans e3⟩⟩
  ·exact ⟨z05 hg (fun k hk=>by injection hk with hk; omega) (by have:=h.plt; omega),fun b hb _ e2 _ _=>hk b hb e2,fun b e=>.inl (z2h (hk p h.plt (by omega)) e)⟩
theorem Run7.setG {n j b:Nat} {x:Int} {l:List Int} (h:Run7 p K lb nl dp s iv ov tr vl w) (hn:s.gl[n]?=some l) (hb:K.ga[n]?=some b):Run7 p K lb nl dp { s with gl:=s.gl.set n (l.set j x) } iv ov tr vl (w.setCell ⟨b,j,none⟩ (.int .i64 x))/\Fr7 p K lb w (w.setCell ⟨b,j,none⟩ (.int .i64 x)):=by
 have hbm:=q_a hb;have hpb:=h.k.ga b hbm;have hg:w.grownBy (w.setCell ⟨b,j,none⟩ (.int .i64 x)) (some b):=z03 w ⟨b,j,none⟩ _;have hk:∀ b',b'<w.heap.size->b'≠b->(w.setCell ⟨b,j,none⟩ (.int .i64 x)).heap[b']?=w.heap[b']?:=fun b' hb' hne=>hg.block b' hb' (fun e=>hne (by injection e))
 refine ⟨⟨(hk p h.plt (by omega)).trans h.r,?_,?_,h.on,⟨?_,?_,fun i l' hi=>?_⟩,⟨h.l.1,?_⟩,h.k,h.st,h.ol,h.dp,h.nl,fun b hb=>q_1 (h.lt b hb) hg.size⟩,?_⟩
 ·obtain ⟨A,c,i1,i2,i3,i4,i5⟩:=h.i;refine ⟨A,c,i1,i2,i3,fun j u hu=>?_,i5⟩;obtain ⟨ad,e,hc⟩:=i4 j u hu;have hb:=i5 ad e;have hp:=h.plt;exact ⟨ad,e,(q_6 (a:=ad.add j) (hk _ (by rw [z0i]; omega) (by rw [z0i]; omega))).trans hc⟩
 ·obtain ⟨L,ho⟩:=h.o;exact ⟨L,z1q ho fun b' hb'=>hk b' (h.out_lt hb').2 (fun e=>(h.on b' hb').2.1 (e ▸ hbm))⟩
 ·rw [<- h.g.ln];apply List.ext_getElem?;intro i;simp only [q_b,List.getElem?_set];split
  ·rename_i e;subst e;have hlt:n<s.gl.length:=by
    rcases q_f n s.gl.length with h' | h'
    ·exact h'
    ·rw [q_j h'] at hn; cases hn
   rw [if_pos hlt,hn];simp
  ·rfl
 ·rcases h.g.sl with e | e
  ·exact .inl (by rw [e]; rfl)
  ·exact .inr (by simpa using e)
 ·rw [List.getElem?_set] at hi;split at hi
  ·rename_i e;subst e;split at hi
   ·injection hi with hi;subst hi;obtain ⟨b',c,e1,e2,e3⟩:=h.g.at_ n l hn;rw [hb] at e1;injection e1 with e1;subst e1;exact ⟨b,c,hb,(q_6 (a:=⟨K.gb,n,none⟩) (hk _ (q_k w _ e2) (fun e=>h.k.gn (by have e':K.gb=b:=e; rw [e']; exact hbm)))).trans (by simpa using e2),e3.set_ x⟩
   ·cases hi
  ·rename_i hne;obtain ⟨b',c,e1,e2,e3⟩:=h.g.at_ i l' hi;have hbb:b'≠b:=fun e=>by
    subst e;have hl1:n<K.ga.length:=by
     rcases q_f n K.ga.length with h' | h'
     ·exact h'
     ·rw [q_j h'] at hb; cases hb
    exact hne ((List.getElem?_inj hl1 h.k.nd).1 (hb.trans e1.symm))
   exact ⟨b',c,e1,(q_6 (a:=⟨K.gb,i,none⟩) (hk _ (q_k w _ e2) (fun e=>h.k.gn (by have e':K.gb=b:=e; rw [e']; exact hbm)))).trans e2,(hk b' e3.lt hbb).trans e3⟩
 ·rcases h.l.2 with h1 | ⟨h1,h2,h3,h4,h5⟩
  ·exact .inl h1
  ·exact .inr ⟨h1,h2,h3,h4,(hk lb h5.lt (fun e=>h3 (e ▸ hbm))).trans h5⟩
 ·exact ⟨z05 hg (fun k hk=>by injection hk with hk; omega) (by have:=h.plt; omega),fun b' hb' _ _ e3 _=>hk b' hb' (fun e=>e3 (e ▸ hbm)),fun b' e=>.inl (z2h (hk p h.plt (by omega)) e)⟩
theorem Run7.outp {v2:Value} {L2:List Value} {z:Int} (h:Run7 p K lb nl dp s iv ov tr vl w) (hg:w.grownBy w2 ov.ownBlock) (hgr:GRow 1 3 ZInt (p+1) w2 v2 (s.out++[z]) L2) (hat:∀ b,v2.ownBlock=some b->ov.ownBlock=some b\/w.heap.size<=b) (hol:s.out.length<4096) :
  Run7 p K lb nl dp { s with out:=s.out++[z] } iv v2 tr vl (w2.setCell ⟨p,8,none⟩ v2)/\Fr7 p K lb w (w2.setCell ⟨p,8,none⟩ v2):=by
 have hop:∀ b,ov.ownBlock=some b->p<b:=fun b e=>(h.out_lt e).1
 have hg3:w2.grownBy (w2.setCell ⟨p,8,none⟩ v2) (some p):=z03 w2 ⟨p,8,none⟩ _;have hk:∀ b,b<w.heap.size->b≠p->ov.ownBlock≠some b->(w2.setCell ⟨p,8,none⟩ v2).heap[b]?=w.heap[b]?:=fun b hb hne ho=>(hg3.block b (q_1 hb hg.size) (fun e=>hne (by injection e))).trans (hg.block b hb (fun e=>ho e.symm))
 have hp2:=(hg.block p h.plt (fun e=>by have:=hop p e.symm; omega)).trans h.r;have hsz:=q_9 hg.size hg3.size;have hgk:s.gl≠[]->p<K.gb:=fun hne=>by
  rcases h.k.gp with e | e
  ·have hl:=h.g.ln;rw [e] at hl;exact absurd (List.map_eq_nil_iff.1 hl) hne
  ·exact e
 have h3:Run7 p K lb nl dp { s with out:=s.out++[z] } iv v2 tr vl (w2.setCell ⟨p,8,none⟩ v2):=by
  refine ⟨z0a (i:=8) _ hp2,?_,⟨L2,hgr.grown z0f hg3 (by omega)⟩,fun b hb=>?_,⟨h.g.ln,h.g.sl,fun i l hi=>?_⟩,⟨h.l.1,?_⟩,h.k,h.st,by simp; omega,h.dp,h.nl,fun b hb=>q_1 (h.lt b hb) hsz⟩
  ·obtain ⟨A,c,i1,i2,i3,i4,i5⟩:=h.i;refine ⟨A,c,i1,i2,i3,fun j u hu=>?_,i5⟩;obtain ⟨ad,e,hc⟩:=i4 j u hu;have hb:=i5 ad e;have hp:=h.plt;exact ⟨ad,e,(q_6 (a:=ad.add j) (hk _ (by rw [z0i]; omega) (by rw [z0i]; omega) (fun e=>by rw [z0i] at e; have:=hop _ e; omega))).trans hc⟩
  ·rcases hat b hb with e | e
   ·exact h.on b e
   ·refine ⟨fun e2=>?_,fun e2=>?_,fun e2=>?_⟩
    ·rcases h.l.2 with ⟨_,e3,_⟩ | ⟨_,_,_,_,e3⟩
     ·have:=h.plt; omega
     ·have:=e3.lt; omega
    ·have:=h.lt b (.inr e2); omega
    ·have:=h.lt b (.inl e2); omega
  ·obtain ⟨b,c,e1,e2,e3⟩:=h.g.at_ i l hi;have hgb:=hgk (fun e=>by rw [e] at hi; simp at hi);have hbm:=q_a e1;have hb:=h.k.ga b hbm;exact ⟨b,c,e1,(q_6 (a:=⟨K.gb,i,none⟩) (hk _ (q_k w _ e2) (fun e=>by have e':K.gb=p:=e; omega) (fun e=>(h.on _ e).2.2 rfl))).trans e2,(hk b e3.lt (by omega) (fun e=>(h.on _ e).2.1 hbm)).trans e3⟩
  ·rcases h.l.2 with h1 | ⟨h1,h2,h3,h4,h5⟩
   ·exact .inl h1
   ·exact .inr ⟨h1,h2,h3,h4,(hk lb h5.lt (by omega) (fun e=>(h.on _ e).1 rfl)).trans h5⟩
 refine ⟨h3,⟨?_,fun b hb hne _ _ ho=>hk b hb hne (fun e=>ho ((h.out_iff b).2 e)),fun b e=>?_⟩⟩
 ·have h1:Below p w w2:=z05 hg (fun k hk=>by have:=hop k hk; omega) (by have:=h.plt; omega);exact h1.trans (z05 hg3 (fun k hk=>by injection hk with hk; omega) (by have:=h.plt; have:=hg.size; omega))
 ·rcases hat b ((h3.out_iff b).1 e) with e2 | e2
  ·exact .inl ((h.out_iff b).2 e2)
  ·exact .inr e2
end
structure Frm7 (p:Nat) (K:RK) (lb fb:Nat) (ns:List Zb) (w:World):Prop where
 f:∃ nA nc vc,w.heap[fb]?=some (.cells #[.slice nA ns.length nc,.slice (some ⟨lb,0,none⟩) ns.length vc] 107 (0,0))/\z0l (fun b=>b<w.heap.size/\Fre7 p K lb w b) w ns nA nc
 ff:Fre7 p K lb w fb
section
variable {p:Nat} {K:RK} {lb fb:Nat} {ns:List Zb} {w w':World}
theorem Frm7.fr (h:Frm7 p K lb fb ns w) (hf:Fr7 p K lb w w'):Frm7 p K lb fb ns w':=by
 obtain ⟨nA,nc,vc,h1,h2⟩:=h.f;have hlt:=(q_0.1 h1).1;exact ⟨⟨nA,nc,vc,hf.at_ h.ff h1,h2.keepR (fun b hb=>⟨q_1 hb.1 hf.lo.size,hf.free hb.1 hb.2⟩) (fun b hb=>hf.keep b hb.1 (by have:=hb.2.1; omega) hb.2.2.1 hb.2.2.2.1 hb.2.2.2.2.2)⟩,hf.free hlt h.ff⟩
theorem Frm7.below (h:Frm7 p K lb fb ns w) (hb:Below w.heap.size w w') (hp:p<w.heap.size):Frm7 p K lb fb ns w':=h.fr ((Fr7.refl _ _ _ _).below hb hp)
end
def Tr7 (p:Nat) (t:Int) (w:World):Prop:=w.cell? ⟨p,9,none⟩=some (.int .i64 t)
def Vl7 (p:Nat) (v:Int) (w:World):Prop:=w.cell? ⟨p,10,none⟩=some (.int .i64 v)
def E7 (p:Nat) (K:RK) (lb nl:Nat) (dp:Int) (y:Rz) (w:World) (e:Ending) (w':World):Prop :=
 ∃ v:Int,e=.returned (.tuple #[.int .i64 v,.int .i64 y.1.2.1])/\(y.1.2.1=0->v=y.1.1)/\(y.1.2.1=2->Tr7 p y.1.2.2 w')/\RuS7 p K lb nl dp y.2 w'/\Fr7 p K lb w w'
def S7 (p:Nat) (K:RK) (lb nl:Nat) (dp:Int) (y:Rz) (w:World) (e:Ending) (w':World):Prop :=
 e=.returned (.int .i64 y.1.2.1)/\(y.1.2.1=1->Vl7 p y.1.1 w')/\(y.1.2.1=2->Tr7 p y.1.2.2 w')/\RuS7 p K lb nl dp y.2 w'/\Fr7 p K lb w w'
section
variable {p:Nat} {K:RK} {lb fb nl:Nat} {dp:Int} {s:Sx} {w:World} {ns:List Zb}
theorem RuS7.up {w':World} (h:RuS7 p K lb nl dp s w) (hb:Below w.heap.size w w'):RuS7 p K lb nl dp s w'/\Fr7 p K lb w w':=⟨h.below hb,(Fr7.refl _ _ _ _).below hb h.lt⟩
theorem z12 {a w:World} {B:Nat} (h:Below B a w) (n:Nat):Below B a (w.drewN n):=⟨h.os,h.tape,h.output,h.size,h.block⟩
theorem za2 (h:RuS7 p K lb nl dp s w):Calls Tryz.prog 79 #[.pointer (some ⟨p,0,none⟩)] w (S7 p K lb nl dp (z2y K.ls s) w):=by
 have hbd:=h.bound;obtain ⟨iv,ov,tr,vl,h⟩:=h;have c3:=zcr 3 h.r;have c5:=zcr 5 h.r;have f5:=z09 h.r 5;have H:=zhi h;have h0:0<=s.st:=hbd.1;have h1:s.st<=1099511627776:=hbd.2.1;clear h hbd
 by_cases hl:K.ls<=s.st
 ·have hs:z2y K.ls s=((0,3,0),s):=if_pos hl;rw [hs];have HS:=zhi hs;clear hs;go_enter Tryz.func79,Tryz.ntmps79;go_wp2_with fail;go_quiet (fail);go_wp2_with fail;go_ret;have hb:=z12 (q_i w.heap.size w) nq;exact ⟨rfl,(fun e=>by cases e),(fun e=>by cases e),RuS7.up ⟨iv,ov,tr,vl,H.out⟩ hb⟩
 ·have hs:z2y K.ls s=((0,0,0),tick s):=if_neg hl;rw [hs];have hl2:(K.ls<=s.st)=False:=eq_false hl;clear hs;go_enter Tryz.func79,Tryz.ntmps79;go_wp2_with fail;go_quiet (fail);have hm:=H.out.keep (w':=w.drewN nq) (q_2 _) (fun _ _ _=>rfl);have hg:(w.drewN nq).grownBy ((w.drewN nq).setCell ⟨p,5,none⟩ (.int .i64 (s.st+1))) (some p):=z03 _ ⟨p,5,none⟩ _;have hr:Rn7 p K (tick s).st dp iv ov tr vl ((w.drewN nq).setCell ⟨p,5,none⟩ (.int .i64 (s.st+1))):=z0a (i:=5) _ hm.r;have hm2:=hm.self (s':=tick s) hg hr (z1M hm.i hg hm.plt) (hm.l.grown hg) rfl rfl (fun b hb=>(hm.on b hb).1) ⟨by show 0<=s.st+1; omega,by show s.st+1<=_; omega⟩ hm.dp hm.nl;have hf:=((Fr7.refl p K lb w).below (z12 (q_i _ w) nq) H.out.plt).trans (z2C hg hm.plt (fun b e=>(hm.out_iff b).2 ((hm2.out_iff b).1 e)));have HE:=zhi (And.intro hm2 hf);clear hm hg hr hm2 hf;go_wp2_with fail;go_ret;exact ⟨rfl,(fun e=>by cases e),(fun e=>by cases e),⟨iv,ov,tr,vl,HE.out.1⟩,HE.out.2⟩
theorem z3d (h:RuS7 p K lb nl dp s w) (t:Int):Calls Tryz.prog 83 #[.pointer (some ⟨p,0,none⟩),.int .i64 t] w (fun e w'=>e=.returned (.int .i64 2)/\Tr7 p t w'/\RuS7 p K lb nl dp s w'/\Fr7 p K lb w w'):=by
 obtain ⟨iv,ov,tr,vl,h⟩:=h;have c9:=zcr 9 h.r;have f9:=z09 h.r 9;have hg:w.grownBy (w.setCell ⟨p,9,none⟩ (.int .i64 t)) (some p):=z03 _ ⟨p,9,none⟩ _;have hr:Rn7 p K s.st dp iv ov t vl (w.setCell ⟨p,9,none⟩ (.int .i64 t)):=z0a (i:=9) _ h.r;have hm2:=h.self (s':=s) hg hr (z1M h.i hg h.plt) (h.l.grown hg) rfl rfl (fun b hb=>(h.on b hb).1) h.st h.dp h.nl;have hf:=z2C hg h.plt (fun b e=>(h.out_iff b).2 ((hm2.out_iff b).1 e)) (K:=K) (lb:=lb);have ht:Tr7 p t (w.setCell ⟨p,9,none⟩ (.int .i64 t)):=zcr 9 hr;have HE:=zhi (And.intro ht (And.intro hm2 hf));clear h hg hr hm2 hf ht;go_enter Tryz.func83,Tryz.ntmps83;go_wp2_with fail;go_ret;exact ⟨rfl,HE.out.1,⟨iv,ov,t,vl,HE.out.2.1⟩,HE.out.2.2⟩
def ZI7 (z:Int) (w:World) (e:Ending) (w':World):Prop:=e=.returned (.int .i64 z)/\∃ q,w'=w.drewN q
theorem z7r {F:Nat->Prop} (nm:Zb) (ns:List Zb) (nA:Option Addr) (nn nc:Nat) (v:Value) (w:World) (hn:ns.length=nn) (hf:w.heap[fb]?=some (.cells #[.slice nA nn nc,v] 107 (0,0))) (hr:z0l F w ns nA nc) (hn2:nn<=1000000) :
  Calls Tryz.prog 81 #[.pointer (some ⟨fb,0,none⟩),.string nm] w (ZI7 (intO (z0S ns nm)) w):=by
 have Hr:=zhi hr;have Hn:=zhi hn;have hc:nn<=nc:=by rw [<- hn]; exact hr.1
 have c0:=zcr 0 hf;clear hr hn hf;go_enter Tryz.func81,Tryz.ntmps81;go_wp2_with fail
 go_loop [5] (fun i=>∃ k:Nat,k<=nn/\i=.int .i64 (k:Int)/\Hid (∀ j,j<k->ns[j]?≠some nm)) (fun i=>nn - (intOf i).toNat)
 case atStart=>exact ⟨0,q_h _,rfl,zhi (fun j hj=>by omega)⟩
 case round =>
  obtain ⟨k,hk,rfl,H⟩:=hrel
  by_cases hlt:k<nn
  ·obtain ⟨x,hx⟩:∃ x,ns[k]?=some x:=⟨ns[k]'(by rw [Hn.out]; exact hlt),q_7 _⟩;obtain ⟨g,rfl,_,d0⟩:=Hr.out.2 _ _ hx;have Hx:=zhi hx;clear hx
   by_cases he:x=nm
   ·subst he;have HP:Hid (intO (z0S ns x)=(k:Int)):=zhi (by rw [z3l Hx.out H.out]; rfl);clear H Hx;go_wp2_with fail;go_ret;exact ⟨by rw [HP.out]; rfl,0,rfl⟩
   ·have H2:=zhi (z2F H.out Hx.out he);have he2:=z5o he;clear H Hx;go_wp2_with fail;exact ⟨⟨k+1,by omega,by go_num,H2⟩,by simp [intOf]; omega⟩
  ·have HP:Hid (intO (z0S ns nm)=-1):=zhi (by rw [z75 (fun j hj=>H.out j (by have:=Hn.out; omega))]; rfl);clear H;go_wp2_with fail;go_ret;exact ⟨by rw [HP.out]; rfl,0,rfl⟩
theorem GlZ.get {gl:List (List Int)} (h:GlZ K gl w) {n:Nat} {l:List Int} (hl:gl[n]?=some l):∃ b c gc,K.ga[n]?=some b/\K.gv=.slice (some ⟨K.gb,0,none⟩) gl.length gc/\w.cell? ⟨K.gb,n,none⟩=some (.slice (some ⟨b,0,none⟩) l.length c)/\IntB w b l:=by
 obtain ⟨b,c,h1,h2,h3⟩:=h.at_ n l hl;rcases h.sl with e | ⟨gc,e⟩
 ·rw [e] at hl; simp at hl
 ·exact ⟨b,c,gc,h1,e,h2,h3⟩
structure Pg7 (p:Nat) (K:RK) (D d:Nat) (gl:GlL) (fl:List Fn) (w:World):Prop where
 s:∃ gA gc fA fc,K.sz=.slice gA gl.length gc/\K.fn=.slice fA fl.length fc/\z0k (fun b=>b<p) w gl gA gc/\z0R (fun b=>b<p) w D d fl fA fc
 gn:gl.length<=1000
 fn:fl.length<=1000
 gs:K.gs.length=gl.length
theorem Pg7.low {w':World} {D d:Nat} {gl:GlL} {fl:List Fn} (h:Pg7 p K D d gl fl w) (hb:Below p w w'):Pg7 p K D d gl fl w':=by
 obtain ⟨gA,gc,fA,fc,h1,h2,h3,h4⟩:=h.s;exact ⟨⟨gA,gc,fA,fc,h1,h2,h3.keepR (fun _ h=>h) (fun b hb'=>hb.block b hb'),h4.keepR (fun _ h=>h) (fun b hb'=>hb.block b hb')⟩,h.gn,h.fn,h.gs⟩
def El7 (K:RK) (s:Sx) (n:Nat) (i:Int) (w:World) (e:Ending) (w':World):Prop :=
 ∃ b c m ok,K.ga[n]?=some b/\m=(glAt s (n:Int)).length/\ok=decide (0<=i/\i<((glAt s (n:Int)).length:Int))/\e=.returned (.tuple #[.slice (some ⟨b,0,none⟩) m c,.bool ok])/\Below w.heap.size w w'
theorem z5C {D d:Nat} {gl:GlL} {fl:List Fn} (h:RuS7 p K lb nl dp s w) (hp:Pg7 p K D d gl fl w) (nm:Zb) (n:Nat) (hn:z0S (gl.map (·.1)) nm=some n) (i:Int):Calls Tryz.prog 82 #[.pointer (some ⟨p,0,none⟩),.string nm,.int .i64 i] w (El7 K s n i w):=by
 obtain ⟨iv,ov,tr,vl,h⟩:=h;obtain ⟨gA,gc,fA,fc,e1,e2,hg,hf⟩:=hp.s;obtain ⟨c0,c1⟩:=cl2 h.r;have c7:=zcr 7 h.r;rw [e1] at c0;rw [e2] at c1;have hgl:s.gl.length=K.gs.length:=by rw [<- h.g.ln,List.length_map]
 have hnl:n<gl.length:=by
  have:=z40 hn;have:=(List.getElem?_eq_some_iff.1 this).1;simpa using this
 obtain ⟨l,hl⟩:∃ l,s.gl[n]?=some l:=⟨_,q_7 (by rw [hgl,hp.gs]; exact hnl)⟩;obtain ⟨b,c,gvc,hb,hgv,hc,hib⟩:=h.g.get hl;rw [hgv] at c7;have hlm:l.length<=1000000:=h.k.gm l.length (by rw [<- h.g.ln]; exact List.mem_map.2 ⟨l,q_a hl,rfl⟩);have hlc:=hp.gn;have hgs:=hp.gs;have HG:Hid (∀ (W:World) (_:Below w.heap.size w W),Calls Tryz.prog 25 #[.agg #[.slice gA gl.length gc,.slice fA fl.length fc],.string nm] W (IntR (n:Int) W)):=zhi (fun (W:World) (hW:Below w.heap.size w W)=>by
  have:=z2D nm gl gA gl.length gc (.slice fA fl.length fc) W rfl (hg.keepR (G:=fun b=>b<p) (fun _ h=>h) (fun b hb=>hW.block b (by have:=h.plt; omega))) (fun b hb=>by have:=hW.size; have:=h.plt; omega) (by omega) fA fl.length fc rfl;rw [hn] at this;exact this)
 have HL:Hid (glAt s (n:Int)=l):=zhi (by
  unfold glAt;rw [List.getD_eq_getElem?_getD];simp [hl])
 have HB:=zhi hb;have HC:=zhi hc;obtain ⟨m,hm⟩:∃ m,m=l.length:=⟨_,rfl⟩;obtain ⟨gn,hgn⟩:∃ gn,gn=s.gl.length:=⟨_,rfl⟩;rw [<- hm] at HC hlm hc;rw [<- hgn] at c7;have hngn:n<gn:=by omega
 have hgn2:gn<=1000:=by omega
 have HM:=zhi hm;clear h hp hg hf hb hib hl e1 e2 hgv hm hgn hn hgl hgs hlc;go_enter Tryz.func82,Tryz.ntmps82;go_wp2_with fail;have HS:Hid (∀ W,Below w.heap.size w W->W.cell? ⟨p,0,none⟩=some (.slice gA gl.length gc)/\W.cell? ⟨p,1,none⟩=some (.slice fA fl.length fc)/\W.cell? ⟨p,7,none⟩=some (.slice (some ⟨K.gb,0,none⟩) gn gvc)/\W.cell? ⟨K.gb,n,none⟩=some (.slice (some ⟨b,0,none⟩) m c)/\Below w.heap.size w W):=zhi (fun W hb=>⟨hold hb c0,hold hb c1,hold hb c7,hold hb hc,hb⟩);have hB0:Below w.heap.size w w.drew:=z0m (q_i _ _);have hS0:=HS.out _ hB0
 go_region_held3 (fun W=>W.cell? ⟨p,0,none⟩=some (.slice gA gl.length gc)/\W.cell? ⟨p,1,none⟩=some (.slice fA fl.length fc)/\W.cell? ⟨p,7,none⟩=some (.slice (some ⟨K.gb,0,none⟩) gn gvc)/\W.cell? ⟨K.gb,n,none⟩=some (.slice (some ⟨b,0,none⟩) m c)/\Below w.heap.size w W)
  (first | (with_reducible exact hS0) | (with_reducible exact HS.out _ (by with_reducible assumption)))
  ((go_at_call 25; (with_reducible refine (HG.out _ hB0).mono ?_); rintro e w2 ⟨rfl,hb2⟩; have hb3:=z08 hB0 hb2))
 clear hS0 hB0 hb2 c0 c1 c7 hc
 by_cases h0:0<=i
 ·by_cases h1:i<(m:Int)
  ·have HD:Hid (decide (0<=i/\i<((glAt s (n:Int)).length:Int))=true):=zhi (by rw [HL.out,<- HM.out]; simp [h0,h1]);go_wp2_with fail;exact q_3 (by simp [results,Tryz.results82,go_sem]) rfl ⟨b,c,m,_,HB.out,by rw [HL.out,<- HM.out],HD.out.symm,rfl,hb3⟩
  ·have HD:Hid (decide (0<=i/\i<((glAt s (n:Int)).length:Int))=false):=zhi (by rw [HL.out,<- HM.out]; simp [h1]);go_wp2_with fail;exact q_3 (by simp [results,Tryz.results82,go_sem]) rfl ⟨b,c,m,_,HB.out,by rw [HL.out,<- HM.out],HD.out.symm,rfl,hb3⟩
 ·have HD:Hid (decide (0<=i/\i<((glAt s (n:Int)).length:Int))=false):=zhi (by rw [HL.out,<- HM.out]; simp [h0]);go_wp2_with fail;exact q_3 (by simp [results,Tryz.results82,go_sem]) rfl ⟨b,c,m,_,HB.out,by rw [HL.out,<- HM.out],HD.out.symm,rfl,hb3⟩
end
def nmK (gl:GlL) (fl:List Fn) (ns:List Zb) (L O:NmF) (k:Int) (s:Zb) (m:Nat):Prop :=
 (k=2->∃ i:Nat,z0S ns s=some i/\L s=some (i:Int))/\(k=3\/k=4->∃ i:Nat,z0S (gl.map (·.1)) s=some i/\O s=some (i:Int))/\(k=9\/k=11->∃ (i:Nat) (f:Fn),z0S (fl.map (·.name)) s=some i/\O s=some (i:Int)/\fl[i]?=some f/\(k=9->m=f.params.length)) /\
 ((k=1\/k=2\/k=3\/k=11\/k=12)->m=0)/\m<=1000
mutual
def nmX (gl:GlL) (fl:List Fn) (ns:List Zb) (L O:NmF):Ex->Prop
 | .mk k _ _ _ s xs=>nmK gl fl ns L O k s xs.length/\nmL gl fl ns L O xs
def nmL (gl:GlL) (fl:List Fn) (ns:List Zb) (L O:NmF):List Ex->Prop
 | []=>True
 | x :: xs=>nmX gl fl ns L O x/\nmL gl fl ns L O xs
end
theorem zc1 {gl:GlL} {fl:List Fn} {ns:List Zb} {L O:NmF}:∀ {xs:List Ex} {i:Nat} {x:Ex},nmL gl fl ns L O xs->xs[i]?=some x->nmX gl fl ns L O x
 | [],_,_,_,h=>by simp at h
 | y :: ys,0,x,h,hi=>by
  simp at hi;subst hi;exact h.1
 | y :: ys,i+1,x,h,hi=>zc1 h.2 (by simpa using hi)
theorem zeS {L O:NmF} {xs:List Ex} {i:Nat} {x:Ex} (h:xs[i]?=some x):(nL L O xs)[i]?=some (nX L O x):=by
 induction xs generalizing i with
 | nil=>simp at h
 | cons y ys ih =>
  cases i with
  | zero =>
   simp at h;subst h;rfl
  | succ i=>exact ih (by simpa using h)
def pn7 (fl:List Fn):List Nat:=fl.map fun f=>f.params.length
section
variable (p:Nat) (K:RK) (D d:Nat) (gl:GlL) (fl:List Fn) (nd:Nat) (C:Cz) (O:NmF)
def zap:Prop:=∀ (lb nl:Nat) (dp:Int) (s:Sx) (f:Int) (F:Fn) (args:List Int) (A:Option Addr) (n c:Nat) (w:World),RuS7 p K lb nl dp s w->DpZ K dp nd->Pg7 p K D d gl fl w->0<=f->fl[f.toNat]?=some F->args.length=F.params.length->args.length=n->n<=c->n<=1000->Rd w A (args.map (Value.int .i64)) ->
 Calls Tryz.prog 20 #[.pointer (some ⟨p,0,none⟩),.int .i64 f,.slice A n c] w (E7 p K lb nl dp (C f args s) w)
def z8f (dx:Nat):Prop:=∀ (lb fb nl:Nat) (dp:Int) (s:Sx) (ns:List Zb) (L:NmF) (x:Ex) (v:Value) (w:World),RuS7 p K lb nl dp s w->DpZ K dp nd->Pg7 p K D d gl fl w->Frm7 p K lb fb ns w->ns.length=nl->ExV (fun b=>b<p) w dx x v->nmX gl fl ns L O x->wzX nl K.gs fl.length (nX L O x) ->
 Calls Tryz.prog 94 #[.pointer (some ⟨p,0,none⟩),.pointer (some ⟨fb,0,none⟩),v] w (E7 p K lb nl dp (zX K.ls (pn7 fl) C (nX L O x) s) w)
def L7 (lb nl:Nat) (dp:Int) (q:Lz) (w:World) (e:Ending) (w':World):Prop :=
 ∃ A n c,e=.returned (.tuple #[.slice A n c,.int .i64 q.2.1.1])/\(q.2.1.1=0->n=q.1.length/\n<=c/\Rd w' A (q.1.map (Value.int .i64))/\∀ ad,A=some ad->Fre7 p K lb w' ad.block)/\(q.2.1.1=2->Tr7 p q.2.1.2 w')/\RuS7 p K lb nl dp q.2.2 w'/\Fr7 p K lb w w'
def zcg (dx:Nat):Prop:=∀ (lb fb nl:Nat) (dp:Int) (s:Sx) (ns:List Zb) (L:NmF) (xs:List Ex) (A:Option Addr) (n c:Nat) (w:World),RuS7 p K lb nl dp s w->DpZ K dp nd->Pg7 p K D d gl fl w->Frm7 p K lb fb ns w->ns.length=nl->RowE (fun b=>b<p) w dx xs A c->xs.length=n->n<=1000->nmL gl fl ns L O xs->wzL nl K.gs fl.length (nL L O xs) ->
 Calls Tryz.prog 80 #[.pointer (some ⟨p,0,none⟩),.pointer (some ⟨fb,0,none⟩),.slice A n c] w (L7 p K lb nl dp (zL K.ls (pn7 fl) C (nL L O xs) s) w)
end
section
variable {p:Nat} {K:RK} {D d:Nat} {gl:GlL} {fl:List Fn} {nd:Nat} {C:Cz} {O:NmF} {lb fb nl:Nat} {dp:Int} {s s':Sx} {ns:List Zb} {w W W':World}
theorem RuS7.row {v:Value} (h:RuS7 p K lb nl dp s W) (hg:W.grownBy W' v.ownBlock) (hv:∀ b,v.ownBlock=some b->w.heap.size<=b/\Fre7 p K lb W b) (hf:Fr7 p K lb w W) (hp:p<w.heap.size):RuS7 p K lb nl dp s W'/\Fr7 p K lb w W':=by
 cases hb:v.ownBlock with
 | none =>
  rw [hb] at hg;have hbl:=z05 hg (fun k e=>by cases e) (q_2 _);exact ⟨h.below hbl,hf.below hbl hp⟩
 | some b =>
  rw [hb] at hg;obtain ⟨h1,h2⟩:=hv b hb;exact ⟨h.grown hg h2,hf.put hg h1 hp⟩
structure Lw7 (p:Nat) (K:RK) (lb nl:Nat) (dp:Int) (w:World) (vs:List Int) (v:Value) (s:Sx) (wr:World):Prop where
 rs:RuS7 p K lb nl dp s wr
 fr:Fr7 p K lb w wr
 g:∃ L,GRow 1 3 ZInt w.heap.size wr v vs L
 fv:∀ b,v.ownBlock=some b->w.heap.size<=b/\Fre7 p K lb wr b
 p:p<w.heap.size
theorem Lw7.new (h:RuS7 p K lb nl dp s w):Lw7 p K lb nl dp w [] (.slice none 0 0) s w:=⟨h,Fr7.refl _ _ _ _,⟨[],GRow.nil⟩,fun b hb=>(by cases hb),h.lt⟩
theorem Lw7.call {vs:List Int} {v:Value} (h:Lw7 p K lb nl dp w vs v s W) (hr:RuS7 p K lb nl dp s' W') (hf:Fr7 p K lb W W'):Lw7 p K lb nl dp w vs v s' W':=by
 obtain ⟨L,hg⟩:=h.g;have hlt:∀ b,v.ownBlock=some b->b<W.heap.size:=fun b hb=>(hg.own.lt b hb).2
 refine ⟨hr,h.fr.trans hf,⟨L,z1q hg fun b hb=>?_⟩,fun b hb=>⟨(h.fv b hb).1,hf.free (hlt b hb) (h.fv b hb).2⟩,h.p⟩;have hfb:=(h.fv b hb).2;exact hf.keep b (hlt b hb) (by have:=hfb.1; omega) hfb.2.1 hfb.2.2.1 hfb.2.2.2.2
theorem Lw7.push {vs:List Int} {v v2:Value} {x:Int} {L2:List Value} (h:Lw7 p K lb nl dp w vs v s W) (hg:GRow 1 3 ZInt w.heap.size W' v2 (vs++[x]) L2) (hgr:W.grownBy W' v.ownBlock) (hat:∀ b,v2.ownBlock=some b->v.ownBlock=some b\/W.heap.size<=b):Lw7 p K lb nl dp w (vs++[x]) v2 s W':=by
 obtain ⟨h1,h2⟩:=RuS7.row h.rs hgr h.fv h.fr h.p;have hsz:=h.fr.lo.size;have hpw:=h.rs.lt;have hpk:W'.heap[p]?=W.heap[p]?:=hgr.block p hpw (fun e=>by
  have:=(h.fv p e.symm).2.1;omega)
 refine ⟨h1,h2,⟨L2,hg⟩,fun b hb=>?_,h.p⟩;rcases hat b hb with e | e
 ·obtain ⟨e1,e2⟩:=h.fv b e;exact ⟨e1,e2.1,e2.2.1,e2.2.2.1,e2.2.2.2.1,fun e=>e2.2.2.2.2 (z2h hpk e)⟩
 ·have e2:=h.rs.free e;exact ⟨by omega,e2.1,e2.2.1,e2.2.2.1,e2.2.2.2.1,fun e=>e2.2.2.2.2 (z2h hpk e)⟩
theorem Lw7.slice {vs:List Int} {v:Value} (h:Lw7 p K lb nl dp w vs v s W):∃ A c,v=.slice A vs.length c/\vs.length<=c/\Rd W A (vs.map (Value.int .i64)):=by
 obtain ⟨L,hg⟩:=h.g;obtain ⟨A,c,rfl⟩:=z2b hg;obtain ⟨hc,hrow⟩:=(hg.row z0f).2;refine ⟨A,c,rfl,hc,fun j u hu=>?_⟩;rw [q_b,q_c] at hu;obtain ⟨x,hx,rfl⟩:=hu;obtain ⟨g,cs,hA,_,_,hcl,hcs⟩:=hrow j x hx;refine ⟨_,hA,?_⟩;rw [Addr.add_lit,Nat.zero_add];have:=hcl 0 (.int .i64 x) (by rw [show cs=[.int .i64 x] from hcs]; rfl);simpa using this
theorem zbX {dx:Nat} (hE:z8f p K D d gl fl nd C O dx):zcg p K D d gl fl nd C O dx:=by
 intro lb fb nl dp s ns L xs A n c w h hd hP hfm hns he hn hn2 hnm hw;have hnc:n<=c:=by rw [<- hn]; exact he.1
 have HE:=zhi hE;have HD:=zhi hd;have HP:=zhi hP;have HFm:=zhi hfm;have HR:=zhi (fun (w':World) (hb:Below p w w')=>he.keep (G:=fun b=>b<p) (fun _ h=>h) (fun b hb'=>hb.block b hb'));have HW:=zhi hw;have HNm:=zhi hnm;have Hn:=zhi hn;have Hns:=zhi hns;have HL0:=zhi (Lw7.new h);obtain ⟨Y,hY⟩:∃ Y,Y=zL K.ls (pn7 fl) C (nL L O xs) s:=⟨_,rfl⟩;rw [<- hY];have HY:=zhi hY;clear hE hd hP he hn hw h hY hfm hnm hns;go_enter Tryz.func80,Tryz.ntmps80;go_wp2_with fail
 go_loopw [8,9] (fun o v wr=>∃ (pre rest:List Ex) (vs:List Int) (s':Sx) (j m k:Nat) (oA:Option Addr),o=.slice oA m k/\v=.int .i64 (j:Int)/\Hid (xs=pre++rest/\j=pre.length/\vs.length=pre.length/\m=vs.length)/\Hid (Y=zpre vs (zL K.ls (pn7 fl) C (nL L O rest) s'))/\Hid (Lw7 p K lb nl dp w vs (.slice oA m k) s' wr)) (fun _ v _=>n - (intOf v).toNat)
 case atStart =>
  refine ⟨[],xs,[],s,0,0,0,none,rfl,rfl,zhi ⟨rfl,rfl,rfl,rfl⟩,zhi ?_,HL0⟩;rw [HY.out];exact z7B _ _
 case round =>
  obtain ⟨pre,rest,vs,s',j,m,kc,oA,rfl,rfl,HXS,HYr,HFr⟩:=hrel;cases rest with
  | nil =>
   have hjn:n<=j:=by rw [<- Hn.out,HXS.out.1,HXS.out.2.1]; simp
   have HY2:Hid (Y=(vs,(0,0),s')):=zhi (by
    rw [HYr.out];unfold nL zL zpre;simp)
   have HH:Hid (L7 p K lb nl dp Y w (.returned (.tuple #[.slice oA m kc,.int .i64 0])) wr):=zhi (by
    rw [HY2.out];obtain ⟨A2,c2,e2,h3,h4⟩:=HFr.out.slice;injection e2 with e3 e4 e5;subst e3 e5;exact ⟨oA,m,kc,rfl,fun _=>⟨HXS.out.2.2.2,by rw [HXS.out.2.2.2]; exact h3,h4,fun ad e=>(HFr.out.fv ad.block (by rw [e]; rfl)).2⟩,fun e=>(by cases e),HFr.out.rs,HFr.out.fr⟩)
   clear HYr HE HP HR HW HFr;go_wp2_with fail;exact q_3 (by simp [results,Tryz.results80,go_sem]) rfl HH.out
  | cons x rest =>
   have hlt:j<n:=by rw [<- Hn.out,HXS.out.1,HXS.out.2.1]; simp
   have hxj:xs[j]?=some x:=by rw [HXS.out.1,HXS.out.2.1]; simp
   obtain ⟨g,off,c0,c1,c2,c3,c4,c5,rfl,hg,e0,e1,e2,e3,e4,e5,hv⟩:=(HR.out wr HFr.out.fr.lo).2 j x hxj;have HCx:=zhi (HE.out lb fb nl dp s' ns L x _ wr HFr.out.rs HD.out (HP.out.low HFr.out.fr.lo) (HFm.out.fr HFr.out.fr) Hns.out hv (zc1 HNm.out hxj) (z4l HW.out (zeS hxj)));have hYc:=HYr.out;have ezl:zL K.ls (pn7 fl) C (nL L O (x :: rest)) s'=zcons (zX K.ls (pn7 fl) C (nX L O x) s') (zL K.ls (pn7 fl) C (nL L O rest)):=rfl;rw [ezl] at hYc;generalize zX K.ls (pn7 fl) C (nX L O x) s'=y1 at HCx hYc;obtain ⟨⟨v1,k1,t1⟩,s1⟩:=y1;rw [z69] at hYc;have HYc:=zhi hYc;clear hYc ezl hv HYr hxj;go_wp2_with fail;refine HCx.out.mono ?_;rintro e w2 ⟨v2,rfl,hv2,htr2,hrs2,hfr2⟩;dsimp only at hv2 htr2 hrs2 ⊢;have HF3:=zhi (HFr.out.call hrs2 hfr2);have HT2:=zhi htr2;have HV2:=zhi hv2;clear hrs2 hfr2 htr2 hv2 HCx HFr HE HP HR HW e0 e1 e2 e3 e4 e5
   by_cases h0:k1=0
   ·subst h0;obtain rfl:=HV2.out rfl;have HY2:Hid (Y=zpre (vs++[v2]) (zL K.ls (pn7 fl) C (nL L O rest) s1)):=zhi (by rw [HYc.out]; exact if_pos rfl);obtain ⟨L0,hg0⟩:=HF3.out.g;have HG0:=zhi hg0;have hml:m<=1000:=by have:=HXS.out.2.2.2; have:=HXS.out.2.2.1; have:=HXS.out.2.1; omega
    clear hg0 HV2 HT2 HYc;go_wp2_with (at_builtin; refine z07.out ?_);refine z07.of (z1n (k:=1) (T:=3) (S:=23) (V:=ZInt) w2 rfl (.tmp 31) (.tmp 33) rfl z0f (.int .i64 0) 8 Tryz.underlying23 z2E rfl (by decide) (by decide) w.heap.size (.slice oA m kc) vs L0 v2 [.int .i64 v2] (fun _=>False) rfl rfl HG0.out (by rw [<- HXS.out.2.2.2]; omega) HF3.out.fr.lo.size rfl (by simp [Value.oneCell']) rfl (fun b hb=>hb.elim) ?_);intro g2 cap2 w3 hgr3 hg3 hat3;have HF4:=zhi (HF3.out.push hgr3 hg3 (fun b hb=>by
     have e:g2=b:=by simpa [Value.ownBlock] using hb
     subst e;exact hat3))
    have HXS2:Hid (xs=(pre++[x])++rest/\j+1=(pre++[x]).length/\(vs++[v2]).length=(pre++[x]).length/\vs.length+1=(vs++[v2]).length):=zhi ⟨by rw [HXS.out.1]; simp,by rw [HXS.out.2.1]; simp,by simp [HXS.out.2.2.1],by simp⟩;clear hgr3 hg3 hat3 HG0 HF3 HXS;go_wp2_with fail;exact ⟨⟨pre++[x],rest,vs++[v2],s1,j+1,vs.length+1,cap2,_,by first | rfl | go_num,by go_num,HXS2,HY2,HF4⟩,by simp [intOf]; omega⟩
   ·have HY2:Hid (Y=([],(k1,t1),s1)):=zhi (by rw [HYc.out]; exact if_neg h0);have h0':(k1 != 0)=true:=by simp [h0]
    have HH:Hid (L7 p K lb nl dp Y w (.returned (.tuple #[.slice none 0 0,.int .i64 k1])) w2):=zhi (by
     rw [HY2.out];exact ⟨none,0,0,rfl,fun e=>absurd e h0,HT2.out,HF3.out.rs,HF3.out.fr⟩)
    clear HV2 HT2 HYc HF3 h0;go_wp2_with fail;exact q_3 (by simp [results,Tryz.results80,go_sem]) rfl HH.out
end
structure Bx7 (p:Nat) (K:RK) (lb nl:Nat) (dp:Int) (w:World) (row:Array Value) (T:TypeId) (s:Sx) (W:World):Prop where
 rs:RuS7 p K lb nl dp s W
 fr:Fr7 p K lb w W
 z:W.heap[w.heap.size]?=some (.cells row T (0,0))
 f:Fre7 p K lb W w.heap.size
 p:p<w.heap.size
def zaft (pn:List Nat) (C:Cz) (k o a:Int) (vs:List Int) (s:Sx):Rz :=
 if k=1\/k=11 then ((a,0,0),s) else if k=2 then ((s.lv.getD a.toNat 0,0,0),s) else if k=3 then (((glAt s a).getD 0 0,0,0),s)
 else if k=12 then ((s.inp.headD 0,0,0),{ s with inp:=s.inp.tail }) else if k=9 then C a vs s else if k=10 then z18 pn C vs s
 else if k=4 then zel (glAt s a) (vs.headD 0) s else if k=5 then ((unP o (vs.headD 0),0,0),s) else (appP o (vs.headD 0) (vs.tail.headD 0),s)
theorem zam {ls:Int} {pn:List Nat} {C:Cz} {x:Ex} {s:Sx} {g:Int->Sx->Rz} {f:List Int->Sx->Rz} (hf:∀ v s,f [v] s=g v s):z0W (zX ls pn C x s) g=z0V (zL ls pn C [x] s) f:=by
 have e:zL ls pn C [x] s=zcons (zX ls pn C x s) (zL ls pn C []):=rfl;rw [e];obtain ⟨⟨v,k,t⟩,s1⟩:=zX ls pn C x s;unfold z0W zcons z0V
 by_cases h:k=0
 ·subst h;simp [zL,hf]
 ·simp [h]
theorem zeu {ls:Int} {pn:List Nat} {C:Cz} {x y:Ex} {s:Sx} {g:Int->Int->Int × Int × Int} {f:List Int->Sx->Rz} (hf:∀ v u s,f [v,u] s=(g v u,s)):z0W (zX ls pn C x s) (fun v s1=>z0W (zX ls pn C y s1) fun u s2=>(g v u,s2))=z0V (zL ls pn C [x,y] s) f:=by
 have e:zL ls pn C [x,y] s=zcons (zX ls pn C x s) (zL ls pn C [y]):=rfl;rw [e];obtain ⟨⟨v,k,t⟩,s1⟩:=zX ls pn C x s
 by_cases h:k=0
 ·subst h;have e2:zL ls pn C [y] s1=zcons (zX ls pn C y s1) (zL ls pn C []):=rfl;unfold z0W zcons z0V;dsimp only;rw [if_pos rfl,if_pos rfl,e2];obtain ⟨⟨u,k2,t2⟩,s2⟩:=zX ls pn C y s1;unfold zcons
  by_cases h2:k2=0
  ·subst h2;simp [zL,hf]
  ·simp [h2]
 ·unfold z0W zcons z0V;simp [h]
theorem zeF {ls:Int} {pn:List Nat} {C:Cz} {k o a l:Int} {nm:Zb} {xs:List Ex} {s:Sx} (hs:¬ ls<=s.st) (hk:((k=1\/k=11\/k=12\/k=2\/k=3)/\xs=[])\/((k=4\/k=5)/\xs.length=1)\/(k=6/\xs.length=2)\/k=9\/k=10) :
  zX ls pn C (.mk k o a l nm xs) s=z0V (zL ls pn C xs (tick s)) (zaft pn C k o a):=by
 rw [z8b,if_neg hs];rcases hk with ⟨hk,rfl⟩ | ⟨hk,hl⟩ | ⟨rfl,hl⟩ | rfl | rfl
 ·rcases hk with rfl | rfl | rfl | rfl | rfl <;> simp [zL,z0V,zaft,tick,glAt]
 ·match xs,hl with
  | [x],_ =>
   rcases hk with rfl | rfl
   ·simp only [zO];rw [if_neg (by decide),if_neg (by decide),if_neg (by decide),if_neg (by decide),if_neg (by decide),if_neg (by decide)];exact zam (fun v s=>by simp [zaft,z1])
   ·simp only [zO];rw [if_neg (by decide),if_neg (by decide),if_neg (by decide),if_neg (by decide),if_neg (by decide),if_neg (by decide)];exact zam (fun v s=>by simp [zaft,z1])
 ·match xs,hl with
  | [x,y],_ =>
   simp only [zO];rw [if_neg (by decide),if_neg (by decide),if_neg (by decide),if_neg (by decide),if_neg (by decide),if_neg (by decide)];have:z2 6 o (zX ls pn C y)=fun v s1=>z0W (zX ls pn C y s1) fun u s2=>(appP o v u,s2):=by
    funext v s1
    simp [z2,z2v]
   rw [this];exact zeu (fun v u s=>by simp [zaft])
 ·have e:zaft pn C 9 o a=C a:=by
   funext vs s
   simp [zaft]
  rw [if_neg (by decide),if_neg (by decide),if_neg (by decide),if_neg (by decide),if_pos rfl,e]
 ·have e:zaft pn C 10 o a=z18 pn C:=by
   funext vs s
   simp [zaft]
  rw [if_neg (by decide),if_neg (by decide),if_neg (by decide),if_neg (by decide),if_neg (by decide),if_pos rfl,e]
section
variable {p:Nat} {K:RK} {D d:Nat} {gl:GlL} {fl:List Fn} {nd:Nat} {C:Cz} {O:NmF} {lb fb nl:Nat} {dp:Int} {s s':Sx} {ns:List Zb} {w W W':World} {row:Array Value} {T:TypeId}
theorem Bx7.new (h:RuS7 p K lb nl dp s w) (row:Array Value) (T:TypeId):Bx7 p K lb nl dp w row T s (w.alloc (.cells row T)) :=
 have hb:=(q_i _ w).alloc (q_2 _) (.cells row T)
 ⟨h.below hb,(Fr7.refl _ _ _ _).below hb h.lt,q_4 w _,z6k (h.free (q_2 _)) hb h.lt,h.lt⟩
theorem Bx7.lt (h:Bx7 p K lb nl dp w row T s W):w.heap.size<W.heap.size:=(q_0.1 h.z).1
theorem Bx7.wp (h:Bx7 p K lb nl dp w row T s W):p<W.heap.size:=q_1 h.p h.fr.lo.size
theorem Bx7.call (h:Bx7 p K lb nl dp w row T s W) (hr:RuS7 p K lb nl dp s' W') (hf:Fr7 p K lb W W'):Bx7 p K lb nl dp w row T s' W' :=
 ⟨hr,h.fr.trans hf,hf.at_ h.f h.z,hf.free h.lt h.f,h.p⟩
theorem Bx7.up (h:Bx7 p K lb nl dp w row T s W) (hb:Below W.heap.size W W'):Bx7 p K lb nl dp w row T s W' :=
 have hu:=h.rs.up hb
 h.call hu.1 hu.2
theorem Bx7.ret {v v' k t:Int} {y:Rz} (h:Bx7 p K lb nl dp w row T s W) (hy:y=((v,k,t),s)) (hv:k=0->v'=v) (ht:k=2->Tr7 p t W):E7 p K lb nl dp y w (.returned (.tuple #[.int .i64 v',.int .i64 k])) W:=by
 subst hy;exact ⟨v',rfl,hv,ht,h.rs,h.fr⟩
theorem zdV {dx:Nat} (hE:z8f p K D d gl fl nd C O dx) {L:NmF} {k o a l:Int} {nm:Zb} {x y:Ex} {A:Option Addr} {c:Nat} (hk:k=7\/k=8) (h:RuS7 p K lb nl dp s w) (hd:DpZ K dp nd) (hP:Pg7 p K D d gl fl w) (hfm:Frm7 p K lb fb ns w) (hns:ns.length=nl) (hr:RowE (fun b=>b<p) w dx [x,y] A c) (hn1:nmX gl fl ns L O x) (hn2:nmX gl fl ns L O y) (hw1:wzX nl K.gs fl.length (nX L O x)) (hw2:wzX nl K.gs fl.length (nX L O y)) :
  Calls Tryz.prog 101 #[.pointer (some ⟨p,0,none⟩),.pointer (some ⟨fb,0,none⟩),.agg #[.int .i64 k,.int .i64 o,.int .i64 a,.int .i64 l,.string nm,.slice A 2 c]] w (E7 p K lb nl dp (z0W (zX K.ls (pn7 fl) C (nX L O x) s) (z2 k o (zX K.ls (pn7 fl) C (nX L O y)))) w):=by
 obtain ⟨Y,hY⟩:∃ Y,Y=z0W (zX K.ls (pn7 fl) C (nX L O x) s) (z2 k o (zX K.ls (pn7 fl) C (nX L O y))):=⟨_,rfl⟩;rw [<- hY];have hB:=Bx7.new h #[.int .i64 k,.int .i64 o,.int .i64 a,.int .i64 l,.string nm,.slice A 2 c] 124;have hc2:2<=c:=hr.1;have HB:=zhi hB;have HE:=zhi hE;have HD:=zhi hd;have HP:=zhi hP;have HFm:=zhi hfm;have Hns:=zhi hns;have HR:=zhi (fun (w':World) (hb:Below p w w')=>hr.keep (G:=fun b=>b<p) (fun _ h=>h) (fun b hb'=>hb.block b hb'));have HNW:=zhi (And.intro hn2 hw2);obtain ⟨g,off,c0,c1,c2,c3,c4,c5,rfl,hg,e0,e1,e2,e3,e4,e5,hv⟩:=(HR.out _ hB.fr.lo).2 0 x rfl;have HC1:=zhi (hE lb fb nl dp s ns L x _ _ hB.rs hd (hP.low hB.fr.lo) (hfm.fr hB.fr) hns hv hn1 hw1);have x0:=zcr 0 hB.z;have x5:=zcr 5 hB.z;have hlt:=hB.lt;clear hE h hd hP hfm hns hr hn1 hn2 hw1 hw2 hB hv;obtain ⟨W0,hW0⟩:∃ W0,W0=w.alloc (.cells #[.int .i64 k,.int .i64 o,.int .i64 a,.int .i64 l,.string nm,.slice (some ⟨g,off,none⟩) 2 c] 124):=⟨_,rfl⟩;rw [<- hW0] at HB HC1 e0 e1 e2 e3 e4 e5 x0 x5 hlt;simp only [Nat.zero_mul,Nat.add_zero] at e0 e1 e2 e3 e4 e5;go_enter Tryz.func101,Tryz.ntmps101;go_upto_region 1 with fail;rw [<- hW0];clear hW0;go_wp2_with fail;refine HC1.out.mono ?_;rintro e w1 ⟨v2,rfl,hv2,htr2,hrs2,hfr2⟩;generalize zX K.ls (pn7 fl) C (nX L O x) s=y1 at hv2 htr2 hrs2 hY;obtain ⟨⟨v1,k1,t1⟩,s1⟩:=y1;dsimp only at hv2 htr2 hrs2 ⊢;replace HB:=zhi (HB.out.call hrs2 hfr2);have HT:=zhi htr2;have HV:=zhi hv2;have hY0:=hY;have x0:=zcr 0 HB.out.z;have x5:=zcr 5 HB.out.z;have hlt:=HB.out.lt;clear hrs2 hfr2 htr2 hv2 HC1 e0 e1 e2 e3 e4 e5 hY
 by_cases h0:k1=0
 ·subst h0;obtain rfl:=HV.out rfl;have hY1:Y=z2 k o (zX K.ls (pn7 fl) C (nX L O y)) v2 s1:=hY0.trans (if_pos rfl);clear HT HV hY0
  by_cases hq:(k=7/\v2=0)\/(k=8/\v2≠0)
  ·rcases hq with ⟨rfl,rfl⟩ | ⟨rfl,hv⟩
   ·have hY2:Y=((0,0,0),s1):=hY1.trans (if_pos ⟨rfl,rfl⟩);have HH:Hid (E7 p K lb nl dp Y w (.returned (.tuple #[.int .i64 0,.int .i64 0])) w1):=zhi (HB.out.ret hY2 (fun _=>rfl) (fun e=>by cases e));have hbit:Hid (Calls Tryz.prog 107 #[.bool false] w1 (IntS 0 w1)):=zhi (z7E false w1);clear hY1 hY2 HB HE HD HP HFm HR HNW;go_wp2_with fail;refine hbit.out.mono ?_;rintro e w2 ⟨rfl,rfl⟩;go_wp2_with fail;exact q_3 (by simp [results,Tryz.results101,go_sem]) rfl HH.out
   ·have hY2:Y=((1,0,0),s1):=hY1.trans (by unfold z2; rw [if_neg (by omega),if_pos ⟨rfl,hv⟩]);have HH:Hid (E7 p K lb nl dp Y w (.returned (.tuple #[.int .i64 1,.int .i64 0])) w1):=zhi (HB.out.ret hY2 (fun _=>rfl) (fun e=>by cases e));have hbit:Hid (Calls Tryz.prog 107 #[.bool true] w1 (IntS 1 w1)):=zhi (z7E true w1);have hv':(v2 != 0)=true:=by simp [hv]
    clear hY1 hY2 HB HE HD HP HFm HR HNW hv;go_wp2_with fail;refine hbit.out.mono ?_;rintro e w2 ⟨rfl,rfl⟩;go_wp2_with fail;exact q_3 (by simp [results,Tryz.results101,go_sem]) rfl HH.out
  ·have hY2:Y=z0W (zX K.ls (pn7 fl) C (nX L O y) s1) fun u s2=>((truZ (u != 0),0,0),s2):=hY1.trans (by
    unfold z2;rw [if_neg (by omega),if_neg (by omega)];rcases hk with rfl | rfl <;> rfl)
   obtain ⟨g2,off2,c0,c1,c2,c3,c4,c5,hA,hg,e0,e1,e2,e3,e4,e5,hv⟩:=(HR.out w1 HB.out.fr.lo).2 1 y rfl;injection hA with hA;injection hA with hA1 hA2;subst hA1 hA2;have HC2:=zhi (HE.out lb fb nl dp s1 ns L y _ w1 HB.out.rs HD.out (HP.out.low HB.out.fr.lo) (HFm.out.fr HB.out.fr) Hns.out hv HNW.out.1 HNW.out.2);have HY2:=zhi hY2;have hcond:((v2 != 0) == (k == 8))=false:=by
    rcases hk with rfl | rfl
    ·have:v2≠0:=fun e=>hq (.inl ⟨rfl,e⟩)
     simp [this]
    ·have:v2=0:=Classical.byContradiction fun e=>hq (.inr ⟨rfl,e⟩)
     simp [this]
   simp only [Nat.one_mul] at e0 e1 e2 e3 e4 e5;clear hY1 hY2 HE HD HP HFm HR HNW hq hk hv;go_wp2_with fail;refine HC2.out.mono ?_;rintro e w2 ⟨v3,rfl,hv3,htr3,hrs3,hfr3⟩;have hY3:=HY2.out;generalize zX K.ls (pn7 fl) C (nX L O y) s1=y2 at hv3 htr3 hrs3 hY3;obtain ⟨⟨u1,k2,t2⟩,s2⟩:=y2;dsimp only at hv3 htr3 hrs3 ⊢;replace HB:=zhi (HB.out.call hrs3 hfr3);have HH:Hid (E7 p K lb nl dp Y w (.returned (.tuple #[.int .i64 (bitZ (v3 != 0)),.int .i64 k2])) w2):=zhi (by
    by_cases hk2:k2=0
    ·subst hk2;rw [hv3 rfl];exact HB.out.ret (hY3.trans (if_pos rfl)) (fun _=>rfl) (fun e=>by cases e)
    ·exact HB.out.ret (hY3.trans (if_neg hk2)) (fun e=>absurd e hk2) htr3)
   have hbit:=zhi (fun b=>z7E b w2);clear hrs3 hfr3 htr3 hv3 hY3 HY2 HB HC2 e0 e1 e2 e3 e4 e5 x0 x5;go_wp2_with fail;refine (hbit.out _).mono ?_;rintro e w3 ⟨rfl,rfl⟩;go_wp2_with fail;exact q_3 (by simp [results,Tryz.results101,go_sem]) rfl HH.out
 ·have h0':(k1 != 0)=true:=by simp [h0]
  have hY1:Y=((0,k1,t1),s1):=hY0.trans (if_neg h0);have hbit:=zhi (fun b=>z7E b w1);have HH:Hid (∀ z,E7 p K lb nl dp Y w (.returned (.tuple #[.int .i64 z,.int .i64 k1])) w1):=zhi (fun z=>HB.out.ret hY1 (fun e=>absurd e h0) HT.out);clear h0 HB HV HT hY0 hY1 HE HD HP HFm HR HNW;go_wp2_with fail;refine (hbit.out _).mono ?_;rintro e w2 ⟨rfl,rfl⟩;go_wp2_with fail;exact q_3 (by simp [results,Tryz.results101,go_sem]) rfl (HH.out (bitZ (v2 != 0)))
end
end Go.Proofs.YtdflbhofmmlpgaaGreat
