/-
  Lf: RsK, RsL. Part of the proof. No condition.
-/
import Derived.Test.YtdflbhofmmlpgaaGreatLd
import Derived.Test.YtdflbhofmmlpgaaGreatKx
set_option maxRecDepth 100000
set_option maxHeartbeats 8000000
namespace Go.Proofs.YtdflbhofmmlpgaaGreat
open Go.RowKit
def sigN (s:Zb):Nat × Option UInt8:=(s.data.size,s.data[0]?)
theorem z7p (c:UInt8) (n:Nat):sigN (nmI c n)=(2,some c):=rfl
theorem z7o:sigN z1I=(4,some 109):=rfl
theorem z9T:∀ s∈z0E,(sigN s).1=1:=by
 intro s hs;simp only [z0E,q_d,List.not_mem_nil,or_false] at hs;rcases hs with h | h | h | h | h | h | h | h <;> subst h <;> rfl
theorem z6t {c:UInt8} {n m:Nat} (hn:n<4) (hm:m<4) (h:nmI c n=nmI c m):n=m:=by
 have h1:=congrArg (fun s:Zb=>(s.data[1]?).map UInt8.toNat) h;simp [nmI] at h1;omega
theorem z4X {xs:List Zb} {s:Zb} (h:s∈xs):hasB xs s=true:=by
 obtain ⟨i,hi⟩:=q_l h;exact z4Z hi
theorem z3J {xs:List Zb} {s:Zb} (h:s ∉ xs):hasB xs s=false :=
 z4Y (fun _ _ e=>h (q_a e))
theorem z41 {xs:List Zb} {s:Zb} (h:s ∉ xs):z0S xs s=none :=
 z75 (fun _ _ e=>h (q_a e))
structure Nmd (gl:GlL) (fl:List Fn):Prop where
 g:∀ (i:Nat) (x:Zb × Int),gl[i]?=some x->x.1=nmI 103 i
 f:∀ (i:Nat) (f:Fn),fl[i]?=some f->f.name=(if i=0 then z1I else nmI 102 i)
 gn:gl.length<=4
 fn:fl.length<=4
theorem getlt {α:Type} {l:List α} {i:Nat} {x:α} (h:l[i]?=some x):i<l.length:=by
 rcases q_f i l.length with h' | h'
 ·exact h'
 ·rw [q_j h'] at h; cases h
section
variable {gl:GlL} {fl:List Fn}
theorem Nmd.sg (h:Nmd gl fl):∀ s∈gl.map (·.1),sigN s=(2,some 103):=by
 intro s hs;obtain ⟨x,hx,rfl⟩:=List.mem_map.1 hs;obtain ⟨i,hi⟩:=q_l hx;rw [h.g i x hi,z7p]
theorem Nmd.sf (h:Nmd gl fl):∀ s∈fl.map (·.name),sigN s=(2,some 102)\/sigN s=(4,some 109):=by
 intro s hs;obtain ⟨x,hx,rfl⟩:=List.mem_map.1 hs;obtain ⟨i,hi⟩:=q_l hx;rw [h.f i x hi];split
 ·exact .inr z7o
 ·exact .inl (z7p _ _)
theorem Nmd.ig (h:Nmd gl fl) {i:Nat} {x:Zb × Int} (hi:gl[i]?=some x):z0S (gl.map (·.1)) x.1=some i:=by
 have hl:=h.gn;refine z3l (by rw [q_b,hi]; rfl) (fun j hj e=>?_);rw [q_b] at e;have hl2:=getlt hi;have hj2:j<gl.length:=by omega
 rw [q_7 hj2] at e;simp only [Option.map_some,Option.some.injEq] at e;rw [h.g i x hi,h.g j _ (q_7 hj2)] at e;have:=z6t (by omega) (by omega) e;omega
theorem Nmd.nf (h:Nmd gl fl) {i:Nat} {f:Fn} (hi:fl[i]?=some f):z0S (fl.map (·.name)) f.name=some i:=by
 have hl:=h.fn;refine z3l (by rw [q_b,hi]; rfl) (fun j hj e=>?_);rw [q_b] at e;have hl2:=getlt hi;have hj2:j<fl.length:=by omega
 rw [q_7 hj2] at e;simp only [Option.map_some,Option.some.injEq] at e;rw [h.f i f hi,h.f j _ (q_7 hj2)] at e;rw [if_neg (show ¬ i=0 by omega)] at e
 by_cases h0:j=0
 ·rw [if_pos h0] at e;have:=congrArg sigN e;rw [z7p,z7o] at this;exact absurd this (by decide)
 ·rw [if_neg h0] at e;have:=z6t (by omega) (by omega) e;omega
theorem Nmd.og (h:Nmd gl fl) {x:Zb × Int} (hx:x∈gl):z0D gl fl x.1=if 0<x.2 then 3 else 2:=by
 obtain ⟨i,hi⟩:=q_l hx;unfold z0D;rw [h.ig hi];simp only [hi,Option.map_some,Option.getD_some]
theorem Nmd.of (h:Nmd gl fl) {f:Fn} (hf:f∈fl):z0D gl fl f.name=4:=by
 obtain ⟨i,hi⟩:=q_l hf;have hn:f.name ∉ gl.map (·.1):=fun e=>by
  have h1:=h.sg _ e;rcases h.sf f.name (List.mem_map.2 ⟨f,hf,rfl⟩) with h2 | h2 <;> rw [h1] at h2 <;> exact absurd h2 (by decide)
 unfold z0D;rw [z41 hn,h.nf hi]
theorem Nmd.oz (h:Nmd gl fl) {s:Zb} (hs:(sigN s).1=1\/sigN s=(2,some 112)):z0D gl fl s=0:=by
 have hn:s ∉ gl.map (·.1):=fun e=>by
  rw [h.sg _ e] at hs;rcases hs with h2 | h2 <;> exact absurd h2 (by decide)
 have hm:s ∉ fl.map (·.name):=fun e=>by
  rcases h.sf _ e with h1 | h1 <;> rw [h1] at hs <;> rcases hs with h2 | h2 <;> exact absurd h2 (by decide)
 unfold z0D;rw [z41 hn,z41 hm]
def LocL (L:List Zb):Prop:=∀ s∈L,(sigN s).1=1\/sigN s=(2,some 112)
theorem Nmd.wg (h:Nmd gl fl) {L:List Zb} (hL:LocL L) {x:Zb × Int} (hx:x∈gl):z0s gl fl L x.1=if 0<x.2 then 3 else 2:=by
 have hn:x.1 ∉ L:=fun e=>by
  have:=hL _ e;rw [h.sg _ (List.mem_map.2 ⟨x,hx,rfl⟩)] at this;rcases this with h2 | h2 <;> exact absurd h2 (by decide)
 unfold z0s;rw [z3J hn,h.og hx];rfl
theorem Nmd.wf (h:Nmd gl fl) {L:List Zb} (hL:LocL L) {f:Fn} (hf:f∈fl):z0s gl fl L f.name=4:=by
 have hn:f.name ∉ L:=fun e=>by
  have:=hL _ e;rcases h.sf f.name (List.mem_map.2 ⟨f,hf,rfl⟩) with h1 | h1 <;> rw [h1] at this <;> rcases this with h2 | h2 <;> exact absurd h2 (by decide)
 unfold z0s;rw [z3J hn,h.of hf];rfl
theorem zbw {L:List Zb} {s:Zb} (h:s∈L):z0s gl fl L s=1:=by
 unfold z0s;rw [z4X h];rfl
theorem Nmd.wz (h:Nmd gl fl) {L:List Zb} {s:Zb} (hs:s∈z0E) (hn:s ∉ L):z0s gl fl L s=0:=by
 unfold z0s;rw [z3J hn,h.oz (.inl (z9T s hs))];rfl
theorem Nmd.var (h:Nmd gl fl) {P:List (Zb × List Zb)} {L:List Zb} (hL:LocL L) {s:Zb} (hv:z2K ⟨gl,P,L⟩ s):z0s gl fl L s=1\/z0s gl fl L s=2:=by
 rcases hv with hv | ⟨x,hx,rfl,h0⟩
 ·exact .inl (zbw hv)
 ·right;rw [h.wg hL hx,if_neg (by simpa using h0)]
theorem Nmd.arr (h:Nmd gl fl) {P:List (Zb × List Zb)} {L:List Zb} (hL:LocL L) {s:Zb} (hv:IsGl ⟨gl,P,L⟩ true s):z0s gl fl L s=3:=by
 obtain ⟨x,hx,rfl,h0⟩:=hv;rw [h.wg hL hx,if_pos (by simpa using h0)]
theorem Nmd.fun_ (h:Nmd gl fl) {L:List Zb} (hL:LocL L) {f:Zb × List Zb} (hf:f∈fl.map z3v):z0s gl fl L f.1=4/\∃ j f',z0S (fl.map (·.name)) f.1=some j/\fl[j]?=some f'/\f'.params.length=f.2.length:=by
 obtain ⟨f',hf',rfl⟩:=List.mem_map.1 hf;obtain ⟨i,hi⟩:=q_l hf';exact ⟨h.wf hL hf',i,f',h.nf hi,hi,rfl⟩
theorem z9x {L:List Zb}:∀ {xs:List Ex},(∀ x∈xs,okX gl fl L x)->okL gl fl L xs
 | [],_=>trivial
 | x :: xs,h=>⟨h x (by simp),z9x fun y hy=>h y (by simp [hy])⟩
theorem z8P:∀ {xs:List Ex},(∀ x∈xs,fwX x)->fwL xs
 | [],_=>trivial
 | x :: xs,h=>⟨h x (by simp),z8P fun y hy=>h y (by simp [hy])⟩
theorem z90 {n:Nat}:∀ {xs:List Ex},(∀ x∈xs,htX x<=n)->htL xs<=n
 | [],_=>q_h _
 | x :: xs,h=>by
  have h1:=h x (by simp);have h2:=z90 (n:=n) (xs:=xs) fun y hy=>h y (by simp [hy])
  show max (htX x) (htL xs)<=n
  omega
theorem Nmd.okN (h:Nmd gl fl) {L:List Zb} (hL:LocL L) {k:Int} {s:Zb} {n:Nat} (hi:InN ⟨gl,fl.map z3v,L⟩ k s n) (hn:n<=3):okN gl fl L k s n:=by
 obtain ⟨h1,h2,h3,h4⟩:=hi;refine ⟨fun e=>h.var hL (h1 e),fun e=>h.arr hL (h2 e),fun e=>?_,fun e=>?_,hn⟩
 ·obtain ⟨f,hf,rfl⟩:=h3 e;exact (h.fun_ hL hf).1
 ·rcases h4 e with ⟨f,hf,rfl,rfl⟩ | hv
  ·exact .inl (h.fun_ hL hf)
  ·exact .inr (h.var hL hv)
theorem zaJ {d:Nat} {k o a l:Int} {s:Zb} {xs:List Ex} (h:GE d (.mk k o a l s xs)):xs.length<=3/\(xs=[]\/∃ d',d=d'+1/\∀ x∈xs,GE d' x):=by
 cases d with
 | zero =>
  obtain ⟨_,_,_,_,_,_,rfl,_⟩:=h;exact ⟨by simp,.inl rfl⟩
 | succ d =>
  obtain ⟨_,_,_,_,_,_,⟨rfl,_⟩ | ⟨h1,h2⟩⟩:=h
  ·exact ⟨by simp,.inl rfl⟩
  ·refine ⟨?_,.inr ⟨d,rfl,h1⟩⟩;rcases h2 with h2 | h2 | h2 | h2 | h2 | h2 | h2 <;> omega
theorem Nmd.okX (h:Nmd gl fl) {L:List Zb} (hL:LocL L):∀ {d:Nat} {x:Ex},GE d x->InX ⟨gl,fl.map z3v,L⟩ x->okX gl fl L x/\fwX x/\htX x<=d+1
 | d,.mk k o a l s xs,hg,hi=>by
  obtain ⟨h1,h2⟩:=zaJ hg;obtain ⟨i1,i2⟩:=hi;rcases h2 with rfl | ⟨d',rfl,h2⟩
  ·exact ⟨⟨h.okN hL i1 h1,trivial⟩,⟨h1,trivial⟩,by show htL []+1<=d+1; simp [htL]⟩
  ·have hx:=fun x hx=>Nmd.okX h hL (h2 x hx) (z91 i2 x hx)
   refine ⟨⟨h.okN hL i1 h1,z9x fun x hm=>(hx x hm).1⟩,⟨h1,z8P fun x hm=>(hx x hm).2.1⟩,?_⟩;have:=z90 (n:=d'+1) fun x hm=>(hx x hm).2.2
   show htL xs+1<=d'+1+1
   omega
end
theorem zcK (k:Int) (s:Zb) (L:List Zb):(if k=1 then L++[s] else L)=L++hdS k s:=by
 unfold hdS;split <;> simp
mutual
theorem zbU {G:List (Zb × Int)} {P:List (Zb × List Zb)}:∀ (x:St) {L L':List Zb},InS G P L x L'->L'=L++vrS x
 | .mk k _ n _ ts us,L,L',h=>by
  obtain ⟨_,_,L1,h1,h2⟩:=h;rw [z77 us h2,z77 ts h1,zcK]
  show _=L++((if k=1 then [n] else [])++vrL ts++vrL us)
  unfold hdS;simp
theorem z77 {G:List (Zb × Int)} {P:List (Zb × List Zb)}:∀ (ts:List St) {L L':List Zb},InB G P L ts L'->L'=L++vrL ts
 | [],L,L',h=>by
  have e:L'=L:=h;rw [e]; simp [vrL]
 | t :: ts,L,L',h=>by
  obtain ⟨L1,h1,h2⟩:=h;rw [z77 ts h2,zbU t h1];simp [vrL]
end
theorem LocL.snoc {L:List Zb} (h:LocL L) {k:Int} {s:Zb} (hs:k=1->s∈z0E/\s ∉ L):LocL (L++hdS k s):=by
 intro x hx;rcases q_8.1 hx with hx | hx
 ·exact h x hx
 ·unfold hdS at hx;split at hx
  ·simp at hx;subst hx;exact .inl (z9T _ (hs (by assumption)).1)
  ·simp at hx
mutual
theorem z92 {G:List (Zb × Int)} {P:List (Zb × List Zb)}:∀ (x:St) {L L':List Zb},InS G P L x L'->LocL L->LocL L'
 | .mk k _ n _ ts us,L,L',h,hL=>by
  obtain ⟨_,hk,L1,h1,h2⟩:=h;rw [zcK] at h1;exact z52 us h2 (z52 ts h1 (hL.snoc hk.1))
theorem z52 {G:List (Zb × Int)} {P:List (Zb × List Zb)}:∀ (ts:List St) {L L':List Zb},InB G P L ts L'->LocL L->LocL L'
 | [],L,L',h,hL=>by
  have e:L'=L:=h;rw [e]; exact hL
 | t :: ts,L,L',h,hL=>by
  obtain ⟨L1,h1,h2⟩:=h;exact z52 ts h2 (z92 t h1 hL)
end
def SOk (gl:GlL) (fl:List Fn) (d:Nat):Prop:=∀ (t:St) (L L':List Zb),GSt d t->InS gl (fl.map z3v) L t L'->LocL L->cntS d t<=1000->okS gl fl L t/\fwS t/\ntS t<=d/\11 * (vrS t).length<=cntS d t/\1<=cntS d t
section
variable {gl:GlL} {fl:List Fn}
theorem b_ok {d:Nat} (hS:SOk gl fl d):∀ (ts:List St) (L L':List Zb),(∀ t∈ts,GSt d t)->InB gl (fl.map z3v) L ts L'->LocL L->(ts.map (cntS d)).sum<=1000->okB gl fl L ts/\fwB ts/\ntL ts<=d/\11 * (vrL ts).length<=(ts.map (cntS d)).sum/\ts.length<=(ts.map (cntS d)).sum
 | [],_,_,_,_,_,_=>⟨trivial,trivial,q_h _,by simp [vrL],by simp⟩
 | t :: ts,L,L',hg,hi,hL,hc=>by
  obtain ⟨L1,h1,h2⟩:=hi;simp only [List.map_cons,List.sum_cons] at hc ⊢;obtain ⟨a1,a2,a3,a4,a5⟩:=hS t L L1 (hg t (by simp)) h1 hL (by omega);have hL1:=z92 t h1 hL;obtain ⟨b1,b2,b3,b4,b5⟩:=b_ok hS ts L1 L' (fun x hx=>hg x (by simp [hx])) h2 hL1 (by omega);rw [zbU t h1] at b1;refine ⟨⟨a1,b1⟩,⟨a2,b2⟩,by show max (ntS t) (ntL ts)<=d; omega,?_,?_⟩
  ·show 11 * (vrS t++vrL ts).length<=_
   rw [List.length_append];omega
  ·simp only [List.length_cons];omega
theorem s_ok (h:Nmd gl fl):∀ d:Nat,SOk gl fl d
 | 0=>fun _ _ _ hg=>hg.elim
 | d+1=>fun t L L' hg hi hL hc=>by
  cases t with
  | mk k l s es ts us =>
   obtain ⟨rfl,hes,hts,hus,hk⟩:=hg;obtain ⟨i1,⟨j1,j2,j3⟩,L1,i2,i3⟩:=hi;rw [zcK] at i2;simp only [cntS] at hc ⊢;have hck:=z5x k es;have hL1:=hL.snoc j1;obtain ⟨a1,a2,a3,a4,a5⟩:=b_ok (s_ok h d) ts _ _ hts i2 hL1 (by omega);obtain ⟨b1,b2,b3,b4,b5⟩:=b_ok (s_ok h d) us _ _ hus i3 (z52 ts i2 hL1) (by omega);rw [z77 ts i2] at b1;have hx:=fun x hx=>h.okX hL (hes x hx) (z91 i1 x hx)
   have hht:=z90 (n:=3) fun x hm=>(hx x hm).2.2
   have hel:es.length<=3:=by
    rcases hk with h | h | h | h | h | h <;> omega
   refine ⟨⟨⟨z9x fun x hm=>(hx x hm).1,z8P fun x hm=>(hx x hm).2.1,by omega,hel⟩,⟨fun e=>h.wz (j1 e).1 (j1 e).2,fun e=>h.var hL (j2 e),fun e=>h.arr hL (j3 e)⟩,⟨by omega,by omega⟩,a1,b1⟩,⟨⟨by omega,by omega⟩,a2,b2⟩,?_,?_,by omega⟩
   ·show max (1+ntL ts) (1+ntL us)<=d+1
    omega
   ·show 11 * ((if k=1 then [s] else [])++vrL ts++vrL us).length<=_
    simp only [List.length_append]
    by_cases h1:k=1
    ·have:cK k es=11:=by subst h1; simp [cK]
     rw [if_pos h1];simp only [List.length_cons,List.length_nil];omega
    ·rw [if_neg h1];simp only [List.length_nil];omega
end
theorem ze6 {gl:GlL} {fl:List Fn} (hs:z6S gl fl) (hg:gl.length<=4) (hf:fl.length<=4):Nmd gl fl :=
 ⟨hs.ng,fun i f hi=>(hs.nf i (z3v f) (by rw [q_b,hi]; rfl)).1,hg,hf⟩
theorem zaY {gl:GlL} {fl:List Fn} (hs:z6S gl fl) (hF:∀ f∈fl,GF 2 f) (hg:gl.length<=4) (h1:1<=fl.length) (hf:fl.length<=4):z4n gl fl:=by
 have hn:=ze6 hs hg hf;have hpar:∀ (i:Nat) (f:Fn),fl[i]?=some f->zci f.params:=fun i f hi=>(hs.nf i (z3v f) (by rw [q_b,hi]; rfl)).2.2
 refine ⟨by omega,⟨h1,by omega⟩,fun f h0=>?_,fun i x hi=>hn.ig hi,fun i f hi=>⟨?_,hn.nf hi⟩,fun i f hi=>?_⟩
 ·have hp:=hs.nf 0 (z3v f) (by rw [q_b,h0]; rfl);exact ⟨by simpa [z3v,z1I] using hp.1,hp.2.1 rfl⟩
 ·refine z41 fun e=>?_
  have h2:=hn.sg _ e;rcases hn.sf f.name (List.mem_map.2 ⟨f,q_a hi,rfl⟩) with h3 | h3 <;> rw [h2] at h3 <;> exact absurd h3 (by decide)
 ·obtain ⟨_,hp2,_,hst,hcnt⟩:=hF f (q_a hi);replace hcnt:(f.body.map (cntS 3)).sum<=77:=hcnt;obtain ⟨L',hin⟩:=hs.sc f (q_a hi);have hps:∀ s∈f.params,sigN s=(2,some 112):=fun s hm=>by
   obtain ⟨j,hj⟩:=q_l hm;rw [hpar i f hi j s hj,z7p]
  obtain ⟨a1,a2,a3,a4,a5⟩:=b_ok (s_ok hn 3) f.body _ _ hst hin (fun s hm=>.inr (hps s hm)) (by omega);refine ⟨by omega,by omega,by omega,a2,by omega,a1,fun k q hk=>⟨z3J fun e=>?_,hn.oz (.inr (hps q (q_a hk)))⟩⟩;obtain ⟨j,hj⟩:=q_l e;rw [List.getElem?_take] at hj;split at hj
  ·have e1:=hpar i f hi k q hk;have e2:=hpar i f hi j q hj;have:=getlt hk;rw [e1] at e2;have:=z6t (by omega) (by omega) e2;omega
  ·cases hj
end Go.Proofs.YtdflbhofmmlpgaaGreat
