/-
  Lf: RsK, RsL, RsM, RsN. Walks and laws that the statement's proof is made of. No condition of its own.
-/
import Derived.Test.YtkeihncfmbicnaaGreatDoorLd
import Derived.Test.YtkeihncfmbicnaaGreatDoorKx
import Derived.Test.YtkeihncfmbicnaaGreatDoorKr
import Derived.Test.YtkeihncfmbicnaaGreatDoorKzb
namespace Go.Proofs.YtkeihncfmbicnaaGreatDoor
open Go.RowKit
def sigN (s:ByteArray):Nat × Option UInt8:=(s.data.size,s.data[0]?)
theorem z7p (c:UInt8) (n:Nat):sigN (nmI c n)=(2,some c):=rfl
theorem z7o:sigN z1s=(4,some 109):=rfl
theorem z9U:∀ s∈z0A,(sigN s).1=1:=by
 intro s hs
 simp only [z0A,List.mem_cons,List.not_mem_nil,or_false] at hs
 rcases hs with h | h | h | h | h | h | h | h <;> subst h <;> rfl
theorem z6q {c:UInt8} {n m:Nat} (hn:n<4) (hm:m<4) (h:nmI c n=nmI c m):n=m:=by
 have h1:=congrArg (fun s:ByteArray=>(s.data[1]?).map UInt8.toNat) h
 simp [nmI] at h1
 omega
theorem zaI {xs:List ByteArray} {s:ByteArray} (h:s∈xs):hasB xs s=true:=by
 obtain ⟨i,hi⟩:=List.getElem?_of_mem h
 exact z4T hi
theorem z3w {xs:List ByteArray} {s:ByteArray} (h:s ∉ xs):hasB xs s=false :=
 z6j (fun _ _ e=>h (List.mem_of_getElem? e))
theorem z4W {xs:List ByteArray} {s:ByteArray} (h:s ∉ xs):z1n xs s=none :=
 z8X (fun _ _ e=>h (List.mem_of_getElem? e))
structure Nmd (gl:GlL) (fl:List Fn):Prop where
 g:∀ (i:Nat) (x:ByteArray × Int),gl[i]?=some x→x.1=nmI 103 i
 f:∀ (i:Nat) (f:Fn),fl[i]?=some f→f.name=(if i=0 then z1s else nmI 102 i)
 gn:gl.length≤4
 fn:fl.length≤4
theorem getlt {α:Type} {l:List α} {i:Nat} {x:α} (h:l[i]?=some x):i<l.length:=by
 rcases Nat.lt_or_ge i l.length with h' | h'
 ·exact h'
 ·rw [List.getElem?_eq_none h'] at h; cases h
section
variable {gl:GlL} {fl:List Fn}
theorem Nmd.sg (h:Nmd gl fl):∀ s∈gl.map (·.1),sigN s=(2,some 103):=by
 intro s hs
 obtain ⟨x,hx,rfl⟩:=List.mem_map.1 hs
 obtain ⟨i,hi⟩:=List.getElem?_of_mem hx
 rw [h.g i x hi,z7p]
theorem Nmd.sf (h:Nmd gl fl):∀ s∈fl.map (·.name),sigN s=(2,some 102)∨sigN s=(4,some 109):=by
 intro s hs
 obtain ⟨x,hx,rfl⟩:=List.mem_map.1 hs
 obtain ⟨i,hi⟩:=List.getElem?_of_mem hx
 rw [h.f i x hi]
 split
 ·exact .inr z7o
 ·exact .inl (z7p _ _)
theorem Nmd.ig (h:Nmd gl fl) {i:Nat} {x:ByteArray × Int} (hi:gl[i]?=some x):z1n (gl.map (·.1)) x.1=some i:=by
 have hl:=h.gn
 refine z4X (by rw [List.getElem?_map,hi]; rfl) (fun j hj e=>?_)
 rw [List.getElem?_map] at e
 have hl2:=getlt hi
 have hj2:j<gl.length:=by omega
 rw [List.getElem?_eq_getElem hj2] at e
 simp only [Option.map_some,Option.some.injEq] at e
 rw [h.g i x hi,h.g j _ (List.getElem?_eq_getElem hj2)] at e
 have:=z6q (by omega) (by omega) e
 omega
theorem Nmd.nf (h:Nmd gl fl) {i:Nat} {f:Fn} (hi:fl[i]?=some f):z1n (fl.map (·.name)) f.name=some i:=by
 have hl:=h.fn
 refine z4X (by rw [List.getElem?_map,hi]; rfl) (fun j hj e=>?_)
 rw [List.getElem?_map] at e
 have hl2:=getlt hi
 have hj2:j<fl.length:=by omega
 rw [List.getElem?_eq_getElem hj2] at e
 simp only [Option.map_some,Option.some.injEq] at e
 rw [h.f i f hi,h.f j _ (List.getElem?_eq_getElem hj2)] at e
 rw [if_neg (show ¬ i=0 by omega)] at e
 by_cases h0:j=0
 ·rw [if_pos h0] at e
  have:=congrArg sigN e
  rw [z7p,z7o] at this
  exact absurd this (by decide)
 ·rw [if_neg h0] at e
  have:=z6q (by omega) (by omega) e
  omega
theorem Nmd.og (h:Nmd gl fl) {x:ByteArray × Int} (hx:x∈gl):z1F gl fl x.1=if 0<x.2 then 3 else 2:=by
 obtain ⟨i,hi⟩:=List.getElem?_of_mem hx
 unfold z1F
 rw [h.ig hi]
 simp only [hi,Option.map_some,Option.getD_some]
theorem Nmd.of (h:Nmd gl fl) {f:Fn} (hf:f∈fl):z1F gl fl f.name=4:=by
 obtain ⟨i,hi⟩:=List.getElem?_of_mem hf
 have hn:f.name ∉ gl.map (·.1):=fun e=>by
  have h1:=h.sg _ e
  rcases h.sf f.name (List.mem_map.2 ⟨f,hf,rfl⟩) with h2 | h2 <;> rw [h1] at h2 <;> exact absurd h2 (by decide)
 unfold z1F
 rw [z4W hn,h.nf hi]
theorem Nmd.oz (h:Nmd gl fl) {s:ByteArray} (hs:(sigN s).1=1∨sigN s=(2,some 112)):z1F gl fl s=0:=by
 have hn:s ∉ gl.map (·.1):=fun e=>by
  rw [h.sg _ e] at hs
  rcases hs with h2 | h2 <;> exact absurd h2 (by decide)
 have hm:s ∉ fl.map (·.name):=fun e=>by
  rcases h.sf _ e with h1 | h1 <;> rw [h1] at hs <;> rcases hs with h2 | h2 <;> exact absurd h2 (by decide)
 unfold z1F
 rw [z4W hn,z4W hm]
def LocL (L:List ByteArray):Prop:=∀ s∈L,(sigN s).1=1∨sigN s=(2,some 112)
theorem Nmd.wg (h:Nmd gl fl) {L:List ByteArray} (hL:LocL L) {x:ByteArray × Int} (hx:x∈gl):z0E gl fl L x.1=if 0<x.2 then 3 else 2:=by
 have hn:x.1 ∉ L:=fun e=>by
  have:=hL _ e
  rw [h.sg _ (List.mem_map.2 ⟨x,hx,rfl⟩)] at this
  rcases this with h2 | h2 <;> exact absurd h2 (by decide)
 unfold z0E
 rw [z3w hn,h.og hx]
 rfl
theorem Nmd.wf (h:Nmd gl fl) {L:List ByteArray} (hL:LocL L) {f:Fn} (hf:f∈fl):z0E gl fl L f.name=4:=by
 have hn:f.name ∉ L:=fun e=>by
  have:=hL _ e
  rcases h.sf f.name (List.mem_map.2 ⟨f,hf,rfl⟩) with h1 | h1 <;> rw [h1] at this <;> rcases this with h2 | h2 <;> exact absurd h2 (by decide)
 unfold z0E
 rw [z3w hn,h.of hf]
 rfl
theorem zbB {L:List ByteArray} {s:ByteArray} (h:s∈L):z0E gl fl L s=1:=by
 unfold z0E
 rw [zaI h]
 rfl
theorem Nmd.wz (h:Nmd gl fl) {L:List ByteArray} {s:ByteArray} (hs:s∈z0A) (hn:s ∉ L):z0E gl fl L s=0:=by
 unfold z0E
 rw [z3w hn,h.oz (.inl (z9U s hs))]
 rfl
theorem Nmd.var (h:Nmd gl fl) {P:List (ByteArray × List ByteArray)} {L:List ByteArray} (hL:LocL L) {s:ByteArray} (hv:z2t ⟨gl,P,L⟩ s):z0E gl fl L s=1∨z0E gl fl L s=2:=by
 rcases hv with hv | ⟨x,hx,rfl,h0⟩
 ·exact .inl (zbB hv)
 ·right
  rw [h.wg hL hx,if_neg (by simpa using h0)]
theorem Nmd.arr (h:Nmd gl fl) {P:List (ByteArray × List ByteArray)} {L:List ByteArray} (hL:LocL L) {s:ByteArray} (hv:IsGl ⟨gl,P,L⟩ true s):z0E gl fl L s=3:=by
 obtain ⟨x,hx,rfl,h0⟩:=hv
 rw [h.wg hL hx,if_pos (by simpa using h0)]
theorem Nmd.fun_ (h:Nmd gl fl) {L:List ByteArray} (hL:LocL L) {f:ByteArray × List ByteArray} (hf:f∈fl.map z3n):z0E gl fl L f.1=4∧∃ j f',z1n (fl.map (·.name)) f.1=some j∧fl[j]?=some f'∧f'.params.length=f.2.length:=by
 obtain ⟨f',hf',rfl⟩:=List.mem_map.1 hf
 obtain ⟨i,hi⟩:=List.getElem?_of_mem hf'
 exact ⟨h.wf hL hf',i,f',h.nf hi,hi,rfl⟩
theorem z9u {L:List ByteArray}:∀ {xs:List Ex},(∀ x∈xs,okX gl fl L x)→okL gl fl L xs
 | [],_=>trivial
 | x :: xs,h=>⟨h x (by simp),z9u fun y hy=>h y (by simp [hy])⟩
theorem z8M:∀ {xs:List Ex},(∀ x∈xs,fwX x)→fwL xs
 | [],_=>trivial
 | x :: xs,h=>⟨h x (by simp),z8M fun y hy=>h y (by simp [hy])⟩
theorem z8W {n:Nat}:∀ {xs:List Ex},(∀ x∈xs,htX x≤n)→htL xs≤n
 | [],_=>Nat.zero_le _
 | x :: xs,h=>by
  have h1:=h x (by simp)
  have h2:=z8W (n:=n) (xs:=xs) fun y hy=>h y (by simp [hy])
  show max (htX x) (htL xs)≤n
  omega
theorem Nmd.okN (h:Nmd gl fl) {L:List ByteArray} (hL:LocL L) {k:Int} {s:ByteArray} {n:Nat} (hi:InN ⟨gl,fl.map z3n,L⟩ k s n) (hn:n≤3):okN gl fl L k s n:=by
 obtain ⟨h1,h2,h3,h4⟩:=hi
 refine ⟨fun e=>h.var hL (h1 e),fun e=>h.arr hL (h2 e),fun e=>?_,fun e=>?_,hn⟩
 ·obtain ⟨f,hf,rfl⟩:=h3 e
  exact (h.fun_ hL hf).1
 ·rcases h4 e with ⟨f,hf,rfl,rfl⟩ | hv
  ·exact .inl (h.fun_ hL hf)
  ·exact .inr (h.var hL hv)
theorem zaG {d:Nat} {k o a l:Int} {s:ByteArray} {xs:List Ex} (h:GE d (.mk k o a l s xs)):xs.length≤3∧(xs=[]∨∃ d',d=d'+1∧∀ x∈xs,GE d' x):=by
 cases d with
 | zero =>
  obtain ⟨_,_,_,_,_,_,rfl,_⟩:=h
  exact ⟨by simp,.inl rfl⟩
 | succ d =>
  obtain ⟨_,_,_,_,_,_,⟨rfl,_⟩ | ⟨h1,h2⟩⟩:=h
  ·exact ⟨by simp,.inl rfl⟩
  ·refine ⟨?_,.inr ⟨d,rfl,h1⟩⟩
   rcases h2 with h2 | h2 | h2 | h2 | h2 | h2 | h2 <;> omega
theorem Nmd.okX (h:Nmd gl fl) {L:List ByteArray} (hL:LocL L):∀ {d:Nat} {x:Ex},GE d x→InX ⟨gl,fl.map z3n,L⟩ x→okX gl fl L x∧fwX x∧htX x≤d+1
 | d,.mk k o a l s xs,hg,hi=>by
  obtain ⟨h1,h2⟩:=zaG hg
  obtain ⟨i1,i2⟩:=hi
  rcases h2 with rfl | ⟨d',rfl,h2⟩
  ·exact ⟨⟨h.okN hL i1 h1,trivial⟩,⟨h1,trivial⟩,by show htL []+1≤d+1; simp [htL]⟩
  ·have hx:=fun x hx=>Nmd.okX h hL (h2 x hx) (z8Y i2 x hx)
   refine ⟨⟨h.okN hL i1 h1,z9u fun x hm=>(hx x hm).1⟩,⟨h1,z8M fun x hm=>(hx x hm).2.1⟩,?_⟩
   have:=z8W (n:=d'+1) fun x hm=>(hx x hm).2.2
   show htL xs+1≤d'+1+1
   omega
end
end Go.Proofs.YtkeihncfmbicnaaGreatDoor
namespace Go.Proofs.YtkeihncfmbicnaaGreatDoor
open Go.RowKit
theorem zcx (k:Int) (s:ByteArray) (L:List ByteArray):(if k=1 then L++[s] else L)=L++hdS k s:=by
 unfold hdS
 split <;> simp
mutual
theorem zbV {G:List (ByteArray × Int)} {P:List (ByteArray × List ByteArray)}:∀ (x:St) {L L':List ByteArray},InS G P L x L'→L'=L++vrS x
 | .mk k _ n _ ts us,L,L',h=>by
  obtain ⟨_,_,L1,h1,h2⟩:=h
  rw [z71 us h2,z71 ts h1,zcx]
  show _=L++((if k=1 then [n] else [])++vrL ts++vrL us)
  unfold hdS
  simp
theorem z71 {G:List (ByteArray × Int)} {P:List (ByteArray × List ByteArray)}:∀ (ts:List St) {L L':List ByteArray},InB G P L ts L'→L'=L++vrL ts
 | [],L,L',h=>by
  have e:L'=L:=h
  rw [e]; simp [vrL]
 | t :: ts,L,L',h=>by
  obtain ⟨L1,h1,h2⟩:=h
  rw [z71 ts h2,zbV t h1]
  simp [vrL]
end
theorem LocL.snoc {L:List ByteArray} (h:LocL L) {k:Int} {s:ByteArray} (hs:k=1→s∈z0A∧s ∉ L):LocL (L++hdS k s):=by
 intro x hx
 rcases List.mem_append.1 hx with hx | hx
 ·exact h x hx
 ·unfold hdS at hx
  split at hx
  ·simp at hx
   subst hx
   exact .inl (z9U _ (hs (by assumption)).1)
  ·simp at hx
mutual
theorem z8Z {G:List (ByteArray × Int)} {P:List (ByteArray × List ByteArray)}:∀ (x:St) {L L':List ByteArray},InS G P L x L'→LocL L→LocL L'
 | .mk k _ n _ ts us,L,L',h,hL=>by
  obtain ⟨_,hk,L1,h1,h2⟩:=h
  rw [zcx] at h1
  exact z4Y us h2 (z4Y ts h1 (hL.snoc hk.1))
theorem z4Y {G:List (ByteArray × Int)} {P:List (ByteArray × List ByteArray)}:∀ (ts:List St) {L L':List ByteArray},InB G P L ts L'→LocL L→LocL L'
 | [],L,L',h,hL=>by
  have e:L'=L:=h
  rw [e]; exact hL
 | t :: ts,L,L',h,hL=>by
  obtain ⟨L1,h1,h2⟩:=h
  exact z4Y ts h2 (z8Z t h1 hL)
end
def SOk (gl:GlL) (fl:List Fn) (d:Nat):Prop:=∀ (t:St) (L L':List ByteArray),GSt d t→InS gl (fl.map z3n) L t L'→LocL L→cntS d t≤1000→okS gl fl L t∧fwS t∧ntS t≤d∧11 * (vrS t).length≤cntS d t∧1≤cntS d t
section
variable {gl:GlL} {fl:List Fn}
theorem b_ok {d:Nat} (hS:SOk gl fl d):∀ (ts:List St) (L L':List ByteArray),(∀ t∈ts,GSt d t)→InB gl (fl.map z3n) L ts L'→LocL L→(ts.map (cntS d)).sum≤1000→okB gl fl L ts∧fwB ts∧ntL ts≤d∧11 * (vrL ts).length≤(ts.map (cntS d)).sum∧ts.length≤(ts.map (cntS d)).sum
 | [],_,_,_,_,_,_=>⟨trivial,trivial,Nat.zero_le _,by simp [vrL],by simp⟩
 | t :: ts,L,L',hg,hi,hL,hc=>by
  obtain ⟨L1,h1,h2⟩:=hi
  simp only [List.map_cons,List.sum_cons] at hc ⊢
  obtain ⟨a1,a2,a3,a4,a5⟩:=hS t L L1 (hg t (by simp)) h1 hL (by omega)
  have hL1:=z8Z t h1 hL
  obtain ⟨b1,b2,b3,b4,b5⟩:=b_ok hS ts L1 L' (fun x hx=>hg x (by simp [hx])) h2 hL1 (by omega)
  rw [zbV t h1] at b1
  refine ⟨⟨a1,b1⟩,⟨a2,b2⟩,by show max (ntS t) (ntL ts)≤d; omega,?_,?_⟩
  ·show 11 * (vrS t++vrL ts).length≤_
   rw [List.length_append]
   omega
  ·simp only [List.length_cons]
   omega
theorem s_ok (h:Nmd gl fl):∀ d:Nat,SOk gl fl d
 | 0=>fun _ _ _ hg=>hg.elim
 | d+1=>fun t L L' hg hi hL hc=>by
  cases t with
  | mk k l s es ts us =>
   obtain ⟨rfl,hes,hts,hus,hk⟩:=hg
   obtain ⟨i1,⟨j1,j2,j3⟩,L1,i2,i3⟩:=hi
   rw [zcx] at i2
   simp only [cntS] at hc ⊢
   have hck:=z3m k es
   have hL1:=hL.snoc j1
   obtain ⟨a1,a2,a3,a4,a5⟩:=b_ok (s_ok h d) ts _ _ hts i2 hL1 (by omega)
   obtain ⟨b1,b2,b3,b4,b5⟩:=b_ok (s_ok h d) us _ _ hus i3 (z4Y ts i2 hL1) (by omega)
   rw [z71 ts i2] at b1
   have hx:=fun x hx=>h.okX hL (hes x hx) (z8Y i1 x hx)
   have hht:=z8W (n:=3) fun x hm=>(hx x hm).2.2
   have hel:es.length≤3:=by
    rcases hk with h | h | h | h | h | h <;> omega
   refine ⟨⟨⟨z9u fun x hm=>(hx x hm).1,z8M fun x hm=>(hx x hm).2.1,by omega,hel⟩,⟨fun e=>h.wz (j1 e).1 (j1 e).2,fun e=>h.var hL (j2 e),fun e=>h.arr hL (j3 e)⟩,⟨by omega,by omega⟩,a1,b1⟩,⟨⟨by omega,by omega⟩,a2,b2⟩,?_,?_,by omega⟩
   ·show max (1+ntL ts) (1+ntL us)≤d+1
    omega
   ·show 11 * ((if k=1 then [s] else [])++vrL ts++vrL us).length≤_
    simp only [List.length_append]
    by_cases h1:k=1
    ·have:cK k es=11:=by subst h1; simp [cK]
     rw [if_pos h1]
     simp only [List.length_cons,List.length_nil]
     omega
    ·rw [if_neg h1]
     simp only [List.length_nil]
     omega
end
theorem zdX {gl:GlL} {fl:List Fn} (hs:z6N gl fl) (hg:gl.length≤4) (hf:fl.length≤4):Nmd gl fl :=
 ⟨hs.ng,fun i f hi=>(hs.nf i (z3n f) (by rw [List.getElem?_map,hi]; rfl)).1,hg,hf⟩
theorem zaZ {gl:GlL} {fl:List Fn} (hs:z6N gl fl) (hF:∀ f∈fl,GF 2 f) (hg:gl.length≤4) (h1:1≤fl.length) (hf:fl.length≤4):zdl gl fl:=by
 have hn:=zdX hs hg hf
 have hpar:∀ (i:Nat) (f:Fn),fl[i]?=some f→zce f.params:=fun i f hi=>(hs.nf i (z3n f) (by rw [List.getElem?_map,hi]; rfl)).2.2
 refine ⟨by omega,⟨h1,by omega⟩,fun f h0=>?_,fun i x hi=>hn.ig hi,fun i f hi=>⟨?_,hn.nf hi⟩,fun i f hi=>?_⟩
 ·have hp:=hs.nf 0 (z3n f) (by rw [List.getElem?_map,h0]; rfl)
  exact ⟨by simpa [z3n,z1s] using hp.1,hp.2.1 rfl⟩
 ·refine z4W fun e=>?_
  have h2:=hn.sg _ e
  rcases hn.sf f.name (List.mem_map.2 ⟨f,List.mem_of_getElem? hi,rfl⟩) with h3 | h3 <;> rw [h2] at h3 <;> exact absurd h3 (by decide)
 ·obtain ⟨_,hp2,_,hst,hcnt⟩:=hF f (List.mem_of_getElem? hi)
  replace hcnt:(f.body.map (cntS 3)).sum≤77:=hcnt
  obtain ⟨L',hin⟩:=hs.sc f (List.mem_of_getElem? hi)
  have hps:∀ s∈f.params,sigN s=(2,some 112):=fun s hm=>by
   obtain ⟨j,hj⟩:=List.getElem?_of_mem hm
   rw [hpar i f hi j s hj,z7p]
  obtain ⟨a1,a2,a3,a4,a5⟩:=b_ok (s_ok hn 3) f.body _ _ hst hin (fun s hm=>.inr (hps s hm)) (by omega)
  refine ⟨by omega,by omega,by omega,a2,by omega,a1,fun k q hk=>⟨z3w fun e=>?_,hn.oz (.inr (hps q (List.mem_of_getElem? hk)))⟩⟩
  obtain ⟨j,hj⟩:=List.getElem?_of_mem e
  rw [List.getElem?_take] at hj
  split at hj
  ·have e1:=hpar i f hi k q hk
   have e2:=hpar i f hi j q hj
   have:=getlt hk
   rw [e1] at e2
   have:=z6q (by omega) (by omega) e2
   omega
  ·cases hj
end Go.Proofs.YtkeihncfmbicnaaGreatDoor
namespace Go.Proofs.YtkeihncfmbicnaaGreatDoor
open Go.RowKit
def lbX:Nat→Nat
 | 0=>20
 | d+1=>3 * lbX d+40
def RX (d:Nat) (y:Ex):Prop:=ShP (d+2) y∧fmtE (d+2) y≠[]∧(fmtE (d+2) y).length≤lbX d
theorem z56:∀ d,20≤lbX d
 | 0=>Nat.le_refl _
 | d+1=>by have:=z56 d; simp only [lbX]; omega
theorem z6W {s:ByteArray} (h:z0p s):s.data.toList≠[]:=by
 intro e
 have:=h.2
 rw [e] at this
 exact absurd this (by decide)
theorem z2P (d:Nat) (x:Ex):(if z0l x.kind then 40 :: (fmtE d x++[41]) else fmtE d x).length≤(fmtE d x).length+2:=by
 split <;> simp <;> omega
section
variable {gl:GlL} {fl:List Fn} {L:List ByteArray}
theorem zew (d:Nat) {s:ByteArray} {l:Int} (h:z0p s):RX d (vrX gl fl L s l)∧((vrX gl fl L s l).kind=13∨(vrX gl fl L s l).kind=2∨(vrX gl fl L s l).kind=3):=by
 have h1:=h.1
 have hp:=z56 d
 have hk:∃ k:Int,(k=2∨k=3)∧vrX gl fl L s l=.mk k 0 0 l s []:=by
  unfold vrX
  split
  ·exact ⟨2,.inl rfl,rfl⟩
  ·exact ⟨3,.inr rfl,rfl⟩
 obtain ⟨k,hk,e⟩:=hk
 rw [e]
 have ef:fmtE (d+2) (.mk k 0 0 l s [])=s.data.toList:=by rcases hk with rfl | rfl <;> simp [fmtE]
 have hs:s.data.toList.length=s.size:=by simp
 refine ⟨⟨⟨by simp,by omega,by omega,by omega,by omega,by omega,by simp,by omega⟩,by rw [ef]; exact z6W h,by rw [ef]; omega⟩,?_⟩
 show k=13∨k=2∨k=3
 omega
theorem z9R (d:Nat) {k o a l:Int} {s:ByteArray} (ho:0≤o∧o≤11) (ha:0≤a∧a<9223372036854775808) (hs:s.size≤16) (hk:k=12∨(k=13∧z0p s)∨k=1∨(k=11∧z0p s)):RX d (rsX gl fl L (.mk k o a l s [])):=by
 have hp:=z56 d
 have hz:s.data.toList.length=s.size:=by simp
 rcases hk with rfl | ⟨rfl,h⟩ | rfl | ⟨rfl,h⟩
 ·have e:rsX gl fl L (.mk 12 o a l s [])=.mk 12 o a l s []:=by simp [rsX,rsL]
  have ef:fmtE (d+2) (.mk 12 o a l s [])=[114,101,97,100]:=by simp [fmtE]
  rw [e]
  exact ⟨⟨by simp,by omega,by omega,by omega,by omega,by omega,by simp,by omega⟩,by rw [ef]; simp,by rw [ef]; simp; omega⟩
 ·have e:rsX gl fl L (.mk 13 o a l s [])=vrX gl fl L s l:=by simp [rsX]
  rw [e]
  exact (zew d h).1
 ·have e:rsX gl fl L (.mk 1 o a l s [])=.mk 1 o a l s []:=by simp [rsX,rsL]
  have ef:fmtE (d+2) (.mk 1 o a l s [])=numL (max a 0).toNat:=by simp [fmtE]
  have hn:=z0P (n:=(max a 0).toNat) (by omega)
  rw [e]
  refine ⟨⟨by simp,by omega,by omega,by omega,by omega,by omega,by simp,by omega⟩,?_,by rw [ef]; omega⟩
  rw [ef,numL]
  split <;> simp
 ·have e:rsX gl fl L (.mk 11 o a l s [])=.mk 11 o a l s []:=by simp [rsX,rsL]
  have ef:fmtE (d+2) (.mk 11 o a l s [])=38 :: s.data.toList:=by simp [fmtE]
  rw [e]
  exact ⟨⟨by simp,by omega,by omega,by omega,by omega,by omega,by simp,by omega⟩,by rw [ef]; simp,by rw [ef,List.length_cons]; omega⟩
theorem z5l:∀ {xs:List Ex} {y:Ex},y∈rsL gl fl L xs→∃ x∈xs,y=rsX gl fl L x
 | [],y,h=>by simp [rsL] at h
 | x :: xs,y,h=>by
  simp only [rsL,List.mem_cons] at h
  rcases h with rfl | h
  ·exact ⟨x,by simp,rfl⟩
  ·obtain ⟨x',h1,h2⟩:=z5l h
   exact ⟨x',by simp [h1],h2⟩
theorem zbX {d b:Nat} {ys:List Ex} (h:∀ y∈ys,(fmtE d y).length≤b) (hl:ys.length≤2):(40 :: (([44,32]:z04).intercalate (ys.map (fmtE d))++[41])).length≤2 * b+4:=by
 match ys,hl with
 | [],_=>simp [List.intercalate]
 | [x],_ =>
  have:=h x (by simp)
  simp [List.intercalate]
  omega
 | [x,y],_ =>
  have h1:=h x (by simp)
  have h2:=h y (by simp)
  simp [List.intercalate]
  omega
 | x :: y :: z :: r,hl=>simp at hl
set_option maxHeartbeats 4000000 in
theorem z9Q:∀ (d:Nat) (x:Ex),GE d x→RX d (rsX gl fl L x)
 | 0,.mk k o a l s xs,⟨_,h1,h2,h3,h4,h5,h6,h7⟩=>by
  subst h6
  exact z9R 0 ⟨h1,h2⟩ ⟨h3,h4⟩ h5 h7
 | d+1,.mk k o a l s xs,⟨_,h1,h2,h3,h4,h5,h6⟩=>by
  rcases h6 with ⟨rfl,h7⟩ | ⟨hx,hk⟩
  ·exact z9R (d+1) ⟨h1,h2⟩ ⟨h3,h4⟩ h5 h7
  ·have ih:∀ y∈rsL gl fl L xs,RX d y:=fun y hy=>by
    obtain ⟨x,hm,rfl⟩:=z5l hy
    exact z9Q d x (hx x hm)
   have hln:(rsL gl fl L xs).length=xs.length:=z2l xs
   generalize hys:rsL gl fl L xs=ys at ih hln
   have hz:s.data.toList.length=s.size:=by simp
   have hp:=z56 d
   have hsh:∀ y∈ys,ShP (d+2) y:=fun y hy=>(ih y hy).1
   have hle:∀ y∈ys,(fmtE (d+2) y).length≤lbX d:=fun y hy=>(ih y hy).2.2
   have hb:lbX (d+1)=3 * lbX d+40:=rfl
   rcases hk with ⟨rfl,o1,o2,hl⟩ | ⟨rfl,o1,hl⟩ | ⟨rfl,hl⟩ | ⟨rfl,hl⟩ | ⟨rfl,hg,hl⟩ | ⟨rfl,hg,hl⟩ | ⟨rfl,hl1,hl⟩
   ·have e:rsX gl fl L (.mk 5 o a l s xs)=.mk 5 o a l s ys:=by simp [rsX,hys]
    rw [e]
    match ys,(show ys.length=1 by omega),hsh,hle with
    | [x],_,hsh,hle =>
     have ef:fmtE (d+1+2) (.mk 5 o a l s [x])=z0U o++(if z0l x.kind then 40 :: (fmtE (d+2) x++[41]) else fmtE (d+2) x):=by simp [fmtE]
     have hsg:z0U o=[45]∨z0U o=[33]:=by
      rcases (show o=1∨o=2 by omega) with rfl | rfl
      ·exact .inl rfl
      ·exact .inr rfl
     have ho:=z2P (d+2) x
     have hx1:=hle x (by simp)
     refine ⟨⟨by simp,by omega,by omega,by omega,by omega,by omega,hsh,by simp⟩,?_,?_⟩
     ·rw [ef]; rcases hsg with h | h <;> rw [h] <;> simp
     ·rw [ef,List.length_append]
      rcases hsg with h | h <;> rw [h] <;> simp only [List.length_cons,List.length_nil] <;> omega
   ·have e:rsX gl fl L (.mk 6 o a l s xs)=.mk 6 o a l s ys:=by simp [rsX,hys]
    rw [e]
    match ys,(show ys.length=2 by omega),hsh,hle with
    | [x,y],_,hsh,hle =>
     have ef:fmtE (d+1+2) (.mk 6 o a l s [x,y])=(if z0l x.kind then 40 :: (fmtE (d+2) x++[41]) else fmtE (d+2) x)++32 :: (z0U o++32 :: (if z0l y.kind then 40 :: (fmtE (d+2) y++[41]) else fmtE (d+2) y)):=by simp [fmtE]
     have hsg:(z0U o).length≤2:=by
      unfold z0U
      repeat' split
      all_goals simp
     have ho:=z2P (d+2) x
     have ho2:=z2P (d+2) y
     have hx1:=hle x (by simp)
     have hx2:=hle y (by simp)
     refine ⟨⟨by simp,by omega,by omega,by omega,by omega,by omega,hsh,by simp⟩,?_,?_⟩
     ·rw [ef]; simp
     ·rw [ef,List.length_append,List.length_cons,List.length_append,List.length_cons]
      omega
   ·have e:rsX gl fl L (.mk 7 o a l s xs)=.mk 7 o a l s ys:=by simp [rsX,hys]
    rw [e]
    match ys,(show ys.length=2 by omega),hsh,hle with
    | [x,y],_,hsh,hle =>
     have ef:fmtE (d+1+2) (.mk 7 o a l s [x,y])=(if z0l x.kind then 40 :: (fmtE (d+2) x++[41]) else fmtE (d+2) x)++[32,38,38,32]++(if z0l y.kind then 40 :: (fmtE (d+2) y++[41]) else fmtE (d+2) y):=by simp [fmtE]
     have ho:=z2P (d+2) x
     have ho2:=z2P (d+2) y
     have hx1:=hle x (by simp)
     have hx2:=hle y (by simp)
     refine ⟨⟨by simp,by omega,by omega,by omega,by omega,by omega,hsh,by simp⟩,?_,?_⟩
     ·rw [ef]; simp
     ·rw [ef,List.length_append,List.length_append]
      simp only [List.length_cons,List.length_nil] at ho ho2 ⊢
      omega
   ·have e:rsX gl fl L (.mk 8 o a l s xs)=.mk 8 o a l s ys:=by simp [rsX,hys]
    rw [e]
    match ys,(show ys.length=2 by omega),hsh,hle with
    | [x,y],_,hsh,hle =>
     have ef:fmtE (d+1+2) (.mk 8 o a l s [x,y])=(if z0l x.kind then 40 :: (fmtE (d+2) x++[41]) else fmtE (d+2) x)++[32,124,124,32]++(if z0l y.kind then 40 :: (fmtE (d+2) y++[41]) else fmtE (d+2) y):=by simp [fmtE]
     have ho:=z2P (d+2) x
     have ho2:=z2P (d+2) y
     have hx1:=hle x (by simp)
     have hx2:=hle y (by simp)
     refine ⟨⟨by simp,by omega,by omega,by omega,by omega,by omega,hsh,by simp⟩,?_,?_⟩
     ·rw [ef]; simp
     ·rw [ef,List.length_append,List.length_append]
      simp only [List.length_cons,List.length_nil] at ho ho2 ⊢
      omega
   ·have e:rsX gl fl L (.mk 4 o a l s xs)=.mk 4 o a l s ys:=by simp [rsX,hys]
    rw [e]
    match ys,(show ys.length=1 by omega),hsh,hle with
    | [x],_,hsh,hle =>
     have ef:fmtE (d+1+2) (.mk 4 o a l s [x])=s.data.toList++91 :: (fmtE (d+2) x++[93]):=by simp [fmtE]
     have hx1:=hle x (by simp)
     refine ⟨⟨by simp,by omega,by omega,by omega,by omega,by omega,hsh,by simp⟩,?_,?_⟩
     ·rw [ef]; simp
     ·rw [ef,List.length_append,List.length_cons,List.length_append,List.length_singleton]
      omega
   ·have hli:=zbX (d:=d+2) hle (by omega)
    by_cases hw:z0E gl fl L s≤2
    ·have e:rsX gl fl L (.mk 9 o a l s xs)=.mk 10 0 0 l ⟨#[]⟩ (vrX gl fl L s l :: ys):=by simp [rsX,hys,hw]
     rw [e]
     obtain ⟨⟨v1,v2,v3⟩,v4⟩:=zew (gl:=gl) (fl:=fl) (L:=L) d (l:=l) hg
     generalize vrX gl fl L s l=v at v1 v2 v3 v4
     have ef:fmtE (d+1+2) (.mk 10 0 0 l ⟨#[]⟩ (v :: ys))=(40 :: ((if z0l v.kind then 40 :: (fmtE (d+2) v++[41]) else fmtE (d+2) v)++[41]))++40 :: (([44,32]:z04).intercalate (ys.map (fmtE (d+2)))++[41]):=by simp [fmtE,v4]
     have ho:=z2P (d+2) v
     refine ⟨⟨by simp; omega,by show 0≤1000; omega,by omega,by omega,by omega,by omega,fun y hy=>?_,by simp⟩,?_,?_⟩
     ·rcases List.mem_cons.1 hy with rfl | hy
      ·exact v1
      ·exact hsh y hy
     ·rw [ef]; simp
     ·rw [ef,List.length_append,List.length_cons,List.length_append,List.length_singleton]
      omega
    ·have e:rsX gl fl L (.mk 9 o a l s xs)=.mk 9 o a l s ys:=by simp [rsX,hys,hw]
     rw [e]
     have ef:fmtE (d+1+2) (.mk 9 o a l s ys)=s.data.toList++40 :: (([44,32]:z04).intercalate (ys.map (fmtE (d+2)))++[41]):=by simp [fmtE]
     refine ⟨⟨by omega,by omega,by omega,by omega,by omega,by omega,hsh,by simp⟩,?_,?_⟩
     ·rw [ef]; simp
     ·rw [ef,List.length_append]
      omega
   ·have e:rsX gl fl L (.mk 10 o a l s xs)=.mk 10 o a l s ys:=by simp [rsX,hys]
    rw [e]
    match ys,(show 1≤ys.length∧ys.length≤3 by omega),hsh,hle with
    | v :: ys,hn,hsh,hle =>
     have hli:=zbX (d:=d+2) (b:=lbX d) (ys:=ys) (fun y hy=>hle y (by simp [hy])) (by simpa using hn.2)
     have ef:fmtE (d+1+2) (.mk 10 o a l s (v :: ys))=(if v.kind=13∨v.kind=2∨v.kind=3 then 40 :: ((if z0l v.kind then 40 :: (fmtE (d+2) v++[41]) else fmtE (d+2) v)++[41]) else (if z0l v.kind then 40 :: (fmtE (d+2) v++[41]) else fmtE (d+2) v))++40 :: (([44,32]:z04).intercalate (ys.map (fmtE (d+2)))++[41]):=by simp [fmtE]
     have ho:=z2P (d+2) v
     have hv:=hle v (by simp)
     refine ⟨⟨by have:=hn.2; omega,by omega,by omega,by omega,by omega,by omega,hsh,by simp⟩,?_,?_⟩
     ·rw [ef]; simp
     ·rw [ef,List.length_append]
      split
      ·rw [List.length_cons,List.length_append,List.length_singleton]
       omega
      ·omega
end
end Go.Proofs.YtkeihncfmbicnaaGreatDoor
namespace Go.Proofs.YtkeihncfmbicnaaGreatDoor
open Go.RowKit
theorem z6C:∀ (d:Nat) (x:Ex),ShP d x→ShE d x
 | 0,_,h=>h.elim
 | d+1,.mk _ _ _ _ _ _,⟨h1,h2,h3,h4,h5,h6,h7,h8⟩=>⟨h1,h2,by omega,h4,h5,h6,fun x hx=>z6C d x (h7 x hx),h8⟩
theorem z6D {D:Nat}:∀ (d:Nat) (t:St),ShQ D d t→ShS D d t
 | 0,_,h=>h.elim
 | d+1,.mk _ _ _ _ _ _,⟨h1,h2,h3,h4,h5,h6,h7,h8,h9⟩=>⟨h1,fun x hx=>z6C D x (h2 x hx).1,fun t ht=>z6D d t (h3 t ht),fun t ht=>z6D d t (h4 t ht),h5,h6,h7,h8,h9⟩
theorem z7n {D d:Nat} {f:Fn} (h:ShFq D d f) (hp:∀ p∈f.params,p.size≤1000):ShF D d f:=⟨h.1,h.2.1,hp,h.2.2.1,fun t ht=>z6D d t (h.2.2.2 t ht)⟩
theorem zat:∀ (d:Nat) (x:St),GSt d x→1≤cntS d x
 | 0,_,h=>h.elim
 | d+1,.mk k _ _ es _ _,_=>by
  have:=(z3m k es).1
  simp only [cntS]
  omega
theorem z1V {d:Nat}:∀ {l:List St},(∀ t∈l,GSt d t)→l.length≤(l.map (cntS d)).sum∧∀ t∈l,cntS d t≤(l.map (cntS d)).sum
 | [],_=>by simp
 | a :: r,h=>by
  have h1:=z1V (l:=r) (fun t hm=>h t (by simp [hm]))
  have h2:=zat d a (h a (by simp))
  refine ⟨by simp; omega,fun t hm=>?_⟩
  rcases List.mem_cons.1 hm with rfl | hm
  ·simp
  ·have:=h1.2 t hm
   simp
   omega
theorem zdF:∀ (d:Nat) (x:Ex),GE d x→ShP (d+1) x:=by
 intro d
 induction d with
 | zero =>
  rintro ⟨k,o,a,l,s,xs⟩ ⟨_,h1,h2,h3,h4,h5,rfl,hk⟩
  exact ⟨by simp,by omega,h3,h4,h1,h2,fun x hx=>by simp at hx,by rcases hk with h | ⟨h,_⟩ | h | ⟨h,_⟩ <;> simp [h]⟩
 | succ d ih =>
  rintro ⟨k,o,a,l,s,xs⟩ ⟨_,h1,h2,h3,h4,h5,⟨rfl,hk⟩ | ⟨hx,hk⟩⟩
  ·exact ⟨by simp,by omega,h3,h4,h1,h2,fun x hx=>by simp at hx,by rcases hk with h | ⟨h,_⟩ | h | ⟨h,_⟩ <;> simp [h]⟩
  ·refine ⟨?_,by omega,h3,h4,h1,h2,fun x hm=>ih x (hx x hm),?_⟩
   ·rcases hk with ⟨_,_,_,h⟩ | ⟨_,_,h⟩ | ⟨_,h⟩ | ⟨_,h⟩ | ⟨_,_,h⟩ | ⟨_,_,h⟩ | ⟨_,_,h⟩ <;> omega
   ·rcases hk with ⟨h,_,_,h'⟩ | ⟨h,_,h'⟩ | ⟨h,h'⟩ | ⟨h,h'⟩ | ⟨h,_,h'⟩ | ⟨h,h',_⟩ | ⟨h,h',_⟩ <;> simp [h,h']
theorem z7b (d:Nat) {k o a l:Int} {s:ByteArray} (hk:k=12∨(k=13∧z0p s)∨k=1∨(k=11∧z0p s)):fmtE (d+1) (.mk k o a l s [])≠[]:=by
 rcases hk with rfl | ⟨rfl,h⟩ | rfl | ⟨rfl,h⟩
 ·simp [fmtE]
 ·have e:fmtE (d+1) (.mk 13 o a l s [])=s.data.toList:=by simp [fmtE]
  rw [e]
  exact z6W h
 ·have e:fmtE (d+1) (.mk 1 o a l s [])=numL (max a 0).toNat:=by simp [fmtE]
  rw [e,numL]
  split <;> simp
 ·simp [fmtE]
set_option maxHeartbeats 1000000 in
theorem zdD:∀ (d:Nat) (x:Ex),GE d x→fmtE (d+1) x≠[]
 | 0,.mk k o a l s xs,⟨_,_,_,_,_,_,h6,h7⟩=>by
  subst h6
  exact z7b 0 h7
 | d+1,.mk k o a l s xs,⟨_,_,_,_,_,_,h6⟩=>by
  rcases h6 with ⟨rfl,h7⟩ | ⟨_,hk⟩
  ·exact z7b (d+1) h7
  ·rcases hk with ⟨rfl,o1,o2,hl⟩ | ⟨rfl,o1,hl⟩ | ⟨rfl,hl⟩ | ⟨rfl,hl⟩ | ⟨rfl,hg,hl⟩ | ⟨rfl,hg,hl⟩ | ⟨rfl,hl1,hl⟩
   ·match xs,hl with
    | [x],_=>rcases (show o=1∨o=2 by omega) with rfl | rfl <;> simp [fmtE,z0U]
   ·match xs,hl with
    | [x,y],_=>simp [fmtE]
   ·match xs,hl with
    | [x,y],_=>simp [fmtE]
   ·match xs,hl with
    | [x,y],_=>simp [fmtE]
   ·match xs,hl with
    | [x],_=>simp [fmtE]
   ·simp [fmtE]
   ·match xs,hl1 with
    | x :: r,_=>simp [fmtE]
theorem z6i:∀ (d:Nat) (t:St),GSt d t→cntS d t≤1000→ShQ 3 d t
 | 0,_,h,_=>h.elim
 | d+1,.mk k l s es ts us,⟨_,he,ht,hu,hk⟩,hc=>by
  simp only [cntS] at hc
  obtain ⟨t1,t2⟩:=z1V ht
  obtain ⟨u1,u2⟩:=z1V hu
  have hs:s.size≤1000:=by
   rcases hk with ⟨_,h,_⟩ | ⟨_,h,_⟩ | ⟨_,h,_⟩ | ⟨_,h,_⟩ | ⟨_,h,_⟩ | ⟨_,h,_⟩
   ·have:=h.1; omega
   ·have:=h.1; omega
   ·have:=h.1; omega
   ·omega
   ·omega
   ·omega
  refine ⟨hs,fun x hm=>⟨zdF 2 x (he x hm),zdD 2 x (he x hm)⟩,fun t hm=>z6i d t (ht t hm) (by have:=t2 t hm; omega),fun t hm=>z6i d t (hu t hm) (by have:=u2 t hm; omega),?_,?_,by omega,by omega,?_⟩
  ·rcases hk with ⟨_,_,h,_⟩ | ⟨_,_,h,_⟩ | ⟨_,_,h,_⟩ | ⟨_,_,h⟩ | ⟨_,_,h,_⟩ | ⟨_,_,h,_⟩ <;> omega
  ·rcases hk with ⟨_,_,h,_⟩ | ⟨_,_,h,_⟩ | ⟨_,_,h,_⟩ | ⟨_,_,h⟩ | ⟨_,_,h,_⟩ | ⟨_,_,h,_⟩ <;> omega
  ·rcases hk with ⟨h,_⟩ | ⟨h,_⟩ | ⟨h,_,h3,_⟩ | ⟨h,_⟩ | ⟨h,_⟩ | ⟨h | h | h,_⟩
   ·simp [h]
   ·simp [h]
   ·exact .inr (.inr (.inl ⟨h,by omega⟩))
   ·simp [h]
   ·simp [h]
   ·simp [h]
   ·simp [h]
   ·simp [h]
theorem zdG {f:Fn} (h:GF 2 f):ShFq 3 3 f∧ShF 3 3 f:=by
 obtain ⟨h1,h2,h3,h4,h5⟩:=h
 have h4:∀ t∈f.body,GSt 3 t:=h4
 have h5:(f.body.map (cntS 3)).sum≤77:=h5
 obtain ⟨c1,c2⟩:=z1V h4
 have hq:ShFq 3 3 f:=⟨by have:=h1.1; omega,by omega,by omega,fun t hm=>z6i 3 t (h4 t hm) (by have:=c2 t hm; omega)⟩
 exact ⟨hq,z7n hq (fun p hp=>by have:=(h3 p hp).1; omega)⟩
section
variable {gl:GlL} {fl:List Fn}
theorem z5k:∀ {ts:List St} {L:List ByteArray} {y:St},y∈rsB gl fl L ts→∃ t∈ts,∃ L',y=rsS gl fl L' t
 | [],_,y,h=>by simp [rsB] at h
 | t :: ts,L,y,h=>by
  simp only [rsB,List.mem_cons] at h
  rcases h with rfl | h
  ·exact ⟨t,by simp,L,rfl⟩
  ·obtain ⟨t',h1,L',h2⟩:=z5k h
   exact ⟨t',by simp [h1],L',h2⟩
theorem z6z:∀ (d:Nat) (t:St) (L:List ByteArray),GSt d t→cntS d t≤1000→ShQ 4 d (rsS gl fl L t)
 | 0,_,_,h,_=>h.elim
 | d+1,.mk k l s es ts us,L,⟨_,he,ht,hu,hk⟩,hc=>by
  simp only [cntS] at hc
  obtain ⟨t1,t2⟩:=z1V ht
  obtain ⟨u1,u2⟩:=z1V hu
  have hel:(rsL gl fl L es).length=es.length:=z2l es
  have hs:s.size≤1000:=by
   rcases hk with ⟨_,h,_⟩ | ⟨_,h,_⟩ | ⟨_,h,_⟩ | ⟨_,h,_⟩ | ⟨_,h,_⟩ | ⟨_,h,_⟩
   ·have:=h.1; omega
   ·have:=h.1; omega
   ·have:=h.1; omega
   ·omega
   ·omega
   ·omega
  refine ⟨hs,fun y hy=>?_,fun y hy=>?_,fun y hy=>?_,?_,?_,by rw [z27]; omega,by rw [z27]; omega,?_⟩
  ·obtain ⟨x,hm,rfl⟩:=z5l hy
   have h:=z9Q (gl:=gl) (fl:=fl) (L:=L) 2 x (he x hm)
   exact ⟨h.1,h.2.1⟩
  ·obtain ⟨t,hm,L',rfl⟩:=z5k hy
   exact z6z d t L' (ht t hm) (by have:=t2 t hm; omega)
  ·obtain ⟨t,hm,L',rfl⟩:=z5k hy
   exact z6z d t L' (hu t hm) (by have:=u2 t hm; omega)
  ·rcases hk with ⟨_,_,h,_⟩ | ⟨_,_,h,_⟩ | ⟨_,_,h,_⟩ | ⟨_,_,h⟩ | ⟨_,_,h,_⟩ | ⟨_,_,h,_⟩ <;> omega
  ·rcases hk with ⟨_,_,h,_⟩ | ⟨_,_,h,_⟩ | ⟨_,_,h,_⟩ | ⟨_,_,h⟩ | ⟨_,_,h,_⟩ | ⟨_,_,h,_⟩ <;> omega
  ·rcases hk with ⟨h,_⟩ | ⟨h,_⟩ | ⟨h,_,h3,_⟩ | ⟨h,_⟩ | ⟨h,_⟩ | ⟨h | h | h,_⟩
   ·simp [h]
   ·simp [h]
   ·exact .inr (.inr (.inl ⟨h,by omega⟩))
   ·simp [h]
   ·simp [h]
   ·simp [h]
   ·simp [h]
   ·simp [h]
theorem zcS {f:Fn} (h:GF 2 f):ShFq 4 3 (rsFn gl fl f)∧ShF 4 3 (rsFn gl fl f):=by
 obtain ⟨h1,h2,h3,h4,h5⟩:=h
 have h4:∀ t∈f.body,GSt 3 t:=h4
 have h5:(f.body.map (cntS 3)).sum≤77:=h5
 obtain ⟨c1,c2⟩:=z1V h4
 have hq:ShFq 4 3 (rsFn gl fl f):=⟨by have:=h1.1; show f.name.size≤1000; omega,by show f.params.length≤1000; omega,by show (rsB gl fl f.params f.body).length≤1000; rw [z27]; omega,fun y hy=>by
  obtain ⟨t,hm,L',rfl⟩:=z5k (show y∈rsB gl fl f.params f.body from hy)
  exact z6z 3 t L' (h4 t hm) (by have:=c2 t hm; omega)⟩
 exact ⟨hq,z7n hq (fun p hp=>by have:=(h3 p hp).1; omega)⟩
theorem zc9 {L:List ByteArray} {es:List Ex} (he:∀ x∈es,GE 2 x) (i:Nat):(valL 4 (rsL gl fl L es) i).length≤340:=by
 unfold valL
 cases h:(rsL gl fl L es)[i]? with
 | none=>simp
 | some y =>
  obtain ⟨x,hm,rfl⟩:=z5l (List.mem_of_getElem? h)
  exact (z9Q (gl:=gl) (fl:=fl) (L:=L) 2 x (he x hm)).2.2
def BLr (gl:GlL) (fl:List Fn) (d:Nat):Prop:=∀ (ts:List St) (L:List ByteArray) (ind:z04),(∀ t∈ts,GSt d t)→ind.length+d≤10→(fmtB 4 d (rsB gl fl L ts) ind).length≤1000 * (ts.map (cntS d)).sum
theorem zeJ {d:Nat} (hB:BLr gl fl d) (t:St) (L:List ByteArray) (ind:z04) (hg:GSt (d+1) t) (hi:ind.length+(d+1)≤10):(stL 4 (fmtB 4 d) ind (rsS gl fl L t)).length≤1000 * cntS (d+1) t:=by
 cases t with
 | mk k l s es ts us =>
  obtain ⟨_,he,ht,hu,hk⟩:=hg
  have hck:=(z3m k es).1
  have v0:=zc9 (gl:=gl) (fl:=fl) (L:=L) he 0
  have v1:=zc9 (gl:=gl) (fl:=fl) (L:=L) he 1
  have bt:=hB ts (L++hdS k s) (ind++[9]) ht (by simp; omega)
  have bu:=hB us (L++hdS k s++vrL ts) (ind++[9]) hu (by simp; omega)
  have hs:s.data.toList.length≤16:=by
   have e:s.data.toList.length=s.size:=by simp
   rw [e]
   rcases hk with ⟨_,h,_⟩ | ⟨_,h,_⟩ | ⟨_,h,_⟩ | ⟨_,h,_⟩ | ⟨_,h,_⟩ | ⟨_,h,_⟩
   ·exact h.1
   ·exact h.1
   ·exact h.1
   ·omega
   ·omega
   ·omega
  simp only [rsS,stL,cntS]
  generalize fmtB 4 d (rsB gl fl (L++hdS k s) ts) (ind++[9])=bT at bt ⊢
  generalize fmtB 4 d (rsB gl fl (L++hdS k s++vrL ts) us) (ind++[9])=bU at bu ⊢
  generalize valL 4 (rsL gl fl L es) 0=a0 at v0 ⊢
  generalize valL 4 (rsL gl fl L es) 1=a1 at v1 ⊢
  generalize s.data.toList=sl at hs ⊢
  generalize (ts.map (cntS d)).sum=ct at bt ⊢
  generalize (us.map (cntS d)).sum=cu at bu ⊢
  generalize cK k es=ck at hck ⊢
  clear he ht hu hk
  by_cases h1:k=1
  ·simp only [if_pos h1,List.length_append,List.length_cons,List.length_nil]; omega
  by_cases h2:k=2
  ·simp only [if_neg h1,if_pos h2,List.length_append,List.length_cons,List.length_nil]; omega
  by_cases h3:k=3
  ·simp only [if_neg h1,if_neg h2,if_pos h3,List.length_append,List.length_cons,List.length_nil]; omega
  by_cases h6:k=6
  ·simp only [if_neg h1,if_neg h2,if_neg h3,if_pos h6,List.length_append,List.length_cons,List.length_nil]; omega
  by_cases h7:k=7
  ·simp only [if_neg h1,if_neg h2,if_neg h3,if_neg h6,if_pos h7,List.length_append,List.length_cons,List.length_nil]; omega
  by_cases h8:k=8
  ·simp only [if_neg h1,if_neg h2,if_neg h3,if_neg h6,if_neg h7,if_pos h8,List.length_append,List.length_cons,List.length_nil]; omega
  by_cases h5:k=5
  ·simp only [if_neg h1,if_neg h2,if_neg h3,if_neg h6,if_neg h7,if_neg h8,if_pos h5,List.length_append,List.length_cons,List.length_nil]; omega
  by_cases h4:k=4
  ·simp only [if_neg h1,if_neg h2,if_neg h3,if_neg h6,if_neg h7,if_neg h8,if_neg h5,if_pos h4,List.length_append,List.length_cons,List.length_nil]
   split
   ·simp only [List.length_nil]; omega
   ·simp only [List.length_append,List.length_cons,List.length_nil]; omega
  ·simp only [if_neg h1,if_neg h2,if_neg h3,if_neg h6,if_neg h7,if_neg h8,if_neg h5,if_neg h4,List.length_append,List.length_cons,List.length_nil]; omega
theorem zdr:∀ d,BLr gl fl d
 | 0=>fun ts L ind _ _=>by simp [fmtB]
 | d+1=>fun ts L ind hg hi=>by
  show ((rsB gl fl L ts).flatMap (stL 4 (fmtB 4 d) ind)).length≤_
  induction ts generalizing L with
  | nil=>simp [rsB]
  | cons t ts ih =>
   have h1:=zeJ (zdr d) t L ind (hg t (by simp)) hi
   have h2:=ih (L++vrS t) (fun x hx=>hg x (by simp [hx]))
   simp only [rsB,List.flatMap_cons,List.length_append,List.map_cons,List.sum_cons]
   omega
theorem zeb {f:Fn} (h:GF 2 f):(fmtF 4 3 (rsFn gl fl f)).length≤100000:=by
 obtain ⟨h1,h2,h3,h4,h5⟩:=h
 have h1:=h1.1
 have hsz:f.name.data.toList.length=f.name.size:=by simp
 have hb:=zdr (gl:=gl) (fl:=fl) 3 f.body f.params [9] h4 (by simp)
 have hj:(jl (f.params.map (·.data.toList))).length≤68:=by
  have hp:=h3
  have hl:=h2
  match hq:f.params,hl with
  | [],_=>simp [jl,List.intercalate]
  | [a],_ =>
   have:=(hp a (by rw [hq]; simp)).1
   have h3:a.data.toList.length=a.size:=by simp
   simp [jl,List.intercalate] at h3 ⊢
   omega
  | [a,b],_ =>
   have h4:=(hp a (by rw [hq]; simp)).1
   have h5:=(hp b (by rw [hq]; simp)).1
   simp [jl,List.intercalate]
   omega
  | a :: b :: c :: r,hl=>simp at hl
 have h5:(f.body.map (cntS 3)).sum≤77:=h5
 have e:fmtF 4 3 (rsFn gl fl f)=[102,117,110,99,32]++f.name.data.toList++[40]++jl (f.params.map (·.data.toList))++[41,32,123,10]++fmtB 4 3 (rsB gl fl f.params f.body) [9]++[125,10]:=rfl
 rw [e]
 simp only [List.length_append,List.length_cons,List.length_nil]
 omega
theorem zec {hl:List Fn} (hg:∀ x∈gl,GG x) (hf:∀ f∈hl,GF 2 f) (h4:gl.length≤4) (hn:hl.length≤4):(fmtP 4 3 gl (hl.map (rsFn gl fl))).length≤1000000:=by
 have h1:=z3Q fmtG (fun _=>1) 62 gl (fun x hx=>z6T (hg x hx))
 have h2:=z3Q (fmtF 4 3) (fun _=>1) 100000 (hl.map (rsFn gl fl)) (fun f hm=>by
  obtain ⟨g,hm2,rfl⟩:=List.mem_map.1 hm
  simpa using zeb (hf g hm2))
 have c1:∀ {α:Type} (l:List α),(l.map (fun _=>1)).sum=l.length:=fun l=>by induction l <;> simp_all; omega
 rw [c1] at h1 h2
 rw [List.length_map] at h2
 unfold fmtP
 rw [List.length_append]
 omega
end
end Go.Proofs.YtkeihncfmbicnaaGreatDoor
