/-
  Lf: RsK, RsL. Walks and laws that the statement's proof is made of. No condition of its own.
-/
import Derived.Test.YtleicdfkagejoaaLd
import Derived.Test.YtleicdfkagejoaaKx
namespace Go.Proofs.Ytleicdfkagejoaa
open Go.RowKit
def sigN (s:ByteArray):Nat × Option UInt8:=(s.data.size,s.data[0]?)
theorem z7j (c:UInt8) (n:Nat):sigN (nmI c n)=(2,some c):=rfl
theorem z7i:sigN z1D=(4,some 109):=rfl
theorem z9W:∀ s∈z0H,(sigN s).1=1:=by
 intro s hs
 simp only [z0H,List.mem_cons,List.not_mem_nil,or_false] at hs
 rcases hs with h | h | h | h | h | h | h | h <;> subst h <;> rfl
theorem z6q {c:UInt8} {n m:Nat} (hn:n<4) (hm:m<4) (h:nmI c n=nmI c m):n=m:=by
 have h1:=congrArg (fun s:ByteArray=>(s.data[1]?).map UInt8.toNat) h
 simp [nmI] at h1
 omega
theorem z4Z {xs:List ByteArray} {s:ByteArray} (h:s∈xs):hasB xs s=true:=by
 obtain ⟨i,hi⟩:=List.getElem?_of_mem h
 exact z51 hi
theorem z3Q {xs:List ByteArray} {s:ByteArray} (h:s ∉ xs):hasB xs s=false :=
 z50 (fun _ _ e=>h (List.mem_of_getElem? e))
theorem z54 {xs:List ByteArray} {s:ByteArray} (h:s ∉ xs):z1l xs s=none :=
 z8Y (fun _ _ e=>h (List.mem_of_getElem? e))
structure Nmd (gl:GlL) (fl:List Fn):Prop where
 g:∀ (i:Nat) (x:ByteArray × Int),gl[i]?=some x→x.1=nmI 103 i
 f:∀ (i:Nat) (f:Fn),fl[i]?=some f→f.name=(if i=0 then z1D else nmI 102 i)
 gn:gl.length≤4
 fn:fl.length≤4
theorem getlt {α:Type} {l:List α} {i:Nat} {x:α} (h:l[i]?=some x):i<l.length:=by
 rcases Nat.lt_or_ge i l.length with h' | h'
 ·exact h'
 ·rw [List.getElem?_eq_none h'] at h; cases h
section
variable {gl:GlL} {fl:List Fn}
theorem Nmd.sg (h:Nmd gl fl):∀ s∈gl.map (·.1),sigN s=(2,some 103):=by
 intro s hs
 obtain ⟨x,hx,rfl⟩:=List.mem_map.1 hs
 obtain ⟨i,hi⟩:=List.getElem?_of_mem hx
 rw [h.g i x hi,z7j]
theorem Nmd.sf (h:Nmd gl fl):∀ s∈fl.map (·.name),sigN s=(2,some 102)∨sigN s=(4,some 109):=by
 intro s hs
 obtain ⟨x,hx,rfl⟩:=List.mem_map.1 hs
 obtain ⟨i,hi⟩:=List.getElem?_of_mem hx
 rw [h.f i x hi]
 split
 ·exact .inr z7i
 ·exact .inl (z7j _ _)
theorem Nmd.ig (h:Nmd gl fl) {i:Nat} {x:ByteArray × Int} (hi:gl[i]?=some x):z1l (gl.map (·.1)) x.1=some i:=by
 have hl:=h.gn
 refine z55 (by rw [List.getElem?_map,hi]; rfl) (fun j hj e=>?_)
 rw [List.getElem?_map] at e
 have hl2:=getlt hi
 have hj2:j<gl.length:=by omega
 rw [List.getElem?_eq_getElem hj2] at e
 simp only [Option.map_some,Option.some.injEq] at e
 rw [h.g i x hi,h.g j _ (List.getElem?_eq_getElem hj2)] at e
 have:=z6q (by omega) (by omega) e
 omega
theorem Nmd.nf (h:Nmd gl fl) {i:Nat} {f:Fn} (hi:fl[i]?=some f):z1l (fl.map (·.name)) f.name=some i:=by
 have hl:=h.fn
 refine z55 (by rw [List.getElem?_map,hi]; rfl) (fun j hj e=>?_)
 rw [List.getElem?_map] at e
 have hl2:=getlt hi
 have hj2:j<fl.length:=by omega
 rw [List.getElem?_eq_getElem hj2] at e
 simp only [Option.map_some,Option.some.injEq] at e
 rw [h.f i f hi,h.f j _ (List.getElem?_eq_getElem hj2)] at e
 rw [if_neg (show ¬ i=0 by omega)] at e
 by_cases h0:j=0
 ·rw [if_pos h0] at e
  have:=congrArg sigN e
  rw [z7j,z7i] at this
  exact absurd this (by decide)
 ·rw [if_neg h0] at e
  have:=z6q (by omega) (by omega) e
  omega
theorem Nmd.og (h:Nmd gl fl) {x:ByteArray × Int} (hx:x∈gl):z12 gl fl x.1=if 0<x.2 then 3 else 2:=by
 obtain ⟨i,hi⟩:=List.getElem?_of_mem hx
 unfold z12
 rw [h.ig hi]
 simp only [hi,Option.map_some,Option.getD_some]
theorem Nmd.of (h:Nmd gl fl) {f:Fn} (hf:f∈fl):z12 gl fl f.name=4:=by
 obtain ⟨i,hi⟩:=List.getElem?_of_mem hf
 have hn:f.name ∉ gl.map (·.1):=fun e=>by
  have h1:=h.sg _ e
  rcases h.sf f.name (List.mem_map.2 ⟨f,hf,rfl⟩) with h2 | h2 <;> rw [h1] at h2 <;> exact absurd h2 (by decide)
 unfold z12
 rw [z54 hn,h.nf hi]
theorem Nmd.oz (h:Nmd gl fl) {s:ByteArray} (hs:(sigN s).1=1∨sigN s=(2,some 112)):z12 gl fl s=0:=by
 have hn:s ∉ gl.map (·.1):=fun e=>by
  rw [h.sg _ e] at hs
  rcases hs with h2 | h2 <;> exact absurd h2 (by decide)
 have hm:s ∉ fl.map (·.name):=fun e=>by
  rcases h.sf _ e with h1 | h1 <;> rw [h1] at hs <;> rcases hs with h2 | h2 <;> exact absurd h2 (by decide)
 unfold z12
 rw [z54 hn,z54 hm]
def LocL (L:List ByteArray):Prop:=∀ s∈L,(sigN s).1=1∨sigN s=(2,some 112)
theorem Nmd.wg (h:Nmd gl fl) {L:List ByteArray} (hL:LocL L) {x:ByteArray × Int} (hx:x∈gl):z0w gl fl L x.1=if 0<x.2 then 3 else 2:=by
 have hn:x.1 ∉ L:=fun e=>by
  have:=hL _ e
  rw [h.sg _ (List.mem_map.2 ⟨x,hx,rfl⟩)] at this
  rcases this with h2 | h2 <;> exact absurd h2 (by decide)
 unfold z0w
 rw [z3Q hn,h.og hx]
 rfl
theorem Nmd.wf (h:Nmd gl fl) {L:List ByteArray} (hL:LocL L) {f:Fn} (hf:f∈fl):z0w gl fl L f.name=4:=by
 have hn:f.name ∉ L:=fun e=>by
  have:=hL _ e
  rcases h.sf f.name (List.mem_map.2 ⟨f,hf,rfl⟩) with h1 | h1 <;> rw [h1] at this <;> rcases this with h2 | h2 <;> exact absurd h2 (by decide)
 unfold z0w
 rw [z3Q hn,h.of hf]
 rfl
theorem zbv {L:List ByteArray} {s:ByteArray} (h:s∈L):z0w gl fl L s=1:=by
 unfold z0w
 rw [z4Z h]
 rfl
theorem Nmd.wz (h:Nmd gl fl) {L:List ByteArray} {s:ByteArray} (hs:s∈z0H) (hn:s ∉ L):z0w gl fl L s=0:=by
 unfold z0w
 rw [z3Q hn,h.oz (.inl (z9W s hs))]
 rfl
theorem Nmd.var (h:Nmd gl fl) {P:List (ByteArray × List ByteArray)} {L:List ByteArray} (hL:LocL L) {s:ByteArray} (hv:z2N ⟨gl,P,L⟩ s):z0w gl fl L s=1∨z0w gl fl L s=2:=by
 rcases hv with hv | ⟨x,hx,rfl,h0⟩
 ·exact .inl (zbv hv)
 ·right
  rw [h.wg hL hx,if_neg (by simpa using h0)]
theorem Nmd.arr (h:Nmd gl fl) {P:List (ByteArray × List ByteArray)} {L:List ByteArray} (hL:LocL L) {s:ByteArray} (hv:IsGl ⟨gl,P,L⟩ true s):z0w gl fl L s=3:=by
 obtain ⟨x,hx,rfl,h0⟩:=hv
 rw [h.wg hL hx,if_pos (by simpa using h0)]
theorem Nmd.fun_ (h:Nmd gl fl) {L:List ByteArray} (hL:LocL L) {f:ByteArray × List ByteArray} (hf:f∈fl.map z3E):z0w gl fl L f.1=4∧∃ j f',z1l (fl.map (·.name)) f.1=some j∧fl[j]?=some f'∧f'.params.length=f.2.length:=by
 obtain ⟨f',hf',rfl⟩:=List.mem_map.1 hf
 obtain ⟨i,hi⟩:=List.getElem?_of_mem hf'
 exact ⟨h.wf hL hf',i,f',h.nf hi,hi,rfl⟩
theorem z9t {L:List ByteArray}:∀ {xs:List Ex},(∀ x∈xs,okX gl fl L x)→okL gl fl L xs
 | [],_=>trivial
 | x :: xs,h=>⟨h x (by simp),z9t fun y hy=>h y (by simp [hy])⟩
theorem z8K:∀ {xs:List Ex},(∀ x∈xs,fwX x)→fwL xs
 | [],_=>trivial
 | x :: xs,h=>⟨h x (by simp),z8K fun y hy=>h y (by simp [hy])⟩
theorem z8W {n:Nat}:∀ {xs:List Ex},(∀ x∈xs,htX x≤n)→htL xs≤n
 | [],_=>Nat.zero_le _
 | x :: xs,h=>by
  have h1:=h x (by simp)
  have h2:=z8W (n:=n) (xs:=xs) fun y hy=>h y (by simp [hy])
  show max (htX x) (htL xs)≤n
  omega
theorem Nmd.okN (h:Nmd gl fl) {L:List ByteArray} (hL:LocL L) {k:Int} {s:ByteArray} {n:Nat} (hi:InN ⟨gl,fl.map z3E,L⟩ k s n) (hn:n≤3):okN gl fl L k s n:=by
 obtain ⟨h1,h2,h3,h4⟩:=hi
 refine ⟨fun e=>h.var hL (h1 e),fun e=>h.arr hL (h2 e),fun e=>?_,fun e=>?_,hn⟩
 ·obtain ⟨f,hf,rfl⟩:=h3 e
  exact (h.fun_ hL hf).1
 ·rcases h4 e with ⟨f,hf,rfl,rfl⟩ | hv
  ·exact .inl (h.fun_ hL hf)
  ·exact .inr (h.var hL hv)
theorem zaJ {d:Nat} {k o a l:Int} {s:ByteArray} {xs:List Ex} (h:GE d (.mk k o a l s xs)):xs.length≤3∧(xs=[]∨∃ d',d=d'+1∧∀ x∈xs,GE d' x):=by
 cases d with
 | zero =>
  obtain ⟨_,_,_,_,_,_,rfl,_⟩:=h
  exact ⟨by simp,.inl rfl⟩
 | succ d =>
  obtain ⟨_,_,_,_,_,_,⟨rfl,_⟩ | ⟨h1,h2⟩⟩:=h
  ·exact ⟨by simp,.inl rfl⟩
  ·refine ⟨?_,.inr ⟨d,rfl,h1⟩⟩
   rcases h2 with h2 | h2 | h2 | h2 | h2 | h2 | h2 <;> omega
theorem Nmd.okX (h:Nmd gl fl) {L:List ByteArray} (hL:LocL L):∀ {d:Nat} {x:Ex},GE d x→InX ⟨gl,fl.map z3E,L⟩ x→okX gl fl L x∧fwX x∧htX x≤d+1
 | d,.mk k o a l s xs,hg,hi=>by
  obtain ⟨h1,h2⟩:=zaJ hg
  obtain ⟨i1,i2⟩:=hi
  rcases h2 with rfl | ⟨d',rfl,h2⟩
  ·exact ⟨⟨h.okN hL i1 h1,trivial⟩,⟨h1,trivial⟩,by show htL []+1≤d+1; simp [htL]⟩
  ·have hx:=fun x hx=>Nmd.okX h hL (h2 x hx) (z8Z i2 x hx)
   refine ⟨⟨h.okN hL i1 h1,z9t fun x hm=>(hx x hm).1⟩,⟨h1,z8K fun x hm=>(hx x hm).2.1⟩,?_⟩
   have:=z8W (n:=d'+1) fun x hm=>(hx x hm).2.2
   show htL xs+1≤d'+1+1
   omega
end
end Go.Proofs.Ytleicdfkagejoaa
namespace Go.Proofs.Ytleicdfkagejoaa
open Go.RowKit
theorem zcx (k:Int) (s:ByteArray) (L:List ByteArray):(if k=1 then L++[s] else L)=L++hdS k s:=by
 unfold hdS
 split <;> simp
mutual
theorem zbQ {G:List (ByteArray × Int)} {P:List (ByteArray × List ByteArray)}:∀ (x:St) {L L':List ByteArray},InS G P L x L'→L'=L++vrS x
 | .mk k _ n _ ts us,L,L',h=>by
  obtain ⟨_,_,L1,h1,h2⟩:=h
  rw [z6Z us h2,z6Z ts h1,zcx]
  show _=L++((if k=1 then [n] else [])++vrL ts++vrL us)
  unfold hdS
  simp
theorem z6Z {G:List (ByteArray × Int)} {P:List (ByteArray × List ByteArray)}:∀ (ts:List St) {L L':List ByteArray},InB G P L ts L'→L'=L++vrL ts
 | [],L,L',h=>by
  have e:L'=L:=h
  rw [e]; simp [vrL]
 | t :: ts,L,L',h=>by
  obtain ⟨L1,h1,h2⟩:=h
  rw [z6Z ts h2,zbQ t h1]
  simp [vrL]
end
theorem LocL.snoc {L:List ByteArray} (h:LocL L) {k:Int} {s:ByteArray} (hs:k=1→s∈z0H∧s ∉ L):LocL (L++hdS k s):=by
 intro x hx
 rcases List.mem_append.1 hx with hx | hx
 ·exact h x hx
 ·unfold hdS at hx
  split at hx
  ·simp at hx
   subst hx
   exact .inl (z9W _ (hs (by assumption)).1)
  ·simp at hx
mutual
theorem z90 {G:List (ByteArray × Int)} {P:List (ByteArray × List ByteArray)}:∀ (x:St) {L L':List ByteArray},InS G P L x L'→LocL L→LocL L'
 | .mk k _ n _ ts us,L,L',h,hL=>by
  obtain ⟨_,hk,L1,h1,h2⟩:=h
  rw [zcx] at h1
  exact z56 us h2 (z56 ts h1 (hL.snoc hk.1))
theorem z56 {G:List (ByteArray × Int)} {P:List (ByteArray × List ByteArray)}:∀ (ts:List St) {L L':List ByteArray},InB G P L ts L'→LocL L→LocL L'
 | [],L,L',h,hL=>by
  have e:L'=L:=h
  rw [e]; exact hL
 | t :: ts,L,L',h,hL=>by
  obtain ⟨L1,h1,h2⟩:=h
  exact z56 ts h2 (z90 t h1 hL)
end
def SOk (gl:GlL) (fl:List Fn) (d:Nat):Prop:=∀ (t:St) (L L':List ByteArray),GSt d t→InS gl (fl.map z3E) L t L'→LocL L→cntS d t≤1000→okS gl fl L t∧fwS t∧ntS t≤d∧11 * (vrS t).length≤cntS d t∧1≤cntS d t
section
variable {gl:GlL} {fl:List Fn}
theorem b_ok {d:Nat} (hS:SOk gl fl d):∀ (ts:List St) (L L':List ByteArray),(∀ t∈ts,GSt d t)→InB gl (fl.map z3E) L ts L'→LocL L→(ts.map (cntS d)).sum≤1000→okB gl fl L ts∧fwB ts∧ntL ts≤d∧11 * (vrL ts).length≤(ts.map (cntS d)).sum∧ts.length≤(ts.map (cntS d)).sum
 | [],_,_,_,_,_,_=>⟨trivial,trivial,Nat.zero_le _,by simp [vrL],by simp⟩
 | t :: ts,L,L',hg,hi,hL,hc=>by
  obtain ⟨L1,h1,h2⟩:=hi
  simp only [List.map_cons,List.sum_cons] at hc ⊢
  obtain ⟨a1,a2,a3,a4,a5⟩:=hS t L L1 (hg t (by simp)) h1 hL (by omega)
  have hL1:=z90 t h1 hL
  obtain ⟨b1,b2,b3,b4,b5⟩:=b_ok hS ts L1 L' (fun x hx=>hg x (by simp [hx])) h2 hL1 (by omega)
  rw [zbQ t h1] at b1
  refine ⟨⟨a1,b1⟩,⟨a2,b2⟩,by show max (ntS t) (ntL ts)≤d; omega,?_,?_⟩
  ·show 11 * (vrS t++vrL ts).length≤_
   rw [List.length_append]
   omega
  ·simp only [List.length_cons]
   omega
theorem s_ok (h:Nmd gl fl):∀ d:Nat,SOk gl fl d
 | 0=>fun _ _ _ hg=>hg.elim
 | d+1=>fun t L L' hg hi hL hc=>by
  cases t with
  | mk k l s es ts us =>
   obtain ⟨rfl,hes,hts,hus,hk⟩:=hg
   obtain ⟨i1,⟨j1,j2,j3⟩,L1,i2,i3⟩:=hi
   rw [zcx] at i2
   simp only [cntS] at hc ⊢
   have hck:=z5x k es
   have hL1:=hL.snoc j1
   obtain ⟨a1,a2,a3,a4,a5⟩:=b_ok (s_ok h d) ts _ _ hts i2 hL1 (by omega)
   obtain ⟨b1,b2,b3,b4,b5⟩:=b_ok (s_ok h d) us _ _ hus i3 (z56 ts i2 hL1) (by omega)
   rw [z6Z ts i2] at b1
   have hx:=fun x hx=>h.okX hL (hes x hx) (z8Z i1 x hx)
   have hht:=z8W (n:=3) fun x hm=>(hx x hm).2.2
   have hel:es.length≤3:=by
    rcases hk with h | h | h | h | h | h <;> omega
   refine ⟨⟨⟨z9t fun x hm=>(hx x hm).1,z8K fun x hm=>(hx x hm).2.1,by omega,hel⟩,⟨fun e=>h.wz (j1 e).1 (j1 e).2,fun e=>h.var hL (j2 e),fun e=>h.arr hL (j3 e)⟩,⟨by omega,by omega⟩,a1,b1⟩,⟨⟨by omega,by omega⟩,a2,b2⟩,?_,?_,by omega⟩
   ·show max (1+ntL ts) (1+ntL us)≤d+1
    omega
   ·show 11 * ((if k=1 then [s] else [])++vrL ts++vrL us).length≤_
    simp only [List.length_append]
    by_cases h1:k=1
    ·have:cK k es=11:=by subst h1; simp [cK]
     rw [if_pos h1]
     simp only [List.length_cons,List.length_nil]
     omega
    ·rw [if_neg h1]
     simp only [List.length_nil]
     omega
end
theorem zdI {gl:GlL} {fl:List Fn} (hs:z6L gl fl) (hg:gl.length≤4) (hf:fl.length≤4):Nmd gl fl :=
 ⟨hs.ng,fun i f hi=>(hs.nf i (z3E f) (by rw [List.getElem?_map,hi]; rfl)).1,hg,hf⟩
theorem zaZ {gl:GlL} {fl:List Fn} (hs:z6L gl fl) (hF:∀ f∈fl,GF 2 f) (hg:gl.length≤4) (h1:1≤fl.length) (hf:fl.length≤4):z5v gl fl:=by
 have hn:=zdI hs hg hf
 have hpar:∀ (i:Nat) (f:Fn),fl[i]?=some f→zcb f.params:=fun i f hi=>(hs.nf i (z3E f) (by rw [List.getElem?_map,hi]; rfl)).2.2
 refine ⟨by omega,⟨h1,by omega⟩,fun f h0=>?_,fun i x hi=>hn.ig hi,fun i f hi=>⟨?_,hn.nf hi⟩,fun i f hi=>?_⟩
 ·have hp:=hs.nf 0 (z3E f) (by rw [List.getElem?_map,h0]; rfl)
  exact ⟨by simpa [z3E,z1D] using hp.1,hp.2.1 rfl⟩
 ·refine z54 fun e=>?_
  have h2:=hn.sg _ e
  rcases hn.sf f.name (List.mem_map.2 ⟨f,List.mem_of_getElem? hi,rfl⟩) with h3 | h3 <;> rw [h2] at h3 <;> exact absurd h3 (by decide)
 ·obtain ⟨_,hp2,_,hst,hcnt⟩:=hF f (List.mem_of_getElem? hi)
  replace hcnt:(f.body.map (cntS 3)).sum≤77:=hcnt
  obtain ⟨L',hin⟩:=hs.sc f (List.mem_of_getElem? hi)
  have hps:∀ s∈f.params,sigN s=(2,some 112):=fun s hm=>by
   obtain ⟨j,hj⟩:=List.getElem?_of_mem hm
   rw [hpar i f hi j s hj,z7j]
  obtain ⟨a1,a2,a3,a4,a5⟩:=b_ok (s_ok hn 3) f.body _ _ hst hin (fun s hm=>.inr (hps s hm)) (by omega)
  refine ⟨by omega,by omega,by omega,a2,by omega,a1,fun k q hk=>⟨z3Q fun e=>?_,hn.oz (.inr (hps q (List.mem_of_getElem? hk)))⟩⟩
  obtain ⟨j,hj⟩:=List.getElem?_of_mem e
  rw [List.getElem?_take] at hj
  split at hj
  ·have e1:=hpar i f hi k q hk
   have e2:=hpar i f hi j q hj
   have:=getlt hk
   rw [e1] at e2
   have:=z6q (by omega) (by omega) e2
   omega
  ·cases hj
end Go.Proofs.Ytleicdfkagejoaa
