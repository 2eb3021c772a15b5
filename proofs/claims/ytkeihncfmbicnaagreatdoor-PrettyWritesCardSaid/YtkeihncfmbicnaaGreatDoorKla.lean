/-
  Kla: PxAns. Walks and laws that the statement's proof is made of. No condition of its own.
-/
import Derived.Test.YtkeihncfmbicnaaGreatDoorKd
import Derived.Test.YtkeihncfmbicnaaGreatDoorKi
import Derived.Test.YtkeihncfmbicnaaGreatDoorKe
namespace Go.Proofs.YtkeihncfmbicnaaGreatDoor
open Go.RowKit
def z0M (s:PS) (r:RS):Prop :=
 WFt s.rest∧(∀ t∈s.rest,1≤t.line)∧(s.out=0∧r.wrong=0) ∧
 ((r.bad=false∧s.ref=0∧s.rest=r.rest∧∀ t∈s.rest,t.kind≠0→z7z t)∨(r.bad=true∧0<s.ref∧s.ref=(hdR r).line∧s.rest.length=1))
def z2s (P:P1) (R:R1) (N:Nat):Prop:=∀ s r,z0M s r→s.rest.length≤N→∃ x s' y r',P s=some (x,s')∧R r=some (y,r')∧z0M s' r'∧(r'.bad=false→x=y)∧s'.rest.length≤s.rest.length
theorem z1c {s:PS} (h:WFt s.rest) (h1:s.rest.length=1) (l:List z04) (hl:[] ∉ l):z0u l s=false:=by
 obtain ⟨r,e,hr,he,_⟩:=h
 have hr0:r=[]:=by
  rw [hr] at h1
  simpa using h1
 subst hr0
 have hd:hdT s=e:=by simp [hdT,hr]
 unfold z0u
 rw [hd,he.2]
 simpa using hl
theorem z0M.hd {s:PS} {r:RS} (h:z0M s r) (hb:r.bad=false):hdT s=hdR r∧s.rest=r.rest:=by
 obtain ⟨_,_,_,h | h⟩:=h
 ·exact ⟨by unfold hdT hdR; rw [h.2.2.1],h.2.2.1⟩
 ·rw [hb] at h
  cases h.1
theorem z0M.end_ {s:PS} {r:RS} (h:z0M s r) (hb:r.bad=true):s.rest.length=1:=by
 obtain ⟨_,_,_,h | h⟩:=h
 ·rw [hb] at h
  cases h.1
 ·exact h.2.2.2
theorem z0M.pop {s:PS} {r:RS} (h:z0M s r) (hb:r.bad=false) (h2:2≤s.rest.length):z0M (popP s) (popR r):=by
 obtain ⟨h0,h1,h3,h | h⟩:=h
 ·exact ⟨h0.tail h2,fun t ht=>h1 t (List.mem_of_mem_tail ht),h3,.inl ⟨h.1,h.2.1,by show s.rest.tail=r.rest.tail; rw [h.2.2.1],fun t ht=>h.2.2.2 t (List.mem_of_mem_tail ht)⟩⟩
 ·rw [hb] at h
  cases h.1
theorem z0M.refuse {s:PS} {r:RS} (h:z0M s r) (hb:r.bad=false):z0M (z0r s) (badR r):=by
 have hh:=h.hd hb
 obtain ⟨h0,h1,h3,h | h⟩:=h
 ·have hm:hdT s∈s.rest:=by
   have:=h0.pos
   cases hq:s.rest with
   | nil=>rw [hq] at this; simp at this
   | cons a l=>simp [hdT,hq]
  have hl:=h1 _ hm
  have hp:=h0.pos
  refine ⟨h0.last,fun t ht=>h1 t (List.mem_of_mem_drop ht),h3,.inr ⟨rfl,?_,?_,?_⟩⟩
  ·show 0<(if s.ref=0 then (hdT s).line else s.ref)
   rw [if_pos h.2.1]
   exact hl
  ·show (if s.ref=0 then (hdT s).line else s.ref)=(hdR (badR r)).line
   rw [if_pos h.2.1,hh.1]
   rfl
  ·show (s.rest.drop (s.rest.length - 1)).length=1
   rw [List.length_drop]
   omega
 ·rw [hb] at h
  cases h.1
theorem z0M.again {s:PS} {r:RS} (h:z0M s r) (hb:r.bad=true):z0M (z0r s) r∧z0M (z0r s) (badR r):=by
 obtain ⟨h0,h1,h3,h | h⟩:=h
 ·rw [hb] at h
  cases h.1
 ·have hp:=h0.pos
  have hd:(s.rest.drop (s.rest.length - 1)).length=1:=by
   rw [List.length_drop]
   omega
  have hrf:(if s.ref=0 then (hdT s).line else s.ref)=s.ref:=if_neg (by omega)
  exact ⟨⟨h0.last,fun t ht=>h1 t (List.mem_of_mem_drop ht),h3,.inr ⟨hb,by show 0<(if s.ref=0 then (hdT s).line else s.ref); rw [hrf]; exact h.2.1,by show (if s.ref=0 then (hdT s).line else s.ref)=_; rw [hrf]; exact h.2.2.1,hd⟩⟩,
   ⟨h0.last,fun t ht=>h1 t (List.mem_of_mem_drop ht),h3,.inr ⟨rfl,by show 0<(if s.ref=0 then (hdT s).line else s.ref); rw [hrf]; exact h.2.1,by show (if s.ref=0 then (hdT s).line else s.ref)=_; rw [hrf]; exact h.2.2.1,hd⟩⟩⟩
theorem z0M.mem {s:PS} {r:RS} (h:z0M s r):hdT s∈s.rest:=by
 have:=h.1.pos
 cases hq:s.rest with
 | nil=>rw [hq] at this; simp at this
 | cons a l=>simp [hdT,hq]
theorem z0M.kind {s:PS} {r:RS} (h:z0M s r) (hb:r.bad=false) (ht:isS (hdT s).text=true∨isW (hdT s).text=true):(hdT s).kind=3∨(hdT s).kind=4:=by
 have hm:=h.mem
 have h0:=h.1
 obtain ⟨_,_,_,h | h⟩:=h
 ·have hk:(hdT s).kind≠0:=by
   intro hk
   obtain ⟨l,e,hr,he,hl⟩:=h0
   rw [hr] at hm
   rcases List.mem_append.1 hm with hm | hm
   ·exact (hl _ hm).1 hk
   ·rw [List.mem_singleton] at hm
    rw [hm,he.2] at ht
    rcases ht with ht | ht <;> cases ht
  have ho:=h.2.2.2 _ hm hk
  obtain ⟨c,l,htx,_⟩:=ho.head
  have hmean:=ho.mean
  unfold pmean at hmean
  rw [htx] at hmean ht
  simp only [] at hmean
  by_cases hs:isS (c :: l)=true
  ·rw [if_pos hs] at hmean
   injection hmean with hmean
   injection hmean with hmean _
   exact .inr hmean.symm
  ·have hw:isW (c :: l)=true:=by
    rcases ht with ht | ht
    ·exact absurd ht hs
    ·exact ht
   rw [if_neg hs,if_pos hw] at hmean
   injection hmean with hmean
   injection hmean with hmean _
   exact .inl hmean.symm
 ·rw [hb] at h
  cases h.1
theorem z0M.sees {s:PS} {r:RS} (h:z0M s r) (hb:r.bad=false) (l:List z04) (hl:∀ t∈l,isS t=true∨isW t=true):z15 l r=z0u l s:=by
 have hh:=(h.hd hb).1
 cases hq:z0u l s with
 | true =>
  have hmem:(hdT s).text∈l:=by simpa [z0u,List.contains_iff_mem] using hq
  have hk:=h.kind hb (hl _ hmem)
  unfold z15
  rw [List.any_eq_true]
  refine ⟨_,hmem,?_⟩
  unfold isR
  rw [hb,← hh]
  rcases hk with hk | hk <;> simp [hk]
 | false =>
  unfold z15
  rw [List.any_eq_false]
  intro t ht he
  unfold isR at he
  simp only [Bool.and_eq_true,decide_eq_true_eq] at he
  have:z0u l s=true:=by
   rw [z0u,List.contains_iff_mem,hh,he.2.2]
   exact ht
  rw [hq] at this
  cases this
theorem z1l {r:RS} (hb:r.bad=true) (l:List z04):z15 l r=false:=by
 unfold z15
 rw [List.any_eq_false]
 intro t _ he
 unfold isR at he
 rw [hb] at he
 simp at he
theorem z7Q {P:P1} {R:R1} {N:Nat} (hA:z2s P R N) (l:List z04) (hl:∀ t∈l,isS t=true∨isW t=true):∀ (n m:Nat) (x y:Ex) (s:PS) (r:RS),z0M s r→(r.bad=false→x=y)→s.rest.length≤N+1→s.rest.length<n+1→0<m→(r.bad=false→r.rest.length<m+1)→0<n →
  ∃ x' s' y' r',z5G P l n x s=some (x',s')∧z2h R l m y r=some (y',r')∧z0M s' r'∧(r'.bad=false→x'=y')∧s'.rest.length≤s.rest.length:=by
 have hne:[] ∉ l:=fun h=>by rcases hl _ h with h | h <;> cases h
 intro n
 induction n with
 | zero=>intro m x y s r _ _ _ _ _ _ h; omega
 | succ n ih =>
  intro m x y s r h hxy hN hn hm hr _
  obtain ⟨m,rfl⟩:∃ k,m=k+1:=⟨m - 1,by omega⟩
  cases hb:r.bad with
  | true =>
   have h1:=z1c h.1 (h.end_ hb) l hne
   refine ⟨x,s,y,r,?_,?_,h,hxy,Nat.le_refl _⟩
   ·simp [z5G,h1]
   ·simp [z2h,z1l hb]
  | false =>
   have hse:=h.sees hb l hl
   cases hs:z0u l s with
   | false =>
    rw [hs] at hse
    refine ⟨x,s,y,r,?_,?_,h,hxy,Nat.le_refl _⟩
    ·simp [z5G,hs]
    ·simp [z2h,hse]
   | true =>
    rw [hs] at hse
    have h2:=z10 h.1 hne hs
    have hp:=h.pop hb h2
    have hpl:=z0W s
    obtain ⟨z,s2,z2,r2,e1,e2,hR2,hz,hlen⟩:=hA _ _ hp (by omega)
    have hsr:s.rest.length=r.rest.length:=by rw [(h.hd hb).2]
    have hr1:=hr hb
    have hp2:=hR2.1.pos
    have hrl:r2.bad=false→r2.rest.length<m+1:=fun h0=>by
     rw [← (hR2.hd h0).2]
     omega
    obtain ⟨x',s',y',r',e3,e4,hR',hx',hl'⟩:=ih m (binP (hdT s) x z) (binP (hdR r) y z2) s2 r2 hR2 (fun h0=>by rw [hxy hb,hz h0,(h.hd hb).1]) (by omega) (by omega) (by omega) hrl (by omega)
    refine ⟨x',s',y',r',?_,?_,hR',hx',by omega⟩
    ·simp [z5G,hs,e1,e3]
    ·simp [z2h,hse,e2,e4]
theorem z24 {P:P1} {R:R1} {N:Nat} (hA:z2s P R N) (l:List z04) (hl:∀ t∈l,isS t=true∨isW t=true):z2s (z3k P l) (z1D R l) N:=by
 intro s r h hN
 obtain ⟨x,s1,y,r1,e1,e2,h1,hx,hlen⟩:=hA s r h hN
 have hp:=h.1.pos
 obtain ⟨x',s',y',r',e3,e4,hR',hx',hl'⟩:=z7Q hA l hl (s.rest.length+1) (r1.rest.length+1) x y s1 r1 h1 hx (by omega) (by omega) (by omega) (fun _=>by omega) (by omega)
 refine ⟨x',s',y',r',?_,?_,hR',hx',by omega⟩
 ·simp [z3k,e1,e3]
 ·simp [z1D,e2,e4]
theorem z7W {P:P1} {R:R1} {N:Nat} (hA:z2s P R N) (l:List z04) (hl:∀ t∈l,isS t=true∨isW t=true):z2s (z6u P l) (z5e R l) N:=by
 have hne:[] ∉ l:=fun h=>by rcases hl _ h with h | h <;> cases h
 intro s r h hN
 obtain ⟨x,s1,y,r1,e1,e2,h1,hx,hlen⟩:=hA s r h hN
 cases hb:r1.bad with
 | true =>
  have h0:=z1c h1.1 (h1.end_ hb) l hne
  exact ⟨x,s1,y,r1,by simp [z6u,e1,h0],by simp [z5e,e2,z1l hb],h1,hx,hlen⟩
 | false =>
  have hse:=h1.sees hb l hl
  cases hs:z0u l s1 with
  | false =>
   rw [hs] at hse
   exact ⟨x,s1,y,r1,by simp [z6u,e1,hs],by simp [z5e,e2,hse],h1,hx,hlen⟩
  | true =>
   rw [hs] at hse
   have h2:=z10 h1.1 hne hs
   have hp:=h1.pop hb h2
   have hpl:=z0W s1
   obtain ⟨z,s2,z2,r2,e3,e4,hR2,hz,hl2⟩:=hA _ _ hp (by omega)
   exact ⟨binP (hdT s1) x z,s2,binP (hdR r1) y z2,r2,by simp [z6u,e1,hs,e3],by simp [z5e,e2,hse,e4],hR2,fun h0=>by rw [hx hb,hz h0,(h1.hd hb).1],by omega⟩
theorem z1I (t:z04) (r:RS):isR t r=z15 [t] r:=by simp [z15]
theorem z0M.kind0 {s:PS} {r:RS} (h:z0M s r) (hb:r.bad=true):(hdT s).kind=0:=by
 have h1:=h.end_ hb
 by_cases hk:(hdT s).kind=0
 ·exact hk
 ·have:=WFt.two h.1 (.inr hk)
  omega
theorem z9v {t:z04} (ht:isS t=true∨isW t=true):[] ∉ [t]:=fun h=>by
 rw [List.mem_singleton] at h
 subst h
 rcases ht with h | h <;> cases h
theorem z2e {s:PS} {r:RS} (h:z0M s r) (t:z04) (ht:isS t=true∨isW t=true):z0M (z0N t s) (z0e t r)∧(z0N t s).rest.length≤s.rest.length∧((z0e t r).bad=false→r.bad=false):=by
 have hp:=h.1.pos
 cases hb:r.bad with
 | true =>
  have h0:=z1c h.1 (h.end_ hb) [t] (z9v ht)
  have h1:isR t r=false:=by rw [z1I]; exact z1l hb _
  have e1:z0N t s=z0r s:=by simp [z0N,h0]
  have e2:z0e t r=badR r:=by simp [z0e,h1]
  rw [e1,e2]
  exact ⟨(h.again hb).2,by rw [z1O s hp]; exact hp,fun h0=>by simp [badR] at h0⟩
 | false =>
  have hse:=h.sees hb [t] (by simpa using ht)
  rw [← z1I] at hse
  cases hs:z0u [t] s with
  | false =>
   rw [hs] at hse
   have e1:z0N t s=z0r s:=by simp [z0N,hs]
   have e2:z0e t r=badR r:=by simp [z0e,hse]
   rw [e1,e2]
   exact ⟨h.refuse hb,by rw [z1O s hp]; exact hp,fun h0=>by simp [badR] at h0⟩
  | true =>
   rw [hs] at hse
   have e1:z0N t s=popP s:=by simp [z0N,hs]
   have e2:z0e t r=popR r:=by simp [z0e,hse]
   rw [e1,e2]
   exact ⟨h.pop hb (z10 h.1 (z9v ht) hs),by rw [z0W]; omega,fun _=>rfl⟩
theorem z7M {s:PS} {r:RS} (h:z0M s r) (k:Nat) (hk:k≠0):z0M (z0q k s).2 (z0O k r).2∧(z0q k s).2.rest.length≤s.rest.length∧((z0O k r).2.bad=false→(z0q k s).1=(z0O k r).1):=by
 have hp:=h.1.pos
 cases hb:r.bad with
 | true =>
  have h0:¬ (hdT s).kind=k:=by rw [h.kind0 hb]; exact fun e=>hk e.symm
  have e1:z0q k s=(noT,z0r s):=by simp [z0q,h0]
  have e2:z0O k r=(noT,badR r):=by simp [z0O,hb]
  rw [e1,e2]
  exact ⟨(h.again hb).2,by rw [z1O s hp]; exact hp,fun h0=>by simp [badR] at h0⟩
 | false =>
  have hh:=(h.hd hb).1
  by_cases hq:(hdT s).kind=k
  ·have e1:z0q k s=(hdT s,popP s):=by simp [z0q,hq]
   have e2:z0O k r=(hdR r,popR r):=by simp [z0O,hb,← hh,hq]
   rw [e1,e2]
   exact ⟨h.pop hb (WFt.two h.1 (.inr (by omega))),by rw [z0W]; omega,fun _=>hh⟩
  ·have e1:z0q k s=(noT,z0r s):=by simp [z0q,hq]
   have e2:z0O k r=(noT,badR r):=by simp [z0O,← hh,hq]
   rw [e1,e2]
   exact ⟨h.refuse hb,by rw [z1O s hp]; exact hp,fun h0=>by simp [badR] at h0⟩
def BadT (R:R1):Prop:=∀ r,r.bad=true→∃ y,R r=some (y,r)
theorem zaT (R:R1) (l:List z04) (n:Nat) (x:Ex) (r:RS) (hb:r.bad=true):z2h R l (n+1) x r=some (x,r):=by simp [z2h,z1l hb]
theorem z2M {R:R1} (hR:BadT R) (l:List z04):BadT (z1D R l):=fun r hb=>by
 obtain ⟨y,hy⟩:=hR r hb
 exact ⟨y,by simp [z1D,hy,zaT _ _ _ _ _ hb]⟩
theorem zb0 {R:R1} (hR:BadT R) (l:List z04):BadT (z5e R l):=fun r hb=>by
 obtain ⟨y,hy⟩:=hR r hb
 exact ⟨y,by simp [z5e,hy,z1l hb]⟩
theorem z4p (E:R1):BadT (z1U E):=fun r hb=>by
 have h1:isR [40] r=false:=by rw [z1I]; exact z1l hb _
 exact ⟨noX,by simp [z1U,z0I,hb,z1a,h1]⟩
theorem za7 (E:R1):BadT (z4c E):=fun r hb=>by
 obtain ⟨y,hy⟩:=z4p E r hb
 exact ⟨y,by simp [z4c,z2c,z1l hb,hy]⟩
theorem zaz (d:Nat):BadT (z4M (d+1)):=fun r hb=>z2M (z2M (zb0 (z2M (z2M (za7 (z4M d)) _) _) _) _) _ r hb
theorem z5j {E:P1} {F:R1} {N:Nat} (hA:z2s E F N) (hB:BadT F):z2s (z0X E) (z0I F) (N+1):=by
 intro s r h hN
 have hp:=h.1.pos
 have hrl:(z0r s).rest.length≤s.rest.length:=by rw [z1O s hp]; exact hp
 cases hb:r.bad with
 | true =>
  have h0:=h.kind0 hb
  have h1:=h.end_ hb
  have hs:∀ t,isS t=true∨isW t=true→z0u [t] s=false:=fun t ht=>z1c h.1 h1 _ (z9v ht)
  have e1:z0q 1 s=(noT,z0r s):=by simp [z0q,h0]
  have hr:=(h.again hb).1
  have h2:z0u [[91]] (z0r s)=false:=z1c hr.1 (hr.end_ hb) _ (by simp)
  refine ⟨.mk 13 0 0 ((hdT s).line:Int) (nmB noT.text) [],z0r s,noX,r,?_,?_,hr,fun h=>?_,hrl⟩
  ·simp [z0X,h0,hs [38] (by decide),hs [114,101,97,100] (by decide),hs [40] (by decide),e1,h2]
  ·simp [z0I,hb]
  ·rw [hb] at h
   cases h
 | false =>
  have hh:=(h.hd hb).1
  have hne:∀ t,isS t=true∨isW t=true→((hdT s).kind≠3∧(hdT s).kind≠4)→z0u [t] s=false:=by
   intro t ht hk
   cases hq:z0u [t] s with
   | false=>rfl
   | true =>
    have ht2:(hdT s).text=t:=by simpa [z0u] using hq
    have:=h.kind hb (by rw [ht2]; exact ht)
    omega
  by_cases k2:(hdT s).kind=2
  ·have k2r:(hdR r).kind=2:=by rw [← hh]; exact k2
   refine ⟨.mk 1 0 ((hdT s).value:Int) ((hdT s).line:Int) ⟨#[]⟩ [],popP s,.mk 1 0 ((hdR r).value:Int) ((hdR r).line:Int) ⟨#[]⟩ [],popR r,?_,?_,h.pop hb (WFt.two h.1 (.inr (by omega))),fun _=>by rw [hh],by rw [z0W]; omega⟩
   ·simp [z0X,k2]
   ·simp [z0I,hb,k2r]
  by_cases k1:(hdT s).kind=1
  ·have k1r:(hdR r).kind=1:=by rw [← hh]; exact k1
   have h2:=WFt.two h.1 (.inr (by omega))
   have hp1:=h.pop hb h2
   have hpl:=z0W s
   have e1:z0q 1 s=(hdT s,popP s):=by simp [z0q,k1]
   have hse:=hp1.sees hb [[91]] (by decide)
   rw [← z1I] at hse
   have hs:∀ t,isS t=true∨isW t=true→z0u [t] s=false:=fun t ht=>hne t ht (by omega)
   cases hs1:z0u [[91]] (popP s) with
   | false =>
    rw [hs1] at hse
    refine ⟨.mk 13 0 0 ((hdT s).line:Int) (nmB (hdT s).text) [],popP s,.mk 13 0 0 ((hdR r).line:Int) (nmB (hdR r).text) [],popR r,?_,?_,hp1,fun _=>by rw [hh],by omega⟩
    ·simp [z0X,k1,hs [38] (by decide),hs [114,101,97,100] (by decide),hs [40] (by decide),e1,hs1]
    ·simp [z0I,hb,k1r,hse]
   | true =>
    rw [hs1] at hse
    have h3:=z10 hp1.1 (by simp) hs1
    have hp2:=hp1.pop hb h3
    have hpl2:=z0W (popP s)
    obtain ⟨x,s1,y,r1,q1,q2,hR,hx,hl⟩:=hA _ _ hp2 (by omega)
    obtain ⟨d1,d2,d3⟩:=z2e hR [93] (by decide)
    refine ⟨.mk 4 0 0 ((hdT s).line:Int) (nmB (hdT s).text) [x],z0N [93] s1,.mk 4 0 0 ((hdR r).line:Int) (nmB (hdR r).text) [y],z0e [93] r1,?_,?_,d1,fun h0=>by rw [hh,hx (d3 h0)],by omega⟩
    ·simp [z0X,k1,hs [38] (by decide),hs [114,101,97,100] (by decide),hs [40] (by decide),e1,hs1,q1]
    ·simp [z0I,hb,k1r,hse,q2]
  have k2r:¬ (hdR r).kind=2:=by rw [← hh]; exact k2
  have k1r:¬ (hdR r).kind=1:=by rw [← hh]; exact k1
  have hs1:=h.sees hb [[38]] (by decide)
  have hs2:=h.sees hb [[114,101,97,100]] (by decide)
  have hs3:=h.sees hb [[40]] (by decide)
  rw [← z1I] at hs1 hs2 hs3
  cases q1:z0u [[38]] s with
  | true =>
   rw [q1] at hs1
   have hp1:=h.pop hb (z10 h.1 (by simp) q1)
   obtain ⟨d1,d2,d3⟩:=z7M hp1 1 (by decide)
   have hpl:=z0W s
   refine ⟨.mk 11 0 0 ((hdT s).line:Int) (nmB (z0q 1 (popP s)).1.text) [],(z0q 1 (popP s)).2,.mk 11 0 0 ((hdR r).line:Int) (nmB (z0O 1 (popR r)).1.text) [],(z0O 1 (popR r)).2,?_,?_,d1,fun h0=>by rw [hh,d3 h0],by omega⟩
   ·simp [z0X,k2,q1]
   ·simp [z0I,hb,k2r,k1r,hs1]
  | false =>
   rw [q1] at hs1
   cases q2:z0u [[114,101,97,100]] s with
   | true =>
    rw [q2] at hs2
    have hp1:=h.pop hb (z10 h.1 (by simp) q2)
    have hpl:=z0W s
    refine ⟨.mk 12 0 0 ((hdT s).line:Int) ⟨#[]⟩ [],popP s,.mk 12 0 0 ((hdR r).line:Int) ⟨#[]⟩ [],popR r,?_,?_,hp1,fun _=>by rw [hh],by omega⟩
    ·simp [z0X,k2,q1,q2]
    ·simp [z0I,hb,k2r,k1r,hs1,hs2]
   | false =>
    rw [q2] at hs2
    cases q3:z0u [[40]] s with
    | true =>
     rw [q3] at hs3
     have hp1:=h.pop hb (z10 h.1 (by simp) q3)
     have hpl:=z0W s
     obtain ⟨x,s1,y,r1,w1,w2,hR,hx,hl⟩:=hA _ _ hp1 (by omega)
     obtain ⟨d1,d2,d3⟩:=z2e hR [41] (by decide)
     have e2:z0e [40] r=popR r:=by simp [z0e,hs3]
     refine ⟨x,z0N [41] s1,y,z0e [41] r1,?_,?_,d1,fun h0=>hx (d3 h0),by omega⟩
     ·simp [z0X,k2,q1,q2,q3,w1]
     ·simp [z0I,hb,k2r,k1r,hs1,hs2,e2,w2]
    | false =>
     rw [q3] at hs3
     have e1:z0q 1 s=(noT,z0r s):=by simp [z0q,k1]
     have e2:z0e [40] r=badR r:=by simp [z0e,hs3]
     obtain ⟨y,hy⟩:=hB (badR r) rfl
     have hr:=h.refuse hb
     have h91:z0u [[91]] (z0r s)=false:=z1c hr.1 (hr.end_ rfl) _ (by simp)
     have e3:z0e [41] (badR r)=badR r:=by simp [z0e,isR,badR]
     refine ⟨.mk 13 0 0 ((hdT s).line:Int) (nmB noT.text) [],z0r s,y,badR r,?_,?_,hr,fun h=>by simp [badR] at h,hrl⟩
     ·simp [z0X,k2,q1,q2,q3,e1,h91]
     ·simp [z0I,hb,k2r,k1r,hs1,hs2,e2,hy,e3]
theorem z7R {E:P1} {F:R1} {N:Nat} (hA:z2s E F N) (pre:List Ex):∀ (n m:Nat) (xs ys:List Ex) (s:PS) (r:RS),z0M s r→(r.bad=false→xs=pre++ys)→s.rest.length≤N+1→s.rest.length<n→0<m→(r.bad=false→r.rest.length<m) →
  ∃ xs' s' ys' r',z5H E n xs s=some (xs',s')∧z39 F m ys r=some (ys',r')∧z0M (z0N [41] s') r'∧(r'.bad=false→xs'=pre++ys')∧(z0N [41] s').rest.length≤s.rest.length:=by
 intro n
 induction n with
 | zero=>intro m xs ys s r _ _ _ h; omega
 | succ n ih =>
  intro m xs ys s r h hxy hN hn hm hr
  obtain ⟨m,rfl⟩:∃ k,m=k+1:=⟨m - 1,by omega⟩
  obtain ⟨d1,d2,d3⟩:=z2e h [41] (by decide)
  cases hb:r.bad with
  | true =>
   have h1:=z1c h.1 (h.end_ hb) [[44]] (by simp)
   have h2:isR [44] r=false:=by rw [z1I]; exact z1l hb _
   exact ⟨xs,s,ys,z0e [41] r,by simp [z5H,h1],by simp [z39,h2],d1,fun h0=>hxy (d3 h0),d2⟩
  | false =>
   have hse:=h.sees hb [[44]] (by decide)
   rw [← z1I] at hse
   cases hs:z0u [[44]] s with
   | false =>
    rw [hs] at hse
    exact ⟨xs,s,ys,z0e [41] r,by simp [z5H,hs],by simp [z39,hse],d1,fun h0=>hxy (d3 h0),d2⟩
   | true =>
    rw [hs] at hse
    have h2:=z10 h.1 (by simp) hs
    have hp:=h.pop hb h2
    have hpl:=z0W s
    obtain ⟨z,s2,z2,r2,e1,e2,hR2,hz,hlen⟩:=hA _ _ hp (by omega)
    have hsr:s.rest.length=r.rest.length:=by rw [(h.hd hb).2]
    have hr1:=hr hb
    have hp2:=hR2.1.pos
    have hrl:r2.bad=false→r2.rest.length<m:=fun h0=>by
     rw [← (hR2.hd h0).2]
     omega
    obtain ⟨x',s',y',r',e3,e4,hR',hx',hl'⟩:=ih m (xs++[z]) (ys++[z2]) s2 r2 hR2 (fun h0=>by rw [hxy hb,hz h0,List.append_assoc]) (by omega) (by omega) (by omega) hrl
    refine ⟨x',s',y',r',?_,?_,hR',hx',by omega⟩
    ·simp [z5H,hs,e1,e3]
    ·simp [z39,hse,e2,e4]
theorem z7O {E:P1} {F:R1} {N:Nat} (hA:z2s E F N) (pre:List Ex) (s:PS) (r:RS) (h:z0M s r) (hb:r.bad=false) (hN:s.rest.length≤N) :
  ∃ xs s' ys r',z6m E pre s=some (xs,s')∧z5x F r=some (ys,r')∧z0M s' r'∧(r'.bad=false→xs=pre++ys)∧s'.rest.length≤s.rest.length:=by
 have hse:=h.sees hb [[41]] (by decide)
 rw [← z1I] at hse
 cases hs:z0u [[41]] s with
 | true =>
  rw [hs] at hse
  exact ⟨pre,popP s,[],popR r,by simp [z6m,hs],by simp [z5x,hse],h.pop hb (z10 h.1 (by simp) hs),fun _=>by simp,by rw [z0W]; omega⟩
 | false =>
  rw [hs] at hse
  obtain ⟨x,s1,y,r1,e1,e2,h1,hx,hlen⟩:=hA s r h hN
  obtain ⟨xs,s2,ys,r2,e3,e4,h2,hxs,hl2⟩:=z7R hA pre (s.rest.length+1) (r1.rest.length+1) (pre++[x]) [y] s1 r1 h1 (fun h0=>by rw [hx h0]) (by omega) (by omega) (by omega) (fun _=>by omega)
  exact ⟨xs,z0N [41] s2,ys,r2,by simp [z6m,hs,e1,e3],by simp [z5x,hse,e2,e4],h2,hxs,by omega⟩
theorem z69 {E:P1} {F:R1} {N:Nat} (hA:z2s E F N) (bare:Bool):∀ (n m:Nat) (x y:Ex) (s:PS) (r:RS),z0M s r→(r.bad=false→x=y)→s.rest.length≤N+1→s.rest.length<n→0<m→(r.bad=false→r.rest.length<m) →
  ∃ x' s' y' r',z1C E bare n x s=some (x',s')∧z1a F bare m y r=some (y',r')∧z0M s' r'∧(r'.bad=false→x'=y')∧s'.rest.length≤s.rest.length:=by
 intro n
 induction n with
 | zero=>intro m x y s r _ _ _ h; omega
 | succ n ih =>
  intro m x y s r h hxy hN hn hm hr
  obtain ⟨m,rfl⟩:∃ k,m=k+1:=⟨m - 1,by omega⟩
  cases hb:r.bad with
  | true =>
   have h1:=z1c h.1 (h.end_ hb) [[40]] (by simp)
   have h2:isR [40] r=false:=by rw [z1I]; exact z1l hb _
   refine ⟨x,s,y,r,by simp [z1C,h1],by simp [z1a,h2],h,hxy,Nat.le_refl _⟩
  | false =>
   have hse:=h.sees hb [[40]] (by decide)
   rw [← z1I] at hse
   cases hs:z0u [[40]] s with
   | false =>
    rw [hs] at hse
    exact ⟨x,s,y,r,by simp [z1C,hs],by simp [z1a,hse],h,hxy,Nat.le_refl _⟩
   | true =>
    rw [hs] at hse
    obtain rfl:=hxy hb
    have h2:=z10 h.1 (by simp) hs
    have hp:=h.pop hb h2
    have hpl:=z0W s
    obtain ⟨k,o,a,l,nm,az,rfl⟩:∃ k o a l nm az,x=.mk k o a l nm az:=by
     cases x
     exact ⟨_,_,_,_,_,_,rfl⟩
    obtain ⟨named,hnm⟩:∃ q,q=(bare&&k == 13):=⟨_,rfl⟩
    obtain ⟨xs,s2,ys,r2,e1,e2,hR2,hx2,hlen⟩:=z7O hA (if named then [] else [.mk k o a l nm az]) (popP s) (popR r) hp hb (by omega)
    have hsr:s.rest.length=r.rest.length:=by rw [(h.hd hb).2]
    have hr1:=hr hb
    have hrl:r2.bad=false→r2.rest.length<m:=fun h0=>by
     rw [← (hR2.hd h0).2]
     omega
    have hc:z7C E (.mk k o a l nm az) named s=some (.mk (if named then 9 else 10) 0 0 ((hdT s).line:Int) (if named then nm else ⟨#[]⟩) xs,s2):=by
     simp only [z7C]
     rw [e1]
    have hq:r2.bad=false→Ex.mk (if named then 9 else 10) 0 0 ((hdT s).line:Int) (if named then nm else ⟨#[]⟩) xs=z4f bare (hdR r).line (.mk k o a l nm az) ys:=fun h0=>by
     rw [hx2 h0,(h.hd hb).1]
     by_cases hk:k=13∧bare=true
     ·have:named=true:=by rw [hnm]; simp [hk.1,hk.2]
      subst this
      have hk':(Ex.mk k o a l nm az).kind=13∧bare=true:=hk
      rw [z4f,if_pos hk']
      rfl
     ·have:named=false:=by
       rw [hnm]
       cases bare with
       | false=>rfl
       | true=>simpa using hk
      subst this
      have hk':¬ ((Ex.mk k o a l nm az).kind=13∧bare=true):=hk
      rw [z4f,if_neg hk']
      rfl
    obtain ⟨x',s',y',r',e3,e4,hR',hx',hl'⟩:=ih m _ (z4f bare (hdR r).line (.mk k o a l nm az) ys) s2 r2 hR2 hq (by omega) (by omega) (by have:=hR2.1.pos; omega) hrl
    refine ⟨x',s',y',r',?_,?_,hR',hx',by omega⟩
    ·rw [z1C,if_pos hs,← hnm,hc]
     exact e3
    ·rw [z1a,if_pos hse,e2]
     exact e4
theorem z5B {E:P1} {F:R1} {N:Nat} (hA:z2s E F N) (hB:BadT F):z2s (z33 E) (z1U F) (N+1):=by
 intro s r h hN
 obtain ⟨x,s1,y,r1,e1,e2,h1,hx,hlen⟩:=z5j hA hB s r h hN
 have hp:=h1.1.pos
 cases hb:r.bad with
 | true =>
  obtain ⟨z,hz⟩:=z4p F r hb
  have hy:r1=r:=by
   rw [z0I,if_pos hb] at e2
   injection e2 with e2
   injection e2 with _ e2
   exact e2.symm
  subst hy
  have hs:=z1c h1.1 (h1.end_ hb) [[40]] (by simp)
  refine ⟨x,s1,z,r1,?_,hz,h1,fun h0=>?_,hlen⟩
  ·simp [z33,e1,z1C,hs]
  ·rw [hb] at h0
   cases h0
 | false =>
  have hk:((hdT s).kind == 1)=decide ((hdR r).kind=1):=by rw [(h.hd hb).1]; rfl
  obtain ⟨x',s',y',r',e3,e4,hR',hx',hl'⟩:=z69 hA (decide ((hdR r).kind=1)) (s.rest.length+1) (r1.rest.length+1) x y s1 r1 h1 hx (by omega) (by omega) (by omega) (fun _=>by omega)
  refine ⟨x',s',y',r',?_,?_,hR',hx',by omega⟩
  ·simp only [z33]
   rw [e1]
   simp only []
   rw [hk]
   exact e3
  ·simp only [z1U]
   rw [e2]
   exact e4
theorem z6J {E:P1} {F:R1} {N:Nat} (hA:z2s E F N) (hB:BadT F):∀ (n m:Nat) (s:PS) (r:RS),z0M s r→s.rest.length≤N+1→s.rest.length<n→0<m→(r.bad=false→r.rest.length<m) →
  ∃ x s' y r',z2x E n s=some (x,s')∧z2c F m r=some (y,r')∧z0M s' r'∧(r'.bad=false→x=y)∧s'.rest.length≤s.rest.length:=by
 intro n
 induction n with
 | zero=>intro m s r _ _ h; omega
 | succ n ih =>
  intro m s r h hN hn hm hr
  obtain ⟨m,rfl⟩:∃ k,m=k+1:=⟨m - 1,by omega⟩
  obtain ⟨cx,cs,cy,cr,c1,c2,c3,c4,c5⟩:=z5B hA hB s r h hN
  cases hb:r.bad with
  | true =>
   have h1:=z1c h.1 (h.end_ hb) [[45]] (by simp)
   have h2:=z1c h.1 (h.end_ hb) [[33]] (by simp)
   exact ⟨cx,cs,cy,cr,by simp [z2x,h1,h2,c1],by simp [z2c,z1l hb,c2],c3,c4,c5⟩
  | false =>
   have hh:=(h.hd hb).1
   have hse:=h.sees hb [[45],[33]] (by decide)
   have hsr:s.rest.length=r.rest.length:=by rw [(h.hd hb).2]
   have hr1:=hr hb
   have hpl:=z0W s
   cases hs:z0u [[45],[33]] s with
   | false =>
    rw [hs] at hse
    have h1:z0u [[45]] s=false:=by
     simp only [z0u,List.contains_cons,List.contains_nil,Bool.or_eq_false_iff] at hs ⊢
     exact ⟨hs.1,trivial⟩
    have h2:z0u [[33]] s=false:=by
     simp only [z0u,List.contains_cons,List.contains_nil,Bool.or_eq_false_iff] at hs ⊢
     exact ⟨hs.2.1,trivial⟩
    exact ⟨cx,cs,cy,cr,by simp [z2x,h1,h2,c1],by simp [z2c,hse,c2],c3,c4,c5⟩
   | true =>
    rw [hs] at hse
    have h2:=z10 h.1 (by simp) hs
    have hp:=h.pop hb h2
    obtain ⟨z,s2,z2,r2,e1,e2,hR2,hz,hlen⟩:=ih m (popP s) (popR r) hp (by omega) (by omega) (by omega) (fun _=>by rw [z0s]; omega)
    by_cases ht:(hdT s).text=[45]
    ·have h1:z0u [[45]] s=true:=by simp [z0u,ht]
     have hu:unO (hdR r).text=1:=by rw [← hh,ht]; rfl
     refine ⟨.mk 5 1 0 ((hdT s).line:Int) ⟨#[]⟩ [z],s2,.mk 5 (unO (hdR r).text) 0 ((hdR r).line:Int) ⟨#[]⟩ [z2],r2,?_,?_,hR2,fun h0=>by rw [hu,hh,hz h0],by omega⟩
     ·simp [z2x,h1,e1]
     ·simp [z2c,hse,e2]
    ·have ht2:(hdT s).text=[33]:=by
      simp only [z0u,List.contains_iff_mem,List.mem_cons,List.not_mem_nil,or_false] at hs
      exact hs.resolve_left ht
     have h1:z0u [[45]] s=false:=by simp [z0u,ht2]
     have h3:z0u [[33]] s=true:=by simp [z0u,ht2]
     have hu:unO (hdR r).text=2:=by rw [← hh,ht2]; rfl
     refine ⟨.mk 5 2 0 ((hdT s).line:Int) ⟨#[]⟩ [z],s2,.mk 5 (unO (hdR r).text) 0 ((hdR r).line:Int) ⟨#[]⟩ [z2],r2,?_,?_,hR2,fun h0=>by rw [hu,hh,hz h0],by omega⟩
     ·simp [z2x,h1,h3,e1]
     ·simp [z2c,hse,e2]
theorem z5Y {E:P1} {F:R1} {N:Nat} (hA:z2s E F N) (hB:BadT F):z2s (zc8 E) (z4c F) (N+1):=by
 intro s r h hN
 have hp:=h.1.pos
 exact z6J hA hB (s.rest.length+1) (r.rest.length+1) s r h hN (by omega) (by omega) (fun _=>by omega)
theorem z7H:∀ d,z2s (z6a d) (z4M (d+1)) d:=by
 intro d
 induction d with
 | zero =>
  intro s r h hN
  have:=h.1.pos
  omega
 | succ d ih =>
  intro s r h hN
  exact z24 (z24 (z7W (z24 (z24 (z5Y ih (zaz d)) [[42],[47],[37]] (by decide)) [[43],[45]] (by decide)) [[60],[60,61],[61,61],[33,61]] (by decide)) [[38,38]] (by decide)) [[124,124]] (by decide) s r h hN
theorem z81 (n:Nat):∀ (l:z04) (line:Nat) (ts:List Tok),l.length≤n→1≤line→scan line l=.ok ts→∀ t∈ts,1≤t.line:=by
 induction n with
 | zero =>
  intro l line ts hl h1 h t ht
  have:l=[]:=List.eq_nil_of_length_eq_zero (by omega)
  subst this
  rw [scan] at h
  injection h with h
  subst h
  rw [List.mem_singleton] at ht
  subst ht
  exact h1
 | succ n ih =>
  intro l line ts hl h1 h
  match l with
  | [] =>
   rw [scan] at h
   injection h with h
   subst h
   intro t ht
   rw [List.mem_singleton] at ht
   subst ht
   exact h1
  | c :: r =>
   simp only [List.length_cons] at hl
   rw [scan] at h
   split at h
   ·exact ih _ _ _ (by omega) (by omega) h
   split at h
   ·exact ih _ _ _ (by omega) h1 h
   split at h
   ·refine ih _ _ _ ?_ h1 h
    have:=List.Sublist.length_le (List.dropWhile_sublist (fun x:UInt8=>decide (x.toNat≠10)) (l:=r))
    omega
   split at h
   ·cases h
   split at h
   ·cases h
   rename_i us hus
   injection h with h
   subst h
   intro t ht
   rcases List.mem_cons.1 ht with rfl | ht
   ·exact h1
   ·exact ih _ _ _ (by simp; omega) h1 hus t ht
theorem z5O {l:z04} {ts:List Tok} (h:scan 1 l=.ok ts):z0M ⟨ts,0,0⟩ ⟨ts,false,0⟩:=by
 refine ⟨z7x h,z81 l.length l 1 ts (Nat.le_refl _) (Nat.le_refl _) h,⟨rfl,rfl⟩,.inl ⟨rfl,rfl,rfl,fun t ht hk=>?_⟩⟩
 obtain ⟨toks,e,rfl,hok⟩:=z5T l.length l 1 ts (Nat.le_refl _) h
 rcases List.mem_append.1 ht with ht | ht
 ·exact hok t ht
 ·rw [List.mem_singleton] at ht
  subst ht
  exact absurd rfl hk
end Go.Proofs.YtkeihncfmbicnaaGreatDoor
namespace Go.Proofs.YtkeihncfmbicnaaGreatDoor
open Go.RowKit
def z2B (l:z04):Except (Nat × Nat) Ex :=
 match scan 1 l with
 | .error n=>.error (n,6)
 | .ok ts =>
  match z6a ts.length ⟨ts,0,0⟩ with
  | none=>.error (0,0)
  | some (x,s)=>if (endP s).ref=0 then .ok x else .error ((endP s).ref,7)
def zeR:Except (Nat × Nat) Ex→Ex
 | .ok x=>x
 | .error _=>noX
def lnX:Except (Nat × Nat) Ex→Nat
 | .ok _=>0
 | .error p=>p.1
def cdX:Except (Nat × Nat) Ex→Nat
 | .ok _=>0
 | .error p=>p.2
theorem z5z {l:z04} {ts:List Tok} (h:scan 1 l=.ok ts):∃ x s y r,z6a ts.length ⟨ts,0,0⟩=some (x,s)∧z4M (ts.length+1) ⟨ts,false,0⟩=some (y,r)∧z0M s r∧(r.bad=false→x=y):=by
 obtain ⟨x,s,y,r,h1,h2,h3,h4,_⟩:=z7H ts.length _ _ (z5O h) (Nat.le_refl _)
 exact ⟨x,s,y,r,h1,h2,h3,h4⟩
theorem zcn {s:PS} {r:RS} (h:z0M s r):((endP s).ref=0 ↔ (r.bad=false∧(hdR r).kind=0))∧((endP s).ref≠0→(endP s).ref=(hdR r).line)∧((endP s).ref=0→(hdT s).kind=0∧s.ref=0∧s.out=0):=by
 obtain ⟨h0,h1,h3,h4⟩:=id h
 have hm:=h.mem
 have hl:=h1 _ hm
 rcases h4 with h4 | h4
 ·have hh:=(h.hd h4.1).1
  by_cases hk:(hdT s).kind=0
  ·have e:endP s=s:=by simp [endP,hk]
   rw [e]
   refine ⟨⟨fun _=>⟨h4.1,by rw [← hh]; exact hk⟩,fun _=>h4.2.1⟩,fun hn=>absurd h4.2.1 hn,fun _=>⟨hk,h4.2.1,h3.1⟩⟩
  ·have e:endP s=z0r s:=by simp [endP,hk]
   have e2:(z0r s).ref=(hdT s).line:=by simp [z0r,h4.2.1]
   rw [e,e2]
   refine ⟨⟨fun h0=>by omega,fun ⟨_,h0⟩=>absurd (by rw [hh]; exact h0) hk⟩,fun _=>by rw [hh],fun h0=>by omega⟩
 ·have hk:=h.kind0 h4.1
  have e:endP s=s:=by simp [endP,hk]
  rw [e]
  exact ⟨⟨fun h0=>by omega,fun h0=>by rw [h4.1] at h0; cases h0.1⟩,fun _=>h4.2.2.1,fun h0=>by omega⟩
end Go.Proofs.YtkeihncfmbicnaaGreatDoor
namespace Go.Proofs.YtkeihncfmbicnaaGreatDoor
open Go.RowKit
def AnsG (m:Except (Nat × Nat) Ex) (w:World) (e:Ending) (w':World):Prop:=∃ d k o a l nm A n c,e=.returned (.tuple #[.agg #[.int .i64 k,.int .i64 o,.int .i64 a,.int .i64 l,.string nm,.slice A n c],.int .i64 ((lnX m:Nat):Int),.int .i64 ((cdX m:Nat):Int)])∧Hid (ExV (fun q=>w.heap.size≤q∧q<w'.heap.size) w' d (zeR m) (.agg #[.int .i64 k,.int .i64 o,.int .i64 a,.int .i64 l,.string nm,.slice A n c]))∧Below w.heap.size w w'
theorem z8h {m:Except (Nat × Nat) Ex} {n c:Nat} {w w':World} (h:m=.error (n,c)) (hb:Below w.heap.size w w'):AnsG m w (.returned (.tuple #[.agg #[.int .i64 0,.int .i64 0,.int .i64 0,.int .i64 0,.string { data:=#[] },.slice none 0 0],.int .i64 (n:Int),.int .i64 (c:Int)])) w':=by
 subst h
 exact ⟨1,0,0,0,0,_,none,0,0,rfl,zhi ⟨none,0,rfl,Nat.le_refl _,fun i x h=>by simp at h⟩,hb⟩
theorem zdo {m:Except (Nat × Nat) Ex} {x:Ex} {d:Nat} {k o a l:Int} {nm:ByteArray} {A:Option Addr} {n c:Nat} {w w':World} (h:m=.ok x) (hx:ExV (fun q=>w.heap.size≤q∧q<w'.heap.size) w' d x (.agg #[.int .i64 k,.int .i64 o,.int .i64 a,.int .i64 l,.string nm,.slice A n c])) (hb:Below w.heap.size w w'):AnsG m w (.returned (.tuple #[.agg #[.int .i64 k,.int .i64 o,.int .i64 a,.int .i64 l,.string nm,.slice A n c],.int .i64 0,.int .i64 0])) w':=by
 subst h
 exact ⟨d,k,o,a,l,nm,A,n,c,rfl,zhi hx,hb⟩
set_option maxRecDepth 100000 in
set_option maxHeartbeats 4000000 in
theorem z3Z (s:ByteArray) (w:World) (hs:s.size≤65536):Calls Tryz.prog 10 #[.string s] w (AnsG (z2B s.data.toList) w):=by
 have HS:=zhi (z9P s (w.alloc (.cells #[.int .i64 0,.int .i64 0,.int .i64 0,.int .i64 0,.string { data:=#[] },.slice none 0 0] 37)) (by omega))
 have hb0:=(Below.refl _ w).alloc (Nat.le_refl _) (.cells #[.int .i64 0,.int .i64 0,.int .i64 0,.int .i64 0,.string { data:=#[] },.slice none 0 0] 37)
 have HB0:=zhi hb0
 have HZ0:=zhi (heap_alloc_new w (.cells #[.int .i64 0,.int .i64 0,.int .i64 0,.int .i64 0,.string { data:=#[] },.slice none 0 0] 37))
 have hl:s.data.toList.length=s.size:=by simp
 cases hsc:scan 1 s.data.toList with
 | error n =>
  have HM:Hid (z2B s.data.toList=.error (n,6)):=zhi (by rw [z2B,hsc])
  have hsT:z2E s.data.toList=.error (n,6):=by rw [z2E,if_neg (by omega),hsc]
  rw [hsT] at HS
  clear hb0 hsc hs hl hsT
  go_enter Tryz.func10,Tryz.ntmps10
  go_wp2_with fail
  refine HS.out.mono ?_
  rintro e w1 ⟨rfl,hb1⟩
  have HB1:=zhi (HB0.out.trans (hb1.mono (by simp)))
  have HZ1:=zhi ((hb1.block _ (by simp)).trans HZ0.out)
  clear hb1 HS
  go_wp2_with (with_reducible refine z3E ?_)
  refine z0a.of (z00 _ rfl _ _ _ rfl w.heap.size _ rfl (by rfl) _ _ HZ1.out (by kernel_rfl) (by rfl) (by simp [Value.oneCell']) ?_)
  intro w9 hrow9 hg9
  obtain ⟨j0,j1,j2,j3,j4,j5⟩:=cl6 hrow9
  have HE:=zhi (z8h HM.out (HB1.out.trans (z09 hg9 (fun k hk=>by injection hk with hk; omega) (by have:=HB1.out.size; omega))))
  clear hrow9 hg9
  go_wp2_with fail
  exact bodyPost_ret (by simp [results,Tryz.results10,go_sem,j0,j1,j2,j3,j4,j5]) rfl HE.out
 | ok ts =>
  obtain ⟨x,sp,y,r,q1,q2,hR,hxy⟩:=z5z hsc
  have hsT:z2E s.data.toList=.ok ts:=by rw [z2E,if_neg (by omega),hsc]
  rw [hsT] at HS
  obtain ⟨hwf,hlen⟩:=zbk hsT
  obtain ⟨t1,t2,t3⟩:=zcn hR
  have hwr:=hR.2.2.1.2
  have HM:Hid (z2B s.data.toList=if (endP sp).ref=0 then .ok x else .error ((endP sp).ref,7)):=zhi (by rw [z2B,hsc]; simp only [q1])
  have HD:Hid (z3M r=if (endP sp).ref=0 then (0,0) else ((endP sp).ref,7)):=zhi (by
   unfold z3M
   by_cases he:(endP sp).ref=0
   ·obtain ⟨u1,u2⟩:=t1.1 he
    rw [if_pos he,if_neg (fun h=>by rcases h with h | h; rw [u1] at h; cases h; exact h u2),if_neg (by omega)]
   ·rw [if_neg he,if_pos (by
     by_cases hb:r.bad=true
     ·exact .inl hb
     ·exact .inr (fun hk=>he (t1.2 ⟨by simpa using hb,hk⟩))),t2 he])
  have HXY:Hid ((endP sp).ref=0→x=y):=zhi (fun he=>hxy (t1.1 he).1)
  have HWF:=zhi hwf
  have HQ:=zhi q2
  clear hb0 hsc hs hl hsT hwf hR hxy t1 t2 t3 q1 q2 hwr
  generalize (endP sp).ref=N at *
  go_enter Tryz.func10,Tryz.ntmps10
  go_wp2_with fail
  refine HS.out.mono ?_
  rintro e w1 ⟨v,rfl,hown,hb1⟩
  obtain ⟨tb,tc,rfl,htb,htl,hra⟩:=zba hown HWF.out hlen
  have hsz1:w.heap.size+1≤w1.heap.size:=by have:=hb1.size; simpa using this
  have htb':w.heap.size+1≤tb:=by simpa using htb
  have hba:=(Below.refl _ w1).alloc (Nat.le_refl _) (.cells #[.slice (some ⟨tb,0,none⟩) ts.length tc,.int .i64 0,.bool false,.int .i64 0] 79)
  have HB1:=zhi ((HB0.out.trans (hb1.mono (by simp))).trans (hba.mono (by omega)))
  have HZ1:=zhi ((hba.block _ (by omega)).trans ((hb1.block _ (by simp)).trans HZ0.out))
  have HSC:=zhi (z5E (ts.length+1) w1.heap.size tb ⟨ts,false,0⟩ r y _ (hra 79) HQ.out)
  have hszp:w.heap.size<(w1.alloc (.cells #[.slice (some ⟨tb,0,none⟩) ts.length tc,.int .i64 0,.bool false,.int .i64 0] 79)).heap.size:=by simp; omega
  clear hown hb1 hra hba HS HZ0 HB0
  go_wp2_with fail
  refine HSC.out.mono ?_
  rintro e w2 ⟨d,k,o,a,l,nm,A,n,c,rfl,hx,hp2,hg2,hl2⟩
  have HZ2:=zhi (z06 hg2 (by omega) HZ1.out)
  have HX2:=zhi hx
  have HP2:=zhi hp2
  have HB2:=zhi (show Below w.heap.size w w2 from HB1.out.trans (z09 hg2 (fun k hk=>by injection hk with hk; omega) (by omega)))
  have hlw2:w.heap.size<w2.heap.size:=(Array.getElem?_eq_some_iff.1 HZ2.out).1
  have hszq:=hg2.size
  clear hx hp2 hg2 hl2 HSC HZ1 HB1
  go_wp2_with (with_reducible refine z3E ?_)
  refine z0a.of (z00 _ rfl _ _ _ rfl w.heap.size _ rfl (by rfl) _ _ HZ2.out (by kernel_rfl) (by rfl) (by simp [Value.oneCell']) ?_)
  intro w3 hrow3 hg3
  dsimp only [Act.put]
  have hb3:Below w.heap.size w w3:=HB2.out.trans (z09 hg3 (fun k hk=>by injection hk with hk; omega) (by omega))
  have HD3:=zhi (zdu w3 (HP2.out.other hg3 (by omega) (by omega)))
  have HX3:=zhi (HX2.out.keep (G:=fun q=>w.heap.size+1≤q∧q<w3.heap.size) (fun q hq=>⟨by omega,Nat.lt_of_lt_of_le hq.2 hg3.size⟩) (fun q hq=>hg3.block q hq.2 (fun e=>by injection e with e; omega)))
  have HB3:=zhi hb3
  have HRow3:=zhi hrow3
  clear hrow3 hg3 hb3 HX2 HB2 HZ2
  go_wp2_with fail
  refine HD3.out.mono ?_
  rintro e w4 ⟨rfl,hb4⟩
  have hrow4:=(hb4.block _ (Array.getElem?_eq_some_iff.1 HRow3.out).1).trans HRow3.out
  have HB4:=zhi (z02 HB3.out hb4)
  have HX4:=zhi (HX3.out.keep (G:=fun q=>w.heap.size+1≤q∧q<w4.heap.size) (fun q hq=>⟨hq.1,Nat.lt_of_lt_of_le hq.2 hb4.size⟩) (fun q hq=>hb4.block q hq.2))
  have HRow4:=zhi hrow4
  obtain ⟨c0,c1,c2,c3,c4,c5⟩:=cl6 hrow4
  have hs4:=HB4.out.size
  clear hrow4 hb4 HD3 HX3 HB3 HRow3
  by_cases hN:N=0
  ·subst hN
   have hD:=HD.out
   rw [if_pos rfl] at hD
   have hM:=HM.out
   rw [if_pos rfl] at hM
   have HM2:=zhi hM
   obtain rfl:=HXY.out rfl
   rw [hD]
   clear hD hM HD HM HXY
   go_wp2_with (with_reducible refine z3E ?_)
   refine z0a.of (z00 _ rfl _ _ _ rfl w.heap.size _ rfl (by rfl) _ _ HRow4.out (by kernel_rfl) (by rfl) (by simp [Value.oneCell']) ?_)
   intro w9 hrow9 hg9
   obtain ⟨j0,j1,j2,j3,j4,j5⟩:=cl6 hrow9
   have HE:Hid (AnsG (z2B s.data.toList) w (.returned (.tuple #[.agg #[.int .i64 k,.int .i64 o,.int .i64 a,.int .i64 l,.string nm,.slice A n c],.int .i64 0,.int .i64 0])) w9):=zhi (zdo HM2.out (HX4.out.keep (fun q hq=>⟨by omega,Nat.lt_of_lt_of_le hq.2 hg9.size⟩) (fun q hq=>hg9.block q hq.2 (fun e=>by injection e with e; omega))) (HB4.out.trans (z09 hg9 (fun k hk=>by injection hk with hk; omega) (by omega))))
   clear hrow9 hg9 c0 c1 c2 c3 c4 c5
   go_wp2_with fail
   exact bodyPost_ret (by simp [results,Tryz.results10,go_sem,j0,j1,j2,j3,j4,j5]) rfl HE.out
  ·have hD:=HD.out
   rw [if_neg hN] at hD
   have hM:=HM.out
   rw [if_neg hN] at hM
   have HM2:=zhi hM
   rw [hD]
   clear hD hM HD HM HXY hN
   go_wp2_with (with_reducible refine z3E ?_)
   refine z0a.of (z00 _ rfl _ _ _ rfl w.heap.size _ rfl (by rfl) _ _ HRow4.out (by kernel_rfl) (by rfl) (by simp [Value.oneCell']) ?_)
   intro w9 hrow9 hg9
   obtain ⟨j0,j1,j2,j3,j4,j5⟩:=cl6 hrow9
   have HE:Hid (AnsG (z2B s.data.toList) w (.returned (.tuple #[.agg #[.int .i64 0,.int .i64 0,.int .i64 0,.int .i64 0,.string { data:=#[] },.slice none 0 0],.int .i64 (N:Int),.int .i64 7])) w9):=zhi (z8h HM2.out (HB4.out.trans (z09 hg9 (fun k hk=>by injection hk with hk; omega) (by omega))))
   clear hrow9 hg9 c0 c1 c2 c3 c4 c5
   go_wp2_with fail
   exact bodyPost_ret (by simp [results,Tryz.results10,go_sem,j0,j1,j2,j3,j4,j5]) rfl HE.out
end Go.Proofs.YtkeihncfmbicnaaGreatDoor
namespace Go.Proofs.YtkeihncfmbicnaaGreatDoor
open Go.RowKit
end Go.Proofs.YtkeihncfmbicnaaGreatDoor
