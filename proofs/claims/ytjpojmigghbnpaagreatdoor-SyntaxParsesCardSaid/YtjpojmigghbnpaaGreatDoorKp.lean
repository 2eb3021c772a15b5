/-
  Kp: PyRel, PyAgr, PyEnd. Walks and laws that the statement's proof is made of. No condition of its own.
-/
import Derived.Test.YtjpojmigghbnpaaGreatDoorKd
import Derived.Test.YtjpojmigghbnpaaGreatDoorKj
import Derived.Test.YtjpojmigghbnpaaGreatDoorKf
import Derived.Test.YtjpojmigghbnpaaGreatDoorKl
namespace Go.Proofs.YtjpojmigghbnpaaGreatDoor
open Go.RowKit
def z0u (s:PS) (r:RS):Prop :=
 WFt s.rest∧(∀ t∈s.rest,1≤t.line)∧s.out=r.wrong ∧
 ((r.bad=false∧s.ref=0∧s.rest=r.rest∧∀ t∈s.rest,t.kind≠0→zem t)∨(r.bad=true∧0<s.ref∧s.ref=(hdR r).line∧s.rest.length=1))
def z2D (P:P1) (R:R1) (N:Nat):Prop:=∀ s r,z0u s r→s.rest.length≤N→∃ x s' y r',P s=some (x,s')∧R r=some (y,r')∧z0u s' r'∧(r'.bad=false→x=y)∧s'.rest.length≤s.rest.length
theorem z1l {s:PS} (h:WFt s.rest) (h1:s.rest.length=1) (l:List z09) (hl:[] ∉ l):z0f l s=false:=by
 obtain ⟨r,e,hr,he,_⟩:=h
 have hr0:r=[]:=by
  rw [hr] at h1
  simpa using h1
 subst hr0
 have hd:hdT s=e:=by simp [hdT,hr]
 unfold z0f
 rw [hd,he.2]
 simpa using hl
theorem z0u.hd {s:PS} {r:RS} (h:z0u s r) (hb:r.bad=false):hdT s=hdR r∧s.rest=r.rest:=by
 obtain ⟨_,_,_,h | h⟩:=h
 ·exact ⟨by unfold hdT hdR; rw [h.2.2.1],h.2.2.1⟩
 ·rw [hb] at h
  cases h.1
theorem z0u.end_ {s:PS} {r:RS} (h:z0u s r) (hb:r.bad=true):s.rest.length=1:=by
 obtain ⟨_,_,_,h | h⟩:=h
 ·rw [hb] at h
  cases h.1
 ·exact h.2.2.2
theorem z0u.pop {s:PS} {r:RS} (h:z0u s r) (hb:r.bad=false) (h2:2≤s.rest.length):z0u (popP s) (popR r):=by
 obtain ⟨h0,h1,h3,h | h⟩:=h
 ·exact ⟨h0.tail h2,fun t ht=>h1 t (List.mem_of_mem_tail ht),h3,.inl ⟨h.1,h.2.1,by show s.rest.tail=r.rest.tail; rw [h.2.2.1],fun t ht=>h.2.2.2 t (List.mem_of_mem_tail ht)⟩⟩
 ·rw [hb] at h
  cases h.1
theorem z0u.refuse {s:PS} {r:RS} (h:z0u s r) (hb:r.bad=false):z0u (z0t s) (badR r):=by
 have hh:=h.hd hb
 obtain ⟨h0,h1,h3,h | h⟩:=h
 ·have hm:hdT s∈s.rest:=by
   have:=h0.pos
   cases hq:s.rest with
   | nil=>rw [hq] at this; simp at this
   | cons a l=>simp [hdT,hq]
  have hl:=h1 _ hm
  have hp:=h0.pos
  refine ⟨h0.last,fun t ht=>h1 t (List.mem_of_mem_drop ht),h3,.inr ⟨rfl,?_,?_,?_⟩⟩
  ·show 0<(if s.ref=0 then (hdT s).line else s.ref)
   rw [if_pos h.2.1]
   exact hl
  ·show (if s.ref=0 then (hdT s).line else s.ref)=(hdR (badR r)).line
   rw [if_pos h.2.1,hh.1]
   rfl
  ·show (s.rest.drop (s.rest.length - 1)).length=1
   rw [List.length_drop]
   omega
 ·rw [hb] at h
  cases h.1
theorem z0u.again {s:PS} {r:RS} (h:z0u s r) (hb:r.bad=true):z0u (z0t s) r∧z0u (z0t s) (badR r):=by
 obtain ⟨h0,h1,h3,h | h⟩:=h
 ·rw [hb] at h
  cases h.1
 ·have hp:=h0.pos
  have hd:(s.rest.drop (s.rest.length - 1)).length=1:=by
   rw [List.length_drop]
   omega
  have hrf:(if s.ref=0 then (hdT s).line else s.ref)=s.ref:=if_neg (by omega)
  exact ⟨⟨h0.last,fun t ht=>h1 t (List.mem_of_mem_drop ht),h3,.inr ⟨hb,by show 0<(if s.ref=0 then (hdT s).line else s.ref); rw [hrf]; exact h.2.1,by show (if s.ref=0 then (hdT s).line else s.ref)=_; rw [hrf]; exact h.2.2.1,hd⟩⟩,
   ⟨h0.last,fun t ht=>h1 t (List.mem_of_mem_drop ht),h3,.inr ⟨rfl,by show 0<(if s.ref=0 then (hdT s).line else s.ref); rw [hrf]; exact h.2.1,by show (if s.ref=0 then (hdT s).line else s.ref)=_; rw [hrf]; exact h.2.2.1,hd⟩⟩⟩
theorem z0u.mem {s:PS} {r:RS} (h:z0u s r):hdT s∈s.rest:=by
 have:=h.1.pos
 cases hq:s.rest with
 | nil=>rw [hq] at this; simp at this
 | cons a l=>simp [hdT,hq]
theorem z0u.kind {s:PS} {r:RS} (h:z0u s r) (hb:r.bad=false) (ht:isS (hdT s).text=true∨isW (hdT s).text=true):(hdT s).kind=3∨(hdT s).kind=4:=by
 have hm:=h.mem
 have h0:=h.1
 obtain ⟨_,_,_,h | h⟩:=h
 ·have hk:(hdT s).kind≠0:=by
   intro hk
   obtain ⟨l,e,hr,he,hl⟩:=h0
   rw [hr] at hm
   rcases List.mem_append.1 hm with hm | hm
   ·exact (hl _ hm).1 hk
   ·rw [List.mem_singleton] at hm
    rw [hm,he.2] at ht
    rcases ht with ht | ht <;> cases ht
  have ho:=h.2.2.2 _ hm hk
  obtain ⟨c,l,htx,_⟩:=ho.head
  have hmean:=ho.mean
  unfold pmean at hmean
  rw [htx] at hmean ht
  simp only [] at hmean
  by_cases hs:isS (c :: l)=true
  ·rw [if_pos hs] at hmean
   injection hmean with hmean
   injection hmean with hmean _
   exact .inr hmean.symm
  ·have hw:isW (c :: l)=true:=by
    rcases ht with ht | ht
    ·exact absurd ht hs
    ·exact ht
   rw [if_neg hs,if_pos hw] at hmean
   injection hmean with hmean
   injection hmean with hmean _
   exact .inl hmean.symm
 ·rw [hb] at h
  cases h.1
theorem z0u.sees {s:PS} {r:RS} (h:z0u s r) (hb:r.bad=false) (l:List z09) (hl:∀ t∈l,isS t=true∨isW t=true):z1B l r=z0f l s:=by
 have hh:=(h.hd hb).1
 cases hq:z0f l s with
 | true =>
  have hmem:(hdT s).text∈l:=by simpa [z0f,List.contains_iff_mem] using hq
  have hk:=h.kind hb (hl _ hmem)
  unfold z1B
  rw [List.any_eq_true]
  refine ⟨_,hmem,?_⟩
  unfold isR
  rw [hb,← hh]
  rcases hk with hk | hk <;> simp [hk]
 | false =>
  unfold z1B
  rw [List.any_eq_false]
  intro t ht he
  unfold isR at he
  simp only [Bool.and_eq_true,decide_eq_true_eq] at he
  have:z0f l s=true:=by
   rw [z0f,List.contains_iff_mem,hh,he.2.2]
   exact ht
  rw [hq] at this
  cases this
theorem z1x {r:RS} (hb:r.bad=true) (l:List z09):z1B l r=false:=by
 unfold z1B
 rw [List.any_eq_false]
 intro t _ he
 unfold isR at he
 rw [hb] at he
 simp at he
theorem z9w {P:P1} {R:R1} {N:Nat} (hA:z2D P R N) (l:List z09) (hl:∀ t∈l,isS t=true∨isW t=true):∀ (n m:Nat) (x y:Ex) (s:PS) (r:RS),z0u s r→(r.bad=false→x=y)→s.rest.length≤N+1→s.rest.length<n+1→0<m→(r.bad=false→r.rest.length<m+1)→0<n →
  ∃ x' s' y' r',z3K P l n x s=some (x',s')∧z3d R l m y r=some (y',r')∧z0u s' r'∧(r'.bad=false→x'=y')∧s'.rest.length≤s.rest.length:=by
 have hne:[] ∉ l:=fun h=>by rcases hl _ h with h | h <;> cases h
 intro n
 induction n with
 | zero=>intro m x y s r _ _ _ _ _ _ h; omega
 | succ n ih =>
  intro m x y s r h hxy hN hn hm hr _
  obtain ⟨m,rfl⟩:∃ k,m=k+1:=⟨m - 1,by omega⟩
  cases hb:r.bad with
  | true =>
   have h1:=z1l h.1 (h.end_ hb) l hne
   refine ⟨x,s,y,r,?_,?_,h,hxy,Nat.le_refl _⟩
   ·simp [z3K,h1]
   ·simp [z3d,z1x hb]
  | false =>
   have hse:=h.sees hb l hl
   cases hs:z0f l s with
   | false =>
    rw [hs] at hse
    refine ⟨x,s,y,r,?_,?_,h,hxy,Nat.le_refl _⟩
    ·simp [z3K,hs]
    ·simp [z3d,hse]
   | true =>
    rw [hs] at hse
    have h2:=z0F h.1 hne hs
    have hp:=h.pop hb h2
    have hpl:=z0k s
    obtain ⟨z,s2,z2,r2,e1,e2,hR2,hz,hlen⟩:=hA _ _ hp (by omega)
    have hsr:s.rest.length=r.rest.length:=by rw [(h.hd hb).2]
    have hr1:=hr hb
    have hp2:=hR2.1.pos
    have hrl:r2.bad=false→r2.rest.length<m+1:=fun h0=>by
     rw [← (hR2.hd h0).2]
     omega
    obtain ⟨x',s',y',r',e3,e4,hR',hx',hl'⟩:=ih m (binP (hdT s) x z) (binP (hdR r) y z2) s2 r2 hR2 (fun h0=>by rw [hxy hb,hz h0,(h.hd hb).1]) (by omega) (by omega) (by omega) hrl (by omega)
    refine ⟨x',s',y',r',?_,?_,hR',hx',by omega⟩
    ·simp [z3K,hs,e1,e3]
    ·simp [z3d,hse,e2,e4]
theorem z2T {P:P1} {R:R1} {N:Nat} (hA:z2D P R N) (l:List z09) (hl:∀ t∈l,isS t=true∨isW t=true):z2D (z2y P l) (z2z R l) N:=by
 intro s r h hN
 obtain ⟨x,s1,y,r1,e1,e2,h1,hx,hlen⟩:=hA s r h hN
 have hp:=h.1.pos
 obtain ⟨x',s',y',r',e3,e4,hR',hx',hl'⟩:=z9w hA l hl (s.rest.length+1) (r1.rest.length+1) x y s1 r1 h1 hx (by omega) (by omega) (by omega) (fun _=>by omega) (by omega)
 refine ⟨x',s',y',r',?_,?_,hR',hx',by omega⟩
 ·simp [z2y,e1,e3]
 ·simp [z2z,e2,e4]
theorem z9D {P:P1} {R:R1} {N:Nat} (hA:z2D P R N) (l:List z09) (hl:∀ t∈l,isS t=true∨isW t=true):z2D (z5r P l) (z6o R l) N:=by
 have hne:[] ∉ l:=fun h=>by rcases hl _ h with h | h <;> cases h
 intro s r h hN
 obtain ⟨x,s1,y,r1,e1,e2,h1,hx,hlen⟩:=hA s r h hN
 cases hb:r1.bad with
 | true =>
  have h0:=z1l h1.1 (h1.end_ hb) l hne
  exact ⟨x,s1,y,r1,by simp [z5r,e1,h0],by simp [z6o,e2,z1x hb],h1,hx,hlen⟩
 | false =>
  have hse:=h1.sees hb l hl
  cases hs:z0f l s1 with
  | false =>
   rw [hs] at hse
   exact ⟨x,s1,y,r1,by simp [z5r,e1,hs],by simp [z6o,e2,hse],h1,hx,hlen⟩
  | true =>
   rw [hs] at hse
   have h2:=z0F h1.1 hne hs
   have hp:=h1.pop hb h2
   have hpl:=z0k s1
   obtain ⟨z,s2,z2,r2,e3,e4,hR2,hz,hl2⟩:=hA _ _ hp (by omega)
   exact ⟨binP (hdT s1) x z,s2,binP (hdR r1) y z2,r2,by simp [z5r,e1,hs,e3],by simp [z6o,e2,hse,e4],hR2,fun h0=>by rw [hx hb,hz h0,(h1.hd hb).1],by omega⟩
theorem z1W (t:z09) (r:RS):isR t r=z1B [t] r:=by simp [z1B]
theorem z0u.kind0 {s:PS} {r:RS} (h:z0u s r) (hb:r.bad=true):(hdT s).kind=0:=by
 have h1:=h.end_ hb
 by_cases hk:(hdT s).kind=0
 ·exact hk
 ·have:=WFt.two h.1 (.inr hk)
  omega
theorem z5J {t:z09} (ht:isS t=true∨isW t=true):[] ∉ [t]:=fun h=>by
 rw [List.mem_singleton] at h
 subst h
 rcases ht with h | h <;> cases h
theorem z0x {s:PS} {r:RS} (h:z0u s r) (t:z09) (ht:isS t=true∨isW t=true):z0u (z0c t s) (z0a t r)∧(z0c t s).rest.length≤s.rest.length∧((z0a t r).bad=false→r.bad=false):=by
 have hp:=h.1.pos
 cases hb:r.bad with
 | true =>
  have h0:=z1l h.1 (h.end_ hb) [t] (z5J ht)
  have h1:isR t r=false:=by rw [z1W]; exact z1x hb _
  have e1:z0c t s=z0t s:=by simp [z0c,h0]
  have e2:z0a t r=badR r:=by simp [z0a,h1]
  rw [e1,e2]
  exact ⟨(h.again hb).2,by rw [z1H s hp]; exact hp,fun h0=>by simp [badR] at h0⟩
 | false =>
  have hse:=h.sees hb [t] (by simpa using ht)
  rw [← z1W] at hse
  cases hs:z0f [t] s with
  | false =>
   rw [hs] at hse
   have e1:z0c t s=z0t s:=by simp [z0c,hs]
   have e2:z0a t r=badR r:=by simp [z0a,hse]
   rw [e1,e2]
   exact ⟨h.refuse hb,by rw [z1H s hp]; exact hp,fun h0=>by simp [badR] at h0⟩
  | true =>
   rw [hs] at hse
   have e1:z0c t s=popP s:=by simp [z0c,hs]
   have e2:z0a t r=popR r:=by simp [z0a,hse]
   rw [e1,e2]
   exact ⟨h.pop hb (z0F h.1 (z5J ht) hs),by rw [z0k]; omega,fun _=>rfl⟩
theorem z1G {s:PS} {r:RS} (h:z0u s r) (k:Nat) (hk:k≠0):z0u (z05 k s).2 (z03 k r).2∧(z05 k s).2.rest.length≤s.rest.length∧((z03 k r).2.bad=false→(z05 k s).1=(z03 k r).1):=by
 have hp:=h.1.pos
 cases hb:r.bad with
 | true =>
  have h0:¬ (hdT s).kind=k:=by rw [h.kind0 hb]; exact fun e=>hk e.symm
  have e1:z05 k s=(noT,z0t s):=by simp [z05,h0]
  have e2:z03 k r=(noT,badR r):=by simp [z03,hb]
  rw [e1,e2]
  exact ⟨(h.again hb).2,by rw [z1H s hp]; exact hp,fun h0=>by simp [badR] at h0⟩
 | false =>
  have hh:=(h.hd hb).1
  by_cases hq:(hdT s).kind=k
  ·have e1:z05 k s=(hdT s,popP s):=by simp [z05,hq]
   have e2:z03 k r=(hdR r,popR r):=by simp [z03,hb,← hh,hq]
   rw [e1,e2]
   exact ⟨h.pop hb (WFt.two h.1 (.inr (by omega))),by rw [z0k]; omega,fun _=>hh⟩
  ·have e1:z05 k s=(noT,z0t s):=by simp [z05,hq]
   have e2:z03 k r=(noT,badR r):=by simp [z03,← hh,hq]
   rw [e1,e2]
   exact ⟨h.refuse hb,by rw [z1H s hp]; exact hp,fun h0=>by simp [badR] at h0⟩
def BadT (R:R1):Prop:=∀ r,r.bad=true→∃ y,R r=some (y,r)
theorem zcu (R:R1) (l:List z09) (n:Nat) (x:Ex) (r:RS) (hb:r.bad=true):z3d R l (n+1) x r=some (x,r):=by simp [z3d,z1x hb]
theorem z3X {R:R1} (hR:BadT R) (l:List z09):BadT (z2z R l):=fun r hb=>by
 obtain ⟨y,hy⟩:=hR r hb
 exact ⟨y,by simp [z2z,hy,zcu _ _ _ _ _ hb]⟩
theorem zcA {R:R1} (hR:BadT R) (l:List z09):BadT (z6o R l):=fun r hb=>by
 obtain ⟨y,hy⟩:=hR r hb
 exact ⟨y,by simp [z6o,hy,z1x hb]⟩
theorem z5x (E:R1):BadT (z2Q E):=fun r hb=>by
 have h1:isR [40] r=false:=by rw [z1W]; exact z1x hb _
 exact ⟨noX,by simp [z2Q,z12,hb,z1J,h1]⟩
theorem zbQ (E:R1):BadT (z5j E):=fun r hb=>by
 obtain ⟨y,hy⟩:=z5x E r hb
 exact ⟨y,by simp [z5j,z36,z1x hb,hy]⟩
theorem z4E (d:Nat):BadT (z66 (d+1)):=fun r hb=>z3X (z3X (zcA (z3X (z3X (zbQ (z66 d)) _) _) _) _) _ r hb
theorem z6w {E:P1} {F:R1} {N:Nat} (hA:z2D E F N) (hB:BadT F):z2D (z11 E) (z12 F) (N+1):=by
 intro s r h hN
 have hp:=h.1.pos
 have hrl:(z0t s).rest.length≤s.rest.length:=by rw [z1H s hp]; exact hp
 cases hb:r.bad with
 | true =>
  have h0:=h.kind0 hb
  have h1:=h.end_ hb
  have hs:∀ t,isS t=true∨isW t=true→z0f [t] s=false:=fun t ht=>z1l h.1 h1 _ (z5J ht)
  have e1:z05 1 s=(noT,z0t s):=by simp [z05,h0]
  have hr:=(h.again hb).1
  have h2:z0f [[91]] (z0t s)=false:=z1l hr.1 (hr.end_ hb) _ (by simp)
  refine ⟨.mk 13 0 0 ((hdT s).line:Int) (nmB noT.text) [],z0t s,noX,r,?_,?_,hr,fun h=>?_,hrl⟩
  ·simp [z11,h0,hs [38] (by decide),hs [114,101,97,100] (by decide),hs [40] (by decide),e1,h2]
  ·simp [z12,hb]
  ·rw [hb] at h
   cases h
 | false =>
  have hh:=(h.hd hb).1
  have hne:∀ t,isS t=true∨isW t=true→((hdT s).kind≠3∧(hdT s).kind≠4)→z0f [t] s=false:=by
   intro t ht hk
   cases hq:z0f [t] s with
   | false=>rfl
   | true =>
    have ht2:(hdT s).text=t:=by simpa [z0f] using hq
    have:=h.kind hb (by rw [ht2]; exact ht)
    omega
  by_cases k2:(hdT s).kind=2
  ·have k2r:(hdR r).kind=2:=by rw [← hh]; exact k2
   refine ⟨.mk 1 0 ((hdT s).value:Int) ((hdT s).line:Int) ⟨#[]⟩ [],popP s,.mk 1 0 ((hdR r).value:Int) ((hdR r).line:Int) ⟨#[]⟩ [],popR r,?_,?_,h.pop hb (WFt.two h.1 (.inr (by omega))),fun _=>by rw [hh],by rw [z0k]; omega⟩
   ·simp [z11,k2]
   ·simp [z12,hb,k2r]
  by_cases k1:(hdT s).kind=1
  ·have k1r:(hdR r).kind=1:=by rw [← hh]; exact k1
   have h2:=WFt.two h.1 (.inr (by omega))
   have hp1:=h.pop hb h2
   have hpl:=z0k s
   have e1:z05 1 s=(hdT s,popP s):=by simp [z05,k1]
   have hse:=hp1.sees hb [[91]] (by decide)
   rw [← z1W] at hse
   have hs:∀ t,isS t=true∨isW t=true→z0f [t] s=false:=fun t ht=>hne t ht (by omega)
   cases hs1:z0f [[91]] (popP s) with
   | false =>
    rw [hs1] at hse
    refine ⟨.mk 13 0 0 ((hdT s).line:Int) (nmB (hdT s).text) [],popP s,.mk 13 0 0 ((hdR r).line:Int) (nmB (hdR r).text) [],popR r,?_,?_,hp1,fun _=>by rw [hh],by omega⟩
    ·simp [z11,k1,hs [38] (by decide),hs [114,101,97,100] (by decide),hs [40] (by decide),e1,hs1]
    ·simp [z12,hb,k1r,hse]
   | true =>
    rw [hs1] at hse
    have h3:=z0F hp1.1 (by simp) hs1
    have hp2:=hp1.pop hb h3
    have hpl2:=z0k (popP s)
    obtain ⟨x,s1,y,r1,q1,q2,hR,hx,hl⟩:=hA _ _ hp2 (by omega)
    obtain ⟨d1,d2,d3⟩:=z0x hR [93] (by decide)
    refine ⟨.mk 4 0 0 ((hdT s).line:Int) (nmB (hdT s).text) [x],z0c [93] s1,.mk 4 0 0 ((hdR r).line:Int) (nmB (hdR r).text) [y],z0a [93] r1,?_,?_,d1,fun h0=>by rw [hh,hx (d3 h0)],by omega⟩
    ·simp [z11,k1,hs [38] (by decide),hs [114,101,97,100] (by decide),hs [40] (by decide),e1,hs1,q1]
    ·simp [z12,hb,k1r,hse,q2]
  have k2r:¬ (hdR r).kind=2:=by rw [← hh]; exact k2
  have k1r:¬ (hdR r).kind=1:=by rw [← hh]; exact k1
  have hs1:=h.sees hb [[38]] (by decide)
  have hs2:=h.sees hb [[114,101,97,100]] (by decide)
  have hs3:=h.sees hb [[40]] (by decide)
  rw [← z1W] at hs1 hs2 hs3
  cases q1:z0f [[38]] s with
  | true =>
   rw [q1] at hs1
   have hp1:=h.pop hb (z0F h.1 (by simp) q1)
   obtain ⟨d1,d2,d3⟩:=z1G hp1 1 (by decide)
   have hpl:=z0k s
   refine ⟨.mk 11 0 0 ((hdT s).line:Int) (nmB (z05 1 (popP s)).1.text) [],(z05 1 (popP s)).2,.mk 11 0 0 ((hdR r).line:Int) (nmB (z03 1 (popR r)).1.text) [],(z03 1 (popR r)).2,?_,?_,d1,fun h0=>by rw [hh,d3 h0],by omega⟩
   ·simp [z11,k2,q1]
   ·simp [z12,hb,k2r,k1r,hs1]
  | false =>
   rw [q1] at hs1
   cases q2:z0f [[114,101,97,100]] s with
   | true =>
    rw [q2] at hs2
    have hp1:=h.pop hb (z0F h.1 (by simp) q2)
    have hpl:=z0k s
    refine ⟨.mk 12 0 0 ((hdT s).line:Int) ⟨#[]⟩ [],popP s,.mk 12 0 0 ((hdR r).line:Int) ⟨#[]⟩ [],popR r,?_,?_,hp1,fun _=>by rw [hh],by omega⟩
    ·simp [z11,k2,q1,q2]
    ·simp [z12,hb,k2r,k1r,hs1,hs2]
   | false =>
    rw [q2] at hs2
    cases q3:z0f [[40]] s with
    | true =>
     rw [q3] at hs3
     have hp1:=h.pop hb (z0F h.1 (by simp) q3)
     have hpl:=z0k s
     obtain ⟨x,s1,y,r1,w1,w2,hR,hx,hl⟩:=hA _ _ hp1 (by omega)
     obtain ⟨d1,d2,d3⟩:=z0x hR [41] (by decide)
     have e2:z0a [40] r=popR r:=by simp [z0a,hs3]
     refine ⟨x,z0c [41] s1,y,z0a [41] r1,?_,?_,d1,fun h0=>hx (d3 h0),by omega⟩
     ·simp [z11,k2,q1,q2,q3,w1]
     ·simp [z12,hb,k2r,k1r,hs1,hs2,e2,w2]
    | false =>
     rw [q3] at hs3
     have e1:z05 1 s=(noT,z0t s):=by simp [z05,k1]
     have e2:z0a [40] r=badR r:=by simp [z0a,hs3]
     obtain ⟨y,hy⟩:=hB (badR r) rfl
     have hr:=h.refuse hb
     have h91:z0f [[91]] (z0t s)=false:=z1l hr.1 (hr.end_ rfl) _ (by simp)
     have e3:z0a [41] (badR r)=badR r:=by simp [z0a,isR,badR]
     refine ⟨.mk 13 0 0 ((hdT s).line:Int) (nmB noT.text) [],z0t s,y,badR r,?_,?_,hr,fun h=>by simp [badR] at h,hrl⟩
     ·simp [z11,k2,q1,q2,q3,e1,h91]
     ·simp [z12,hb,k2r,k1r,hs1,hs2,e2,hy,e3]
theorem z9x {E:P1} {F:R1} {N:Nat} (hA:z2D E F N) (pre:List Ex):∀ (n m:Nat) (xs ys:List Ex) (s:PS) (r:RS),z0u s r→(r.bad=false→xs=pre++ys)→s.rest.length≤N+1→s.rest.length<n→0<m→(r.bad=false→r.rest.length<m) →
  ∃ xs' s' ys' r',z3A E n xs s=some (xs',s')∧z4l F m ys r=some (ys',r')∧z0u (z0c [41] s') r'∧(r'.bad=false→xs'=pre++ys')∧(z0c [41] s').rest.length≤s.rest.length:=by
 intro n
 induction n with
 | zero=>intro m xs ys s r _ _ _ h; omega
 | succ n ih =>
  intro m xs ys s r h hxy hN hn hm hr
  obtain ⟨m,rfl⟩:∃ k,m=k+1:=⟨m - 1,by omega⟩
  obtain ⟨d1,d2,d3⟩:=z0x h [41] (by decide)
  cases hb:r.bad with
  | true =>
   have h1:=z1l h.1 (h.end_ hb) [[44]] (by simp)
   have h2:isR [44] r=false:=by rw [z1W]; exact z1x hb _
   exact ⟨xs,s,ys,z0a [41] r,by simp [z3A,h1],by simp [z4l,h2],d1,fun h0=>hxy (d3 h0),d2⟩
  | false =>
   have hse:=h.sees hb [[44]] (by decide)
   rw [← z1W] at hse
   cases hs:z0f [[44]] s with
   | false =>
    rw [hs] at hse
    exact ⟨xs,s,ys,z0a [41] r,by simp [z3A,hs],by simp [z4l,hse],d1,fun h0=>hxy (d3 h0),d2⟩
   | true =>
    rw [hs] at hse
    have h2:=z0F h.1 (by simp) hs
    have hp:=h.pop hb h2
    have hpl:=z0k s
    obtain ⟨z,s2,z2,r2,e1,e2,hR2,hz,hlen⟩:=hA _ _ hp (by omega)
    have hsr:s.rest.length=r.rest.length:=by rw [(h.hd hb).2]
    have hr1:=hr hb
    have hp2:=hR2.1.pos
    have hrl:r2.bad=false→r2.rest.length<m:=fun h0=>by
     rw [← (hR2.hd h0).2]
     omega
    obtain ⟨x',s',y',r',e3,e4,hR',hx',hl'⟩:=ih m (xs++[z]) (ys++[z2]) s2 r2 hR2 (fun h0=>by rw [hxy hb,hz h0,List.append_assoc]) (by omega) (by omega) (by omega) hrl
    refine ⟨x',s',y',r',?_,?_,hR',hx',by omega⟩
    ·simp [z3A,hs,e1,e3]
    ·simp [z4l,hse,e2,e4]
theorem z9t {E:P1} {F:R1} {N:Nat} (hA:z2D E F N) (pre:List Ex) (s:PS) (r:RS) (h:z0u s r) (hb:r.bad=false) (hN:s.rest.length≤N) :
  ∃ xs s' ys r',z4k E pre s=some (xs,s')∧z6J F r=some (ys,r')∧z0u s' r'∧(r'.bad=false→xs=pre++ys)∧s'.rest.length≤s.rest.length:=by
 have hse:=h.sees hb [[41]] (by decide)
 rw [← z1W] at hse
 cases hs:z0f [[41]] s with
 | true =>
  rw [hs] at hse
  exact ⟨pre,popP s,[],popR r,by simp [z4k,hs],by simp [z6J,hse],h.pop hb (z0F h.1 (by simp) hs),fun _=>by simp,by rw [z0k]; omega⟩
 | false =>
  rw [hs] at hse
  obtain ⟨x,s1,y,r1,e1,e2,h1,hx,hlen⟩:=hA s r h hN
  obtain ⟨xs,s2,ys,r2,e3,e4,h2,hxs,hl2⟩:=z9x hA pre (s.rest.length+1) (r1.rest.length+1) (pre++[x]) [y] s1 r1 h1 (fun h0=>by rw [hx h0]) (by omega) (by omega) (by omega) (fun _=>by omega)
  exact ⟨xs,z0c [41] s2,ys,r2,by simp [z4k,hs,e1,e3],by simp [z6J,hse,e2,e4],h2,hxs,by omega⟩
theorem z7H {E:P1} {F:R1} {N:Nat} (hA:z2D E F N) (bare:Bool):∀ (n m:Nat) (x y:Ex) (s:PS) (r:RS),z0u s r→(r.bad=false→x=y)→s.rest.length≤N+1→s.rest.length<n→0<m→(r.bad=false→r.rest.length<m) →
  ∃ x' s' y' r',z2d E bare n x s=some (x',s')∧z1J F bare m y r=some (y',r')∧z0u s' r'∧(r'.bad=false→x'=y')∧s'.rest.length≤s.rest.length:=by
 intro n
 induction n with
 | zero=>intro m x y s r _ _ _ h; omega
 | succ n ih =>
  intro m x y s r h hxy hN hn hm hr
  obtain ⟨m,rfl⟩:∃ k,m=k+1:=⟨m - 1,by omega⟩
  cases hb:r.bad with
  | true =>
   have h1:=z1l h.1 (h.end_ hb) [[40]] (by simp)
   have h2:isR [40] r=false:=by rw [z1W]; exact z1x hb _
   refine ⟨x,s,y,r,by simp [z2d,h1],by simp [z1J,h2],h,hxy,Nat.le_refl _⟩
  | false =>
   have hse:=h.sees hb [[40]] (by decide)
   rw [← z1W] at hse
   cases hs:z0f [[40]] s with
   | false =>
    rw [hs] at hse
    exact ⟨x,s,y,r,by simp [z2d,hs],by simp [z1J,hse],h,hxy,Nat.le_refl _⟩
   | true =>
    rw [hs] at hse
    obtain rfl:=hxy hb
    have h2:=z0F h.1 (by simp) hs
    have hp:=h.pop hb h2
    have hpl:=z0k s
    obtain ⟨k,o,a,l,nm,az,rfl⟩:∃ k o a l nm az,x=.mk k o a l nm az:=by
     cases x
     exact ⟨_,_,_,_,_,_,rfl⟩
    obtain ⟨named,hnm⟩:∃ q,q=(bare&&k == 13):=⟨_,rfl⟩
    obtain ⟨xs,s2,ys,r2,e1,e2,hR2,hx2,hlen⟩:=z9t hA (if named then [] else [.mk k o a l nm az]) (popP s) (popR r) hp hb (by omega)
    have hsr:s.rest.length=r.rest.length:=by rw [(h.hd hb).2]
    have hr1:=hr hb
    have hrl:r2.bad=false→r2.rest.length<m:=fun h0=>by
     rw [← (hR2.hd h0).2]
     omega
    have hc:z4e E (.mk k o a l nm az) named s=some (.mk (if named then 9 else 10) 0 0 ((hdT s).line:Int) (if named then nm else ⟨#[]⟩) xs,s2):=by
     simp only [z4e]
     rw [e1]
    have hq:r2.bad=false→Ex.mk (if named then 9 else 10) 0 0 ((hdT s).line:Int) (if named then nm else ⟨#[]⟩) xs=z5m bare (hdR r).line (.mk k o a l nm az) ys:=fun h0=>by
     rw [hx2 h0,(h.hd hb).1]
     by_cases hk:k=13∧bare=true
     ·have:named=true:=by rw [hnm]; simp [hk.1,hk.2]
      subst this
      have hk':(Ex.mk k o a l nm az).kind=13∧bare=true:=hk
      rw [z5m,if_pos hk']
      rfl
     ·have:named=false:=by
       rw [hnm]
       cases bare with
       | false=>rfl
       | true=>simpa using hk
      subst this
      have hk':¬ ((Ex.mk k o a l nm az).kind=13∧bare=true):=hk
      rw [z5m,if_neg hk']
      rfl
    obtain ⟨x',s',y',r',e3,e4,hR',hx',hl'⟩:=ih m _ (z5m bare (hdR r).line (.mk k o a l nm az) ys) s2 r2 hR2 hq (by omega) (by omega) (by have:=hR2.1.pos; omega) hrl
    refine ⟨x',s',y',r',?_,?_,hR',hx',by omega⟩
    ·rw [z2d,if_pos hs,← hnm,hc]
     exact e3
    ·rw [z1J,if_pos hse,e2]
     exact e4
theorem z6S {E:P1} {F:R1} {N:Nat} (hA:z2D E F N) (hB:BadT F):z2D (z2F E) (z2Q F) (N+1):=by
 intro s r h hN
 obtain ⟨x,s1,y,r1,e1,e2,h1,hx,hlen⟩:=z6w hA hB s r h hN
 have hp:=h1.1.pos
 cases hb:r.bad with
 | true =>
  obtain ⟨z,hz⟩:=z5x F r hb
  have hy:r1=r:=by
   rw [z12,if_pos hb] at e2
   injection e2 with e2
   injection e2 with _ e2
   exact e2.symm
  subst hy
  have hs:=z1l h1.1 (h1.end_ hb) [[40]] (by simp)
  refine ⟨x,s1,z,r1,?_,hz,h1,fun h0=>?_,hlen⟩
  ·simp [z2F,e1,z2d,hs]
  ·rw [hb] at h0
   cases h0
 | false =>
  have hk:((hdT s).kind == 1)=decide ((hdR r).kind=1):=by rw [(h.hd hb).1]; rfl
  obtain ⟨x',s',y',r',e3,e4,hR',hx',hl'⟩:=z7H hA (decide ((hdR r).kind=1)) (s.rest.length+1) (r1.rest.length+1) x y s1 r1 h1 hx (by omega) (by omega) (by omega) (fun _=>by omega)
  refine ⟨x',s',y',r',?_,?_,hR',hx',by omega⟩
  ·simp only [z2F]
   rw [e1]
   simp only []
   rw [hk]
   exact e3
  ·simp only [z2Q]
   rw [e2]
   exact e4
theorem z8h {E:P1} {F:R1} {N:Nat} (hA:z2D E F N) (hB:BadT F):∀ (n m:Nat) (s:PS) (r:RS),z0u s r→s.rest.length≤N+1→s.rest.length<n→0<m→(r.bad=false→r.rest.length<m) →
  ∃ x s' y r',z2e E n s=some (x,s')∧z36 F m r=some (y,r')∧z0u s' r'∧(r'.bad=false→x=y)∧s'.rest.length≤s.rest.length:=by
 intro n
 induction n with
 | zero=>intro m s r _ _ h; omega
 | succ n ih =>
  intro m s r h hN hn hm hr
  obtain ⟨m,rfl⟩:∃ k,m=k+1:=⟨m - 1,by omega⟩
  obtain ⟨cx,cs,cy,cr,c1,c2,c3,c4,c5⟩:=z6S hA hB s r h hN
  cases hb:r.bad with
  | true =>
   have h1:=z1l h.1 (h.end_ hb) [[45]] (by simp)
   have h2:=z1l h.1 (h.end_ hb) [[33]] (by simp)
   exact ⟨cx,cs,cy,cr,by simp [z2e,h1,h2,c1],by simp [z36,z1x hb,c2],c3,c4,c5⟩
  | false =>
   have hh:=(h.hd hb).1
   have hse:=h.sees hb [[45],[33]] (by decide)
   have hsr:s.rest.length=r.rest.length:=by rw [(h.hd hb).2]
   have hr1:=hr hb
   have hpl:=z0k s
   cases hs:z0f [[45],[33]] s with
   | false =>
    rw [hs] at hse
    have h1:z0f [[45]] s=false:=by
     simp only [z0f,List.contains_cons,List.contains_nil,Bool.or_eq_false_iff] at hs ⊢
     exact ⟨hs.1,trivial⟩
    have h2:z0f [[33]] s=false:=by
     simp only [z0f,List.contains_cons,List.contains_nil,Bool.or_eq_false_iff] at hs ⊢
     exact ⟨hs.2.1,trivial⟩
    exact ⟨cx,cs,cy,cr,by simp [z2e,h1,h2,c1],by simp [z36,hse,c2],c3,c4,c5⟩
   | true =>
    rw [hs] at hse
    have h2:=z0F h.1 (by simp) hs
    have hp:=h.pop hb h2
    obtain ⟨z,s2,z2,r2,e1,e2,hR2,hz,hlen⟩:=ih m (popP s) (popR r) hp (by omega) (by omega) (by omega) (fun _=>by rw [z0o]; omega)
    by_cases ht:(hdT s).text=[45]
    ·have h1:z0f [[45]] s=true:=by simp [z0f,ht]
     have hu:unO (hdR r).text=1:=by rw [← hh,ht]; rfl
     refine ⟨.mk 5 1 0 ((hdT s).line:Int) ⟨#[]⟩ [z],s2,.mk 5 (unO (hdR r).text) 0 ((hdR r).line:Int) ⟨#[]⟩ [z2],r2,?_,?_,hR2,fun h0=>by rw [hu,hh,hz h0],by omega⟩
     ·simp [z2e,h1,e1]
     ·simp [z36,hse,e2]
    ·have ht2:(hdT s).text=[33]:=by
      simp only [z0f,List.contains_iff_mem,List.mem_cons,List.not_mem_nil,or_false] at hs
      exact hs.resolve_left ht
     have h1:z0f [[45]] s=false:=by simp [z0f,ht2]
     have h3:z0f [[33]] s=true:=by simp [z0f,ht2]
     have hu:unO (hdR r).text=2:=by rw [← hh,ht2]; rfl
     refine ⟨.mk 5 2 0 ((hdT s).line:Int) ⟨#[]⟩ [z],s2,.mk 5 (unO (hdR r).text) 0 ((hdR r).line:Int) ⟨#[]⟩ [z2],r2,?_,?_,hR2,fun h0=>by rw [hu,hh,hz h0],by omega⟩
     ·simp [z2e,h1,h3,e1]
     ·simp [z36,hse,e2]
theorem z7v {E:P1} {F:R1} {N:Nat} (hA:z2D E F N) (hB:BadT F):z2D (zbO E) (z5j F) (N+1):=by
 intro s r h hN
 have hp:=h.1.pos
 exact z8h hA hB (s.rest.length+1) (r.rest.length+1) s r h hN (by omega) (by omega) (fun _=>by omega)
theorem z9k:∀ d,z2D (z4f d) (z66 (d+1)) d:=by
 intro d
 induction d with
 | zero =>
  intro s r h hN
  have:=h.1.pos
  omega
 | succ d ih =>
  intro s r h hN
  exact z2T (z2T (z9D (z2T (z2T (z7v ih (z4E d)) [[42],[47],[37]] (by decide)) [[43],[45]] (by decide)) [[60],[60,61],[61,61],[33,61]] (by decide)) [[38,38]] (by decide)) [[124,124]] (by decide) s r h hN
theorem z9K (n:Nat):∀ (l:z09) (line:Nat) (ts:List Tok),l.length≤n→1≤line→scan line l=.ok ts→∀ t∈ts,1≤t.line:=by
 induction n with
 | zero =>
  intro l line ts hl h1 h t ht
  have:l=[]:=List.eq_nil_of_length_eq_zero (by omega)
  subst this
  rw [scan] at h
  injection h with h
  subst h
  rw [List.mem_singleton] at ht
  subst ht
  exact h1
 | succ n ih =>
  intro l line ts hl h1 h
  match l with
  | [] =>
   rw [scan] at h
   injection h with h
   subst h
   intro t ht
   rw [List.mem_singleton] at ht
   subst ht
   exact h1
  | c :: r =>
   simp only [List.length_cons] at hl
   rw [scan] at h
   split at h
   ·exact ih _ _ _ (by omega) (by omega) h
   split at h
   ·exact ih _ _ _ (by omega) h1 h
   split at h
   ·refine ih _ _ _ ?_ h1 h
    have:=List.Sublist.length_le (List.dropWhile_sublist (fun x:UInt8=>decide (x.toNat≠10)) (l:=r))
    omega
   split at h
   ·cases h
   split at h
   ·cases h
   rename_i us hus
   injection h with h
   subst h
   intro t ht
   rcases List.mem_cons.1 ht with rfl | ht
   ·exact h1
   ·exact ih _ _ _ (by simp; omega) h1 hus t ht
theorem zbj {l:z09} {ts:List Tok} (h:scan 1 l=.ok ts):z0u ⟨ts,0,0⟩ ⟨ts,false,0⟩:=by
 refine ⟨z6H h,z9K l.length l 1 ts (Nat.le_refl _) (Nat.le_refl _) h,rfl,.inl ⟨rfl,rfl,rfl,fun t ht hk=>?_⟩⟩
 obtain ⟨toks,e,rfl,hok⟩:=z7k l.length l 1 ts (Nat.le_refl _) h
 rcases List.mem_append.1 ht with ht | ht
 ·exact hok t ht
 ·rw [List.mem_singleton] at ht
  subst ht
  exact absurd rfl hk
end Go.Proofs.YtjpojmigghbnpaaGreatDoor
namespace Go.Proofs.YtjpojmigghbnpaaGreatDoor
open Go.RowKit
theorem z0u.same {s:PS} {r:RS} (h:z0u s r) (t:z09) (ht:isS t=true∨isW t=true):isR t r=z0f [t] s:=by
 cases hb:r.bad with
 | true =>
  rw [z1W,z1x hb,z1l h.1 (h.end_ hb) [t] (z5J ht)]
 | false =>
  rw [z1W]
  exact h.sees hb [t] (by simpa using ht)
theorem z0u.took {s:PS} {r:RS} (h:z0u s r) (t:z09) (ht:isS t=true∨isW t=true) (hs:z0f [t] s=true):r.bad=false∧z0u (popP s) (popR r)∧(popP s).rest.length<s.rest.length:=by
 have hb:r.bad=false:=by
  cases hb:r.bad with
  | false=>rfl
  | true =>
   rw [z1l h.1 (h.end_ hb) [t] (z5J ht)] at hs
   cases hs
 have h2:=z0F h.1 (z5J ht) hs
 exact ⟨hb,h.pop hb h2,by rw [z0k]; omega⟩
theorem z6K {r:RS} (h:r.bad=true):badR r=r:=by
 cases r
 simp only [badR] at h ⊢
 rw [h]
theorem z4X {r:RS} (t:z09) (h:r.bad=true):z0a t r=r:=by
 have:isR t r=false:=by rw [z1W]; exact z1x h _
 simp [z0a,this,z6K h]
theorem z52 {r:RS} (k:Nat) (h:r.bad=true):z03 k r=(noT,r):=by simp [z03,h,z6K h]
theorem z54 {s:PS} {r:RS} (h:z0u s r) (k:Nat) (hk:k≠0) (hb:(z03 k r).2.bad=false):(z05 k s).2.rest.length<s.rest.length∧r.bad=false:=by
 cases hr:r.bad with
 | true =>
  rw [z52 k hr] at hb
  rw [hr] at hb
  cases hb
 | false =>
  have hh:=(h.hd hr).1
  have hkk:(hdR r).kind=k:=by
   rcases Classical.em ((hdR r).kind=k) with hq | hq
   ·exact hq
   ·simp [z03,hq,badR] at hb
  have e1:z05 k s=(hdT s,popP s):=by simp [z05,hh,hkk]
  have h2:=WFt.two h.1 (.inr (by rw [hh,hkk]; exact hk))
  rw [e1,z0k]
  exact ⟨by omega,rfl⟩
theorem z5k {E:P1} {F:R1} {N:Nat} (hA:z2D E F N):z2D (z1Q E) (z1R F) N:=by
 intro s r h hN
 obtain ⟨x,s1,y,r1,e1,e2,h1,hx,hl⟩:=hA s r h hN
 obtain ⟨d1,d2,d3⟩:=z0x h1 [59] (by decide)
 exact ⟨x,z0c [59] s1,y,z0a [59] r1,by simp [z1Q,e1],by simp [z1R,e2],d1,fun h0=>hx (d3 h0),by omega⟩
theorem zbS {F:R1} (hB:BadT F):BadT (z1R F):=fun r hb=>by
 obtain ⟨y,hy⟩:=hB r hb
 exact ⟨y,by simp [z1R,hy,z4X _ hb]⟩
theorem z7K (N:Nat):z2D zay z9i N:=by
 intro s r h hN
 obtain ⟨x,s',y,r',e1,e2,h1,hx,hl⟩:=z9k s.rest.length s r h (Nat.le_refl _)
 cases hb:r.bad with
 | false =>
  have hq:s.rest.length=r.rest.length:=by rw [(h.hd hb).2]
  exact ⟨x,s',y,r',e1,by unfold z9i; rw [← hq]; exact e2,h1,hx,hl⟩
 | true =>
  obtain ⟨y1,hy1⟩:=z4E s.rest.length r hb
  obtain ⟨y2,hy2⟩:=z4E r.rest.length r hb
  rw [hy1] at e2
  injection e2 with e2
  injection e2 with _ e3
  subst e3
  exact ⟨x,s',y2,r,e1,hy2,h1,(fun h0=>by rw [hb] at h0; cases h0),hl⟩
theorem zax:BadT z9i:=fun r hb=>z4E r.rest.length r hb
def AgrS (S:PS1) (T:RS1) (N:Nat):Prop:=∀ s r,z0u s r→s.rest.length≤N→∃ x s' y r',S s=some (x,s')∧T r=some (y,r')∧z0u s' r'∧(r'.bad=false→x=y)∧s'.rest.length≤s.rest.length∧(r'.bad=false→s'.rest.length<s.rest.length)
def AgrB (B:PSL) (C:RSL) (N:Nat):Prop:=∀ s r,z0u s r→s.rest.length≤N→∃ x s' y r',B s=some (x,s')∧C r=some (y,r')∧z0u s' r'∧(r'.bad=false→x=y)∧s'.rest.length≤s.rest.length
def BadB (C:RSL):Prop:=∀ r,r.bad=true→∃ y,C r=some (y,r)
theorem z0u.ref0 {s:PS} {r:RS} (h:z0u s r):(s.ref=0) ↔ (r.bad=false):=by
 obtain ⟨_,_,_,h | h⟩:=h
 ·exact ⟨fun _=>h.1,fun _=>h.2.1⟩
 ·exact ⟨fun e=>by omega,fun e=>by rw [h.1] at e; cases e⟩
theorem z8f {S:PS1} {T:RS1} {N:Nat} (hA:AgrS S T N):∀ (n m:Nat) (xs ys:List St) (s:PS) (r:RS),z0u s r→(r.bad=false→xs=ys)→s.rest.length≤N→(r.bad=false→s.rest.length<n)→0<n→(r.bad=false→r.rest.length<m)→0<m →
  ∃ xs' s' ys' r',z3m S n xs s=some (xs',s')∧z3n T m ys r=some (ys',r')∧z0u s' r'∧(r'.bad=false→xs'=ys')∧s'.rest.length≤s.rest.length:=by
 intro n
 induction n with
 | zero=>intro m xs ys s r _ _ _ _ h; omega
 | succ n ih =>
  intro m xs ys s r h hxy hN hn _ hr hm
  obtain ⟨m,rfl⟩:∃ k,m=k+1:=⟨m - 1,by omega⟩
  have hse:=h.same [125] (by decide)
  have h0:=h.ref0
  cases hb:r.bad with
  | true =>
   have hs:=z1l h.1 (h.end_ hb) [[125]] (by simp)
   have hrf:¬ s.ref=0:=fun e=>by rw [h0.1 e] at hb; cases hb
   exact ⟨xs,s,ys,r,by simp [z3m,hs,hrf],by simp [z3n,hb],h,hxy,Nat.le_refl _⟩
  | false =>
   have hrf:=h0.2 hb
   cases hs:z0f [[125]] s with
   | true =>
    rw [hs] at hse
    have ht:=h.took [125] (by decide) hs
    exact ⟨xs,popP s,ys,popR r,by simp [z3m,hs],by simp [z3n,hb,hse],ht.2.1,fun _=>hxy hb,Nat.le_of_lt ht.2.2⟩
   | false =>
    rw [hs] at hse
    obtain ⟨x,s1,y,r1,e1,e2,h1,hx,hl,hlt⟩:=hA s r h hN
    have hp:=h.1.pos
    have hsr:s.rest.length=r.rest.length:=by rw [(h.hd hb).2]
    have hn1:=hn hb
    have hr1:=hr hb
    obtain ⟨xs',s',ys',r',e3,e4,h2,hx2,hl2⟩:=ih m (xs++[x]) (ys++[y]) s1 r1 h1 (fun hq=>by rw [hxy hb,hx hq]) (by omega) (fun hq=>by have:=hlt hq; omega) (by omega) (fun hq=>by
     have:=hlt hq
     have:s1.rest.length=r1.rest.length:=by rw [(h1.hd hq).2]
     omega) (by omega)
    exact ⟨xs',s',ys',r',by simp [z3m,hs,hrf,e1,e3],by simp [z3n,hb,hse,e2,e4],h2,hx2,by omega⟩
theorem z4T {S:PS1} {T:RS1} {N:Nat} (hA:AgrS S T N):AgrB (z3B S) (z3C T) N:=by
 intro s r h hN
 obtain ⟨d1,d2,d3⟩:=z0x h [123] (by decide)
 obtain ⟨xs',s',ys',r',e3,e4,h2,hx2,hl2⟩:=z8f hA ((z0c [123] s).rest.length+1) ((z0a [123] r).rest.length+1) [] [] _ _ d1 (fun _=>rfl) (by omega) (fun _=>by omega) (by omega) (fun _=>by omega) (by omega)
 exact ⟨xs',s',ys',r',e3,e4,h2,hx2,by omega⟩
theorem z6O (T:RS1):BadB (z3C T):=fun r hb=>by
 refine ⟨[],?_⟩
 unfold z3C
 rw [z4X _ hb]
 simp [z3n,hb]
theorem z3W {F:R1} (hF:BadT F) {r r':RS} {y:Ex} (h:F r=some (y,r')) (hb:r'.bad=false):r.bad=false:=by
 cases hr:r.bad with
 | false=>rfl
 | true =>
  obtain ⟨z,hz⟩:=hF r hr
  rw [hz] at h
  injection h with h
  injection h with _ h
  rw [← h,hr] at hb
  cases hb
theorem z3w {C:RSL} (hC:BadB C) {r r':RS} {y:List St} (h:C r=some (y,r')) (hb:r'.bad=false):r.bad=false:=by
 cases hr:r.bad with
 | false=>rfl
 | true =>
  obtain ⟨z,hz⟩:=hC r hr
  rw [hz] at h
  injection h with h
  injection h with _ h
  rw [← h,hr] at hb
  cases hb
theorem z3i {E:P1} {F:R1} {N:Nat} (hA:z2D E F N) (k:Int) (l1 l2:Int) (n1 n2:ByteArray) {s:PS} {r:RS} (h:z0u s r) (hN:s.rest.length≤N):∃ x s' y r',oneP k l1 n1 (z1Q E) s=some (.mk k l1 n1 [x] [] [],s')∧oneR k l2 n2 (z1R F) r=some (.mk k l2 n2 [y] [] [],r')∧z0u s' r'∧(r'.bad=false→x=y)∧s'.rest.length≤s.rest.length∧z1R F r=some (y,r'):=by
 obtain ⟨x,s',y,r',e1,e2,h1,hx,hl⟩:=z5k hA s r h hN
 exact ⟨x,s',y,r',by simp [oneP,e1],by simp [oneR,e2],h1,hx,hl,e2⟩
set_option maxRecDepth 10000 in
theorem z9R {B:PSL} {C:RSL} {E:P1} {F:R1} {N:Nat} (hE:z2D E F (N+1)) (hF:BadT F) (hBk:AgrB B C N) (hC:BadB C):AgrS (z3O B E) (z4r C F) (N+1):=by
 intro s r h hN
 have hV:=zbS hF
 have i1:isR varW r=z0f [wVar] s:=h.same varW (by decide)
 have i2:isR ifW r=z0f [wIf] s:=h.same ifW (by decide)
 have i3:isR z5W r=z0f [z5U] s:=h.same z5W (by decide)
 have i4:isR z4o r=z0f [z4s] s:=h.same z4o (by decide)
 have i5:isR z5N r=z0f [z5T] s:=h.same z5N (by decide)
 have i6:isR z9b r=z0f [z9W] s:=h.same z9b (by decide)
 cases q1:z0f [wVar] s with
 | true =>
  rw [q1] at i1
  obtain ⟨hb,hp,hpl⟩:=h.took varW (by decide) q1
  obtain ⟨k1,k2,k3⟩:=z1G hp 1 (by decide)
  obtain ⟨d1,d2,d3⟩:=z0x k1 [61] (by decide)
  obtain ⟨x,s',y,r',e1,e2,h1,hx,hl,e3⟩:=z3i hE 1 ((hdT s).line:Int) ((hdR r).line:Int) (nmB (z05 1 (popP s)).1.text) (nmB (z03 1 (popR r)).1.text) d1 (by omega)
  refine ⟨_,s',_,r',by simp only [z3O,q1,if_true]; exact e1,by simp only [z4r,i1,if_true]; exact e2,h1,fun h0=>?_,by omega,fun _=>by omega⟩
  rw [hx h0,(h.hd hb).1,k3 (d3 (z3W hV e3 h0))]
 | false =>
  rw [q1] at i1
  cases q2:z0f [wIf] s with
  | true =>
   rw [q2] at i2
   obtain ⟨hb,hp,hpl⟩:=h.took ifW (by decide) q2
   obtain ⟨x,s1,y,r1,e1,e2,h1,hx,hl⟩:=hE _ _ hp (by omega)
   obtain ⟨t,s2,u,r2,b1,b2,h2,ht,hl2⟩:=hBk _ _ h1 (by omega)
   have hx2:r2.bad=false→x=y:=fun h0=>hx (z3w hC b2 h0)
   have ie:isR z65 r2=z0f [z6G] s2:=h2.same z65 (by decide)
   cases q3:z0f [z6G] s2 with
   | true =>
    rw [q3] at ie
    obtain ⟨hb2,hp2,hpl2⟩:=h2.took z65 (by decide) q3
    obtain ⟨t3,s3,u3,r3,b3,b4,h3,ht3,hl3⟩:=hBk _ _ hp2 (by omega)
    refine ⟨.mk 4 ((hdT s).line:Int) ⟨#[]⟩ [x] t t3,s3,.mk 4 ((hdR r).line:Int) ⟨#[]⟩ [y] u u3,r3,?_,?_,h3,fun h0=>?_,by omega,fun _=>by omega⟩
    ·simp [z3O,q1,q2,z2p,e1,b1,q3,b3]
    ·simp [z4r,i1,i2,e2,b2,ie,b4]
    ·rw [hx2 hb2,(h.hd hb).1,ht hb2,ht3 h0]
   | false =>
    rw [q3] at ie
    refine ⟨.mk 4 ((hdT s).line:Int) ⟨#[]⟩ [x] t [],s2,.mk 4 ((hdR r).line:Int) ⟨#[]⟩ [y] u [],r2,?_,?_,h2,fun h0=>?_,by omega,fun _=>by omega⟩
    ·simp [z3O,q1,q2,z2p,e1,b1,q3]
    ·simp [z4r,i1,i2,e2,b2,ie]
    ·rw [hx2 h0,(h.hd hb).1,ht h0]
  | false =>
   rw [q2] at i2
   cases q3:z0f [z5U] s with
   | true =>
    rw [q3] at i3
    obtain ⟨hb,hp,hpl⟩:=h.took z5W (by decide) q3
    obtain ⟨x,s1,y,r1,e1,e2,h1,hx,hl⟩:=hE _ _ hp (by omega)
    obtain ⟨t,s2,u,r2,b1,b2,h2,ht,hl2⟩:=hBk _ _ h1 (by omega)
    have hx2:r2.bad=false→x=y:=fun h0=>hx (z3w hC b2 h0)
    refine ⟨.mk 5 ((hdT s).line:Int) ⟨#[]⟩ [x] t [],s2,.mk 5 ((hdR r).line:Int) ⟨#[]⟩ [y] u [],r2,?_,?_,h2,fun h0=>?_,by omega,fun _=>by omega⟩
    ·simp [z3O,q1,q2,q3,z2p,e1,b1]
    ·simp [z4r,i1,i2,i3,e2,b2]
    ·rw [hx2 h0,(h.hd hb).1,ht h0]
   | false =>
    rw [q3] at i3
    cases q4:z0f [z4s] s with
    | true =>
     rw [q4] at i4
     obtain ⟨hb,hp,hpl⟩:=h.took z4o (by decide) q4
     obtain ⟨x,s',y,r',e1,e2,h1,hx,hl,e3⟩:=z3i hE 6 ((hdT s).line:Int) ((hdR r).line:Int) ⟨#[]⟩ ⟨#[]⟩ hp (by omega)
     refine ⟨_,s',_,r',by simp [z3O,q1,q2,q3,q4]; exact e1,by simp [z4r,i1,i2,i3,i4]; exact e2,h1,fun h0=>?_,by omega,fun _=>by omega⟩
     rw [hx h0,(h.hd hb).1]
    | false =>
     rw [q4] at i4
     cases q5:z0f [z5T] s with
     | true =>
      rw [q5] at i5
      obtain ⟨hb,hp,hpl⟩:=h.took z5N (by decide) q5
      obtain ⟨x,s',y,r',e1,e2,h1,hx,hl,e3⟩:=z3i hE 7 ((hdT s).line:Int) ((hdR r).line:Int) ⟨#[]⟩ ⟨#[]⟩ hp (by omega)
      refine ⟨_,s',_,r',by simp [z3O,q1,q2,q3,q4,q5]; exact e1,by simp [z4r,i1,i2,i3,i4,i5]; exact e2,h1,fun h0=>?_,by omega,fun _=>by omega⟩
      rw [hx h0,(h.hd hb).1]
     | false =>
      rw [q5] at i5
      cases q6:z0f [z9W] s with
      | true =>
       rw [q6] at i6
       obtain ⟨hb,hp,hpl⟩:=h.took z9b (by decide) q6
       obtain ⟨x,s',y,r',e1,e2,h1,hx,hl,e3⟩:=z3i hE 8 ((hdT s).line:Int) ((hdR r).line:Int) ⟨#[]⟩ ⟨#[]⟩ hp (by omega)
       refine ⟨_,s',_,r',by simp [z3O,q1,q2,q3,q4,q5,q6]; exact e1,by simp [z4r,i1,i2,i3,i4,i5,i6]; exact e2,h1,fun h0=>?_,by omega,fun _=>by omega⟩
       rw [hx h0,(h.hd hb).1]
      | false =>
       rw [q6] at i6
       obtain ⟨k1,k2,k3⟩:=z1G h 1 (by decide)
       have hks:=z54 h 1 (by decide)
       have ib:isR [91] (z03 1 r).2=z0f [[91]] (z05 1 s).2:=k1.same [91] (by decide)
       cases q7:z0f [[91]] (z05 1 s).2 with
       | true =>
        rw [q7] at ib
        obtain ⟨hb,hp,hpl⟩:=k1.took [91] (by decide) q7
        obtain ⟨x,s1,y,r1,e1,e2,h1,hx,hl⟩:=hE _ _ hp (by omega)
        obtain ⟨c1,c2,c3⟩:=z0x h1 [93] (by decide)
        obtain ⟨d1,d2,d3⟩:=z0x c1 [61] (by decide)
        obtain ⟨x2,s2,y2,r2,f1,f2,h2,hx2,hl2⟩:=z5k hE _ _ d1 (by omega)
        refine ⟨.mk 3 ((hdT s).line:Int) (nmB (z05 1 s).1.text) [x,x2] [] [],s2,.mk 3 ((hdR r).line:Int) (nmB (z03 1 r).1.text) [y,y2] [] [],r2,?_,?_,h2,fun h0=>?_,by omega,fun _=>by have:=(hks hb).1; omega⟩
        ·simp [z3O,q1,q2,q3,q4,q5,q6,z3G,q7,e1,f1]
        ·simp [z4r,i1,i2,i3,i4,i5,i6,ib,e2,f2]
        ·rw [hx2 h0,hx (c3 (d3 (z3W hV f2 h0))),k3 hb,(h.hd (hks hb).2).1]
       | false =>
        rw [q7] at ib
        obtain ⟨d1,d2,d3⟩:=z0x k1 [61] (by decide)
        obtain ⟨x,s',y,r',e1,e2,h1,hx,hl,e3⟩:=z3i hE 2 ((hdT s).line:Int) ((hdR r).line:Int) (nmB (z05 1 s).1.text) (nmB (z03 1 r).1.text) d1 (by omega)
        refine ⟨_,s',_,r',by simp [z3O,q1,q2,q3,q4,q5,q6,z3G,q7]; exact e1,by simp [z4r,i1,i2,i3,i4,i5,i6,ib]; exact e2,h1,fun h0=>?_,by omega,fun h0=>?_⟩
        ·have hkb:=d3 (z3W hV e3 h0)
         rw [hx h0,k3 hkb,(h.hd (hks hkb).2).1]
        ·have hkb:=d3 (z3W hV e3 h0)
         have:=(hks hkb).1
         omega
theorem z5i:∀ d,AgrS (z5h d) (z7p d) d
 | 0=>by
  intro s r h hN
  have:=h.1.pos
  omega
 | d+1=>z9R (z7K _) zax (z4T (z5i d)) (z6O _)
end Go.Proofs.YtjpojmigghbnpaaGreatDoor
namespace Go.Proofs.YtjpojmigghbnpaaGreatDoor
open Go.RowKit
theorem z3R {s:PS} {r:RS} (h:z0u s r) (t:z09) (ht:isS t=true∨isW t=true) (hb:(z0a t r).bad=false):(z0c t s).rest.length<s.rest.length∧r.bad=false:=by
 cases hs:z0f [t] s with
 | true =>
  obtain ⟨h1,_,h3⟩:=h.took t ht hs
  have e:z0c t s=popP s:=by simp [z0c,hs]
  rw [e]
  exact ⟨h3,h1⟩
 | false =>
  have hi:isR t r=false:=by rw [h.same t ht]; exact hs
  have e:z0a t r=badR r:=by simp [z0a,hi]
  rw [e] at hb
  simp [badR] at hb
theorem z7a:∀ (n m:Nat) (xs ys:List ByteArray) (s:PS) (r:RS),z0u s r→(r.bad=false→xs=ys)→(r.bad=false→s.rest.length<n)→0<n→(r.bad=false→r.rest.length<m)→0<m →
  ∃ ps s1 qs r',z1N n xs s=some (ps,s1)∧z29 m ys r=some (qs,r')∧z0u (z0c [41] s1) r'∧(r'.bad=false→ps=qs∧r.bad=false)∧(z0c [41] s1).rest.length≤s.rest.length:=by
 intro n
 induction n with
 | zero=>intro m xs ys s r _ _ _ h; omega
 | succ n ih =>
  intro m xs ys s r h hxy hn _ hr hm
  obtain ⟨m,rfl⟩:∃ k,m=k+1:=⟨m - 1,by omega⟩
  have hse:=h.same [44] (by decide)
  cases hs:z0f [[44]] s with
  | true =>
   rw [hs] at hse
   obtain ⟨hb,hp,hpl⟩:=h.took [44] (by decide) hs
   obtain ⟨k1,k2,k3⟩:=z1G hp 1 (by decide)
   have hsr:s.rest.length=r.rest.length:=by rw [(h.hd hb).2]
   have hn1:=hn hb
   have hr1:=hr hb
   have hpos:=k1.1.pos
   obtain ⟨ps,s1,qs,r',e1,e2,h1,h2,h3⟩:=ih m (xs++[nmB (z05 1 (popP s)).1.text]) (ys++[nmB (z03 1 (popR r)).1.text]) _ _ k1 (fun hq=>by rw [hxy hb,k3 hq]) (fun hq=>by omega) (by omega) (fun hq=>by
    have:(z05 1 (popP s)).2.rest.length=(z03 1 (popR r)).2.rest.length:=by rw [(k1.hd hq).2]
    omega) (by omega)
   exact ⟨ps,s1,qs,r',by simp [z1N,hs,e1],by simp [z29,hse,e2],h1,fun hq=>⟨(h2 hq).1,hb⟩,by omega⟩
  | false =>
   rw [hs] at hse
   obtain ⟨d1,d2,d3⟩:=z0x h [41] (by decide)
   exact ⟨xs,s,ys,z0a [41] r,by simp [z1N,hs],by simp [z29,hse],d1,fun hq=>⟨hxy (d3 hq),d3 hq⟩,d2⟩
theorem z7b {s:PS} {r:RS} (h:z0u s r):∃ ps s' qs r',z2X s=some (ps,s')∧z2Y r=some (qs,r')∧z0u s' r'∧(r'.bad=false→ps=qs∧r.bad=false)∧s'.rest.length≤s.rest.length:=by
 have hse:=h.same [41] (by decide)
 cases hs:z0f [[41]] s with
 | true =>
  rw [hs] at hse
  obtain ⟨hb,hp,hpl⟩:=h.took [41] (by decide) hs
  exact ⟨[],popP s,[],popR r,by simp [z2X,hs],by simp [z2Y,hse],hp,fun _=>⟨rfl,hb⟩,by omega⟩
 | false =>
  rw [hs] at hse
  obtain ⟨k1,k2,k3⟩:=z1G h 1 (by decide)
  obtain ⟨ps,s1,qs,r',e1,e2,h1,h2,h3⟩:=z7a (s.rest.length+1) ((z03 1 r).2.rest.length+1) [nmB (z05 1 s).1.text] [nmB (z03 1 r).1.text] _ _ k1 (fun hq=>by rw [k3 hq]) (fun _=>by omega) (by omega) (fun _=>by omega) (by omega)
  refine ⟨ps,z0c [41] s1,qs,r',by simp [z2X,hs,e1],by simp [z2Y,hse,e2],h1,fun hq=>⟨(h2 hq).1,?_⟩,by omega⟩
  have:=(h2 hq).2
  cases hb:r.bad with
  | false=>rfl
  | true =>
   rw [z52 1 hb] at this
   rw [hb] at this
   cases this
theorem z5q {B:PSL} {C:RSL} {N:Nat} (hB:AgrB B C N) (hC:BadB C) {s:PS} {r:RS} (h:z0u s r) (hN:s.rest.length≤N):∃ f s' g r',z1M B s=some (f,s')∧z25 C (z0a z5o r)=some (g,r')∧z0u s' r'∧(r'.bad=false→f={ g with line:=((hdR r).line:Int) })∧s'.rest.length≤s.rest.length∧(r'.bad=false→s'.rest.length<s.rest.length):=by
 obtain ⟨d1,d2,d3⟩:=z0x h z2I (by decide)
 obtain ⟨k1,k2,k3⟩:=z1G d1 1 (by decide)
 obtain ⟨c1,c2,c3⟩:=z0x k1 [40] (by decide)
 obtain ⟨ps,s1,qs,r1,e1,e2,h1,h2,h3⟩:=z7b c1
 obtain ⟨b,s2,b',r2,f1,f2,h4,h5,h6⟩:=hB _ _ h1 (by omega)
 have hd:r2.bad=false→(z03 1 (z0a z2I r)).2.bad=false:=fun hq=>c3 (h2 (z3w hC f2 hq)).2
 have hk:r2.bad=false→(z0a z2I r).bad=false:=fun hq=>(z54 d1 1 (by decide) (hd hq)).2
 refine ⟨⟨nmB (z05 1 (z0c z2I s)).1.text,((hdT s).line:Int),ps,b⟩,s2,⟨nmB (z03 1 (z0a z5o r)).1.text,0,qs,b'⟩,r2,?_,?_,h4,fun hq=>?_,by omega,fun hq=>?_⟩
 ·simp [z1M,e1,f1]
 ·have e2':z2Y (z0a [40] (z03 1 (z0a z5o r)).2)=some (qs,r1):=e2
  simp [z25,e2',f2]
 ·have hb:=(z3R h z2I (by decide) (hk hq)).2
  have hnm:(z05 1 (z0c z2I s)).1=(z03 1 (z0a z5o r)).1:=k3 (hd hq)
  rw [hnm,(h2 (z3w hC f2 hq)).1,h5 hq,(h.hd hb).1]
 ·have:=(z3R h z2I (by decide) (hk hq)).1
  omega
theorem zcr {s:PS} {r:RS} (h:z0u s r) (k:Nat) (hk:k≠0) (hb:(z03 k r).2.bad=true):(z05 k s).1=noT∨(z03 k r).1=(z05 k s).1:=by
 cases hr:r.bad with
 | true =>
  have h0:¬ (hdT s).kind=k:=by rw [h.kind0 hr]; exact fun e=>hk e.symm
  exact .inl (by simp [z05,h0])
 | false =>
  have hh:=(h.hd hr).1
  by_cases hq:(hdT s).kind=k
  ·have e2:z03 k r=(hdR r,popR r):=by simp [z03,hr,← hh,hq]
   rw [e2] at hb
   have:r.bad=true:=hb
   rw [hr] at this
   cases this
  ·exact .inl (by simp [z05,hq])
theorem z0u.setout {s:PS} {r:RS} (h:z0u s r) (n:Nat):z0u { s with out:=n } { r with wrong:=n }:=⟨h.1,h.2.1,rfl,h.2.2.2⟩
theorem z9M {s:PS} {r:RS} (h:z0u s r):z0u (z38 s).2 (z1C (z03 2 r).1 (z03 2 r).2)∧(z38 s).2.rest.length≤s.rest.length∧((z1C (z03 2 r).1 (z03 2 r).2).bad=false→(z38 s).1=((z03 2 r).1.value:Int)∧(z03 2 r).2.bad=false):=by
 obtain ⟨k1,k2,k3⟩:=z1G h 2 (by decide)
 have hbd:(z1C (z03 2 r).1 (z03 2 r).2).bad=(z03 2 r).2.bad:=by
  unfold z1C
  split <;> rfl
 have hln:(z38 s).2.rest.length=(z05 2 s).2.rest.length:=by
  show (outP (z05 2 s).1 (z05 2 s).2).rest.length=_
  unfold outP
  split <;> rfl
 refine ⟨?_,by omega,fun hq=>?_⟩
 ·show z0u (outP (z05 2 s).1 (z05 2 s).2) _
  have hout:(z05 2 s).2.out=(z03 2 r).2.wrong:=k1.2.2.1
  cases hb:(z03 2 r).2.bad with
  | true =>
   have e1:z1C (z03 2 r).1 (z03 2 r).2=(z03 2 r).2:=by simp [z1C,hb]
   rw [e1]
   rcases zcr h 2 (by decide) hb with hn | hn
   ·have e2:outP (z05 2 s).1 (z05 2 s).2=(z05 2 s).2:=by
     rw [hn]
     unfold outP
     split
     ·rename_i hc
      have:noT.line=(z05 2 s).2.out:=by rw [hc.1]; rfl
      rw [this]
     ·rfl
    rw [e2]
    exact k1
   ·have hn0:(z03 2 r).1=noT:=by
     cases hr:r.bad with
     | true=>rw [z52 2 hr]
     | false =>
      by_cases hq:(hdR r).kind=2
      ·have e2:z03 2 r=(hdR r,popR r):=by simp [z03,hr,hq]
       rw [e2] at hb
       have:r.bad=true:=hb
       rw [hr] at this
       cases this
      ·simp [z03,hq]
    rw [hn0] at hn
    have e2:outP (z05 2 s).1 (z05 2 s).2=(z05 2 s).2:=by
     rw [← hn]
     unfold outP
     split
     ·rename_i hc
      have:noT.line=(z05 2 s).2.out:=by rw [hc.1]; rfl
      rw [this]
     ·rfl
    rw [e2]
    exact k1
  | false =>
   have ht:=k3 hb
   rw [ht]
   generalize (z03 2 r).1=t
   by_cases hc:(z05 2 s).2.out=0∧(t.value<1∨1024<t.value)
   ·have e1:outP t (z05 2 s).2={ (z05 2 s).2 with out:=t.line }:=by unfold outP; rw [if_pos hc]
    have e2:z1C t (z03 2 r).2={ (z03 2 r).2 with wrong:=t.line }:=by unfold z1C; rw [if_pos ⟨hb,hc.2,by rw [← hout]; exact hc.1⟩]
    rw [e1,e2]
    exact k1.setout _
   ·have e1:outP t (z05 2 s).2=(z05 2 s).2:=by unfold outP; rw [if_neg hc]
    have e2:z1C t (z03 2 r).2=(z03 2 r).2:=by unfold z1C; rw [if_neg (fun hx=>hc ⟨by rw [hout]; exact hx.2.2,hx.2.1⟩)]
    rw [e1,e2]
    exact k1
 ·rw [hbd] at hq
  refine ⟨?_,hq⟩
  show ((z05 2 s).1.value:Int)=_
  rw [k3 hq]
theorem z70 {s:PS} {r:RS} (h:z0u s r) (hs:z0f [z0C] s=true):z0u (z1t s).2 (z0B (popR r)).2∧((z0B (popR r)).2.bad=false→(z1t s).1=(z0B (popR r)).1)∧(z1t s).2.rest.length<s.rest.length:=by
 obtain ⟨hb,hp,hpl⟩:=h.took z0C (by decide) hs
 have e0:z0c z0C s=popP s:=by simp [z0c,hs]
 obtain ⟨k1,k2,k3⟩:=z1G hp 1 (by decide)
 have hse:isR [91] (z03 1 (popR r)).2=z0f [[91]] (z05 1 (popP s)).2:=k1.same [91] (by decide)
 unfold z1t z0B
 rw [e0]
 cases hq:z0f [[91]] (z05 1 (popP s)).2 with
 | true =>
  rw [hq] at hse
  rw [if_pos rfl,if_pos hse]
  obtain ⟨hb1,hp1,hpl1⟩:=k1.took [91] (by decide) hq
  obtain ⟨z1,z2,z3⟩:=z9M hp1
  obtain ⟨c1,c2,c3⟩:=z0x z1 [93] (by decide)
  obtain ⟨d1,d2,d3⟩:=z0x c1 [59] (by decide)
  refine ⟨d1,fun hx=>?_,by show (z0c [59] _).rest.length<_; omega⟩
  show (nmB (z05 1 (popP s)).1.text,(z38 (popP (z05 1 (popP s)).2)).1)=_
  rw [(z3 (c3 (d3 hx))).1,k3 hb1]
 | false =>
  rw [hq] at hse
  rw [if_neg (by decide),if_neg (by rw [hse]; decide)]
  obtain ⟨d1,d2,d3⟩:=z0x k1 [59] (by decide)
  refine ⟨d1,fun hx=>?_,by show (z0c [59] _).rest.length<_; omega⟩
  show (nmB (z05 1 (popP s)).1.text,(0:Int))=_
  rw [k3 (d3 hx)]
theorem z7m {B:PSL} {C:RSL} {N:Nat} (hB:AgrB B C N) (hC:BadB C):∀ (n m:Nat) (gl gl':Gls) (fl fl':List Fn) (s:PS) (r:RS),z0u s r→(r.bad=false→gl=gl'∧fl=fl')→s.rest.length≤N→(r.bad=false→s.rest.length<n)→0<n→(r.bad=false→r.rest.length<m)→0<m →
  ∃ G F s' G' F' r',z1j B n gl fl s=some (G,F,s')∧z1D C m gl' fl' r=some (G',F',r')∧z0u s' r'∧(r'.bad=false→G=G'∧F=F'):=by
 intro n
 induction n with
 | zero=>intro m gl gl' fl fl' s r _ _ _ _ h; omega
 | succ n ih =>
  intro m gl gl' fl fl' s r h hxy hN hn _ hr hm
  obtain ⟨m,rfl⟩:∃ k,m=k+1:=⟨m - 1,by omega⟩
  cases hb:r.bad with
  | true=>exact ⟨gl,fl,s,gl',fl',r,by simp [z1j,h.kind0 hb],by simp [z1D,hb],h,fun hq=>by rw [hb] at hq; cases hq⟩
  | false =>
   have hh:=(h.hd hb).1
   by_cases hk:(hdT s).kind=0
   ·exact ⟨gl,fl,s,gl',fl',r,by simp [z1j,hk],by simp [z1D,hb,← hh,hk],h,fun _=>hxy hb⟩
   ·have hk':¬ (hdR r).kind=0:=by rw [← hh]; exact hk
    have h2:=WFt.two h.1 (.inr hk)
    have hsr:s.rest.length=r.rest.length:=by rw [(h.hd hb).2]
    have hn1:=hn hb
    have hr1:=hr hb
    have hse:isR z3J r=z0f [z0C] s:=h.same z3J (by decide)
    cases hs:z0f [z0C] s with
    | true =>
     rw [hs] at hse
     obtain ⟨g1,g2,g3⟩:=z70 h hs
     obtain ⟨G,F,s',G',F',r',e1,e2,e3,e4⟩:=ih m (gl++[(z1t s).1]) (gl'++[(z0B (popR r)).1]) fl fl' _ _ g1 (fun hq=>by rw [(hxy hb).1,(hxy hb).2,g2 hq]; exact ⟨rfl,rfl⟩) (by omega) (fun _=>by omega) (by omega) (fun hq=>by
      have:(z1t s).2.rest.length=(z0B (popR r)).2.rest.length:=by rw [(g1.hd hq).2]
      omega) (by omega)
     exact ⟨G,F,s',G',F',r',by simp [z1j,hk,hs,e1],by simp [z1D,hb,hk',hse,e2],e3,e4⟩
    | false =>
     rw [hs] at hse
     obtain ⟨f,s1,g,r1,f1,f2,f3,f4,f5,f6⟩:=z5q hB hC h hN
     obtain ⟨G,F,s',G',F',r',e1,e2,e3,e4⟩:=ih m gl gl' (fl++[f]) (fl'++[{ g with line:=((hdR r).line:Int) }]) _ _ f3 (fun hq=>by rw [(hxy hb).1,(hxy hb).2,f4 hq]; exact ⟨rfl,rfl⟩) (by omega) (fun hq=>by have:=f6 hq; omega) (by omega) (fun hq=>by
      have:=f6 hq
      have:s1.rest.length=r1.rest.length:=by rw [(f3.hd hq).2]
      omega) (by omega)
     exact ⟨G,F,s',G',F',r',by simp [z1j,hk,hs,f1,e1],by simp [z1D,hb,hk',hse,f2,e2],e3,e4⟩
theorem zap {s:PS} {r:RS} {G:Gls} {F:List Fn} (h:z0u s r) (hk:(hdT s).kind=0):(r.bad=false→endS G F s=(if (z2u r).2=0 then .ok (G,F) else .error (z2u r)))∧(r.bad=true→∀ G' F',endS G F s=(if (z2u r).2=0 then .ok (G',F') else .error (z2u r))):=by
 have ho:s.out=r.wrong:=h.2.2.1
 refine ⟨fun hb=>?_,fun hb G' F'=>?_⟩
 ·have hr:=h.ref0.2 hb
  have hk':(hdR r).kind=0:=by rw [← (h.hd hb).1]; exact hk
  by_cases hw:s.out=0
  ·have hd:z2u r=(0,0):=by unfold z2u; rw [if_neg (by rw [hb]; simp [hk']),if_neg (by omega)]
   rw [hd]
   simp [endS,hr,hw]
  ·have hd:z2u r=(r.wrong,1):=by unfold z2u; rw [if_neg (by rw [hb]; simp [hk']),if_pos (by omega)]
   rw [hd]
   simp [endS,hr,ho]
   intro h0
   omega
 ·have hd:z2u r=((hdR r).line,7):=by unfold z2u; rw [if_pos (.inl hb)]
  obtain ⟨_,_,_,h4⟩:=h
  rcases h4 with h4 | h4
  ·rw [h4.1] at hb
   cases hb
  ·rw [hd]
   have hr:s.ref≠0:=by omega
   simp [endS,h4.2.2.1]
   intro h0
   omega
theorem z81 (l:z09):∃ d x,z41 d l=some x∧z7c d l=some x:=by
 cases hsc:z1p l with
 | error q=>exact ⟨0,.error q,by simp [z41,hsc],by simp [z7c,hsc]⟩
 | ok ts =>
  have h1:scan 1 l=.ok ts:=by
   unfold z1p at hsc
   split at hsc
   ·cases hsc
   ·cases hq:scan 1 l with
    | error n=>rw [hq] at hsc; cases hsc
    | ok us=>rw [hq] at hsc; injection hsc with hsc; rw [hsc]
  obtain ⟨G,F,s',G',F',r',e1,e2,e3,e4⟩:=z7m (z4T (z5i ts.length)) (z6O _) (ts.length+1) (ts.length+1) [] [] [] [] _ _ (zbj h1) (fun _=>⟨rfl,rfl⟩) (Nat.le_refl _) (fun _=>Nat.lt_succ_self _) (Nat.succ_pos _) (fun _=>Nat.lt_succ_self _) (Nat.succ_pos _)
  have hk:=z30 e1
  obtain ⟨q1,q2⟩:=zap (G:=G) (F:=F) e3 hk
  refine ⟨ts.length,endS G F s',?_,?_⟩
  ·simp only [z41,hsc,e1]
  ·simp only [z7c,hsc,e2]
   cases hb:r'.bad with
   | false =>
    obtain ⟨rfl,rfl⟩:=e4 hb
    rw [q1 hb]
    split <;> rfl
   | true =>
    rw [q2 hb G' F']
    split <;> rfl
end Go.Proofs.YtjpojmigghbnpaaGreatDoor
