/-
  Ng: Z4, Z5, Z6, Z7. Part of the proof. No condition.
-/
import Derived.Lib.MinMax
import Derived.Test.YtdflbhofmmlpgaaGreatMl
import Derived.Test.YtdflbhofmmlpgaaGreatMm
import Derived.Test.YtdflbhofmmlpgaaGreatNf
set_option maxRecDepth 100000
set_option maxHeartbeats 8000000
namespace Go.Proofs.YtdflbhofmmlpgaaGreat
open Go.RowKit
section
variable {gl:GlL} {fl:List Fn}
theorem ze7 (ho:z4n gl fl) (hF:∀ f∈fl,GF 2 f) {i:Nat} {f:Fn} (hfi:fl[i]?=some f) (hnd:(f.params++vrL f.body).Nodup):Nms7 gl fl (f.params++vrL f.body) (locF (rsFn gl fl f)) (outF gl fl):=by
 have hm:=q_a hfi;have hv:vrL (rsFn gl fl f).body=vrL f.body:=z65 _ _;have hL:locF (rsFn gl fl f)=z1k nilF 0 (f.params++vrL f.body):=by
  unfold locF;rw [hv];rfl
 obtain ⟨_,_,_,_,_,h6,h7⟩:=ho.fs i f hfi;refine ⟨fun s hs=>?_,fun s hs=>?_,fun s hs=>?_,fun s hs=>?_,fun s hs=>?_,fun s hs h0=>?_⟩
 ·obtain ⟨j,_,hj,hjs,hO⟩:=(z0F (f.params++vrL f.body) nilF 0 s).1 hs;rw [Nat.sub_zero] at hjs;rw [Nat.zero_add] at hj;refine ⟨j,z3l hjs (fun k hk e=>?_),by rw [hL]; exact hO⟩;have hkl:k<(f.params++vrL f.body).length:=by omega
  have h1:=List.pairwise_iff_getElem.1 hnd k j hkl hj hk;rw [q_7 hkl] at e;rw [q_7 hj] at hjs;injection e with e;injection hjs with hjs;exact h1 (e.trans hjs.symm)
 ·rw [hL];exact (z0F (f.params++vrL f.body) nilF 0 s).2 hs
 ·have hsm:s∈gl.map (·.1):=by
   unfold z0D at hs;split at hs
   ·rename_i k hk;exact q_a (z40 hk)
   ·split at hs <;> omega
  have hnf:s ∉ fl.map (·.name):=fun h=>by
   obtain ⟨g,hg,rfl⟩:=List.mem_map.1 h;obtain ⟨j,hj⟩:=q_l hg;unfold z0D at hs;rw [(ho.fd j g hj).1] at hs;dsimp only at hs;split at hs <;> omega
  obtain ⟨j,_,hj,hjs,hO⟩:=(z0F (gl.map (·.1)) nilF 0 s).1 hsm;rw [Nat.sub_zero,q_b,q_c] at hjs;obtain ⟨x,hx,rfl⟩:=hjs;refine ⟨j,ho.gd j x hx,?_⟩;unfold outF;rw [(z0F (fl.map (·.name)) _ 0 x.1).2 hnf];exact hO
 ·have hsm:s∈fl.map (·.name):=by
   unfold z0D at hs;split at hs
   ·split at hs <;> omega
   ·split at hs
    ·rename_i k hk;exact q_a (z40 hk)
    ·omega
  obtain ⟨j,_,hj,hjs,hO⟩:=(z0F (fl.map (·.name)) (z1k nilF 0 (gl.map (·.1))) 0 s).1 hsm;rw [Nat.sub_zero,q_b,q_c] at hjs;obtain ⟨x,hx,rfl⟩:=hjs;exact ⟨j,(ho.fd j x hx).2,hO⟩
 ·rcases q_8.1 hs with hs | hs
  ·obtain ⟨k,hk⟩:=q_l hs;exact (h7 k s hk).2
  ·exact z5t _ _ h6 s hs
 ·have hgd:z0B s:=by
   rcases q_8.1 hs with hs | hs
   ·exact (hF f hm).2.2.1 s hs
   ·obtain ⟨t,ht,hxt⟩:=z5s hs;exact z6P 3 t ((hF f hm).2.2.2.1 t ht) s hxt
  have h1:=hgd.2;have h2:s.data.toList=[]:=by
   apply q_g;rw [Array.length_toList];exact h0
  rw [h2] at h1;cases h1
theorem zdd (ho:z4n gl fl) (hg:∀ x∈gl,GG x) (hF:∀ f∈fl,GF 2 f) (K:RK) (hK:K.gs=z10 gl) (i:Nat) (f':Fn) (hi:(fl.map (rsFn gl fl))[i]?=some f'):Wf7 K gl (fl.map (rsFn gl fl)) (outF gl (fl.map (rsFn gl fl))) f':=by
 obtain ⟨_,_,hfn,hx⟩:=z6L ho hg hF;have hx1:=hx i (nF (outF gl (fl.map (rsFn gl fl))) f') (by rw [q_b,hi]; rfl);have hfn1:=hfn f' (q_a hi);rw [q_b,q_c] at hi;obtain ⟨f,hfi,rfl⟩:=hi;obtain ⟨_,f2,f3,f4,_,_,f7,_⟩:=hfn1;obtain ⟨x1,x2,_,x4⟩:=hx1;have hv:vrL (rsFn gl fl f).body=vrL f.body:=z65 _ _;have hnd:(f.params++vrL f.body).Nodup:=by
  rw [<- hv];exact f7
 have hm:=q_a hfi;have hN:=ze7 ho hF hfi hnd;obtain ⟨_,_,_,_,_,h6,_⟩:=ho.fs i f hfi;rw [zc4] at x1 ⊢;rw [List.length_map] at x1;refine ⟨?_,?_,?_,f3,f4,f2⟩
 ·show nmHs gl _ (f.params++vrL (rsFn gl fl f).body) _ _ _
  rw [hv];exact z5d hN (zcT hN 3) f.body f.params (hF f hm).2.2.2.1 h6 (fun s hs=>hs)
 ·rw [hK];exact x1
 ·exact x2
theorem zan {l m:Int} (hl:l<=0) (hm:m<=0) (ld:Int) (fs:List Fz) (gs:List Nat) (inp:List Int):zRun l ld fs gs inp=zRun m ld fs gs inp:=by
 have h:zC l fs ld.toNat 0 [] ⟨0,inp,[],gs.map fun n=>List.replicate n 0,[]⟩=zC m fs ld.toNat 0 [] ⟨0,inp,[],gs.map fun n=>List.replicate n 0,[]⟩:=by
  cases ld.toNat with
  | zero=>rfl
  | succ n =>
   unfold zC;cases fs[(0:Int).toNat]? with
   | none=>rfl
   | some F =>
    dsimp only;have hb:∀ (C D:Cz) (b:List Sn) (s:Sx),s.st=0->zB l (fs.map (·.params)) C b s=zB m (fs.map (·.params)) D b s:=by
     intro C D b s hs;cases b with
     | nil=>simp [zB]
     | cons t ts =>
      cases t with
      | mk k n es us vs =>
       have h1:∀ (x:Int) (E:Cz),x<=0->zS x (fs.map (·.params)) E (.mk k n es us vs) s=((0,3,0),s):=fun x E hx=>by
        unfold zS;rw [if_pos (by omega)]
       unfold zB;rw [h1 l C hl,h1 m D hm];simp
    rw [hb (zC l fs n) (zC m fs n) F.body _ rfl]
 unfold zRun;rw [h]
end
def iv (x:Int):Value:=.int .i64 x
def zce (b:Bool) (w:World) (e:Ending) (w':World):Prop:=e=.returned (.bool b)/\∃ q,w'=w.drewN q
theorem z8A (w:World) (p q:Nat):(w.drewN p).drewN q=w.drewN (p+q):=by simp [World.drewN,Nat.add_assoc]
theorem z4N {b c:Bool} {w w':World} {q:Nat} (h:b=c) (hw:w'=w.drewN q):zce b w (.returned (.bool c)) w':=⟨by rw [h],q,hw⟩
def EqR (xs ys:List Int) (n:Nat) (w:World) (i:Value) (wr:World):Prop:=∃ k:Nat,k<=n/\i=.int .i64 (k:Int)/\Hid (xs.take k=ys.take k)/\∃ q,wr=w.drewN q
theorem zct {xs ys:List Int} (h:xs.length≠ys.length):(xs == ys)=false:=by
 rw [beq_eq_false_iff_ne];intro e;exact h (by rw [e])
theorem zdH {xs ys:List Int} {k:Nat} (hx:k<xs.length) (hy:k<ys.length) (h:¬ xs[k]=ys[k]):(xs == ys)=false:=by
 rw [beq_eq_false_iff_ne];intro e;subst e;exact h rfl
theorem zdk {xs ys:List Int} {k:Nat} (hx:k<xs.length) (hy:k<ys.length) (h:xs.take k=ys.take k) (he:xs[k]=ys[k]):xs.take (k+1)=ys.take (k+1):=by
 rw [List.take_succ_eq_append_getElem hx,List.take_succ_eq_append_getElem hy,h,he]
theorem zcs {xs ys:List Int} {n:Nat} (hx:xs.length=n) (hy:ys.length=n) (h:xs.take n=ys.take n):(xs == ys)=true:=by
 rw [List.take_of_length_le (by omega),List.take_of_length_le (by omega)] at h;rw [h];simp
theorem zdR {b:Bool} (xs ys:List Int) (A B:Option Addr) (n m c d:Nat) (w:World) (hn:xs.length=n) (hm:ys.length=m) (hx:Rd w A (xs.map iv)) (hy:Rd w B (ys.map iv)) (h1:n<=1000000) (h2:m<=1000000) (hb:b=(xs == ys)) :
  Calls Tryz.prog 21 #[.slice A n c,.slice B m d] w (zce b w):=by
 have Hn:=zhi hn;have Hm:=zhi hm;have Hx:=zhi hx;have Hy:=zhi hy;have Hb:=zhi hb
 by_cases hnm:n=m
 ·subst hnm;clear hn hm hx hy hb;go_enter Tryz.func21,Tryz.ntmps21;go_wp2_with fail
  go_loopw [5] (fun i wr=>EqR xs ys n w i wr) (fun i _=>n - (intOf i).toNat)
  case atStart=>exact ⟨0,q_h _,rfl,zhi rfl,0,rfl⟩
  case round =>
   obtain ⟨k,hk,rfl,HK,q,rfl⟩:=hrel
   by_cases hlt:k<n
   ·have hkx:k<xs.length:=by rw [Hn.out]; exact hlt
    have hky:k<ys.length:=by rw [Hm.out]; exact hlt
    obtain ⟨ad,rfl,hc⟩:=Hx.out.at_ (k:=k) (by simp; exact hkx);obtain ⟨ae,rfl,he⟩:=Hy.out.at_ (k:=k) (by simp; exact hky);simp only [List.getElem_map,iv] at hc he
    by_cases heq:xs[k]=ys[k]
    ·have HK2:=zhi (zdk hkx hky HK.out heq);rw [<- heq] at he;have hne:(xs[k] != xs[k])=false:=by simp
     generalize xs[k]=x at hc he hne;clear heq hkx hky;go_wp2_with fail;go_quiet (fail);go_wp2_with fail;exact ⟨⟨k+1,by omega,by simp,HK2,_,rfl⟩,by simp [intOf]; omega⟩
    ·have HB:Hid (b=false):=zhi (by rw [Hb.out]; exact zdH hkx hky heq);have hne:(xs[k] != ys[k])=true:=by simp [heq]
     generalize xs[k]=x at hc hne;generalize ys[k]=y at he hne;clear heq hkx hky;go_wp2_with fail;go_quiet (fail);go_wp2_with fail;go_ret;exact z4N HB.out (z8A w q nq)
   ·have hkn:k=n:=by omega
    subst hkn;have HB:Hid (b=true):=zhi (by rw [Hb.out]; exact zcs Hn.out Hm.out HK.out);go_wp2_with fail;go_ret;exact z4N HB.out rfl
 ·have HB:Hid (b=false):=zhi (by rw [hb]; exact zct (by rw [hn,hm]; exact hnm));have hne:((n:Int) != (m:Int))=true:=by simp; omega
  clear hn hm hx hy hb;go_enter Tryz.func21,Tryz.ntmps21;go_wp2_with fail;go_ret;exact z4N (q:=0) HB.out rfl
def zdx (b:Bool) (w:World) (e:Ending) (w':World):Prop:=e=.returned (.bool b)/\Below w.heap.size w w'
theorem zcq {B:Nat} {a w:World} (h:Below B a w) (q:Nat):Below B a (w.drewN q):=⟨h.os,h.tape,h.output,h.size,h.block⟩
theorem z4O {b c:Bool} {w w':World} (h:b=c) (hw:Below w.heap.size w w'):zdx b w (.returned (.bool c)) w':=⟨by rw [h],hw⟩
def zbf (k v t:Int) (xs:List Int) (k' v' t':Int) (ys:List Int):Bool:=k == k'&&v == v'&&t == t'&&xs == ys
theorem neb {a b:Int} (h:¬ a=b):(a == b)=false:=by simp [h]
section
variable {b:Bool} {w:World} {xs ys:List Int} {A B:Option Addr} {n m c d:Nat}
theorem zee (k v t k' v' t':Int) (w:World) (hn:xs.length=n) (hm:ys.length=m) (hx:Rd w A (xs.map iv)) (hy:Rd w B (ys.map iv)) (h1:n<=1000000) (h2:m<=1000000) (hb:b=zbf k v t xs k' v' t' ys) :
  Calls Tryz.prog 11 #[.agg #[.int .i64 k,.int .i64 v,.int .i64 t,.slice A n c],.agg #[.int .i64 k',.int .i64 v',.int .i64 t',.slice B m d]] w (zdx b w):=by
 have HE:Hid (∀ b,b=(xs == ys)->∀ o1 o2,Calls Tryz.prog 21 #[.slice A n c,.slice B m d] ((w.alloc o1).alloc o2) (zce b ((w.alloc o1).alloc o2))):=zhi (fun b hb o1 o2=>zdR xs ys A B n m c d _ hn hm ((hx.alloc o1).alloc o2) ((hy.alloc o1).alloc o2) h1 h2 hb);have HB:Hid (∀ o1 o2 q,Below w.heap.size w (((w.alloc o1).alloc o2).drewN q)):=zhi (fun o1 o2 q=>zcq (((q_i _ w).alloc (q_2 _) o1).alloc (by simp) o2) q);unfold zbf at hb;clear hn hm hx hy
 by_cases e1:k=k'
 ·subst e1
  by_cases e2:v=v'
  ·subst e2
   by_cases e3:t=t'
   ·subst e3;have HE2:=zhi (HE.out b (by rw [hb]; simp));clear hb;go_enter Tryz.func11,Tryz.ntmps11;go_wp2_with fail;refine (HE2.out _ _).mono ?_;rintro e w1 ⟨rfl,q,rfl⟩;go_wp2_with fail;go_ret;exact ⟨rfl,HB.out _ _ _⟩
   ·have e3:=neb e3;have Hb:Hid (b=false):=zhi (by rw [hb]; simp [e3]);clear hb;go_enter Tryz.func11,Tryz.ntmps11;go_wp2_with fail;go_ret;exact z4O Hb.out (HB.out _ _ 0)
  ·have e2:=neb e2;have Hb:Hid (b=false):=zhi (by rw [hb]; simp [e2]);clear hb;go_enter Tryz.func11,Tryz.ntmps11;go_wp2_with fail;go_ret;exact z4O Hb.out (HB.out _ _ 0)
 ·have e1:=neb e1;have Hb:Hid (b=false):=zhi (by rw [hb]; simp [e1]);clear hb;go_enter Tryz.func11,Tryz.ntmps11;go_wp2_with fail;go_ret;exact z4O Hb.out (HB.out _ _ 0)
end
def LimC (g:Nat) (l:List Nat) (w:World) (e:Ending) (w':World):Prop:=∃ s d:Int,e=.returned (.agg #[.int .i64 s,.int .i64 d])/\s<=3000/\0<=d/\d<=12/\(∃ k,z0A w' g l k)/\w.grownBy w' (some g)
def NxL (g:Nat) (l:List Nat) (n:Nat) (w:World) (e:Ending) (w':World):Prop:=∃ r:Nat,e=.returned (.int .i64 (r:Int))/\(0<n->r<n)/\(∃ k,z0A w' g l k)/\w.grownBy w' (some g)
theorem ze3 {g:Nat} {l:List Nat} {w:World} (hc:∃ k,z0A w g l k) (hlen:l.length<=1000000) (hl:∀ x∈l,x<256) (n:Nat) (z:Int) (hz:z=(n:Int)) (hn:n<=1000000000) :
  Calls Tryz.prog 15 #[.pointer (some ⟨g,0,none⟩),.int .i64 z] w (NxL g l n w):=by
 subst hz;obtain ⟨k,hk⟩:=hc;exact (z25 g l k n w hk hn hlen hl).mono fun e w' ⟨r,k',h1,h2,_,h4,h5⟩=>⟨r,h1,fun hh=>by have:=h2 (by omega); omega,⟨k',h4⟩,h5⟩
structure LmS (g:Nat) (l:List Nat) (w W:World):Prop where
 z:W.heap[w.heap.size]?=some (.cells #[.int .i64 0,.int .i64 0] 34 (0,0))
 k:∃ k,z0A W g l k
 g:w.grownBy W (some g)
theorem LmS.next {g:Nat} {l:List Nat} {w W W':World} (h:LmS g l w W) (hg:g<w.heap.size) (hk:∃ k,z0A W' g l k) (hb:W.grownBy W' (some g)):LmS g l w W' :=
 ⟨(hb.block _ (q_0.1 h.z).1 (fun e=>by injection e with e; omega)).trans h.z,hk,h.g.trans hb⟩
theorem LmS.alloc {g:Nat} {l:List Nat} {w W:World} (h:LmS g l w W) (o:Obj):LmS g l w (W.alloc o):=by
 have hb:=(q_i _ W).alloc (q_2 _) o;obtain ⟨k,hk⟩:=h.k;exact ⟨(hb.block _ (q_0.1 h.z).1).trans h.z,⟨k,z0C hk hb⟩,h.g.trans (z02 hb _)⟩
theorem LmS.drew {g:Nat} {l:List Nat} {w W:World} (h:LmS g l w W):LmS g l w W.drew:=by
 obtain ⟨k,hk⟩:=h.k;exact ⟨h.z,⟨k,hk⟩,h.g.trans (z02 (z0m (q_i _ _)) _)⟩
theorem LmS.done {g:Nat} {l:List Nat} {w W:World} (h:LmS g l w W) (hg:g<w.heap.size) {s d:Int} (hs:s<=3000) (h0:0<=d) (hd:d<=12) {W':World} (hb:W.grownBy W' (some w.heap.size)):LimC g l w (.returned (.agg #[.int .i64 s,.int .i64 d])) W':=by
 obtain ⟨k,hk⟩:=h.k;exact ⟨s,d,rfl,hs,h0,hd,⟨k,z0v hk hb hg⟩,z0r h.g hb (q_2 _)⟩
theorem z9d (g:Nat) (l:List Nat) (w:World) (hc:∃ k,z0A w g l k) (hlen:l.length<=1000000) (hl:∀ x∈l,x<256) :
  Calls Tryz.prog 7 #[.pointer (some ⟨g,0,none⟩)] w (LimC g l w):=by
 have hg:g<w.heap.size:=by obtain ⟨k,hk⟩:=hc; exact z1W hk
 have HN:=zhi (fun (W:World) (h:LmS g l w W) (n:Nat) (z:Int) (hz:z=(n:Int)) (hn:n<=1000000000)=>ze3 h.k hlen hl n z hz hn);have HS:Hid (LmS g l w (w.alloc (.cells #[.int .i64 0,.int .i64 0] 34))):=zhi (by
  have hb:=(q_i _ w).alloc (q_2 _) (.cells #[.int .i64 0,.int .i64 0] 34);obtain ⟨k,hk⟩:=hc;exact ⟨q_4 w _,⟨k,z0C hk hb⟩,z02 hb _⟩)
 clear hlen hl hc;go_enter Tryz.func7,Tryz.ntmps7;go_wp2_with fail;refine (HN.out _ HS.out 8 8 rfl (by decide)).mono ?_;rintro e w1 ⟨r,rfl,hr,hc1,hg1⟩;have hr:=hr (by decide);have HS1:=zhi (HS.out.next hg hc1 hg1);clear hc1 hg1 HS;obtain ⟨z,hz⟩:∃ z:Int,z=(r:Int):=⟨_,rfl⟩;rw [<- hz];rcases (show z=6\/z=7\/(z≠6/\z≠7) by omega) with rfl | rfl | ⟨h6,h7⟩
 ·go_wp2_with fail;refine (HN.out _ HS1.out 200 200 rfl (by decide)).mono ?_;rintro e w2 ⟨x,rfl,hx,hc2,hg2⟩;have hx:=hx (by decide);have HS2:=zhi (HS1.out.next hg hc2 hg2);clear hc2 hg2 HS1;go_wp2_with fail;refine (HN.out _ HS2.out 4 4 rfl (by decide)).mono ?_;rintro e w3 ⟨y,rfl,hy,hc3,hg3⟩;have hy:=hy (by decide);have HS3:=zhi (HS2.out.next hg hc3 hg3);clear hc3 hg3 HS2;obtain ⟨z0,z1⟩:=cl2 HS3.out.z;have f0:w3.frozen? ⟨w.heap.size,0,none⟩=false:=z09 HS3.out.z 0;have f1:w3.frozen? ⟨w.heap.size,1,none⟩=false:=z09 HS3.out.z 1;have hrow:=z0a (i:=1) (.int .i64 (1+(y:Int))) (z0a (i:=0) (.int .i64 ((x:Int))) HS3.out.z);obtain ⟨j0,j1⟩:=cl2 hrow;have HE:=zhi (HS3.out.done hg (s:=(x:Int)) (d:=1+(y:Int)) (by omega) (by omega) (by omega) ((z03 w3 ⟨w.heap.size,0,none⟩ (.int .i64 ((x:Int)))).trans (z03 _ ⟨w.heap.size,1,none⟩ (.int .i64 (1+(y:Int))))));clear hrow;go_wp2_with fail;exact q_3 (by simp [results,Tryz.results7,go_sem,j0,j1]) rfl HE.out
 ·go_wp2_with fail;refine (HN.out _ HS1.out 40 40 rfl (by decide)).mono ?_;rintro e w2 ⟨x,rfl,hx,hc2,hg2⟩;have hx:=hx (by decide);have HS2:=zhi (HS1.out.next hg hc2 hg2);clear hc2 hg2 HS1;go_wp2_with fail;refine (HN.out _ HS2.out 3 3 rfl (by decide)).mono ?_;rintro e w3 ⟨y,rfl,hy,hc3,hg3⟩;have hy:=hy (by decide);have HS3:=zhi (HS2.out.next hg hc3 hg3);clear hc3 hg3 HS2;obtain ⟨z0,z1⟩:=cl2 HS3.out.z;have f0:w3.frozen? ⟨w.heap.size,0,none⟩=false:=z09 HS3.out.z 0;have f1:w3.frozen? ⟨w.heap.size,1,none⟩=false:=z09 HS3.out.z 1;have hrow:=z0a (i:=1) (.int .i64 ((y:Int))) (z0a (i:=0) (.int .i64 ((x:Int) - 1)) HS3.out.z);obtain ⟨j0,j1⟩:=cl2 hrow;have HE:=zhi (HS3.out.done hg (s:=(x:Int) - 1) (d:=(y:Int)) (by omega) (by omega) (by omega) ((z03 w3 ⟨w.heap.size,0,none⟩ (.int .i64 ((x:Int) - 1))).trans (z03 _ ⟨w.heap.size,1,none⟩ (.int .i64 ((y:Int))))));clear hrow;go_wp2_with fail;exact q_3 (by simp [results,Tryz.results7,go_sem,j0,j1]) rfl HE.out
 ·have n6:(z == 6)=false:=by simpa using h6
  have n7:(z == 7)=false:=by simpa using h7
  obtain ⟨z0,z1⟩:=cl2 HS1.out.z;have f0:w1.frozen? ⟨w.heap.size,0,none⟩=false:=z09 HS1.out.z 0;have f1:w1.frozen? ⟨w.heap.size,1,none⟩=false:=z09 HS1.out.z 1;have hrow:=z0a (i:=1) (.int .i64 (12)) (z0a (i:=0) (.int .i64 (3000)) HS1.out.z);obtain ⟨j0,j1⟩:=cl2 hrow;have HE:=zhi (HS1.out.done hg (s:=3000) (d:=12) (by omega) (by omega) (by omega) ((z03 w1 ⟨w.heap.size,0,none⟩ (.int .i64 (3000))).trans (z03 _ ⟨w.heap.size,1,none⟩ (.int .i64 (12)))));clear hrow;go_wp2_with fail;exact q_3 (by simp [results,Tryz.results7,go_sem,j0,j1]) rfl HE.out
theorem z49 {F:Nat->Prop} {w:World} {xs:List Int} {A:Option Addr} {c:Nat} (h:RowG 1 ZInt F w xs A c):Rd w A (xs.map (Value.int .i64)):=fun j u hu=>by
 rw [q_b,q_c] at hu;obtain ⟨x,hx,rfl⟩:=hu;obtain ⟨g,cs,hA,_,_,hc,hcs⟩:=h.2 j x hx;refine ⟨_,hA,?_⟩;rw [Addr.add_lit,Nat.zero_add];have:=hc 0 (.int .i64 x) (by rw [show cs=[.int .i64 x] from hcs]; rfl);simpa using this
theorem z82 {k v t:Int} {xs:List Int}:zbf k v t xs k v t xs=true:=by simp [zbf]
structure OcZ (y:Rz) (A:Option Addr) (n c:Nat) (w:World):Prop where
 ln:n=y.2.out.length
 le:n<=4096
 row:RowG 1 ZInt (fun b=>b<w.heap.size) w y.2.out A c
theorem OcZ.below {y:Rz} {A:Option Addr} {n c:Nat} {w w':World} (h:OcZ y A n c w) (hb:Below w.heap.size w w'):OcZ y A n c w' :=
 ⟨h.ln,h.le,z0j z0f (fun _ hb'=>q_1 hb' hb.size) (fun b hb'=>hb.block b hb') h.row⟩
theorem OcZ.cap {y:Rz} {A:Option Addr} {n c:Nat} {w:World} (h:OcZ y A n c w):n<=c:=by rw [h.ln]; exact h.row.1
structure MdZ (gl:GlL) (fl:List Fn) (gA:Option Addr) (gc:Nat) (fA:Option Addr) (fc:Nat) (inp:List Int) (iA:Option Addr) (ic B:Nat) (w:World):Prop where
 ok:z4n gl fl
 gg:∀ x∈gl,GG x
 gf:∀ f∈fl,GF 2 f
 g:z0k (fun b=>b<B) w gl gA gc
 f:z0R (fun b=>b<B) w 4 3 (fl.map (rsFn gl fl)) fA fc
 i:Rd w iA (inp.map (Value.int .i64))
 ib:∀ ad,iA=some ad->ad.block<B
 il:inp.length<=ic/\inp.length<=1000000
 b:B<=w.heap.size
theorem MdZ.below {gl:GlL} {fl:List Fn} {gA fA iA:Option Addr} {gc fc ic B:Nat} {inp:List Int} {w w':World} (h:MdZ gl fl gA gc fA fc inp iA ic B w) (hb:Below w.heap.size w w'):MdZ gl fl gA gc fA fc inp iA ic B w':=by
 refine ⟨h.ok,h.gg,h.gf,z3H h.g (fun b hb'=>⟨hb',hb.block b (q_1 hb' h.b)⟩),z3G h.f (fun b hb'=>⟨hb',hb.block b (q_1 hb' h.b)⟩),fun j u hu=>?_,h.ib,h.il,q_9 h.b hb.size⟩;obtain ⟨ad,e,hc⟩:=h.i j u hu;refine ⟨ad,e,(q_6 (a:=ad.add j) (hb.block _ ?_)).trans hc⟩;rw [z0i];exact q_1 (h.ib ad e) h.b
def zSrc (s d:Int) (gl:GlL) (fl:List Fn) (inp:List Int):Rz:=zRun s d ((fl.map (rsFn gl fl)).map (nF (outF gl (fl.map (rsFn gl fl))))) (z10 gl) inp
theorem zec {gl:GlL} {fl:List Fn} {gA fA iA:Option Addr} {gc fc ic B:Nat} {inp:List Int} (sl dl:Int) (gn fn im:Nat) (w:World) (h:MdZ gl fl gA gc fA fc inp iA ic B w) (hgn:gn=gl.length) (hfn:fn=fl.length) (him:im=inp.length) (hs:sl<=100000) (hd:dl<=400) :
  Calls Tryz.prog 9 #[.agg #[.slice gA gn gc,.slice fA fn fc],.slice iA im ic,.agg #[.int .i64 sl,.int .i64 dl]] w (OutZ (zSrc sl dl gl fl inp) w):=by
 obtain ⟨h1,h2,h3,h4⟩:=z6L h.ok h.gg h.gf;have:=zed (F:=fun b=>b<B) gl (fl.map (rsFn gl fl)) gA gn gc fA fn fc inp iA im ic sl dl w hgn (by rw [List.length_map]; exact hfn) h.g h.f (fun b hb=>q_1 hb h.b) (by have:=h.ok.gn; omega) (by rw [List.length_map]; have:=h.ok.fn; omega) (by rw [List.length_map]; have:=h.ok.fn; omega) h1 h2 h3 h4 him (by rw [him]; exact h.il.1) (by rw [him]; exact h.il.2) h.i (fun ad e=>q_1 (h.ib ad e) h.b);rw [show min sl 1099511627776=sl by omega,show min dl 400=dl by omega] at this;exact this
theorem zbE {s d:Int} {gl:GlL} {fl:List Fn} {inp:List Int}:zSrc s d gl fl inp=zSrc (max 0 s) d gl fl inp:=by
 by_cases h:s<=0
 ·exact zan h (by omega) _ _ _ _
 ·rw [show max 0 s=s by omega]
theorem zd6 {gl:GlL} {fl:List Fn} {gA fA iA:Option Addr} {gc fc ic B:Nat} {inp:List Int} (sl dl:Int) (gn fn im:Nat) (w:World) (h:MdZ gl fl gA gc fA fc inp iA ic B w) (hgn:gn=gl.length) (hfn:fn=fl.length) (him:im=inp.length) (hs:sl<=100000) (hd0:0<=dl) (hd:dl<=400) :
  Calls Tryz.prog 10 #[.agg #[.slice gA gn gc,.slice fA fn fc],.slice iA im ic,.agg #[.int .i64 sl,.int .i64 dl]] w (OutZ (zSrc sl dl gl fl inp) w):=by
 obtain ⟨_,h2,_,_⟩:=z6L h.ok h.gg h.gf;have hm0:∀ f,(fl.map (rsFn gl fl))[0]?=some f->f.params=[]:=fun f hf=>by
  rw [q_b,q_c] at hf;obtain ⟨f0,hf0,rfl⟩:=hf;exact (h.ok.main f0 hf0).2
 have:=zeU (F:=fun b=>b<B) gl (fl.map (rsFn gl fl)) gA gn gc fA fn fc inp iA im ic sl dl w hgn (by rw [List.length_map]; exact hfn) h.g h.f (fun b hb=>q_1 hb h.b) (by have:=h.ok.gn; omega) (by rw [List.length_map]; have:=h.ok.fn; omega) (by rw [List.length_map]; have:=h.ok.fn; omega) hm0 h2 (fun K hK i f hf=>zdd h.ok h.gg h.gf K hK i f hf) him (by rw [him]; exact h.il.1) (by rw [him]; exact h.il.2) h.i (fun ad e=>q_1 (h.ib ad e) h.b);rw [show max 0 (min sl 1099511627776)=max 0 sl by omega,show max 0 (min dl 400)=dl by omega] at this;rw [zbE];exact this
end Go.Proofs.YtdflbhofmmlpgaaGreat
