/-
  Ml: Ym, Yo. Walks and laws that the statement's proof is made of. No condition of its own.
-/
import Derived.Test.YtleicdfkagejoaaMi
import Derived.Test.YtleicdfkagejoaaLe
import Derived.Test.YtleicdfkagejoaaKy
import Derived.Test.YtleicdfkagejoaaKa
import Derived.Test.YtleicdfkagejoaaRows
import Derived.Deep.QuietTactic
import Derived.BigQuiet
import Derived.Test.YtleicdfkagejoaaKd
import Derived.Test.YtleicdfkagejoaaKh
import Derived.Deep.RegionHeld3
import Derived.Lib.MinMax
import Derived.Test.YtleicdfkagejoaaKb
import Derived.Deep.CutRange
import Derived.Deep.CutBlock
import Derived.Test.YtleicdfkagejoaaMa
namespace Go.Proofs.Ytleicdfkagejoaa
open Go.RowKit
def RslG (g:Nat) (l:List Nat) (w:World) (e:Ending) (w':World):Prop:=∃ (gl:GlL) (fl:List Fn) (gA:Option Addr) (gc:Nat) (fA:Option Addr) (fc:Nat),e=.returned (.agg #[.slice gA gl.length gc,.slice fA fl.length fc])∧z0m (fun b=>w.heap.size≤b∧b<w'.heap.size) w' gl gA gc∧z0X (fun b=>w.heap.size≤b∧b<w'.heap.size) w' 4 3 (fl.map (rsFn gl fl)) fA fc∧z5v gl fl∧(∀ x∈gl,GG x)∧(∀ f∈fl,GF 2 f)∧(∃ k,z0S w' g l k)∧w.grownBy w' (some g)
theorem z39 {F G:Nat→Prop} {w w':World} {gl:GlL} {A:Option Addr} {c:Nat} (h:z0m F w gl A c) (hFG:∀ b,F b→G b∧w'.heap[b]?=w.heap[b]?):z0m G w' gl A c :=
 ⟨h.1,fun i x hi=>by
  obtain ⟨g,e,hF,c0,c1⟩:=h.2 i x hi
  have hk:∀ o,World.cell? w' ⟨g,o,none⟩=World.cell? w ⟨g,o,none⟩:=fun o=>World.cell?_of_block (hFG g hF).2
  exact ⟨g,e,(hFG g hF).1,(hk _).trans c0,(hk _).trans c1⟩⟩
theorem z38 {F G:Nat→Prop} {w w':World} {D d:Nat} {fl:List Fn} {A:Option Addr} {c:Nat} (h:z0X F w D d fl A c) (hFG:∀ b,F b→G b∧w'.heap[b]?=w.heap[b]?):z0X G w' D d fl A c :=
 ⟨h.1,fun i f hi=>by
  obtain ⟨g,pA,pc,bA,bc,e,hF,c0,c1,c2,c3,hs,hr⟩:=h.2 i f hi
  have hk:∀ o,World.cell? w' ⟨g,o,none⟩=World.cell? w ⟨g,o,none⟩:=fun o=>World.cell?_of_block (hFG g hF).2
  refine ⟨g,pA,pc,bA,bc,e,(hFG g hF).1,(hk _).trans c0,(hk _).trans c1,(hk _).trans c2,(hk _).trans c3,⟨hs.1,fun q x hq=>?_⟩,RowS.keep (fun b hb=>(hFG b hb).1) (fun b hb=>(hFG b hb).2) hr⟩
  obtain ⟨g,e,hFg,hc⟩:=hs.2 q x hq
  exact ⟨g,e,(hFG g hFg).1,(World.cell?_of_block (hFG g hFg).2).trans hc⟩⟩
set_option maxRecDepth 100000 in
set_option maxHeartbeats 4000000 in
theorem z5O (g:Nat) (l:List Nat) (w:World) (hc:∃ k,z0S w g l k) (hlen:l.length≤1000000) (hl:∀ x∈l,x<256) :
  Calls Try.prog 6 #[.pointer (some ⟨g,0,none⟩)] w (RslG g l w):=by
 have hg:g<w.heap.size:=by obtain ⟨k,hk⟩:=hc; exact z2a hk
 have hb0:=(Below.refl _ w).alloc (Nat.le_refl _) (.cells #[.slice none 0 0,.slice none 0 0] 30)
 have hz0:=heap_alloc_new w (.cells #[.slice none 0 0,.slice none 0 0] 30)
 have hc0:∃ k,z0S (w.alloc (.cells #[.slice none 0 0,.slice none 0 0] 30)) g l k:=by
  obtain ⟨k,hk⟩:=hc
  exact ⟨k,z0x hk (World.grownBy_alloc _ _ (some w.heap.size)) hg⟩
 have HX:=zhi (z6F g l _ hc0 hlen hl)
 have HB0:=zhi hb0
 have HZ0:=zhi hz0
 have hsz0:w.heap.size<(w.alloc (.cells #[.slice none 0 0,.slice none 0 0] 30)).heap.size:=by simp
 clear hb0 hz0 hc0 hc hl
 go_enter Try.func6,Try.ntmps6
 go_upto_region 1 with fail
 obtain ⟨W0,hW0⟩:∃ W0,W0=w.alloc (.cells #[.slice none 0 0,.slice none 0 0] 30):=⟨_,rfl⟩
 rw [← hW0] at HX HB0 HZ0 hsz0 ⊢
 clear hW0
 go_wp2_with fail
 refine HX.out.mono ?_
 rintro e w3 ⟨gl,fl,gA,fA,gc,fc,⟨rfl,hG,hF,hgg,hgf,h4,h1,hf4,hco,hgr⟩,hsc⟩
 have hok:=zaZ hsc hgf h4 h1 hf4
 have hz3:=z04 hgr (by omega) HZ0.out
 have hs3:=hgr.size
 have HRs:=zhi (z5N gl fl gA gl.length gc fA fl.length fc w3 rfl rfl hG hF (fun b hb=>hb.2) hok)
 have HP:=zhi (And.intro hok (And.intro hgg (And.intro hgf hco)))
 have HG3:=zhi hgr
 have HZ3:=zhi hz3
 clear hok hgg hgf hco hgr hsc hG hF hz3 HX HZ0
 go_wp2_with fail
 refine HRs.out.mono ?_
 rintro e w5 ⟨gB,gc2,fB,fc2,rfl,hG5,hF5,hb5⟩
 obtain ⟨n,hn⟩:∃ n,n=gl.length:=⟨_,rfl⟩
 obtain ⟨f,hf⟩:∃ f,f=fl.length:=⟨_,rfl⟩
 rw [← hn,← hf]
 have Hn:=zhi hn
 have Hf:=zhi hf
 have hb6:=(Below.refl _ w5).alloc (Nat.le_refl _) (.cells #[.slice gB n gc2,.slice fB f fc2] 30)
 have hr6:=heap_alloc_new w5 (.cells #[.slice gB n gc2,.slice fB f fc2] 30)
 have hs5:=hb5.size
 have hs6:=hb6.size
 obtain ⟨c0,c1⟩:=cl2 hr6
 have HZ6:=zhi ((hb6.block _ (by omega)).trans ((hb5.block _ (by omega)).trans HZ3.out))
 have HG6:=zhi (z39 (G:=fun b=>W0.heap.size≤b∧b<(w5.alloc (.cells #[.slice gB n gc2,.slice fB f fc2] 30)).heap.size) hG5 (fun b hb=>⟨⟨by omega,by omega⟩,hb6.block b hb.2⟩))
 have HF6:=zhi (z38 (G:=fun b=>W0.heap.size≤b∧b<(w5.alloc (.cells #[.slice gB n gc2,.slice fB f fc2] 30)).heap.size) hF5 (fun b hb=>⟨⟨by omega,by omega⟩,hb6.block b hb.2⟩))
 have HB6:=zhi (hb5.trans (hb6.mono hs5))
 obtain ⟨w6,hw6⟩:∃ w6,w6=w5.alloc (.cells #[.slice gB n gc2,.slice fB f fc2] 30):=⟨_,rfl⟩
 rw [← hw6] at HZ6 HG6 HF6 HB6 c0 c1 hs6
 clear hG5 hF5 hb5 hb6 hr6 HRs hn hf HZ3
 go_upto_region 2 with fail
 rw [← hw6]
 clear hw6
 go_wp2_with (with_reducible refine z5S ?_)
 refine z08.of (z00 _ rfl _ _ _ rfl w.heap.size _ rfl (by rfl) _ _ HZ6.out (by kernel_rfl) (by rfl) (by simp [Value.oneCell']) ?_)
 intro w9 hrow9 hg9
 obtain ⟨j0,j1⟩:=cl2 hrow9
 have hs9:=hg9.size
 have HE:Hid (RslG g l w (.returned (.agg #[.slice gB n gc2,.slice fB f fc2])) w9):=zhi ⟨gl,fl,gB,gc2,fB,fc2,by rw [Hn.out,Hf.out],z39 HG6.out (fun b hb=>⟨⟨by omega,by omega⟩,hg9.block b hb.2 (fun e=>by injection e with e; omega)⟩),z38 HF6.out (fun b hb=>⟨⟨by omega,by omega⟩,hg9.block b hb.2 (fun e=>by injection e with e; omega)⟩),HP.out.1,HP.out.2.1,HP.out.2.2.1,by
  obtain ⟨k,hk⟩:=HP.out.2.2.2
  exact ⟨k,z0x (z0x hk (z02 HB6.out (some w3.heap.size)) (by omega)) hg9 hg⟩,by
  have h1:=(z02 HB0.out (some g)).trans HG3.out
  have h2:=h1.trans (z02 HB6.out (some g))
  exact z0n h2 hg9 (Nat.le_refl _)⟩
 clear hrow9 hg9 HG6 HF6 HZ6
 go_wp2_with fail
 exact bodyPost_ret (by simp [results,Try.results6,go_sem,j0,j1]) rfl HE.out
def InpG (g:Nat) (l:List Nat) (w:World) (e:Ending) (w':World):Prop:=∃ (inp:List Int) (A:Option Addr) (n c:Nat) (L:List Value),e=.returned (.slice A n c)∧n=inp.length∧inp.length≤5∧(∀ x∈inp,-2≤x∧x≤6)∧GRow 1 3 ZInt w.heap.size w' (.slice A n c) inp L∧(∃ k,z0S w' g l k)∧w.grownBy w' (some g)
def InpR (g:Nat) (l:List Nat) (w:World) (v k:Value) (wr:World):Prop:=∃ (q:Nat) (inp:List Int) (A:Option Addr) (n c:Nat) (L:List Value),k=.int .i64 (q:Int)∧v=.slice A n c∧n=inp.length∧inp.length+q≤5∧(∀ x∈inp,-2≤x∧x≤6)∧GRow 1 3 ZInt w.heap.size wr (.slice A n c) inp L∧(∃ k,z0S wr g l k)∧w.grownBy wr (some g)
set_option maxRecDepth 100000 in
set_option maxHeartbeats 4000000 in
theorem z96 (g:Nat) (l:List Nat) (w:World) (hc:∃ k,z0S w g l k) (hlen:l.length≤1000000) (hl:∀ x∈l,x<256) :
  Calls Try.prog 7 #[.pointer (some ⟨g,0,none⟩)] w (InpG g l w):=by
 have hg:g<w.heap.size:=by obtain ⟨k,hk⟩:=hc; exact z2a hk
 obtain ⟨k0,hk0⟩:=hc
 have HN:=zhi (z2q g l k0 6 w hk0 (by decide) hlen hl)
 have HD:Hid (∀ (W:World) (k:Nat),z0S W g l k→Calls Try.prog 14 #[.pointer (some ⟨g,0,none⟩),.int .i64 9] W (z32 g l 9 W)):=zhi (fun W k h=>z2q g l k 9 W h (by decide) hlen hl)
 clear hk0 hl
 go_enter Try.func7,Try.ntmps7
 go_wp2_with fail
 refine HN.out.mono ?_
 rintro e w2 ⟨r,k,rfl,h1,_,hk,hgr⟩
 have hr5:r≤5:=by have:=h1 (by decide); omega
 have HK:=zhi hk
 have HG:=zhi hgr
 clear hk hgr h1 HN
 go_wp2_with fail
 go_loopw [3,4] (fun v k wr=>InpR g l w v k wr) (fun _ k _=>(intOf k).toNat)
 case atStart=>exact ⟨r,[],none,0,0,[],rfl,rfl,rfl,by simpa using hr5,fun x hx=>by simp at hx,GRow.nil,⟨k,HK.out⟩,HG.out⟩
 case round =>
  obtain ⟨wo,rfl⟩:∃ wo:World,wo=wr:=⟨_,rfl⟩
  obtain ⟨q,inp,A,n,c,L,rfl,rfl,hn,hq,hx,hgr,⟨k1,hk1⟩,hgo⟩:=hrel
  have Hn:=zhi hn
  have HX:=zhi hx
  have HR:=zhi hgr
  have HK1:=zhi hk1
  have HG1:=zhi hgo
  have hso:=hgo.size
  clear hn hx hgr hk1 hgo
  rcases Nat.eq_zero_or_pos q with h0 | h0
  ·subst h0
   have HE:Hid (InpG g l w (.returned (.slice A n c)) wo):=zhi ⟨inp,A,n,c,L,rfl,Hn.out,by omega,HX.out,HR.out,⟨k1,HK1.out⟩,HG1.out⟩
   go_wp2_with fail
   go_ret
   exact HE.out
  ·have HC:=zhi (HD.out wo k1 HK1.out)
   go_wp2_with fail
   refine HC.out.mono ?_
   rintro e w3 ⟨x,k2,rfl,hx1,_,hk2,hg2⟩
   have hx9:(x:Int)<9:=hx1 (by decide)
   have hs3:=hg2.size
   have HR3:=zhi (z1r z0l HR.out hg2 (fun b e=>by injection e with e; omega))
   have HK2:=zhi hk2
   have HG2:=zhi (HG1.out.trans hg2)
   clear hx1 hk2 hg2 HC HR HK1
   go_wp2_with (at_builtin; refine z08.out ?_)
   refine z08.of (z1T (k:=1) (T:=3) (S:=23) (V:=ZInt) w3 rfl (.tmp 11) (.tmp 15) rfl z0l (.int .i64 0) 8 Try.underlying23 z2G rfl (by decide) (by decide) w.heap.size (.slice A n c) inp L ((x:Int) - 2) _ (fun _=>False) rfl rfl HR3.out (by omega) (by omega) rfl (by simp [Value.oneCell']) rfl (fun b hb=>hb.elim) ?_)
   intro g7 cap7 w7 har7 hg7 hat7
   have hro:=HR3.out
   have hs7:=hg7.size
   have HE:Hid (InpR g l w (.slice (some ⟨g7,0,none⟩) (inp.length+1) cap7) (.int .i64 ((q:Int) - 1)) w7):=zhi ⟨q - 1,inp++[(x:Int) - 2],_,_,_,_,by congr 1; omega,rfl,by simp,by simp; omega,fun y hy=>by
    rcases List.mem_append.1 hy with hy | hy
    ·exact HX.out y hy
    ·simp at hy
     omega,har7,⟨k2,by
    obtain ⟨k3,hk3⟩:∃ k,z0S w7 g l k:=⟨k2,z1f HK2.out (z07 hg7 (fun b e=>(hro.own.lt b e).1) (by omega)) hg⟩
    exact z1f HK2.out (z07 hg7 (fun b e=>(hro.own.lt b e).1) (by omega)) hg⟩,by
    have hb:=z07 hg7 (fun b e=>(hro.own.lt b e).1) (show w.heap.size≤w3.heap.size by omega)
    exact z1y HG2.out hb (Nat.le_refl _)⟩
   clear har7 hg7 hat7 hro HR3 HK2 HG2 HG1
   go_wp2_with fail
   exact ⟨HE.out,by simp [intOf]; omega⟩
end Go.Proofs.Ytleicdfkagejoaa
namespace Go.Proofs.Ytleicdfkagejoaa
open Go.RowKit
def iv (x:Int):Value:=.int .i64 x
def zaq (b:Bool) (w:World) (e:Ending) (w':World):Prop:=e=.returned (.bool b)∧∃ q,w'=w.drewN q
theorem z5B (w:World) (p q:Nat):(w.drewN p).drewN q=w.drewN (p+q):=by simp [World.drewN,Nat.add_assoc]
theorem z2E {b c:Bool} {w w':World} {q:Nat} (h:b=c) (hw:w'=w.drewN q):zaq b w (.returned (.bool c)) w':=⟨by rw [h],q,hw⟩
def EqR (xs ys:List Int) (n:Nat) (w:World) (i:Value) (wr:World):Prop:=∃ k:Nat,k≤n∧i=.int .i64 (k:Int)∧Hid (xs.take k=ys.take k)∧∃ q,wr=w.drewN q
theorem z8l {xs ys:List Int} (h:xs.length≠ys.length):(xs == ys)=false:=by
 rw [beq_eq_false_iff_ne]
 intro e
 exact h (by rw [e])
theorem zbK {xs ys:List Int} {k:Nat} (hx:k<xs.length) (hy:k<ys.length) (h:¬ xs[k]=ys[k]):(xs == ys)=false:=by
 rw [beq_eq_false_iff_ne]
 intro e
 subst e
 exact h rfl
theorem za8 {xs ys:List Int} {k:Nat} (hx:k<xs.length) (hy:k<ys.length) (h:xs.take k=ys.take k) (he:xs[k]=ys[k]):xs.take (k+1)=ys.take (k+1):=by
 rw [List.take_succ_eq_append_getElem hx,List.take_succ_eq_append_getElem hy,h,he]
theorem z8k {xs ys:List Int} {n:Nat} (hx:xs.length=n) (hy:ys.length=n) (h:xs.take n=ys.take n):(xs == ys)=true:=by
 rw [List.take_of_length_le (by omega),List.take_of_length_le (by omega)] at h
 rw [h]
 simp
set_option maxRecDepth 10000 in
set_option maxHeartbeats 1000000 in
theorem zco {b:Bool} (xs ys:List Int) (A B:Option Addr) (n m c d:Nat) (w:World) (hn:xs.length=n) (hm:ys.length=m) (hx:Rd w A (xs.map iv)) (hy:Rd w B (ys.map iv)) (h1:n≤1000000) (h2:m≤1000000) (hb:b=(xs == ys)) :
  Calls Try.prog 18 #[.slice A n c,.slice B m d] w (zaq b w):=by
 have Hn:=zhi hn
 have Hm:=zhi hm
 have Hx:=zhi hx
 have Hy:=zhi hy
 have Hb:=zhi hb
 by_cases hnm:n=m
 ·subst hnm
  clear hn hm hx hy hb
  go_enter Try.func18,Try.ntmps18
  go_wp2_with fail
  go_loopw [13] (fun i wr=>EqR xs ys n w i wr) (fun i _=>n - (intOf i).toNat)
  case atStart=>exact ⟨0,Nat.zero_le _,rfl,zhi rfl,0,rfl⟩
  case round =>
   obtain ⟨k,hk,rfl,HK,q,rfl⟩:=hrel
   by_cases hlt:k<n
   ·have hkx:k<xs.length:=by rw [Hn.out]; exact hlt
    have hky:k<ys.length:=by rw [Hm.out]; exact hlt
    obtain ⟨ad,rfl,hc⟩:=Hx.out.at_ (k:=k) (by simp; exact hkx)
    obtain ⟨ae,rfl,he⟩:=Hy.out.at_ (k:=k) (by simp; exact hky)
    simp only [List.getElem_map,iv] at hc he
    by_cases heq:xs[k]=ys[k]
    ·have HK2:=zhi (za8 hkx hky HK.out heq)
     rw [← heq] at he
     have hne:(xs[k] != xs[k])=false:=by simp
     generalize xs[k]=x at hc he hne
     clear heq hkx hky
     go_wp2_with fail
     go_quiet (fail)
     go_wp2_with fail
     exact ⟨⟨k+1,by omega,by simp,HK2,_,rfl⟩,by simp [intOf]; omega⟩
    ·have HB:Hid (b=false):=zhi (by rw [Hb.out]; exact zbK hkx hky heq)
     have hne:(xs[k] != ys[k])=true:=by simp [heq]
     generalize xs[k]=x at hc hne
     generalize ys[k]=y at he hne
     clear heq hkx hky
     go_wp2_with fail
     go_quiet (fail)
     go_wp2_with fail
     go_ret
     exact z2E HB.out (z5B w q nq)
   ·have hkn:k=n:=by omega
    subst hkn
    have HB:Hid (b=true):=zhi (by rw [Hb.out]; exact z8k Hn.out Hm.out HK.out)
    go_wp2_with fail
    go_ret
    exact z2E HB.out rfl
 ·have HB:Hid (b=false):=zhi (by rw [hb]; exact z8l (by rw [hn,hm]; exact hnm))
  have hne:((n:Int) != (m:Int))=true:=by simp; omega
  clear hn hm hx hy hb
  go_enter Try.func18,Try.ntmps18
  go_wp2_with fail
  go_ret
  exact z2E (q:=0) HB.out rfl
set_option maxRecDepth 10000 in
set_option maxHeartbeats 1000000 in
theorem zdy {b:Bool} (xs ys:List Int) (A B:Option Addr) (n m c d:Nat) (w:World) (hn:xs.length=n) (hm:ys.length=m) (hx:Rd w A (xs.map iv)) (hy:Rd w B (ys.map iv)) (h1:n≤1000000) (h2:m≤1000000) (hb:b=(xs == ys)) :
  Calls Try.prog 10 #[.slice A n c,.slice B m d] w (zaq b w):=by
 have Hn:=zhi hn
 have Hm:=zhi hm
 have Hx:=zhi hx
 have Hy:=zhi hy
 have Hb:=zhi hb
 by_cases hnm:n=m
 ·subst hnm
  clear hn hm hx hy hb
  go_enter Try.func10,Try.ntmps10
  go_wp2_with fail
  go_loopw [5] (fun i wr=>EqR xs ys n w i wr) (fun i _=>n - (intOf i).toNat)
  case atStart=>exact ⟨0,Nat.zero_le _,rfl,zhi rfl,0,rfl⟩
  case round =>
   obtain ⟨k,hk,rfl,HK,q,rfl⟩:=hrel
   by_cases hlt:k<n
   ·have hkx:k<xs.length:=by rw [Hn.out]; exact hlt
    have hky:k<ys.length:=by rw [Hm.out]; exact hlt
    obtain ⟨ad,rfl,hc⟩:=Hx.out.at_ (k:=k) (by simp; exact hkx)
    obtain ⟨ae,rfl,he⟩:=Hy.out.at_ (k:=k) (by simp; exact hky)
    simp only [List.getElem_map,iv] at hc he
    by_cases heq:xs[k]=ys[k]
    ·have HK2:=zhi (za8 hkx hky HK.out heq)
     rw [← heq] at he
     have hne:(xs[k] != xs[k])=false:=by simp
     generalize xs[k]=x at hc he hne
     clear heq hkx hky
     go_wp2_with fail
     go_quiet (fail)
     go_wp2_with fail
     exact ⟨⟨k+1,by omega,by simp,HK2,_,rfl⟩,by simp [intOf]; omega⟩
    ·have HB:Hid (b=false):=zhi (by rw [Hb.out]; exact zbK hkx hky heq)
     have hne:(xs[k] != ys[k])=true:=by simp [heq]
     generalize xs[k]=x at hc hne
     generalize ys[k]=y at he hne
     clear heq hkx hky
     go_wp2_with fail
     go_quiet (fail)
     go_wp2_with fail
     go_ret
     exact z2E HB.out (z5B w q nq)
   ·have hkn:k=n:=by omega
    subst hkn
    have HB:Hid (b=true):=zhi (by rw [Hb.out]; exact z8k Hn.out Hm.out HK.out)
    go_wp2_with fail
    go_ret
    exact z2E HB.out rfl
 ·have HB:Hid (b=false):=zhi (by rw [hb]; exact z8l (by rw [hn,hm]; exact hnm))
  have hne:((n:Int) != (m:Int))=true:=by simp; omega
  clear hn hm hx hy hb
  go_enter Try.func10,Try.ntmps10
  go_wp2_with fail
  go_ret
  exact z2E (q:=0) HB.out rfl
def zdf (b:Bool) (w:World) (e:Ending) (w':World):Prop:=e=.returned (.bool b)∧Below w.heap.size w w'
theorem z8j {B:Nat} {a w:World} (h:Below B a w) (q:Nat):Below B a (w.drewN q):=⟨h.os,h.tape,h.output,h.size,h.block⟩
theorem z4Q {b c:Bool} {w w':World} (h:b=c) (hw:Below w.heap.size w w'):zdf b w (.returned (.bool c)) w':=⟨by rw [h],hw⟩
def zbd (k v t:Int) (xs:List Int) (k' v' t':Int) (ys:List Int):Bool:=k == k'&&v == v'&&t == t'&&xs == ys
theorem neb {a b:Int} (h:¬ a=b):(a == b)=false:=by simp [h]
section
variable {b:Bool} {w:World} {xs ys:List Int} {A B:Option Addr} {n m c d:Nat}
set_option maxRecDepth 10000 in
set_option maxHeartbeats 1000000 in
theorem zbZ (k v t k' v' t':Int) (w:World) (hn:xs.length=n) (hm:ys.length=m) (hx:Rd w A (xs.map iv)) (hy:Rd w B (ys.map iv)) (h1:n≤1000000) (h2:m≤1000000) (hb:b=zbd k v t xs k' v' t' ys) :
  Calls Try.prog 9 #[.agg #[.int .i64 k,.int .i64 v,.int .i64 t,.slice A n c],.agg #[.int .i64 k',.int .i64 v',.int .i64 t',.slice B m d]] w (zdf b w):=by
 have HE:Hid (∀ b,b=(xs == ys)→∀ o1 o2,Calls Try.prog 18 #[.slice A n c,.slice B m d] ((w.alloc o1).alloc o2) (zaq b ((w.alloc o1).alloc o2))):=zhi (fun b hb o1 o2=>zco xs ys A B n m c d _ hn hm ((hx.alloc o1).alloc o2) ((hy.alloc o1).alloc o2) h1 h2 hb)
 have HB:Hid (∀ o1 o2 q,Below w.heap.size w (((w.alloc o1).alloc o2).drewN q)):=zhi (fun o1 o2 q=>z8j (((Below.refl _ w).alloc (Nat.le_refl _) o1).alloc (by simp) o2) q)
 unfold zbd at hb
 clear hn hm hx hy
 by_cases e1:k=k'
 ·subst e1
  by_cases e2:v=v'
  ·subst e2
   by_cases e3:t=t'
   ·subst e3
    have HE2:=zhi (HE.out b (by rw [hb]; simp))
    clear hb
    go_enter Try.func9,Try.ntmps9
    go_wp2_with fail
    refine (HE2.out _ _).mono ?_
    rintro e w1 ⟨rfl,q,rfl⟩
    go_wp2_with fail
    go_ret
    exact ⟨rfl,HB.out _ _ _⟩
   ·have e3:=neb e3
    have Hb:Hid (b=false):=zhi (by rw [hb]; simp [e3])
    clear hb
    go_enter Try.func9,Try.ntmps9
    go_wp2_with fail
    go_ret
    exact z4Q Hb.out (HB.out _ _ 0)
  ·have e2:=neb e2
   have Hb:Hid (b=false):=zhi (by rw [hb]; simp [e2])
   clear hb
   go_enter Try.func9,Try.ntmps9
   go_wp2_with fail
   go_ret
   exact z4Q Hb.out (HB.out _ _ 0)
 ·have e1:=neb e1
  have Hb:Hid (b=false):=zhi (by rw [hb]; simp [e1])
  clear hb
  go_enter Try.func9,Try.ntmps9
  go_wp2_with fail
  go_ret
  exact z4Q Hb.out (HB.out _ _ 0)
end
end Go.Proofs.Ytleicdfkagejoaa
