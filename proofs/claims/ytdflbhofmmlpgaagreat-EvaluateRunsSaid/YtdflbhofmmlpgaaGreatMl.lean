/-
  Ml: Ym, OpI. Part of the proof. No condition.
-/
import Derived.Test.YtdflbhofmmlpgaaGreatMi
import Derived.Test.YtdflbhofmmlpgaaGreatLe
import Derived.Test.YtdflbhofmmlpgaaGreatKy
set_option maxRecDepth 100000
set_option maxHeartbeats 8000000
namespace Go.Proofs.YtdflbhofmmlpgaaGreat
open Go.RowKit
def RslG (g:Nat) (l:List Nat) (w:World) (e:Ending) (w':World):Prop:=∃ (gl:GlL) (fl:List Fn) (gA:Option Addr) (gc:Nat) (fA:Option Addr) (fc:Nat),e=.returned (.agg #[.slice gA gl.length gc,.slice fA fl.length fc])/\z0k (fun b=>w.heap.size<=b/\b<w'.heap.size) w' gl gA gc/\z0R (fun b=>w.heap.size<=b/\b<w'.heap.size) w' 4 3 (fl.map (rsFn gl fl)) fA fc/\z4n gl fl/\(∀ x∈gl,GG x)/\(∀ f∈fl,GF 2 f)/\(∃ k,z0A w' g l k)/\w.grownBy w' (some g)
theorem z3H {F G:Nat->Prop} {w w':World} {gl:GlL} {A:Option Addr} {c:Nat} (h:z0k F w gl A c) (hFG:∀ b,F b->G b/\w'.heap[b]?=w.heap[b]?):z0k G w' gl A c :=
 ⟨h.1,fun i x hi=>by
  obtain ⟨g,e,hF,c0,c1⟩:=h.2 i x hi;have hk:∀ o,World.cell? w' ⟨g,o,none⟩=World.cell? w ⟨g,o,none⟩:=fun o=>q_6 (hFG g hF).2
  exact ⟨g,e,(hFG g hF).1,(hk _).trans c0,(hk _).trans c1⟩⟩
theorem z3G {F G:Nat->Prop} {w w':World} {D d:Nat} {fl:List Fn} {A:Option Addr} {c:Nat} (h:z0R F w D d fl A c) (hFG:∀ b,F b->G b/\w'.heap[b]?=w.heap[b]?):z0R G w' D d fl A c :=
 ⟨h.1,fun i f hi=>by
  obtain ⟨g,pA,pc,bA,bc,e,hF,c0,c1,c2,c3,hs,hr⟩:=h.2 i f hi;have hk:∀ o,World.cell? w' ⟨g,o,none⟩=World.cell? w ⟨g,o,none⟩:=fun o=>q_6 (hFG g hF).2
  refine ⟨g,pA,pc,bA,bc,e,(hFG g hF).1,(hk _).trans c0,(hk _).trans c1,(hk _).trans c2,(hk _).trans c3,⟨hs.1,fun q x hq=>?_⟩,RowS.keep (fun b hb=>(hFG b hb).1) (fun b hb=>(hFG b hb).2) hr⟩;obtain ⟨g,e,hFg,hc⟩:=hs.2 q x hq;exact ⟨g,e,(hFG g hFg).1,(q_6 (hFG g hFg).2).trans hc⟩⟩
theorem z5R (g:Nat) (l:List Nat) (w:World) (hc:∃ k,z0A w g l k) (hlen:l.length<=1000000) (hl:∀ x∈l,x<256) :
  Calls Tryz.prog 6 #[.pointer (some ⟨g,0,none⟩)] w (RslG g l w):=by
 have hg:g<w.heap.size:=by obtain ⟨k,hk⟩:=hc; exact z1W hk
 have hb0:=(q_i _ w).alloc (q_2 _) (.cells #[.slice none 0 0,.slice none 0 0] 31);have hz0:=q_4 w (.cells #[.slice none 0 0,.slice none 0 0] 31);have hc0:∃ k,z0A (w.alloc (.cells #[.slice none 0 0,.slice none 0 0] 31)) g l k:=by
  obtain ⟨k,hk⟩:=hc;exact ⟨k,z0v hk (World.grownBy_alloc _ _ (some w.heap.size)) hg⟩
 have HX:=zhi (z6K g l _ hc0 hlen hl);have HB0:=zhi hb0;have HZ0:=zhi hz0;have hsz0:w.heap.size<(w.alloc (.cells #[.slice none 0 0,.slice none 0 0] 31)).heap.size:=by simp
 clear hb0 hz0 hc0 hc hl;go_enter Tryz.func6,Tryz.ntmps6;go_upto_region 1 with fail;obtain ⟨W0,hW0⟩:∃ W0,W0=w.alloc (.cells #[.slice none 0 0,.slice none 0 0] 31):=⟨_,rfl⟩;rw [<- hW0] at HX HB0 HZ0 hsz0 ⊢;clear hW0;go_wp2_with fail;refine HX.out.mono ?_;rintro e w3 ⟨gl,fl,gA,fA,gc,fc,⟨rfl,hG,hF,hgg,hgf,h4,h1,hf4,hco,hgr⟩,hsc⟩;have hok:=zaY hsc hgf h4 h1 hf4;have hz3:=z04 hgr (by omega) HZ0.out;have hs3:=hgr.size;have HRs:=zhi (z5Q gl fl gA gl.length gc fA fl.length fc w3 rfl rfl hG hF (fun b hb=>hb.2) hok);have HP:=zhi (And.intro hok (And.intro hgg (And.intro hgf hco)));have HG3:=zhi hgr;have HZ3:=zhi hz3;clear hok hgg hgf hco hgr hsc hG hF hz3 HX HZ0;go_wp2_with fail;refine HRs.out.mono ?_;rintro e w5 ⟨gB,gc2,fB,fc2,rfl,hG5,hF5,hb5⟩;obtain ⟨n,hn⟩:∃ n,n=gl.length:=⟨_,rfl⟩;obtain ⟨f,hf⟩:∃ f,f=fl.length:=⟨_,rfl⟩;rw [<- hn,<- hf];have Hn:=zhi hn;have Hf:=zhi hf;have hb6:=(q_i _ w5).alloc (q_2 _) (.cells #[.slice gB n gc2,.slice fB f fc2] 31);have hr6:=q_4 w5 (.cells #[.slice gB n gc2,.slice fB f fc2] 31);have hs5:=hb5.size;have hs6:=hb6.size;obtain ⟨c0,c1⟩:=cl2 hr6;have HZ6:=zhi ((hb6.block _ (by omega)).trans ((hb5.block _ (by omega)).trans HZ3.out));have HG6:=zhi (z3H (G:=fun b=>W0.heap.size<=b/\b<(w5.alloc (.cells #[.slice gB n gc2,.slice fB f fc2] 31)).heap.size) hG5 (fun b hb=>⟨⟨by omega,by omega⟩,hb6.block b hb.2⟩));have HF6:=zhi (z3G (G:=fun b=>W0.heap.size<=b/\b<(w5.alloc (.cells #[.slice gB n gc2,.slice fB f fc2] 31)).heap.size) hF5 (fun b hb=>⟨⟨by omega,by omega⟩,hb6.block b hb.2⟩));have HB6:=zhi (hb5.trans (hb6.mono hs5));obtain ⟨w6,hw6⟩:∃ w6,w6=w5.alloc (.cells #[.slice gB n gc2,.slice fB f fc2] 31):=⟨_,rfl⟩;rw [<- hw6] at HZ6 HG6 HF6 HB6 c0 c1 hs6;clear hG5 hF5 hb5 hb6 hr6 HRs hn hf HZ3;go_upto_region 2 with fail;rw [<- hw6];clear hw6;go_wp2_with (with_reducible refine z5W ?_);refine z07.of (z00 _ rfl _ _ _ rfl w.heap.size _ rfl (by rfl) _ _ HZ6.out (by kernel_rfl) (by rfl) (by simp [Value.oneCell']) ?_);intro w9 hrow9 hg9;obtain ⟨j0,j1⟩:=cl2 hrow9;have hs9:=hg9.size;have HE:Hid (RslG g l w (.returned (.agg #[.slice gB n gc2,.slice fB f fc2])) w9):=zhi ⟨gl,fl,gB,gc2,fB,fc2,by rw [Hn.out,Hf.out],z3H HG6.out (fun b hb=>⟨⟨by omega,by omega⟩,hg9.block b hb.2 (fun e=>by injection e with e; omega)⟩),z3G HF6.out (fun b hb=>⟨⟨by omega,by omega⟩,hg9.block b hb.2 (fun e=>by injection e with e; omega)⟩),HP.out.1,HP.out.2.1,HP.out.2.2.1,by
  obtain ⟨k,hk⟩:=HP.out.2.2.2;exact ⟨k,z0v (z0v hk (z02 HB6.out (some w3.heap.size)) (by omega)) hg9 hg⟩,by
  have h1:=(z02 HB0.out (some g)).trans HG3.out;have h2:=h1.trans (z02 HB6.out (some g));exact z0r h2 hg9 (q_2 _)⟩
 clear hrow9 hg9 HG6 HF6 HZ6;go_wp2_with fail;exact q_3 (by simp [results,Tryz.results6,go_sem,j0,j1]) rfl HE.out
def InpG (g:Nat) (l:List Nat) (w:World) (e:Ending) (w':World):Prop:=∃ (inp:List Int) (A:Option Addr) (n c:Nat) (L:List Value),e=.returned (.slice A n c)/\n=inp.length/\inp.length<=5/\(∀ x∈inp,-2<=x/\x<=6)/\GRow 1 3 ZInt w.heap.size w' (.slice A n c) inp L/\(∃ k,z0A w' g l k)/\w.grownBy w' (some g)
def InpR (g:Nat) (l:List Nat) (w:World) (v k:Value) (wr:World):Prop:=∃ (q:Nat) (inp:List Int) (A:Option Addr) (n c:Nat) (L:List Value),k=.int .i64 (q:Int)/\v=.slice A n c/\n=inp.length/\inp.length+q<=5/\(∀ x∈inp,-2<=x/\x<=6)/\GRow 1 3 ZInt w.heap.size wr (.slice A n c) inp L/\(∃ k,z0A wr g l k)/\w.grownBy wr (some g)
theorem z97 (g:Nat) (l:List Nat) (w:World) (hc:∃ k,z0A w g l k) (hlen:l.length<=1000000) (hl:∀ x∈l,x<256) :
  Calls Tryz.prog 8 #[.pointer (some ⟨g,0,none⟩)] w (InpG g l w):=by
 have hg:g<w.heap.size:=by obtain ⟨k,hk⟩:=hc; exact z1W hk
 obtain ⟨k0,hk0⟩:=hc;have HN:=zhi (z25 g l k0 6 w hk0 (by decide) hlen hl);have HD:Hid (∀ (W:World) (k:Nat),z0A W g l k->Calls Tryz.prog 15 #[.pointer (some ⟨g,0,none⟩),.int .i64 9] W (z2V g l 9 W)):=zhi (fun W k h=>z25 g l k 9 W h (by decide) hlen hl);clear hk0 hl;go_enter Tryz.func8,Tryz.ntmps8;go_wp2_with fail;refine HN.out.mono ?_;rintro e w2 ⟨r,k,rfl,h1,_,hk,hgr⟩;have hr5:r<=5:=by have:=h1 (by decide); omega
 have HK:=zhi hk;have HG:=zhi hgr;clear hk hgr h1 HN;go_wp2_with fail
 go_loopw [3,4] (fun v k wr=>InpR g l w v k wr) (fun _ k _=>(intOf k).toNat)
 case atStart=>exact ⟨r,[],none,0,0,[],rfl,rfl,rfl,by simpa using hr5,fun x hx=>by simp at hx,GRow.nil,⟨k,HK.out⟩,HG.out⟩
 case round =>
  obtain ⟨wo,rfl⟩:∃ wo:World,wo=wr:=⟨_,rfl⟩;obtain ⟨q,inp,A,n,c,L,rfl,rfl,hn,hq,hx,hgr,⟨k1,hk1⟩,hgo⟩:=hrel;have Hn:=zhi hn;have HX:=zhi hx;have HR:=zhi hgr;have HK1:=zhi hk1;have HG1:=zhi hgo;have hso:=hgo.size;clear hn hx hgr hk1 hgo;rcases Nat.eq_zero_or_pos q with h0 | h0
  ·subst h0;have HE:Hid (InpG g l w (.returned (.slice A n c)) wo):=zhi ⟨inp,A,n,c,L,rfl,Hn.out,by omega,HX.out,HR.out,⟨k1,HK1.out⟩,HG1.out⟩;go_wp2_with fail;go_ret;exact HE.out
  ·have HC:=zhi (HD.out wo k1 HK1.out);go_wp2_with fail;refine HC.out.mono ?_;rintro e w3 ⟨x,k2,rfl,hx1,_,hk2,hg2⟩;have hx9:(x:Int)<9:=hx1 (by decide);have hs3:=hg2.size;have HR3:=zhi (z1f z0f HR.out hg2 (fun b e=>by injection e with e; omega));have HK2:=zhi hk2;have HG2:=zhi (HG1.out.trans hg2);clear hx1 hk2 hg2 HC HR HK1;go_wp2_with (at_builtin; refine z07.out ?_);refine z07.of (z1n (k:=1) (T:=3) (S:=23) (V:=ZInt) w3 rfl (.tmp 11) (.tmp 15) rfl z0f (.int .i64 0) 8 Tryz.underlying23 z2E rfl (by decide) (by decide) w.heap.size (.slice A n c) inp L ((x:Int) - 2) _ (fun _=>False) rfl rfl HR3.out (by omega) (by omega) rfl (by simp [Value.oneCell']) rfl (fun b hb=>hb.elim) ?_);intro g7 cap7 w7 har7 hg7 hat7;have hro:=HR3.out;have hs7:=hg7.size;have HE:Hid (InpR g l w (.slice (some ⟨g7,0,none⟩) (inp.length+1) cap7) (.int .i64 ((q:Int) - 1)) w7):=zhi ⟨q - 1,inp++[(x:Int) - 2],_,_,_,_,by congr 1; omega,rfl,by simp,by simp; omega,fun y hy=>by
    rcases q_8.1 hy with hy | hy
    ·exact HX.out y hy
    ·simp at hy;omega,har7,⟨k2,by
    obtain ⟨k3,hk3⟩:∃ k,z0A w7 g l k:=⟨k2,z1i HK2.out (z05 hg7 (fun b e=>(hro.own.lt b e).1) (by omega)) hg⟩;exact z1i HK2.out (z05 hg7 (fun b e=>(hro.own.lt b e).1) (by omega)) hg⟩,by
    have hb:=z05 hg7 (fun b e=>(hro.own.lt b e).1) (show w.heap.size<=w3.heap.size by omega);exact z1N HG2.out hb (q_2 _)⟩
   clear har7 hg7 hat7 hro HR3 HK2 HG2 HG1;go_wp2_with fail;exact ⟨HE.out,by simp [intOf]; omega⟩
end Go.Proofs.YtdflbhofmmlpgaaGreat
namespace Go.Proofs.YtdflbhofmmlpgaaGreat
open Go.ChangeShapes Go.WideShapes Go.ChangeAt Go.RowKit
section
variable {H:Type} {enc:TypeId × Value->H} {P:Program}
theorem open_i64s {W:World} {base:Nat} {T E:TypeId} {v:Value} {d:DataW H} {p:List MemPlace} (hT:P.underlying T=some (.slice E)) (hE:P.underlying E=some (.int .i64)) (hc:P.cellsOf E=1) (hv:Value.okWide P W .any base T v)
  (h:DataW.Trod enc P W 0 (fun _=>true) true T v d p):∃ (A:Option Addr) (l:List Int) (k c:Nat),v=.slice A k c/\l.length=k/\Rd W A (l.map (Value.int .i64))/\k<=c/\c<=maxLen/\(A=none->c=0)/\(∀ ad,A=some ad->l≠[]->ad.block<W.heap.size):=by
 obtain ⟨a0,len,cap,rfl⟩:=okWide_slice hT hv;obtain ⟨fuel,hf⟩:=h;rcases open_ints hT hE hc hf with ⟨hcs,_⟩ | ⟨a,len',cap',zs,hcs,_,hl,hm,hz,_,hcell,_⟩
 ·simp [Value.cells] at hcs;obtain ⟨rfl,rfl,rfl⟩:=hcs;exact ⟨none,[],0,0,rfl,rfl,Rd.nil,q_2 _,by simp,fun _=>rfl,fun ad e=>(by cases e)⟩
 ·simp [Value.cells] at hcs;obtain ⟨rfl,rfl,rfl⟩:=hcs;simp only [if_true] at hz;have hlen:(zs.take len).length=len:=by simp; omega
  refine ⟨some a,zs.take len,len,cap,rfl,hlen,?_,hl,hm,(fun h=>by cases h),fun ad e hne=>?_⟩
  ·refine Rd.of_cells fun j u hu=>?_
   rw [q_b,q_c] at hu;obtain ⟨z,hz1,rfl⟩:=hu;have hj:j<len:=by
    have:=(List.getElem?_eq_some_iff.1 hz1).1;omega
   rw [List.getElem?_take_of_lt hj] at hz1;rw [hcell j (by omega)];simp only [List.getD_eq_getElem?_getD,hz1,Option.getD_some]
  ·injection e with e;subst e;have h0:0<len:=by
    rcases Nat.eq_zero_or_pos len with e | e
    ·exact absurd (q_g (by omega)) hne
    ·exact e
   have:=hcell 0 (by omega);have:=q_k _ _ this
   rwa [z0i] at this
end
end Go.Proofs.YtdflbhofmmlpgaaGreat
