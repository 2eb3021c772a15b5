/-
  Ks: Gen1, Gen2. Walks and laws that the statement's proof is made of. No condition of its own.
-/
import Derived.Test.YtleicdfkagejoaaKb
import Derived.Test.YtleicdfkagejoaaKr
import Derived.Deep.Cut
import Derived.Deep.RegionHeld3
import Derived.Deep.RegionWith
namespace Go.Proofs.Ytleicdfkagejoaa
open Go.RowKit
def zdz (l:z0g):Bool:=match l with | []=>false | c :: r=>letter c&&r.all wordy&&!isW (c :: r)&&decide (r.length<32)
def z0E (s:ByteArray):Prop:=s.size≤16∧zdz s.data.toList=true
structure Env where
 globs:List (ByteArray × Int)
 funs:List (ByteArray × List ByteArray)
 locals:List ByteArray
def IsGl (E:Env) (b:Bool) (s:ByteArray):Prop:=∃ x∈E.globs,x.1=s∧decide (0<x.2)=b
def z2N (E:Env) (s:ByteArray):Prop:=s∈E.locals∨IsGl E false s
def InN (E:Env) (k:Int) (s:ByteArray) (n:Nat):Prop:=(k=13→z2N E s)∧(k=4→IsGl E true s)∧(k=11→∃ f∈E.funs,f.1=s)∧(k=9→(∃ f∈E.funs,f.1=s∧f.2.length=n)∨z2N E s)
theorem z0L {E:Env} {k:Int} {s:ByteArray} {n:Nat} (h:k≠13∧k≠4∧k≠11∧k≠9):InN E k s n:=⟨fun e=>absurd e h.1,fun e=>absurd e h.2.1,fun e=>absurd e h.2.2.1,fun e=>absurd e h.2.2.2⟩
mutual
def InX (E:Env):Ex→Prop
 | .mk k _ _ _ s xs=>InN E k s xs.length∧InL E xs
def InL (E:Env):List Ex→Prop
 | []=>True
 | x :: xs=>InX E x∧InL E xs
end
theorem z45 {E:Env}:∀ {xs:List Ex},(∀ x∈xs,InX E x)→InL E xs
 | [],_=>trivial
 | x :: xs,h=>⟨h x (by simp),z45 fun y hy=>h y (by simp [hy])⟩
theorem z8Z {E:Env}:∀ {xs:List Ex},InL E xs→∀ x∈xs,InX E x
 | y :: xs,h,x,hx=>by
  rcases List.mem_cons.1 hx with e | e
  ·subst e; exact h.1
  ·exact z8Z h.2 x e
theorem z2O {E:Env} {k o a l:Int} {s:ByteArray} {xs:List Ex} (h:InN E k s xs.length) (hx:∀ x∈xs,InX E x):InX E (.mk k o a l s xs):=And.intro h (z45 hx)
def z1w (F:Nat→Prop) (w:World) (fl:List (ByteArray × List ByteArray)) (A:Option Addr) (c:Nat):Prop :=
 fl.length≤c∧∀ i f,fl[i]?=some f→∃ r pA pc bA bn bc,∃ ln:Int,A=some ⟨r,0,none⟩∧F r∧w.cell? ⟨r,i * 4,none⟩=some (.string f.1)∧w.cell? ⟨r,i * 4+1,none⟩=some (.int .i64 ln)∧w.cell? ⟨r,i * 4+2,none⟩=some (.slice pA f.2.length pc)∧w.cell? ⟨r,i * 4+3,none⟩=some (.slice bA bn bc)
def MkAt (w:World) (m g:Nat) (E:Env) (bud:Int):Prop :=
 ∃ gA gc fA fc lA lc,w.heap[m]?=some (.cells #[.pointer (some ⟨g,0,none⟩),.slice gA E.globs.length gc,.slice fA E.funs.length fc,.slice lA E.locals.length lc,.int .i64 bud] 86 (0,0)) ∧
  z0m (fun k=>k≠g) w E.globs gA gc∧z1w (fun k=>k≠g) w E.funs fA fc∧z0q (fun k=>k≠g) w E.locals lA lc
theorem z0m.grown {w w':World} {g:Nat} {gl:List (ByteArray × Int)} {A:Option Addr} {c:Nat} (h:z0m (fun k=>k≠g) w gl A c) (hg:w.grownBy w' (some g)):z0m (fun k=>k≠g) w' gl A c :=
 ⟨h.1,fun i x hi=>by
  obtain ⟨r,hA,hr,e0,e1⟩:=h.2 i x hi
  exact ⟨r,hA,hr,z0a hg hr e0,z0a hg hr e1⟩⟩
theorem z0q.grown {w w':World} {g:Nat} {l:List ByteArray} {A:Option Addr} {c:Nat} (h:z0q (fun k=>k≠g) w l A c) (hg:w.grownBy w' (some g)):z0q (fun k=>k≠g) w' l A c :=
 ⟨h.1,fun i x hi=>by
  obtain ⟨r,hA,hr,e0⟩:=h.2 i x hi
  exact ⟨r,hA,hr,z0a hg hr e0⟩⟩
theorem z1w.grown {w w':World} {g:Nat} {l:List (ByteArray × List ByteArray)} {A:Option Addr} {c:Nat} (h:z1w (fun k=>k≠g) w l A c) (hg:w.grownBy w' (some g)):z1w (fun k=>k≠g) w' l A c :=
 ⟨h.1,fun i x hi=>by
  obtain ⟨r,pA,pc,bA,bn,bc,ln,hA,hr,e0,e1,e2,e3⟩:=h.2 i x hi
  exact ⟨r,pA,pc,bA,bn,bc,ln,hA,hr,z0a hg hr e0,z0a hg hr e1,z0a hg hr e2,z0a hg hr e3⟩⟩
theorem MkAt.lt {w:World} {m g:Nat} {E:Env} {bud:Int} (h:MkAt w m g E bud):m<w.heap.size:=by
 obtain ⟨_,_,_,_,_,_,h,_⟩:=h
 exact (Array.getElem?_eq_some_iff.1 h).1
theorem MkAt.grown {w w':World} {m g:Nat} {E:Env} {bud:Int} (h:MkAt w m g E bud) (hg:w.grownBy w' (some g)) (hm:m≠g):MkAt w' m g E bud:=by
 have hlt:=h.lt
 obtain ⟨gA,gc,fA,fc,lA,lc,h0,h1,h2,h3⟩:=h
 exact ⟨gA,gc,fA,fc,lA,lc,(hg.block m hlt (fun e=>hm (by injection e))).trans h0,h1.grown hg,h2.grown hg,h3.grown hg⟩
structure GS (w:World) (m g:Nat) (l:List Nat) (E:Env) (bud:Int):Prop where
 ne:m≠g
 mka:MkAt w m g E bud
 co:∃ k,z0S w g l k
 len:l.length≤1000000
 lb:∀ x∈l,x<256
theorem GS.below {w w':World} {m g:Nat} {l:List Nat} {E:Env} {bud:Int} (h:GS w m g l E bud) (hb:Below w.heap.size w w'):GS w' m g l E bud :=
 ⟨h.ne,h.mka.grown (z02 hb _) h.ne,by obtain ⟨k,hk⟩:=h.co; exact ⟨k,z1J hk hb⟩,h.len,h.lb⟩
def zdj (m g:Nat) (l:List Nat) (E:Env) (bud:Int) (n:Nat) (w:World) (e:Ending) (w':World):Prop :=
 ∃ r:Nat,e=.returned (.int .i64 (r:Int))∧(1≤n→r<n)∧(n<1→r=0)∧GS w' m g l E bud∧w.grownBy w' (some g)
theorem z0p {w:World} {m g:Nat} {l:List Nat} {E:Env} {bud:Int} (n:Nat) (z:Int) (h:GS w m g l E bud) (hz:z=(n:Int)) (hn:n≤1000000000) :
  Calls Try.prog 14 #[.pointer (some ⟨g,0,none⟩),.int .i64 z] w (zdj m g l E bud n w):=by
 subst hz
 obtain ⟨k,hk⟩:=h.co
 exact (z2q g l k n w hk hn h.len h.lb).mono fun e w' ⟨r,k',h1,h2,h3,h4,h5⟩=>⟨r,h1,fun hh=>by have:=h2 (by omega); omega,fun hh=>h3 (by omega),⟨h.ne,h.mka.grown h5 h.ne,⟨k',h4⟩,h.len,h.lb⟩,h5⟩
theorem GS.cells {w:World} {m g:Nat} {l:List Nat} {E:Env} {bud:Int} (h:GS w m g l E bud):∃ gA gc fA fc lA lc,w.cell? ⟨m,0,none⟩=some (.pointer (some ⟨g,0,none⟩))∧w.cell? ⟨m,1,none⟩=some (.slice gA E.globs.length gc)∧w.cell? ⟨m,2,none⟩=some (.slice fA E.funs.length fc)∧w.cell? ⟨m,3,none⟩=some (.slice lA E.locals.length lc)∧w.cell? ⟨m,4,none⟩=some (.int .i64 bud) ∧
  z0m (fun k=>k≠g) w E.globs gA gc∧z1w (fun k=>k≠g) w E.funs fA fc∧z0q (fun k=>k≠g) w E.locals lA lc:=by
 obtain ⟨gA,gc,fA,fc,lA,lc,h0,h1,h2,h3⟩:=h.mka
 exact ⟨gA,gc,fA,fc,lA,lc,cell_of_row _ _ 0 _ _ _ h0,cell_of_row _ _ 1 _ _ _ h0,cell_of_row _ _ 2 _ _ _ h0,cell_of_row _ _ 3 _ _ _ h0,cell_of_row _ _ 4 _ _ _ h0,h1,h2,h3⟩
theorem GS.glt {w:World} {m g:Nat} {l:List Nat} {E:Env} {bud:Int} (h:GS w m g l E bud):g<w.heap.size:=by obtain ⟨k,hk⟩:=h.co; exact z2a hk
structure z1o (E:Env):Prop where
 gn:E.globs.length≤100
 fn:1≤E.funs.length∧E.funs.length≤100
 ln:E.locals.length≤1000
 gs:∀ x∈E.globs,z0E x.1∧0≤x.2∧x.2≤100
 fs:∀ f∈E.funs,z0E f.1∧f.2.length≤2∧∀ p∈f.2,z0E p
 ls:∀ s∈E.locals,z0E s
def z8a (w0:World) (E:Env) (arr:Bool) (v i:Value) (wr:World):Prop :=
 ∃ (k:Nat) (xs:List ByteArray),k≤E.globs.length∧i=.int .i64 (k:Int)∧xs.length≤k∧(∀ s∈xs,IsGl E arr s)∧wr.ownsRow w0.heap.size 9 1 v xs.length (strV xs)∧Below w0.heap.size w0 wr
def zee (arr:Bool) (m g:Nat) (l:List Nat) (E:Env) (bud:Int) (w:World) (e:Ending) (w':World):Prop :=
 ∃ (s:ByteArray) (ok:Bool),e=.returned (.tuple #[.string s,.bool ok])∧(ok=true→IsGl E arr s)∧GS w' m g l E bud∧w.grownBy w' (some g)
theorem z3S:(Try.prog.info? 9).map (fun i=>(i.zero,i.size,i.bytes))=some (some (.string ⟨#[]⟩),1,16):=by kernel_rfl
theorem z79 {w:World} {base:Nat} {v:Value} {n size:Nat} {T:TypeId} {xs:List Value} (h:w.ownsRow base T size v n xs) (hn:0<n):∃ b c,v=.slice (some ⟨b,0,none⟩) n c∧base≤b∧n≤c:=by
 rcases h.2 with ⟨rfl,h0⟩ | ⟨g,cap,cur,rfl,hb,_,hc,_⟩
 ·omega
 ·exact ⟨g,cap,rfl,hb,hc⟩
theorem z7G {w a b:World} {g:Nat} (h:w.grownBy a (some g)) (k:a.grownBy b (some g)):w.grownBy b (some g):=h.trans k
set_option maxRecDepth 100000 in
set_option maxHeartbeats 4000000 in
theorem z5k (m g:Nat) (l:List Nat) (E:Env) (bud:Int) (arr:Bool) (w:World) (h:GS w m g l E bud) (hE:z1o E) :
  Calls Try.prog 65 #[.pointer (some ⟨m,0,none⟩),.bool arr] w (zee arr m g l E bud w):=by
 obtain ⟨i9,hi,hz0,hz1,hz2⟩:=info_parts z3S
 have Hi:=zhi hi; have Hz0:=zhi hz0; have Hz1:=zhi hz1; have Hz2:=zhi hz2
 clear hi hz0 hz1 hz2
 have Hgs:=zhi h
 obtain ⟨gA,gc,fA,fc,lA,lc,c0,c1,c2,c3,c4,hG,_,_⟩:=h.cells
 have HG:=zhi hG
 have hgn:=hE.gn
 obtain ⟨n,hn⟩:∃ n,n=E.globs.length:=⟨_,rfl⟩
 have Hn:=zhi hn
 have hgc:n≤gc:=by rw [hn]; exact hG.1
 rw [← hn] at c1 hgn
 clear hG h hn c2 c3 c4
 go_enter Try.func65,Try.ntmps65
 go_wp2_with fail
 go_loopw [6,7] (fun v i wr=>z8a w E arr v i wr) (fun _ i _=>n - (intOf i).toNat)
 case atStart=>exact ⟨0,[],Nat.zero_le _,rfl,Nat.zero_le _,by simp,World.ownsRow_nil _ _ _ _,Below.refl _ _⟩
 case round =>
  obtain ⟨k,xs,hk,rfl,hxk,hmem,hown,hb⟩:=hrel
  have Hown:=zhi hown
  have Hb:=zhi hb
  have Hmem:=zhi hmem
  have hsz:=hb.size
  have hkn:k≤n:=by rw [Hn.out]; exact hk
  have d0:=hold hb c0
  have d1:=hold hb c1
  clear hown hb hmem hk
  by_cases hlt:k<n
  ·obtain ⟨x,hx⟩:∃ x,E.globs[k]?=some x:=⟨E.globs[k]'(by rw [← Hn.out]; exact hlt),List.getElem?_eq_getElem _⟩
   obtain ⟨r,rfl,_,e0,e1⟩:=HG.out.2 k x hx
   have hxm:=List.mem_of_getElem? hx
   have d2:=hold Hb.out e0
   have d3:=hold Hb.out e1
   obtain ⟨nm,sz⟩:=x
   simp only [] at d2 d3
   clear e0 e1 hx c0 c1
   by_cases hp:decide (0<sz)=arr
   ·have hp2:Hid (decide (0<sz)=arr):=zhi hp
    subst hp
    clear hp2
    go_wp2_with (at_builtin; refine z08.out ?_)
    refine z08.of (wpList_append_own _ rfl (.tmp 30) (.tmp 40) _ rfl w.heap.size 9 i9 _ 1 16 Try.underlying70 Hi.out Hz0.out Hz1.out Hz2.out rfl (by decide) _ _ _ rfl (Hown.out.alloc _) ⟨_,0,none⟩ 1 1 [.string nm] rfl (by simp) ?_ ?_ (by unfold maxLen; omega) (by omega) (by simp; omega) ?_)
    ·intro j u hu
     exact (Rd.new wr #[.string nm] 9 (0,0)).cells j u (by simpa using hu)
    ·intro u hu
     simp at hu
     subst hu
     rfl
    ·intro v' w' hown hg _
     have hr:z8a w E (decide (0<sz)) v' (.int .i64 ((k:Int)+1)) w':=⟨k+1,xs++[nm],by rw [← Hn.out]; omega,by go_num,by simp; omega,fun s hs=>by
      rcases List.mem_append.1 hs with h | h
      ·exact Hmem.out s h
      ·simp at h
       subst h
       exact ⟨_,hxm,rfl,rfl⟩,by simpa [strV] using hown,(Hb.out.alloc hsz _).grown hg (by simp; omega) (zb2 Hown.out)⟩
     have Hr:=zhi hr
     clear hr hown hg
     go_wp2_with fail
     exact ⟨Hr.out,by simp [intOf]; omega⟩
   ·have hp2:(decide (0<sz) == arr)=false:=by simpa using hp
    clear hp
    go_wp2_with fail
    exact ⟨⟨k+1,xs,by rw [← Hn.out]; omega,by go_num,by omega,Hmem.out,Hown.out,Hb.out⟩,by simp [intOf]; omega⟩
  ·obtain rfl:k=n:=by omega
   by_cases hx0:xs=[]
   ·subst hx0
    obtain ⟨a,c,rfl⟩:=z0t Hown.out
    go_wp2_with fail
    go_ret2
    exact ⟨_,false,rfl,(fun h=>by cases h),Hgs.out.below Hb.out,z02 Hb.out _⟩
   ·have hpos:0<xs.length:=List.length_pos_iff.2 hx0
    obtain ⟨b,cap,hu,hbw,hcap⟩:=z79 Hown.out hpos
    subst hu
    have hgs:=Hgs.out.below Hb.out
    have hnx:=zhi (z0p xs.length _ hgs rfl (by omega))
    have hbg:b≠g:=by have:=Hgs.out.glt; omega
    have hcell:∀ r (hr:r<xs.length),wr.cell? ⟨b,r,none⟩=some (.string xs[r]):=fun r hr=>by
     have:=Hown.out.cells (g:=b) rfl r (.string xs[r]) (by simp [strV,hr])
     rwa [Addr.add_lit,Nat.zero_add] at this
    have Hcell:=zhi hcell
    clear hcell hgs hx0 c0 c1
    obtain ⟨nx,hnxx⟩:∃ nx,nx=xs.length:=⟨_,rfl⟩
    have Hnx:=zhi hnxx
    rw [← hnxx] at hpos hnx hcap ⊢
    clear hnxx
    go_wp2_with fail
    refine hnx.out.mono ?_
    rintro e w2 ⟨r,rfl,hr1,_,hgs2,hg2⟩
    have hrn:r<nx:=hr1 (by omega)
    have hc2:=z0a hg2 hbg (Hcell.out r (by rw [← Hnx.out]; exact hrn))
    have hmm:=Hmem.out _ (List.getElem_mem (by rw [← Hnx.out]; exact hrn:r<xs.length))
    have Hmm:=zhi hmm
    have Hgs2:=zhi hgs2
    have Hg2:=zhi hg2
    clear hr1 hgs2 hg2 hmm hnx
    generalize xs[r]'(by rw [← Hnx.out]; exact hrn)=s at *
    go_wp2_with fail
    go_ret2
    exact ⟨s,true,rfl,fun _=>Hmm.out,Hgs2.out,z7G (z02 Hb.out _) Hg2.out⟩
end Go.Proofs.Ytleicdfkagejoaa
namespace Go.Proofs.Ytleicdfkagejoaa
open Go.RowKit
def CnOk (k o a:Int) (s:ByteArray):Prop:=(k=1∨a=0)∧(k=5∨k=6∨o=0)∧(k=13∨k=11∨k=4∨k=9∨s=⟨#[]⟩)
def GE:Nat→Ex→Prop
 | 0,.mk k o a l s xs=>(l=0∧CnOk k o a s)∧0≤o∧o≤11∧0≤a∧a<9223372036854775808∧s.size≤16∧xs=[]∧(k=12∨(k=13∧z0E s)∨k=1∨(k=11∧z0E s))
 | d+1,.mk k o a l s xs=>(l=0∧CnOk k o a s)∧0≤o∧o≤11∧0≤a∧a<9223372036854775808∧s.size≤16∧((xs=[]∧(k=12∨(k=13∧z0E s)∨k=1∨(k=11∧z0E s))) ∨
   ((∀ x∈xs,GE d x)∧((k=5∧1≤o∧o≤2∧xs.length=1)∨(k=6∧3≤o∧xs.length=2)∨(k=7∧xs.length=2)∨(k=8∧xs.length=2)∨(k=4∧z0E s∧xs.length=1)∨(k=9∧z0E s∧xs.length≤2)∨(k=10∧1≤xs.length∧xs.length≤3))))
theorem z6j {d:Nat} {k o a:Int} {s:ByteArray} (ho:0≤o∧o≤11) (ha:0≤a∧a<9223372036854775808) (hs:s.size≤16) (hk:k=12∨(k=13∧z0E s)∨k=1∨(k=11∧z0E s)) (hc:CnOk k o a s:=by unfold CnOk; simp):GE d (.mk k o a 0 s []):=by
 cases d with
 | zero=>exact ⟨⟨rfl,hc⟩,ho.1,ho.2,ha.1,ha.2,hs,rfl,hk⟩
 | succ d=>exact ⟨⟨rfl,hc⟩,ho.1,ho.2,ha.1,ha.2,hs,.inl ⟨rfl,hk⟩⟩
def GX (E:Env) (d:Nat) (x:Ex):Prop:=GE d x∧InX E x
theorem z8R {E:Env} {d:Nat} {k o a:Int} {s:ByteArray} (ho:0≤o∧o≤11) (ha:0≤a∧a<9223372036854775808) (hs:s.size≤16) (hk:k=12∨(k=13∧z0E s)∨k=1∨(k=11∧z0E s)) (hi:InN E k s 0) (hc:CnOk k o a s:=by unfold CnOk; simp):GX E d (.mk k o a 0 s []):=⟨z6j ho ha hs hk hc,z2O hi (by simp)⟩
def z85 (m g:Nat) (l:List Nat) (E:Env) (bud:Int) (d:Nat) (w:World) (e:Ending) (w':World):Prop :=
 ∃ x v,e=.returned v∧GX E d x∧ExV (fun k=>w.heap.size≤k∧k<w'.heap.size) w' (d+1) x v∧GS w' m g l E bud∧w.grownBy w' (some g)
theorem z0i {m g:Nat} {l:List Nat} {E:Env} {bud:Int} {d:Nat} {w w':World} {k a:Int} {s:ByteArray} (ha:0≤a∧a<9223372036854775808) (hs:s.size≤16) (hk:k=12∨(k=13∧z0E s)∨k=1∨(k=11∧z0E s)) (h:GS w' m g l E bud) (hg:w.grownBy w' (some g)) (hi:InN E k s 0) (hc:CnOk k 0 a s:=by unfold CnOk; simp) :
  z85 m g l E bud d w (.returned (.agg #[.int .i64 k,.int .i64 0,.int .i64 a,.int .i64 0,.string s,.slice none 0 0])) w' :=
 ⟨.mk k 0 a 0 s [],_,rfl,z8R (by omega) ha hs hk hi hc,z2c,h,hg⟩
theorem GS.own {w0 w w':World} {m g:Nat} {l:List Nat} {E:Env} {bud:Int} (h:GS w0 m g l E bud) (h2:GS w m g l E bud) (h1:w0.grownBy w (some g)) {b:Nat} (hb:w0.heap.size≤b) (hg:w.grownBy w' (some b)):GS w' m g l E bud∧w0.grownBy w' (some g):=by
 have hgr:w0.grownBy w' (some g):=z0n h1 hg hb
 have hlt:=h.mka.lt
 have hglt:=h.glt
 refine ⟨⟨h.ne,h.mka.grown hgr h.ne,?_,h.len,h.lb⟩,hgr⟩
 obtain ⟨k,hk⟩:=h2.co
 exact ⟨k,z0x hk hg (by omega)⟩
theorem keep6 {w:World} {b m o:Nat} {v v0 v1 v2 v3 v4 v5:Value} (hm:m≠b) (h:w.cell? ⟨m,o,none⟩=some v) :
  ((((((w.setCell ⟨b,0,none⟩ v0).setCell ⟨b,1,none⟩ v1).setCell ⟨b,2,none⟩ v2).setCell ⟨b,3,none⟩ v3).setCell ⟨b,4,none⟩ v4).setCell ⟨b,5,none⟩ v5).cell? ⟨m,o,none⟩=some v :=
 z0a ((((((z05 w ⟨b,0,none⟩ v0).trans (z05 _ ⟨b,1,none⟩ v1)).trans (z05 _ ⟨b,2,none⟩ v2)).trans (z05 _ ⟨b,3,none⟩ v3)).trans (z05 _ ⟨b,4,none⟩ v4)).trans (z05 _ ⟨b,5,none⟩ v5)) hm h
theorem z2C {F:Nat→Prop} {w:World} {l:List ByteArray} {A:Option Addr} {c:Nat} (h:z0q F w l A c) (hl:0<l.length):∃ r,A=some ⟨r,0,none⟩∧F r∧∀ i s,l[i]?=some s→w.cell? ⟨r,i,none⟩=some (.string s):=by
 obtain ⟨r,hA,hr,_⟩:=h.2 0 _ (List.getElem?_eq_getElem hl)
 refine ⟨r,hA,hr,fun i s hs=>?_⟩
 obtain ⟨r',hA',_,hc⟩:=h.2 i s hs
 rw [hA] at hA'
 injection hA' with hA'
 injection hA' with hA'
 subst hA'
 exact hc
set_option maxRecDepth 100000 in
set_option maxHeartbeats 8000000 in
theorem z73 (m g:Nat) (l:List Nat) (E:Env) (bud:Int) (d:Nat) (w:World) (h:GS w m g l E bud) (hE:z1o E) :
  Calls Try.prog 77 #[.pointer (some ⟨m,0,none⟩)] w (z85 m g l E bud d w):=by
 have Hgs:=zhi h
 have HE:=zhi hE
 have hglt:=h.glt
 have hmlt:=h.mka.lt
 have hgs0:=h.below ((Below.refl _ w).alloc (Nat.le_refl _) (.cells #[.int .i64 0,.int .i64 0,.int .i64 0,.int .i64 0,.string { data:=#[] },.slice none 0 0] 112))
 have Hgs0:=zhi hgs0
 obtain ⟨_,_,_,_,_,_,c0,z1,z2,z3,z4,z5,z6,z7⟩:=hgs0.cells
 clear z1 z2 z3 z4 z5 z6 z7
 have hnx:=zhi (z0p 6 6 hgs0 rfl (by omega))
 clear hgs0 h hE
 go_enter Try.func77,Try.ntmps77
 go_wp2_with fail
 refine hnx.out.mono ?_
 rintro e w1 ⟨r,rfl,hr1,_,hgs1,hg1⟩
 have hr6:r<6:=hr1 (by omega)
 have hb:w1.heap[w.heap.size]?=some (.cells #[.int .i64 0,.int .i64 0,.int .i64 0,.int .i64 0,.string { data:=#[] },.slice none 0 0] 112 (0,0)):=z04 hg1 (by omega) (heap_alloc_new w _)
 have HB:=zhi hb
 have hg01:w.grownBy w1 (some g):=(World.grownBy_alloc w _ _).trans hg1
 have Hg01:=zhi hg01
 have Hgs1:=zhi hgs1
 obtain ⟨gA,gc,fA,fc,lA,lc,b0,b1,b2,b3,b4,q1,q2,q3⟩:=hgs1.cells
 obtain ⟨ln,hln⟩:∃ ln,ln=E.locals.length:=⟨_,rfl⟩
 have hlc:ln≤1000:=by rw [hln]; exact HE.out.ln
 have hcap:ln≤lc:=by rw [hln]; exact q3.1
 rw [← hln] at b3
 have HLL:=zhi hln
 have Q3:=zhi q3
 clear hln
 clear hnx hgs1 hg1 hr1 hb hg01 c0 q1 q2 q3 Hgs0
 have hcase:r=0∨r=1∨r=2∨r=3∨r=4∨r=5:=by omega
 clear hr6
 rcases hcase with rfl | rfl | rfl | rfl | rfl | rfl
 ·go_wp2_with (with_reducible refine z01 ?_)
  refine z08.of (z00 w1 rfl _ _ _ rfl w.heap.size _ rfl (by rfl) _ _ HB.out (by kernel_rfl) (by rfl) (by simp [Value.oneCell']) ?_)
  intro w9 hrow hg9
  have H2:=Hgs.out.own Hgs1.out Hg01.out (Nat.le_refl _) hg9
  obtain ⟨k0,k1,k2,k3,k4,k5⟩:=cl6 hrow
  have HH:=zhi H2
  clear hrow hg9 H2
  go_wp2_with fail
  exact bodyPost_ret (v:=.agg #[.int .i64 12,.int .i64 0,.int .i64 0,.int .i64 0,.string ⟨#[]⟩,.slice none 0 0]) (by simp [results,Try.results77,go_sem,k0,k1,k2,k3,k4,k5]) rfl (z0i (by omega) (by first | assumption | decide) (.inl rfl) HH.out.1 HH.out.2 (z0L (by decide)))
 ·have hpk:=zhi (z5k m g l E bud false w1 Hgs1.out HE.out)
  go_wp2_with fail
  refine hpk.out.mono ?_
  rintro e w2 ⟨s,ok,rfl,hok,hgs2,hg2⟩
  have Hgs1:=zhi hgs2
  have HB:=zhi (z04 hg2 (by omega) HB.out)
  have Hg01:=zhi (Hg01.out.trans hg2)
  have Hok:=zhi hok
  clear hpk hgs2 hg2 hok
  cases ok with
  | true =>
   have HIs:Hid (IsGl E false s):=zhi (Hok.out rfl)
   have hs:z0E s:=by obtain ⟨x,hx,rfl,_⟩:=HIs.out; exact (HE.out.gs x hx).1
   have hsz:=hs.1
   have HS:=zhi hs
   clear hs
   go_wp2_with (with_reducible refine z01 ?_)
   refine z08.of (z00 w2 rfl _ _ _ rfl w.heap.size _ rfl (by rfl) _ _ HB.out (by kernel_rfl) (by rfl) (by simp [Value.oneCell']) ?_)
   intro w9 hrow hg9
   have H2:=Hgs.out.own Hgs1.out Hg01.out (Nat.le_refl _) hg9
   obtain ⟨k0,k1,k2,k3,k4,k5⟩:=cl6 hrow
   have HH:=zhi H2
   clear hrow hg9 H2
   go_wp2_with fail
   exact bodyPost_ret (v:=.agg #[.int .i64 13,.int .i64 0,.int .i64 0,.int .i64 0,.string s,.slice none 0 0]) (by simp [results,Try.results77,go_sem,k0,k1,k2,k3,k4,k5]) rfl (z0i (by omega) (by first | assumption | decide) (.inr (.inl ⟨rfl,HS.out⟩)) HH.out.1 HH.out.2 ⟨fun _=>.inr HIs.out,by simp,by simp,by simp⟩)
  | false =>
   have hn5:=zhi (z0p 5 5 Hgs1.out rfl (by omega))
   go_wp2_with fail
   refine hn5.out.mono ?_
   rintro e w5 ⟨q,rfl,hq1,_,hgs5,hg5⟩
   have hq:q<5:=hq1 (by omega)
   have Hgs1:=zhi hgs5
   have HB:=zhi (z04 hg5 (by omega) HB.out)
   have Hg01:=zhi (Hg01.out.trans hg5)
   clear hn5 hgs5 hg5 hq1
   have hn12:=zhi (z0p 12 12 Hgs1.out rfl (by omega))
   go_wp2_with fail
   refine hn12.out.mono ?_
   rintro e w6 ⟨q2,rfl,_,_,hgs6,hg6⟩
   have Hgs1:=zhi hgs6
   have HB:=zhi (z04 hg6 (by omega) HB.out)
   have Hg01:=zhi (Hg01.out.trans hg6)
   clear hn12 hgs6 hg6
   by_cases h11:q2=11
   ·subst h11
    have hgs7:=Hgs1.out.below ((Below.refl _ w6).alloc (Nat.le_refl _) (.cells #[.int .i64 9223372036854775807,.int .i64 2147483648,.int .i64 1000,.int .i64 64] 3))
    have hn4:=zhi (z0p 4 4 hgs7 rfl (by omega))
    have hsz6:=Hg01.out.size
    have hsz6b:w.heap.size<w6.heap.size:=(Array.getElem?_eq_some_iff.1 HB.out).1
    clear hgs7
    go_wp2_with fail
    refine hn4.out.mono ?_
    rintro e w7 ⟨q3,rfl,hq3,_,hgs7,hg7⟩
    have hq4:q3<4:=hq3 (by omega)
    have Hgs1:=zhi hgs7
    have hlit:w7.heap[w6.heap.size]?=some (.cells #[.int .i64 9223372036854775807,.int .i64 2147483648,.int .i64 1000,.int .i64 64] 3 (0,0)):=z04 hg7 (by omega) (heap_alloc_new w6 _)
    have HL:=zhi hlit
    have HB:=zhi (z04 hg7 (by omega) ((heap_alloc_old _ _ hsz6b).trans HB.out))
    have Hg01:=zhi ((Hg01.out.trans (World.grownBy_alloc w6 _ _)).trans hg7)
    clear hn4 hgs7 hg7 hq3 hlit
    have hc:q3=0∨q3=1∨q3=2∨q3=3:=by omega
    clear hq4
    rcases hc with rfl | rfl | rfl | rfl
    ·have j:=cell_of_row _ _ 0 _ _ _ HL.out
     go_wp2_with (with_reducible refine z01 ?_)
     refine z08.of (z00 w7 rfl _ _ _ rfl w.heap.size _ rfl (by rfl) _ _ HB.out (by kernel_rfl) (by rfl) (by simp [Value.oneCell']) ?_)
     intro w9 hrow hg9
     have H2:=Hgs.out.own Hgs1.out Hg01.out (Nat.le_refl _) hg9
     obtain ⟨k0,k1,k2,k3,k4,k5⟩:=cl6 hrow
     have HH:=zhi H2
     clear hrow hg9 H2
     go_wp2_with fail
     exact bodyPost_ret (v:=.agg #[.int .i64 1,.int .i64 0,.int .i64 9223372036854775807,.int .i64 0,.string ⟨#[]⟩,.slice none 0 0]) (by simp [results,Try.results77,go_sem,k0,k1,k2,k3,k4,k5]) rfl (z0i (by omega) (by first | assumption | decide) (.inr (.inr (.inl rfl))) HH.out.1 HH.out.2 (z0L (by decide)))
    ·have j:=cell_of_row _ _ 1 _ _ _ HL.out
     go_wp2_with (with_reducible refine z01 ?_)
     refine z08.of (z00 w7 rfl _ _ _ rfl w.heap.size _ rfl (by rfl) _ _ HB.out (by kernel_rfl) (by rfl) (by simp [Value.oneCell']) ?_)
     intro w9 hrow hg9
     have H2:=Hgs.out.own Hgs1.out Hg01.out (Nat.le_refl _) hg9
     obtain ⟨k0,k1,k2,k3,k4,k5⟩:=cl6 hrow
     have HH:=zhi H2
     clear hrow hg9 H2
     go_wp2_with fail
     exact bodyPost_ret (v:=.agg #[.int .i64 1,.int .i64 0,.int .i64 2147483648,.int .i64 0,.string ⟨#[]⟩,.slice none 0 0]) (by simp [results,Try.results77,go_sem,k0,k1,k2,k3,k4,k5]) rfl (z0i (by omega) (by first | assumption | decide) (.inr (.inr (.inl rfl))) HH.out.1 HH.out.2 (z0L (by decide)))
    ·have j:=cell_of_row _ _ 2 _ _ _ HL.out
     go_wp2_with (with_reducible refine z01 ?_)
     refine z08.of (z00 w7 rfl _ _ _ rfl w.heap.size _ rfl (by rfl) _ _ HB.out (by kernel_rfl) (by rfl) (by simp [Value.oneCell']) ?_)
     intro w9 hrow hg9
     have H2:=Hgs.out.own Hgs1.out Hg01.out (Nat.le_refl _) hg9
     obtain ⟨k0,k1,k2,k3,k4,k5⟩:=cl6 hrow
     have HH:=zhi H2
     clear hrow hg9 H2
     go_wp2_with fail
     exact bodyPost_ret (v:=.agg #[.int .i64 1,.int .i64 0,.int .i64 1000,.int .i64 0,.string ⟨#[]⟩,.slice none 0 0]) (by simp [results,Try.results77,go_sem,k0,k1,k2,k3,k4,k5]) rfl (z0i (by omega) (by first | assumption | decide) (.inr (.inr (.inl rfl))) HH.out.1 HH.out.2 (z0L (by decide)))
    ·have j:=cell_of_row _ _ 3 _ _ _ HL.out
     go_wp2_with (with_reducible refine z01 ?_)
     refine z08.of (z00 w7 rfl _ _ _ rfl w.heap.size _ rfl (by rfl) _ _ HB.out (by kernel_rfl) (by rfl) (by simp [Value.oneCell']) ?_)
     intro w9 hrow hg9
     have H2:=Hgs.out.own Hgs1.out Hg01.out (Nat.le_refl _) hg9
     obtain ⟨k0,k1,k2,k3,k4,k5⟩:=cl6 hrow
     have HH:=zhi H2
     clear hrow hg9 H2
     go_wp2_with fail
     exact bodyPost_ret (v:=.agg #[.int .i64 1,.int .i64 0,.int .i64 64,.int .i64 0,.string ⟨#[]⟩,.slice none 0 0]) (by simp [results,Try.results77,go_sem,k0,k1,k2,k3,k4,k5]) rfl (z0i (by omega) (by first | assumption | decide) (.inr (.inr (.inl rfl))) HH.out.1 HH.out.2 (z0L (by decide)))
   ·have h11:((q2:Int) == 11)=false:=by simp; omega
    go_wp2_with (with_reducible refine z01 ?_)
    refine z08.of (z00 w6 rfl _ _ _ rfl w.heap.size _ rfl (by rfl) _ _ HB.out (by kernel_rfl) (by rfl) (by simp [Value.oneCell']) ?_)
    intro w9 hrow hg9
    have H2:=Hgs.out.own Hgs1.out Hg01.out (Nat.le_refl _) hg9
    obtain ⟨k0,k1,k2,k3,k4,k5⟩:=cl6 hrow
    have HH:=zhi H2
    clear hrow hg9 H2
    go_wp2_with fail
    exact bodyPost_ret (v:=.agg #[.int .i64 1,.int .i64 0,.int .i64 q,.int .i64 0,.string ⟨#[]⟩,.slice none 0 0]) (by simp [results,Try.results77,go_sem,k0,k1,k2,k3,k4,k5]) rfl (z0i (by omega) (by first | assumption | decide) (.inr (.inr (.inl rfl))) HH.out.1 HH.out.2 (z0L (by decide)))
 ·by_cases h0:0<ln
  ·obtain ⟨rr,rfl,hrg,hloc⟩:=z2C Q3.out (by rw [← HLL.out]; exact h0)
   have Hloc:=zhi hloc
   have hgd:=Hgs1.out.below (Below.refl _ w1).drew
   have hnl:=zhi (z0p ln ln hgd rfl (by omega))
   have hmg:=Hgs1.out.ne
   have hmw:m≠w.heap.size:=by omega
   have hS0:w1.drew.cell? ⟨m,3,none⟩=some (.slice (some ⟨rr,0,none⟩) ln lc):=b3
   clear hloc hgd
   go_upto_region 12 with fail
   go_region_with
    (first | (go_at_call 14; (with_reducible refine hnl.out.mono ?_); rintro e w2 ⟨q,rfl,hq1,_,hgs2,hg2⟩; have hq:q<ln:=(hq1 (by omega)); have e3:=(z0a hg2 hmg hS0); obtain ⟨sn,hsn⟩:=(⟨_,List.getElem?_eq_getElem (by rw [← HLL.out]; exact hq)⟩:∃ sn,E.locals[q]?=some sn); have es:=(z0a hg2 hrg (show w1.drew.cell? ⟨rr,q,none⟩=some (.string sn) from Hloc.out q sn hsn)); have hb2:=(z04 hg2 (by omega:w.heap.size≠g) (show w1.drew.heap[w.heap.size]?=_ from HB.out)); have kk0:=cell_of_row _ _ 0 _ _ _ hb2; have kk1:=cell_of_row _ _ 1 _ _ _ hb2; have kk2:=cell_of_row _ _ 2 _ _ _ hb2; have kk3:=cell_of_row _ _ 3 _ _ _ hb2; have kk4:=cell_of_row _ _ 4 _ _ _ hb2; have kk5:=cell_of_row _ _ 5 _ _ _ hb2; have kf0:=z06 hb2 0; have kf1:=z06 hb2 1; have kf2:=z06 hb2 2; have kf3:=z06 hb2 3; have kf4:=z06 hb2 4; have kf5:=z06 hb2 5; have HB2:=zhi hb2; have Hgs2:=zhi hgs2; have Hg2:=zhi hg2; have Hsn:=zhi hsn; clear hq1 hgs2 hg2 hb2 hsn))
   all_goals
    have h6:=z1h (.int .i64 13) (.int .i64 0) (.int .i64 0) (.int .i64 0) (.string sn) (.slice none 0 0) HB2.out
    generalize ((((((w2.setCell ⟨w.heap.size,0,none⟩ (.int .i64 13)).setCell ⟨w.heap.size,1,none⟩ (.int .i64 0)).setCell ⟨w.heap.size,2,none⟩ (.int .i64 0)).setCell ⟨w.heap.size,3,none⟩ (.int .i64 0)).setCell ⟨w.heap.size,4,none⟩ (.string sn)).setCell ⟨w.heap.size,5,none⟩ (.slice none 0 0))=w9 at *
    have H2:=Hgs.out.own Hgs2.out (Hg01.out.trans (z3A Hg2.out)) (Nat.le_refl _) h6.2
    obtain ⟨k0,k1,k2,k3,k4,k5⟩:=cl6 h6.1
    have HH:=zhi H2
    have hgn:z0E sn:=HE.out.ls _ (List.mem_of_getElem? Hsn.out)
    have hsz:=hgn.1
    have HGN:=zhi hgn
    clear h6 H2 hgn kk0 kk1 kk2 kk3 kk4 kk5 kf0 kf1 kf2 kf3 kf4 kf5 e3 es
    go_wp2_with fail
    exact bodyPost_ret (v:=.agg #[.int .i64 13,.int .i64 0,.int .i64 0,.int .i64 0,.string sn,.slice none 0 0]) (by simp [results,Try.results77,go_sem,k0,k1,k2,k3,k4,k5]) rfl (z0i (by omega) hsz (.inr (.inl ⟨rfl,HGN.out⟩)) HH.out.1 HH.out.2 ⟨fun _=>.inl (List.mem_of_getElem? Hsn.out),by simp,by simp,by simp⟩)
  ·have hn5:=zhi (z0p 5 5 Hgs1.out rfl (by omega))
   go_wp2_with fail
   refine hn5.out.mono ?_
   rintro e w5 ⟨q,rfl,hq1,_,hgs5,hg5⟩
   have hq:q<5:=hq1 (by omega)
   have Hgs1:=zhi hgs5
   have HB:=zhi (z04 hg5 (by omega) HB.out)
   have Hg01:=zhi (Hg01.out.trans hg5)
   clear hn5 hgs5 hg5 hq1
   have hn12:=zhi (z0p 12 12 Hgs1.out rfl (by omega))
   go_wp2_with fail
   refine hn12.out.mono ?_
   rintro e w6 ⟨q2,rfl,_,_,hgs6,hg6⟩
   have Hgs1:=zhi hgs6
   have HB:=zhi (z04 hg6 (by omega) HB.out)
   have Hg01:=zhi (Hg01.out.trans hg6)
   clear hn12 hgs6 hg6
   by_cases h11:q2=11
   ·subst h11
    have hgs7:=Hgs1.out.below ((Below.refl _ w6).alloc (Nat.le_refl _) (.cells #[.int .i64 9223372036854775807,.int .i64 2147483648,.int .i64 1000,.int .i64 64] 3))
    have hn4:=zhi (z0p 4 4 hgs7 rfl (by omega))
    have hsz6:=Hg01.out.size
    have hsz6b:w.heap.size<w6.heap.size:=(Array.getElem?_eq_some_iff.1 HB.out).1
    clear hgs7
    go_wp2_with fail
    refine hn4.out.mono ?_
    rintro e w7 ⟨q3,rfl,hq3,_,hgs7,hg7⟩
    have hq4:q3<4:=hq3 (by omega)
    have Hgs1:=zhi hgs7
    have hlit:w7.heap[w6.heap.size]?=some (.cells #[.int .i64 9223372036854775807,.int .i64 2147483648,.int .i64 1000,.int .i64 64] 3 (0,0)):=z04 hg7 (by omega) (heap_alloc_new w6 _)
    have HL:=zhi hlit
    have HB:=zhi (z04 hg7 (by omega) ((heap_alloc_old _ _ hsz6b).trans HB.out))
    have Hg01:=zhi ((Hg01.out.trans (World.grownBy_alloc w6 _ _)).trans hg7)
    clear hn4 hgs7 hg7 hq3 hlit
    have hc:q3=0∨q3=1∨q3=2∨q3=3:=by omega
    clear hq4
    rcases hc with rfl | rfl | rfl | rfl
    ·have j:=cell_of_row _ _ 0 _ _ _ HL.out
     go_wp2_with (with_reducible refine z01 ?_)
     refine z08.of (z00 w7 rfl _ _ _ rfl w.heap.size _ rfl (by rfl) _ _ HB.out (by kernel_rfl) (by rfl) (by simp [Value.oneCell']) ?_)
     intro w9 hrow hg9
     have H2:=Hgs.out.own Hgs1.out Hg01.out (Nat.le_refl _) hg9
     obtain ⟨k0,k1,k2,k3,k4,k5⟩:=cl6 hrow
     have HH:=zhi H2
     clear hrow hg9 H2
     go_wp2_with fail
     exact bodyPost_ret (v:=.agg #[.int .i64 1,.int .i64 0,.int .i64 9223372036854775807,.int .i64 0,.string ⟨#[]⟩,.slice none 0 0]) (by simp [results,Try.results77,go_sem,k0,k1,k2,k3,k4,k5]) rfl (z0i (by omega) (by first | assumption | decide) (.inr (.inr (.inl rfl))) HH.out.1 HH.out.2 (z0L (by decide)))
    ·have j:=cell_of_row _ _ 1 _ _ _ HL.out
     go_wp2_with (with_reducible refine z01 ?_)
     refine z08.of (z00 w7 rfl _ _ _ rfl w.heap.size _ rfl (by rfl) _ _ HB.out (by kernel_rfl) (by rfl) (by simp [Value.oneCell']) ?_)
     intro w9 hrow hg9
     have H2:=Hgs.out.own Hgs1.out Hg01.out (Nat.le_refl _) hg9
     obtain ⟨k0,k1,k2,k3,k4,k5⟩:=cl6 hrow
     have HH:=zhi H2
     clear hrow hg9 H2
     go_wp2_with fail
     exact bodyPost_ret (v:=.agg #[.int .i64 1,.int .i64 0,.int .i64 2147483648,.int .i64 0,.string ⟨#[]⟩,.slice none 0 0]) (by simp [results,Try.results77,go_sem,k0,k1,k2,k3,k4,k5]) rfl (z0i (by omega) (by first | assumption | decide) (.inr (.inr (.inl rfl))) HH.out.1 HH.out.2 (z0L (by decide)))
    ·have j:=cell_of_row _ _ 2 _ _ _ HL.out
     go_wp2_with (with_reducible refine z01 ?_)
     refine z08.of (z00 w7 rfl _ _ _ rfl w.heap.size _ rfl (by rfl) _ _ HB.out (by kernel_rfl) (by rfl) (by simp [Value.oneCell']) ?_)
     intro w9 hrow hg9
     have H2:=Hgs.out.own Hgs1.out Hg01.out (Nat.le_refl _) hg9
     obtain ⟨k0,k1,k2,k3,k4,k5⟩:=cl6 hrow
     have HH:=zhi H2
     clear hrow hg9 H2
     go_wp2_with fail
     exact bodyPost_ret (v:=.agg #[.int .i64 1,.int .i64 0,.int .i64 1000,.int .i64 0,.string ⟨#[]⟩,.slice none 0 0]) (by simp [results,Try.results77,go_sem,k0,k1,k2,k3,k4,k5]) rfl (z0i (by omega) (by first | assumption | decide) (.inr (.inr (.inl rfl))) HH.out.1 HH.out.2 (z0L (by decide)))
    ·have j:=cell_of_row _ _ 3 _ _ _ HL.out
     go_wp2_with (with_reducible refine z01 ?_)
     refine z08.of (z00 w7 rfl _ _ _ rfl w.heap.size _ rfl (by rfl) _ _ HB.out (by kernel_rfl) (by rfl) (by simp [Value.oneCell']) ?_)
     intro w9 hrow hg9
     have H2:=Hgs.out.own Hgs1.out Hg01.out (Nat.le_refl _) hg9
     obtain ⟨k0,k1,k2,k3,k4,k5⟩:=cl6 hrow
     have HH:=zhi H2
     clear hrow hg9 H2
     go_wp2_with fail
     exact bodyPost_ret (v:=.agg #[.int .i64 1,.int .i64 0,.int .i64 64,.int .i64 0,.string ⟨#[]⟩,.slice none 0 0]) (by simp [results,Try.results77,go_sem,k0,k1,k2,k3,k4,k5]) rfl (z0i (by omega) (by first | assumption | decide) (.inr (.inr (.inl rfl))) HH.out.1 HH.out.2 (z0L (by decide)))
   ·have h11:((q2:Int) == 11)=false:=by simp; omega
    go_wp2_with (with_reducible refine z01 ?_)
    refine z08.of (z00 w6 rfl _ _ _ rfl w.heap.size _ rfl (by rfl) _ _ HB.out (by kernel_rfl) (by rfl) (by simp [Value.oneCell']) ?_)
    intro w9 hrow hg9
    have H2:=Hgs.out.own Hgs1.out Hg01.out (Nat.le_refl _) hg9
    obtain ⟨k0,k1,k2,k3,k4,k5⟩:=cl6 hrow
    have HH:=zhi H2
    clear hrow hg9 H2
    go_wp2_with fail
    exact bodyPost_ret (v:=.agg #[.int .i64 1,.int .i64 0,.int .i64 q,.int .i64 0,.string ⟨#[]⟩,.slice none 0 0]) (by simp [results,Try.results77,go_sem,k0,k1,k2,k3,k4,k5]) rfl (z0i (by omega) (by first | assumption | decide) (.inr (.inr (.inl rfl))) HH.out.1 HH.out.2 (z0L (by decide)))
 ·by_cases h0:0<ln
  ·obtain ⟨rr,rfl,hrg,hloc⟩:=z2C Q3.out (by rw [← HLL.out]; exact h0)
   have Hloc:=zhi hloc
   have hgd:=Hgs1.out.below (Below.refl _ w1).drew
   have hnl:=zhi (z0p ln ln hgd rfl (by omega))
   have hmg:=Hgs1.out.ne
   have hmw:m≠w.heap.size:=by omega
   have hS0:w1.drew.cell? ⟨m,3,none⟩=some (.slice (some ⟨rr,0,none⟩) ln lc):=b3
   clear hloc hgd
   go_upto_region 12 with fail
   go_region_with
    (first | (go_at_call 14; (with_reducible refine hnl.out.mono ?_); rintro e w2 ⟨q,rfl,hq1,_,hgs2,hg2⟩; have hq:q<ln:=(hq1 (by omega)); have e3:=(z0a hg2 hmg hS0); obtain ⟨sn,hsn⟩:=(⟨_,List.getElem?_eq_getElem (by rw [← HLL.out]; exact hq)⟩:∃ sn,E.locals[q]?=some sn); have es:=(z0a hg2 hrg (show w1.drew.cell? ⟨rr,q,none⟩=some (.string sn) from Hloc.out q sn hsn)); have hb2:=(z04 hg2 (by omega:w.heap.size≠g) (show w1.drew.heap[w.heap.size]?=_ from HB.out)); have kk0:=cell_of_row _ _ 0 _ _ _ hb2; have kk1:=cell_of_row _ _ 1 _ _ _ hb2; have kk2:=cell_of_row _ _ 2 _ _ _ hb2; have kk3:=cell_of_row _ _ 3 _ _ _ hb2; have kk4:=cell_of_row _ _ 4 _ _ _ hb2; have kk5:=cell_of_row _ _ 5 _ _ _ hb2; have kf0:=z06 hb2 0; have kf1:=z06 hb2 1; have kf2:=z06 hb2 2; have kf3:=z06 hb2 3; have kf4:=z06 hb2 4; have kf5:=z06 hb2 5; have HB2:=zhi hb2; have Hgs2:=zhi hgs2; have Hg2:=zhi hg2; have Hsn:=zhi hsn; clear hq1 hgs2 hg2 hb2 hsn))
   all_goals
    have h6:=z1h (.int .i64 13) (.int .i64 0) (.int .i64 0) (.int .i64 0) (.string sn) (.slice none 0 0) HB2.out
    generalize ((((((w2.setCell ⟨w.heap.size,0,none⟩ (.int .i64 13)).setCell ⟨w.heap.size,1,none⟩ (.int .i64 0)).setCell ⟨w.heap.size,2,none⟩ (.int .i64 0)).setCell ⟨w.heap.size,3,none⟩ (.int .i64 0)).setCell ⟨w.heap.size,4,none⟩ (.string sn)).setCell ⟨w.heap.size,5,none⟩ (.slice none 0 0))=w9 at *
    have H2:=Hgs.out.own Hgs2.out (Hg01.out.trans (z3A Hg2.out)) (Nat.le_refl _) h6.2
    obtain ⟨k0,k1,k2,k3,k4,k5⟩:=cl6 h6.1
    have HH:=zhi H2
    have hgn:z0E sn:=HE.out.ls _ (List.mem_of_getElem? Hsn.out)
    have hsz:=hgn.1
    have HGN:=zhi hgn
    clear h6 H2 hgn kk0 kk1 kk2 kk3 kk4 kk5 kf0 kf1 kf2 kf3 kf4 kf5 e3 es
    go_wp2_with fail
    exact bodyPost_ret (v:=.agg #[.int .i64 13,.int .i64 0,.int .i64 0,.int .i64 0,.string sn,.slice none 0 0]) (by simp [results,Try.results77,go_sem,k0,k1,k2,k3,k4,k5]) rfl (z0i (by omega) hsz (.inr (.inl ⟨rfl,HGN.out⟩)) HH.out.1 HH.out.2 ⟨fun _=>.inl (List.mem_of_getElem? Hsn.out),by simp,by simp,by simp⟩)
  ·have hn5:=zhi (z0p 5 5 Hgs1.out rfl (by omega))
   go_wp2_with fail
   refine hn5.out.mono ?_
   rintro e w5 ⟨q,rfl,hq1,_,hgs5,hg5⟩
   have hq:q<5:=hq1 (by omega)
   have Hgs1:=zhi hgs5
   have HB:=zhi (z04 hg5 (by omega) HB.out)
   have Hg01:=zhi (Hg01.out.trans hg5)
   clear hn5 hgs5 hg5 hq1
   have hn12:=zhi (z0p 12 12 Hgs1.out rfl (by omega))
   go_wp2_with fail
   refine hn12.out.mono ?_
   rintro e w6 ⟨q2,rfl,_,_,hgs6,hg6⟩
   have Hgs1:=zhi hgs6
   have HB:=zhi (z04 hg6 (by omega) HB.out)
   have Hg01:=zhi (Hg01.out.trans hg6)
   clear hn12 hgs6 hg6
   by_cases h11:q2=11
   ·subst h11
    have hgs7:=Hgs1.out.below ((Below.refl _ w6).alloc (Nat.le_refl _) (.cells #[.int .i64 9223372036854775807,.int .i64 2147483648,.int .i64 1000,.int .i64 64] 3))
    have hn4:=zhi (z0p 4 4 hgs7 rfl (by omega))
    have hsz6:=Hg01.out.size
    have hsz6b:w.heap.size<w6.heap.size:=(Array.getElem?_eq_some_iff.1 HB.out).1
    clear hgs7
    go_wp2_with fail
    refine hn4.out.mono ?_
    rintro e w7 ⟨q3,rfl,hq3,_,hgs7,hg7⟩
    have hq4:q3<4:=hq3 (by omega)
    have Hgs1:=zhi hgs7
    have hlit:w7.heap[w6.heap.size]?=some (.cells #[.int .i64 9223372036854775807,.int .i64 2147483648,.int .i64 1000,.int .i64 64] 3 (0,0)):=z04 hg7 (by omega) (heap_alloc_new w6 _)
    have HL:=zhi hlit
    have HB:=zhi (z04 hg7 (by omega) ((heap_alloc_old _ _ hsz6b).trans HB.out))
    have Hg01:=zhi ((Hg01.out.trans (World.grownBy_alloc w6 _ _)).trans hg7)
    clear hn4 hgs7 hg7 hq3 hlit
    have hc:q3=0∨q3=1∨q3=2∨q3=3:=by omega
    clear hq4
    rcases hc with rfl | rfl | rfl | rfl
    ·have j:=cell_of_row _ _ 0 _ _ _ HL.out
     go_wp2_with (with_reducible refine z01 ?_)
     refine z08.of (z00 w7 rfl _ _ _ rfl w.heap.size _ rfl (by rfl) _ _ HB.out (by kernel_rfl) (by rfl) (by simp [Value.oneCell']) ?_)
     intro w9 hrow hg9
     have H2:=Hgs.out.own Hgs1.out Hg01.out (Nat.le_refl _) hg9
     obtain ⟨k0,k1,k2,k3,k4,k5⟩:=cl6 hrow
     have HH:=zhi H2
     clear hrow hg9 H2
     go_wp2_with fail
     exact bodyPost_ret (v:=.agg #[.int .i64 1,.int .i64 0,.int .i64 9223372036854775807,.int .i64 0,.string ⟨#[]⟩,.slice none 0 0]) (by simp [results,Try.results77,go_sem,k0,k1,k2,k3,k4,k5]) rfl (z0i (by omega) (by first | assumption | decide) (.inr (.inr (.inl rfl))) HH.out.1 HH.out.2 (z0L (by decide)))
    ·have j:=cell_of_row _ _ 1 _ _ _ HL.out
     go_wp2_with (with_reducible refine z01 ?_)
     refine z08.of (z00 w7 rfl _ _ _ rfl w.heap.size _ rfl (by rfl) _ _ HB.out (by kernel_rfl) (by rfl) (by simp [Value.oneCell']) ?_)
     intro w9 hrow hg9
     have H2:=Hgs.out.own Hgs1.out Hg01.out (Nat.le_refl _) hg9
     obtain ⟨k0,k1,k2,k3,k4,k5⟩:=cl6 hrow
     have HH:=zhi H2
     clear hrow hg9 H2
     go_wp2_with fail
     exact bodyPost_ret (v:=.agg #[.int .i64 1,.int .i64 0,.int .i64 2147483648,.int .i64 0,.string ⟨#[]⟩,.slice none 0 0]) (by simp [results,Try.results77,go_sem,k0,k1,k2,k3,k4,k5]) rfl (z0i (by omega) (by first | assumption | decide) (.inr (.inr (.inl rfl))) HH.out.1 HH.out.2 (z0L (by decide)))
    ·have j:=cell_of_row _ _ 2 _ _ _ HL.out
     go_wp2_with (with_reducible refine z01 ?_)
     refine z08.of (z00 w7 rfl _ _ _ rfl w.heap.size _ rfl (by rfl) _ _ HB.out (by kernel_rfl) (by rfl) (by simp [Value.oneCell']) ?_)
     intro w9 hrow hg9
     have H2:=Hgs.out.own Hgs1.out Hg01.out (Nat.le_refl _) hg9
     obtain ⟨k0,k1,k2,k3,k4,k5⟩:=cl6 hrow
     have HH:=zhi H2
     clear hrow hg9 H2
     go_wp2_with fail
     exact bodyPost_ret (v:=.agg #[.int .i64 1,.int .i64 0,.int .i64 1000,.int .i64 0,.string ⟨#[]⟩,.slice none 0 0]) (by simp [results,Try.results77,go_sem,k0,k1,k2,k3,k4,k5]) rfl (z0i (by omega) (by first | assumption | decide) (.inr (.inr (.inl rfl))) HH.out.1 HH.out.2 (z0L (by decide)))
    ·have j:=cell_of_row _ _ 3 _ _ _ HL.out
     go_wp2_with (with_reducible refine z01 ?_)
     refine z08.of (z00 w7 rfl _ _ _ rfl w.heap.size _ rfl (by rfl) _ _ HB.out (by kernel_rfl) (by rfl) (by simp [Value.oneCell']) ?_)
     intro w9 hrow hg9
     have H2:=Hgs.out.own Hgs1.out Hg01.out (Nat.le_refl _) hg9
     obtain ⟨k0,k1,k2,k3,k4,k5⟩:=cl6 hrow
     have HH:=zhi H2
     clear hrow hg9 H2
     go_wp2_with fail
     exact bodyPost_ret (v:=.agg #[.int .i64 1,.int .i64 0,.int .i64 64,.int .i64 0,.string ⟨#[]⟩,.slice none 0 0]) (by simp [results,Try.results77,go_sem,k0,k1,k2,k3,k4,k5]) rfl (z0i (by omega) (by first | assumption | decide) (.inr (.inr (.inl rfl))) HH.out.1 HH.out.2 (z0L (by decide)))
   ·have h11:((q2:Int) == 11)=false:=by simp; omega
    go_wp2_with (with_reducible refine z01 ?_)
    refine z08.of (z00 w6 rfl _ _ _ rfl w.heap.size _ rfl (by rfl) _ _ HB.out (by kernel_rfl) (by rfl) (by simp [Value.oneCell']) ?_)
    intro w9 hrow hg9
    have H2:=Hgs.out.own Hgs1.out Hg01.out (Nat.le_refl _) hg9
    obtain ⟨k0,k1,k2,k3,k4,k5⟩:=cl6 hrow
    have HH:=zhi H2
    clear hrow hg9 H2
    go_wp2_with fail
    exact bodyPost_ret (v:=.agg #[.int .i64 1,.int .i64 0,.int .i64 q,.int .i64 0,.string ⟨#[]⟩,.slice none 0 0]) (by simp [results,Try.results77,go_sem,k0,k1,k2,k3,k4,k5]) rfl (z0i (by omega) (by first | assumption | decide) (.inr (.inr (.inl rfl))) HH.out.1 HH.out.2 (z0L (by decide)))
 ·have hn5:=zhi (z0p 5 5 Hgs1.out rfl (by omega))
  go_wp2_with fail
  refine hn5.out.mono ?_
  rintro e w5 ⟨q,rfl,hq1,_,hgs5,hg5⟩
  have hq:q<5:=hq1 (by omega)
  have Hgs1:=zhi hgs5
  have HB:=zhi (z04 hg5 (by omega) HB.out)
  have Hg01:=zhi (Hg01.out.trans hg5)
  clear hn5 hgs5 hg5 hq1
  have hn12:=zhi (z0p 12 12 Hgs1.out rfl (by omega))
  go_wp2_with fail
  refine hn12.out.mono ?_
  rintro e w6 ⟨q2,rfl,_,_,hgs6,hg6⟩
  have Hgs1:=zhi hgs6
  have HB:=zhi (z04 hg6 (by omega) HB.out)
  have Hg01:=zhi (Hg01.out.trans hg6)
  clear hn12 hgs6 hg6
  by_cases h11:q2=11
  ·subst h11
   have hgs7:=Hgs1.out.below ((Below.refl _ w6).alloc (Nat.le_refl _) (.cells #[.int .i64 9223372036854775807,.int .i64 2147483648,.int .i64 1000,.int .i64 64] 3))
   have hn4:=zhi (z0p 4 4 hgs7 rfl (by omega))
   have hsz6:=Hg01.out.size
   have hsz6b:w.heap.size<w6.heap.size:=(Array.getElem?_eq_some_iff.1 HB.out).1
   clear hgs7
   go_wp2_with fail
   refine hn4.out.mono ?_
   rintro e w7 ⟨q3,rfl,hq3,_,hgs7,hg7⟩
   have hq4:q3<4:=hq3 (by omega)
   have Hgs1:=zhi hgs7
   have hlit:w7.heap[w6.heap.size]?=some (.cells #[.int .i64 9223372036854775807,.int .i64 2147483648,.int .i64 1000,.int .i64 64] 3 (0,0)):=z04 hg7 (by omega) (heap_alloc_new w6 _)
   have HL:=zhi hlit
   have HB:=zhi (z04 hg7 (by omega) ((heap_alloc_old _ _ hsz6b).trans HB.out))
   have Hg01:=zhi ((Hg01.out.trans (World.grownBy_alloc w6 _ _)).trans hg7)
   clear hn4 hgs7 hg7 hq3 hlit
   have hc:q3=0∨q3=1∨q3=2∨q3=3:=by omega
   clear hq4
   rcases hc with rfl | rfl | rfl | rfl
   ·have j:=cell_of_row _ _ 0 _ _ _ HL.out
    go_wp2_with (with_reducible refine z01 ?_)
    refine z08.of (z00 w7 rfl _ _ _ rfl w.heap.size _ rfl (by rfl) _ _ HB.out (by kernel_rfl) (by rfl) (by simp [Value.oneCell']) ?_)
    intro w9 hrow hg9
    have H2:=Hgs.out.own Hgs1.out Hg01.out (Nat.le_refl _) hg9
    obtain ⟨k0,k1,k2,k3,k4,k5⟩:=cl6 hrow
    have HH:=zhi H2
    clear hrow hg9 H2
    go_wp2_with fail
    exact bodyPost_ret (v:=.agg #[.int .i64 1,.int .i64 0,.int .i64 9223372036854775807,.int .i64 0,.string ⟨#[]⟩,.slice none 0 0]) (by simp [results,Try.results77,go_sem,k0,k1,k2,k3,k4,k5]) rfl (z0i (by omega) (by first | assumption | decide) (.inr (.inr (.inl rfl))) HH.out.1 HH.out.2 (z0L (by decide)))
   ·have j:=cell_of_row _ _ 1 _ _ _ HL.out
    go_wp2_with (with_reducible refine z01 ?_)
    refine z08.of (z00 w7 rfl _ _ _ rfl w.heap.size _ rfl (by rfl) _ _ HB.out (by kernel_rfl) (by rfl) (by simp [Value.oneCell']) ?_)
    intro w9 hrow hg9
    have H2:=Hgs.out.own Hgs1.out Hg01.out (Nat.le_refl _) hg9
    obtain ⟨k0,k1,k2,k3,k4,k5⟩:=cl6 hrow
    have HH:=zhi H2
    clear hrow hg9 H2
    go_wp2_with fail
    exact bodyPost_ret (v:=.agg #[.int .i64 1,.int .i64 0,.int .i64 2147483648,.int .i64 0,.string ⟨#[]⟩,.slice none 0 0]) (by simp [results,Try.results77,go_sem,k0,k1,k2,k3,k4,k5]) rfl (z0i (by omega) (by first | assumption | decide) (.inr (.inr (.inl rfl))) HH.out.1 HH.out.2 (z0L (by decide)))
   ·have j:=cell_of_row _ _ 2 _ _ _ HL.out
    go_wp2_with (with_reducible refine z01 ?_)
    refine z08.of (z00 w7 rfl _ _ _ rfl w.heap.size _ rfl (by rfl) _ _ HB.out (by kernel_rfl) (by rfl) (by simp [Value.oneCell']) ?_)
    intro w9 hrow hg9
    have H2:=Hgs.out.own Hgs1.out Hg01.out (Nat.le_refl _) hg9
    obtain ⟨k0,k1,k2,k3,k4,k5⟩:=cl6 hrow
    have HH:=zhi H2
    clear hrow hg9 H2
    go_wp2_with fail
    exact bodyPost_ret (v:=.agg #[.int .i64 1,.int .i64 0,.int .i64 1000,.int .i64 0,.string ⟨#[]⟩,.slice none 0 0]) (by simp [results,Try.results77,go_sem,k0,k1,k2,k3,k4,k5]) rfl (z0i (by omega) (by first | assumption | decide) (.inr (.inr (.inl rfl))) HH.out.1 HH.out.2 (z0L (by decide)))
   ·have j:=cell_of_row _ _ 3 _ _ _ HL.out
    go_wp2_with (with_reducible refine z01 ?_)
    refine z08.of (z00 w7 rfl _ _ _ rfl w.heap.size _ rfl (by rfl) _ _ HB.out (by kernel_rfl) (by rfl) (by simp [Value.oneCell']) ?_)
    intro w9 hrow hg9
    have H2:=Hgs.out.own Hgs1.out Hg01.out (Nat.le_refl _) hg9
    obtain ⟨k0,k1,k2,k3,k4,k5⟩:=cl6 hrow
    have HH:=zhi H2
    clear hrow hg9 H2
    go_wp2_with fail
    exact bodyPost_ret (v:=.agg #[.int .i64 1,.int .i64 0,.int .i64 64,.int .i64 0,.string ⟨#[]⟩,.slice none 0 0]) (by simp [results,Try.results77,go_sem,k0,k1,k2,k3,k4,k5]) rfl (z0i (by omega) (by first | assumption | decide) (.inr (.inr (.inl rfl))) HH.out.1 HH.out.2 (z0L (by decide)))
  ·have h11:((q2:Int) == 11)=false:=by simp; omega
   go_wp2_with (with_reducible refine z01 ?_)
   refine z08.of (z00 w6 rfl _ _ _ rfl w.heap.size _ rfl (by rfl) _ _ HB.out (by kernel_rfl) (by rfl) (by simp [Value.oneCell']) ?_)
   intro w9 hrow hg9
   have H2:=Hgs.out.own Hgs1.out Hg01.out (Nat.le_refl _) hg9
   obtain ⟨k0,k1,k2,k3,k4,k5⟩:=cl6 hrow
   have HH:=zhi H2
   clear hrow hg9 H2
   go_wp2_with fail
   exact bodyPost_ret (v:=.agg #[.int .i64 1,.int .i64 0,.int .i64 q,.int .i64 0,.string ⟨#[]⟩,.slice none 0 0]) (by simp [results,Try.results77,go_sem,k0,k1,k2,k3,k4,k5]) rfl (z0i (by omega) (by first | assumption | decide) (.inr (.inr (.inl rfl))) HH.out.1 HH.out.2 (z0L (by decide)))
 ·have hn5:=zhi (z0p 5 5 Hgs1.out rfl (by omega))
  go_wp2_with fail
  refine hn5.out.mono ?_
  rintro e w5 ⟨q,rfl,hq1,_,hgs5,hg5⟩
  have hq:q<5:=hq1 (by omega)
  have Hgs1:=zhi hgs5
  have HB:=zhi (z04 hg5 (by omega) HB.out)
  have Hg01:=zhi (Hg01.out.trans hg5)
  clear hn5 hgs5 hg5 hq1
  have hn12:=zhi (z0p 12 12 Hgs1.out rfl (by omega))
  go_wp2_with fail
  refine hn12.out.mono ?_
  rintro e w6 ⟨q2,rfl,_,_,hgs6,hg6⟩
  have Hgs1:=zhi hgs6
  have HB:=zhi (z04 hg6 (by omega) HB.out)
  have Hg01:=zhi (Hg01.out.trans hg6)
  clear hn12 hgs6 hg6
  by_cases h11:q2=11
  ·subst h11
   have hgs7:=Hgs1.out.below ((Below.refl _ w6).alloc (Nat.le_refl _) (.cells #[.int .i64 9223372036854775807,.int .i64 2147483648,.int .i64 1000,.int .i64 64] 3))
   have hn4:=zhi (z0p 4 4 hgs7 rfl (by omega))
   have hsz6:=Hg01.out.size
   have hsz6b:w.heap.size<w6.heap.size:=(Array.getElem?_eq_some_iff.1 HB.out).1
   clear hgs7
   go_wp2_with fail
   refine hn4.out.mono ?_
   rintro e w7 ⟨q3,rfl,hq3,_,hgs7,hg7⟩
   have hq4:q3<4:=hq3 (by omega)
   have Hgs1:=zhi hgs7
   have hlit:w7.heap[w6.heap.size]?=some (.cells #[.int .i64 9223372036854775807,.int .i64 2147483648,.int .i64 1000,.int .i64 64] 3 (0,0)):=z04 hg7 (by omega) (heap_alloc_new w6 _)
   have HL:=zhi hlit
   have HB:=zhi (z04 hg7 (by omega) ((heap_alloc_old _ _ hsz6b).trans HB.out))
   have Hg01:=zhi ((Hg01.out.trans (World.grownBy_alloc w6 _ _)).trans hg7)
   clear hn4 hgs7 hg7 hq3 hlit
   have hc:q3=0∨q3=1∨q3=2∨q3=3:=by omega
   clear hq4
   rcases hc with rfl | rfl | rfl | rfl
   ·have j:=cell_of_row _ _ 0 _ _ _ HL.out
    go_wp2_with (with_reducible refine z01 ?_)
    refine z08.of (z00 w7 rfl _ _ _ rfl w.heap.size _ rfl (by rfl) _ _ HB.out (by kernel_rfl) (by rfl) (by simp [Value.oneCell']) ?_)
    intro w9 hrow hg9
    have H2:=Hgs.out.own Hgs1.out Hg01.out (Nat.le_refl _) hg9
    obtain ⟨k0,k1,k2,k3,k4,k5⟩:=cl6 hrow
    have HH:=zhi H2
    clear hrow hg9 H2
    go_wp2_with fail
    exact bodyPost_ret (v:=.agg #[.int .i64 1,.int .i64 0,.int .i64 9223372036854775807,.int .i64 0,.string ⟨#[]⟩,.slice none 0 0]) (by simp [results,Try.results77,go_sem,k0,k1,k2,k3,k4,k5]) rfl (z0i (by omega) (by first | assumption | decide) (.inr (.inr (.inl rfl))) HH.out.1 HH.out.2 (z0L (by decide)))
   ·have j:=cell_of_row _ _ 1 _ _ _ HL.out
    go_wp2_with (with_reducible refine z01 ?_)
    refine z08.of (z00 w7 rfl _ _ _ rfl w.heap.size _ rfl (by rfl) _ _ HB.out (by kernel_rfl) (by rfl) (by simp [Value.oneCell']) ?_)
    intro w9 hrow hg9
    have H2:=Hgs.out.own Hgs1.out Hg01.out (Nat.le_refl _) hg9
    obtain ⟨k0,k1,k2,k3,k4,k5⟩:=cl6 hrow
    have HH:=zhi H2
    clear hrow hg9 H2
    go_wp2_with fail
    exact bodyPost_ret (v:=.agg #[.int .i64 1,.int .i64 0,.int .i64 2147483648,.int .i64 0,.string ⟨#[]⟩,.slice none 0 0]) (by simp [results,Try.results77,go_sem,k0,k1,k2,k3,k4,k5]) rfl (z0i (by omega) (by first | assumption | decide) (.inr (.inr (.inl rfl))) HH.out.1 HH.out.2 (z0L (by decide)))
   ·have j:=cell_of_row _ _ 2 _ _ _ HL.out
    go_wp2_with (with_reducible refine z01 ?_)
    refine z08.of (z00 w7 rfl _ _ _ rfl w.heap.size _ rfl (by rfl) _ _ HB.out (by kernel_rfl) (by rfl) (by simp [Value.oneCell']) ?_)
    intro w9 hrow hg9
    have H2:=Hgs.out.own Hgs1.out Hg01.out (Nat.le_refl _) hg9
    obtain ⟨k0,k1,k2,k3,k4,k5⟩:=cl6 hrow
    have HH:=zhi H2
    clear hrow hg9 H2
    go_wp2_with fail
    exact bodyPost_ret (v:=.agg #[.int .i64 1,.int .i64 0,.int .i64 1000,.int .i64 0,.string ⟨#[]⟩,.slice none 0 0]) (by simp [results,Try.results77,go_sem,k0,k1,k2,k3,k4,k5]) rfl (z0i (by omega) (by first | assumption | decide) (.inr (.inr (.inl rfl))) HH.out.1 HH.out.2 (z0L (by decide)))
   ·have j:=cell_of_row _ _ 3 _ _ _ HL.out
    go_wp2_with (with_reducible refine z01 ?_)
    refine z08.of (z00 w7 rfl _ _ _ rfl w.heap.size _ rfl (by rfl) _ _ HB.out (by kernel_rfl) (by rfl) (by simp [Value.oneCell']) ?_)
    intro w9 hrow hg9
    have H2:=Hgs.out.own Hgs1.out Hg01.out (Nat.le_refl _) hg9
    obtain ⟨k0,k1,k2,k3,k4,k5⟩:=cl6 hrow
    have HH:=zhi H2
    clear hrow hg9 H2
    go_wp2_with fail
    exact bodyPost_ret (v:=.agg #[.int .i64 1,.int .i64 0,.int .i64 64,.int .i64 0,.string ⟨#[]⟩,.slice none 0 0]) (by simp [results,Try.results77,go_sem,k0,k1,k2,k3,k4,k5]) rfl (z0i (by omega) (by first | assumption | decide) (.inr (.inr (.inl rfl))) HH.out.1 HH.out.2 (z0L (by decide)))
  ·have h11:((q2:Int) == 11)=false:=by simp; omega
   go_wp2_with (with_reducible refine z01 ?_)
   refine z08.of (z00 w6 rfl _ _ _ rfl w.heap.size _ rfl (by rfl) _ _ HB.out (by kernel_rfl) (by rfl) (by simp [Value.oneCell']) ?_)
   intro w9 hrow hg9
   have H2:=Hgs.out.own Hgs1.out Hg01.out (Nat.le_refl _) hg9
   obtain ⟨k0,k1,k2,k3,k4,k5⟩:=cl6 hrow
   have HH:=zhi H2
   clear hrow hg9 H2
   go_wp2_with fail
   exact bodyPost_ret (v:=.agg #[.int .i64 1,.int .i64 0,.int .i64 q,.int .i64 0,.string ⟨#[]⟩,.slice none 0 0]) (by simp [results,Try.results77,go_sem,k0,k1,k2,k3,k4,k5]) rfl (z0i (by omega) (by first | assumption | decide) (.inr (.inr (.inl rfl))) HH.out.1 HH.out.2 (z0L (by decide)))
end Go.Proofs.Ytleicdfkagejoaa
