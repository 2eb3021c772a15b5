/-
  Ku: Gen5, Gen6, Gen7, Gen8, StRow, Gen9, Gen10, Gen11, Gen12, Gen13, GenLen. Part of the proof. No condition.
-/
import Derived.Test.YtdflbhofmmlpgaaGreatKt
import Derived.Deep.CutRange
set_option maxRecDepth 100000
set_option maxHeartbeats 8000000
namespace Go.Proofs.YtdflbhofmmlpgaaGreat
open Go.RowKit
theorem z6g {W0 w':World} {m g nf fc fr:Nat} {l:List Nat} {E:Env} {bud:Int} {sn:Nat->Zb} {ln:Nat->Int} {pA bA:Nat->Option Addr} {np pc bn bc:Nat->Nat} (o:Obj) (h:w'.cell? ⟨m,0,none⟩=some (.pointer (some ⟨g,0,none⟩))/\w'.cell? ⟨m,2,none⟩=some (.slice (some ⟨fr,0,none⟩) nf fc)/\(∀ q,q<nf->w'.cell? ⟨fr,q * 4,none⟩=some (.string (sn q)))/\(∀ q,q<nf->w'.cell? ⟨fr,q * 4+1,none⟩=some (.int .i64 (ln q)))/\(∀ q,q<nf->w'.cell? ⟨fr,q * 4+2,none⟩=some (.slice (pA q) (np q) (pc q)))/\(∀ q,q<nf->w'.cell? ⟨fr,q * 4+3,none⟩=some (.slice (bA q) (bn q) (bc q)))/\GS w' m g l E bud/\W0.grownBy w' (some g)):(w'.alloc o).cell? ⟨m,0,none⟩=some (.pointer (some ⟨g,0,none⟩))/\(w'.alloc o).cell? ⟨m,2,none⟩=some (.slice (some ⟨fr,0,none⟩) nf fc)/\(∀ q,q<nf->(w'.alloc o).cell? ⟨fr,q * 4,none⟩=some (.string (sn q)))/\(∀ q,q<nf->(w'.alloc o).cell? ⟨fr,q * 4+1,none⟩=some (.int .i64 (ln q)))/\(∀ q,q<nf->(w'.alloc o).cell? ⟨fr,q * 4+2,none⟩=some (.slice (pA q) (np q) (pc q)))/\(∀ q,q<nf->(w'.alloc o).cell? ⟨fr,q * 4+3,none⟩=some (.slice (bA q) (bn q) (bc q)))/\GS (w'.alloc o) m g l E bud/\W0.grownBy (w'.alloc o) (some g):=by
 have hb:=(q_i _ w').alloc (q_2 _) o;exact ⟨hold hb h.1,hold hb h.2.1,fun q hq=>hold hb (h.2.2.1 q hq),fun q hq=>hold hb (h.2.2.2.1 q hq),fun q hq=>hold hb (h.2.2.2.2.1 q hq),fun q hq=>hold hb (h.2.2.2.2.2.1 q hq),h.2.2.2.2.2.2.1.below hb,h.2.2.2.2.2.2.2.trans (z02 hb _)⟩
theorem z6f {W0 w':World} {m g nf fc fr:Nat} {l:List Nat} {E:Env} {bud:Int} {sn:Nat->Zb} {ln:Nat->Int} {pA bA:Nat->Option Addr} {np pc bn bc:Nat->Nat} (o:Obj) (h:w'.cell? ⟨m,0,none⟩=some (.pointer (some ⟨g,0,none⟩))/\w'.cell? ⟨m,2,none⟩=some (.slice (some ⟨fr,0,none⟩) nf fc)/\(∀ q,q<nf->w'.cell? ⟨fr,q * 4,none⟩=some (.string (sn q)))/\(∀ q,q<nf->w'.cell? ⟨fr,q * 4+1,none⟩=some (.int .i64 (ln q)))/\(∀ q,q<nf->w'.cell? ⟨fr,q * 4+2,none⟩=some (.slice (pA q) (np q) (pc q)))/\(∀ q,q<nf->w'.cell? ⟨fr,q * 4+3,none⟩=some (.slice (bA q) (bn q) (bc q)))/\GS w' m g l E bud/\W0.grownBy w' (some g)):(w'.alloc o).drew.cell? ⟨m,0,none⟩=some (.pointer (some ⟨g,0,none⟩))/\(w'.alloc o).drew.cell? ⟨m,2,none⟩=some (.slice (some ⟨fr,0,none⟩) nf fc)/\(∀ q,q<nf->(w'.alloc o).drew.cell? ⟨fr,q * 4,none⟩=some (.string (sn q)))/\(∀ q,q<nf->(w'.alloc o).drew.cell? ⟨fr,q * 4+1,none⟩=some (.int .i64 (ln q)))/\(∀ q,q<nf->(w'.alloc o).drew.cell? ⟨fr,q * 4+2,none⟩=some (.slice (pA q) (np q) (pc q)))/\(∀ q,q<nf->(w'.alloc o).drew.cell? ⟨fr,q * 4+3,none⟩=some (.slice (bA q) (bn q) (bc q)))/\GS (w'.alloc o).drew m g l E bud/\W0.grownBy (w'.alloc o).drew (some g):=by
 have hb:=((q_i _ w').alloc (q_2 _) o).drew;exact ⟨hold hb h.1,hold hb h.2.1,fun q hq=>hold hb (h.2.2.1 q hq),fun q hq=>hold hb (h.2.2.2.1 q hq),fun q hq=>hold hb (h.2.2.2.2.1 q hq),fun q hq=>hold hb (h.2.2.2.2.2.1 q hq),h.2.2.2.2.2.2.1.below hb,h.2.2.2.2.2.2.2.trans (z02 hb _)⟩
theorem z83 (w':World) (b:Nat) (v0 v1 v2 v3:Value):w'.grownBy ((((w'.setCell ⟨b,0,none⟩ v0).setCell ⟨b,1,none⟩ v1).setCell ⟨b,2,none⟩ v2).setCell ⟨b,3,none⟩ v3) (some b):=(((z03 w' ⟨b,0,none⟩ v0).trans (z03 _ ⟨b,1,none⟩ v1)).trans (z03 _ ⟨b,2,none⟩ v2)).trans (z03 _ ⟨b,3,none⟩ v3)
theorem zb7 {w':World} {b:Nat} {c0 c1 c2 c3:Value} {t:TypeId} (v0 v1 v2 v3:Value) (h:w'.heap[b]?=some (.cells #[c0,c1,c2,c3] t (0,0))):(((((w'.setCell ⟨b,0,none⟩ v0).setCell ⟨b,1,none⟩ v1).setCell ⟨b,2,none⟩ v2).setCell ⟨b,3,none⟩ v3)).heap[b]?=some (.cells #[v0,v1,v2,v3] t (0,0)):=z0a v3 (z0a v2 (z0a v1 (z0a v0 h)))
theorem z7I {W0 w':World} {b:Nat} {v0 v1 v2 v3:Value} {m g nf fc fr:Nat} {l:List Nat} {E:Env} {bud:Int} {sn:Nat->Zb} {ln:Nat->Int} {pA bA:Nat->Option Addr} {np pc bn bc:Nat->Nat} (h0:GS W0 m g l E bud) (hb:W0.heap.size<=b) (hm:m≠b) (hfr:fr≠b) (h:w'.cell? ⟨m,0,none⟩=some (.pointer (some ⟨g,0,none⟩))/\w'.cell? ⟨m,2,none⟩=some (.slice (some ⟨fr,0,none⟩) nf fc)/\(∀ q,q<nf->w'.cell? ⟨fr,q * 4,none⟩=some (.string (sn q)))/\(∀ q,q<nf->w'.cell? ⟨fr,q * 4+1,none⟩=some (.int .i64 (ln q)))/\(∀ q,q<nf->w'.cell? ⟨fr,q * 4+2,none⟩=some (.slice (pA q) (np q) (pc q)))/\(∀ q,q<nf->w'.cell? ⟨fr,q * 4+3,none⟩=some (.slice (bA q) (bn q) (bc q)))/\GS w' m g l E bud/\W0.grownBy w' (some g)):((((w'.setCell ⟨b,0,none⟩ v0).setCell ⟨b,1,none⟩ v1).setCell ⟨b,2,none⟩ v2).setCell ⟨b,3,none⟩ v3).cell? ⟨m,0,none⟩=some (.pointer (some ⟨g,0,none⟩))/\((((w'.setCell ⟨b,0,none⟩ v0).setCell ⟨b,1,none⟩ v1).setCell ⟨b,2,none⟩ v2).setCell ⟨b,3,none⟩ v3).cell? ⟨m,2,none⟩=some (.slice (some ⟨fr,0,none⟩) nf fc)/\(∀ q,q<nf->((((w'.setCell ⟨b,0,none⟩ v0).setCell ⟨b,1,none⟩ v1).setCell ⟨b,2,none⟩ v2).setCell ⟨b,3,none⟩ v3).cell? ⟨fr,q * 4,none⟩=some (.string (sn q)))/\(∀ q,q<nf->((((w'.setCell ⟨b,0,none⟩ v0).setCell ⟨b,1,none⟩ v1).setCell ⟨b,2,none⟩ v2).setCell ⟨b,3,none⟩ v3).cell? ⟨fr,q * 4+1,none⟩=some (.int .i64 (ln q)))/\(∀ q,q<nf->((((w'.setCell ⟨b,0,none⟩ v0).setCell ⟨b,1,none⟩ v1).setCell ⟨b,2,none⟩ v2).setCell ⟨b,3,none⟩ v3).cell? ⟨fr,q * 4+2,none⟩=some (.slice (pA q) (np q) (pc q)))/\(∀ q,q<nf->((((w'.setCell ⟨b,0,none⟩ v0).setCell ⟨b,1,none⟩ v1).setCell ⟨b,2,none⟩ v2).setCell ⟨b,3,none⟩ v3).cell? ⟨fr,q * 4+3,none⟩=some (.slice (bA q) (bn q) (bc q)))/\GS ((((w'.setCell ⟨b,0,none⟩ v0).setCell ⟨b,1,none⟩ v1).setCell ⟨b,2,none⟩ v2).setCell ⟨b,3,none⟩ v3) m g l E bud/\W0.grownBy ((((w'.setCell ⟨b,0,none⟩ v0).setCell ⟨b,1,none⟩ v1).setCell ⟨b,2,none⟩ v2).setCell ⟨b,3,none⟩ v3) (some g):=by
 have hg:=z83 w' b v0 v1 v2 v3;have h2:=GS.own h0 h.2.2.2.2.2.2.1 h.2.2.2.2.2.2.2 hb hg;exact ⟨z0b hg hm h.1,z0b hg hm h.2.1,fun q hq=>z0b hg hfr (h.2.2.1 q hq),fun q hq=>z0b hg hfr (h.2.2.2.1 q hq),fun q hq=>z0b hg hfr (h.2.2.2.2.1 q hq),fun q hq=>z0b hg hfr (h.2.2.2.2.2.1 q hq),h2.1,h2.2⟩
theorem z7H {W0 w' w2:World} {m g nf fc fr:Nat} {l:List Nat} {E:Env} {bud:Int} {sn:Nat->Zb} {ln:Nat->Int} {pA bA:Nat->Option Addr} {np pc bn bc:Nat->Nat} (hr:fr≠g) (h2:GS w2 m g l E bud) (hg:w'.grownBy w2 (some g)) (h:w'.cell? ⟨m,0,none⟩=some (.pointer (some ⟨g,0,none⟩))/\w'.cell? ⟨m,2,none⟩=some (.slice (some ⟨fr,0,none⟩) nf fc)/\(∀ q,q<nf->w'.cell? ⟨fr,q * 4,none⟩=some (.string (sn q)))/\(∀ q,q<nf->w'.cell? ⟨fr,q * 4+1,none⟩=some (.int .i64 (ln q)))/\(∀ q,q<nf->w'.cell? ⟨fr,q * 4+2,none⟩=some (.slice (pA q) (np q) (pc q)))/\(∀ q,q<nf->w'.cell? ⟨fr,q * 4+3,none⟩=some (.slice (bA q) (bn q) (bc q)))/\GS w' m g l E bud/\W0.grownBy w' (some g)):w2.cell? ⟨m,0,none⟩=some (.pointer (some ⟨g,0,none⟩))/\w2.cell? ⟨m,2,none⟩=some (.slice (some ⟨fr,0,none⟩) nf fc)/\(∀ q,q<nf->w2.cell? ⟨fr,q * 4,none⟩=some (.string (sn q)))/\(∀ q,q<nf->w2.cell? ⟨fr,q * 4+1,none⟩=some (.int .i64 (ln q)))/\(∀ q,q<nf->w2.cell? ⟨fr,q * 4+2,none⟩=some (.slice (pA q) (np q) (pc q)))/\(∀ q,q<nf->w2.cell? ⟨fr,q * 4+3,none⟩=some (.slice (bA q) (bn q) (bc q)))/\GS w2 m g l E bud/\W0.grownBy w2 (some g) :=
 ⟨z0b hg h2.ne h.1,z0b hg h2.ne h.2.1,fun q hq=>z0b hg hr (h.2.2.1 q hq),fun q hq=>z0b hg hr (h.2.2.2.1 q hq),fun q hq=>z0b hg hr (h.2.2.2.2.1 q hq),fun q hq=>z0b hg hr (h.2.2.2.2.2.1 q hq),h2,h.2.2.2.2.2.2.2.trans hg⟩
theorem zcG {F:Nat->Prop} {w:World} {fl:List (Zb × List Zb)} {fr c:Nat} (hF:z1z F w fl (some ⟨fr,0,none⟩) c):∃ (sn:Nat->Zb) (ln:Nat->Int) (pA:Nat->Option Addr) (np pc:Nat->Nat) (bA:Nat->Option Addr) (bn bc:Nat->Nat),
  (∀ q,q<fl.length->w.cell? ⟨fr,q * 4,none⟩=some (.string (sn q)))/\(∀ q,q<fl.length->w.cell? ⟨fr,q * 4+1,none⟩=some (.int .i64 (ln q)))/\(∀ q,q<fl.length->w.cell? ⟨fr,q * 4+2,none⟩=some (.slice (pA q) (np q) (pc q)))/\(∀ q,q<fl.length->w.cell? ⟨fr,q * 4+3,none⟩=some (.slice (bA q) (bn q) (bc q)))/\(∀ q,q<fl.length->∃ f∈fl,sn q=f.1/\np q=f.2.length):=by
 have key:∀ q (hq:q<fl.length),∃ pA pc bA bn bc,∃ ln:Int,w.cell? ⟨fr,q * 4,none⟩=some (.string fl[q].1)/\w.cell? ⟨fr,q * 4+1,none⟩=some (.int .i64 ln)/\w.cell? ⟨fr,q * 4+2,none⟩=some (.slice pA fl[q].2.length pc)/\w.cell? ⟨fr,q * 4+3,none⟩=some (.slice bA bn bc):=fun q hq=>by
  obtain ⟨r,pA,pc,bA,bn,bc,ln,hA,hr,e0,e1,e2,e3⟩:=hF.2 q _ (q_7 hq);injection hA with hA;injection hA with hA;subst hA;exact ⟨pA,pc,bA,bn,bc,ln,e0,e1,e2,e3⟩
 refine ⟨fun q=>match w.cell? ⟨fr,q * 4,none⟩ with | some (.string s)=>s | _=>⟨#[]⟩,fun q=>match w.cell? ⟨fr,q * 4+1,none⟩ with | some (.int .i64 z)=>z | _=>0,
  fun q=>match w.cell? ⟨fr,q * 4+2,none⟩ with | some (.slice a _ _)=>a | _=>none,fun q=>match w.cell? ⟨fr,q * 4+2,none⟩ with | some (.slice _ n _)=>n | _=>0,fun q=>match w.cell? ⟨fr,q * 4+2,none⟩ with | some (.slice _ _ c)=>c | _=>0,
  fun q=>match w.cell? ⟨fr,q * 4+3,none⟩ with | some (.slice a _ _)=>a | _=>none,fun q=>match w.cell? ⟨fr,q * 4+3,none⟩ with | some (.slice _ n _)=>n | _=>0,fun q=>match w.cell? ⟨fr,q * 4+3,none⟩ with | some (.slice _ _ c)=>c | _=>0,fun q hq=>?_,fun q hq=>?_,fun q hq=>?_,fun q hq=>?_,fun q hq=>?_⟩
 all_goals obtain ⟨pA,pc,bA,bn,bc,ln,e0,e1,e2,e3⟩:=key q hq
 ·simp only [e0]
 ·simp only [e1]
 ·simp only [e2]
 ·simp only [e3]
 ·exact ⟨_,List.getElem_mem hq,by simp only [e0],by simp only [e2]⟩
def z6a (w:World) (m g:Nat) (l:List Nat) (E:Env) (bud:Int) (v:Value) (wc:World):Prop :=
 ∃ b5 f pA pc bA bn bc,∃ ln:Int,v=.pointer (some ⟨b5,0,none⟩)/\f∈E.funs/\wc.heap[b5]?=some (.cells #[.string f.1,.int .i64 ln,.slice pA f.2.length pc,.slice bA bn bc] 83 (0,0))/\w.heap.size<b5/\GS wc m g l E bud/\w.grownBy wc (some g) /\
  wc.heap[w.heap.size]?=some (.cells #[.int .i64 0,.int .i64 0,.int .i64 0,.int .i64 0,.string { data:=#[] },.slice none 0 0] 124 (0,0))
structure z2o (w:World) (m g:Nat) (l:List Nat) (E:Env) (bud:Int) (b5:Nat) (row:Array Value) (wc:World):Prop where
 row5:wc.heap[b5]?=some (.cells row 83 (0,0))
 gs:GS wc m g l E bud
 grown:w.grownBy wc (some g)
 res:wc.heap[w.heap.size]?=some (.cells #[.int .i64 0,.int .i64 0,.int .i64 0,.int .i64 0,.string { data:=#[] },.slice none 0 0] 124 (0,0))
theorem z2o.step {w wc w2:World} {m g b5:Nat} {l:List Nat} {E:Env} {bud:Int} {row:Array Value} (h:z2o w m g l E bud b5 row wc) (hb:b5≠g) (hw:w.heap.size≠g) (h2:GS w2 m g l E bud) (hg:wc.grownBy w2 (some g)):z2o w m g l E bud b5 row w2 :=
 ⟨z04 hg hb h.row5,h2,h.grown.trans hg,z04 hg hw h.res⟩
theorem GS.low {w0 w w':World} {m g B:Nat} {l:List Nat} {E:Env} {bud:Int} (h:GS w0 m g l E bud) (h2:GS w m g l E bud) (h1:w0.grownBy w (some g)) (hb:Below B w w') (hB:w0.heap.size<=B):GS w' m g l E bud/\w0.grownBy w' (some g):=by
 have hgr:w0.grownBy w' (some g):=z1N h1 hb hB;have hglt:=h.glt;refine ⟨⟨h.ne,h.mka.grown hgr h.ne,?_,h.len,h.lb⟩,hgr⟩;obtain ⟨k,hk⟩:=h2.co;exact ⟨k,z1i hk hb (by omega)⟩
theorem z2o.low {w wc w2:World} {m g b5 B:Nat} {l:List Nat} {E:Env} {bud:Int} {row:Array Value} (h:z2o w m g l E bud b5 row wc) (h0:GS w m g l E bud) (hb:Below B wc w2) (h5:b5<B) (hw:w.heap.size<B):z2o w m g l E bud b5 row w2 :=
 have hh:=h0.low h.gs h.grown hb (by omega)
 ⟨(hb.block _ h5).trans h.row5,hh.1,hh.2,(hb.block _ hw).trans h.res⟩
def z8e (w:World) (m g:Nat) (l:List Nat) (E:Env) (bud:Int) (d b5:Nat) (row:Array Value) (base n:Nat) (v i:Value) (wr:World):Prop :=
 ∃ (k:Nat) (xs:List Ex) (L:List Value),k<=n/\i=.int .i64 (k:Int)/\xs.length=k/\(∀ x∈xs,GX E d x)/\z0p base (d+1) wr v xs L/\z2o w m g l E bud b5 row wr/\base<=wr.heap.size
def z4K (w:World) (m g:Nat) (l:List Nat) (E:Env) (bud:Int) (d b5:Nat) (row:Array Value) (base G:Nat) (va:Value) (xs:List Ex) (L:List Value) (v:Value) (wd:World):Prop :=
 ∃ x k o a lf s A n c,v=.pointer (some ⟨G,0,none⟩)/\wd.heap[G]?=some (.cells #[.int .i64 k,.int .i64 o,.int .i64 a,.int .i64 lf,.string s,.slice A n c] 124 (0,0))/\GX E d x /\
  ExV (fun b=>G<b/\b<wd.heap.size) wd (d+1) x (.agg #[.int .i64 k,.int .i64 o,.int .i64 a,.int .i64 lf,.string s,.slice A n c])/\z2o w m g l E bud b5 row wd/\z0p base (d+1) wd va xs L
theorem zcI {E:Env} {d:Nat} {x:Ex} {F:Nat->Prop} {w:World} {o a lf:Int} {s:Zb} {A:Option Addr} {n c:Nat} (h:GX E d x) (hx:ExV F w (d+1) x (.agg #[.int .i64 13,.int .i64 o,.int .i64 a,.int .i64 lf,.string s,.slice A n c])):z0B s/\z2K E s:=by
 match x,h,hx with
 | .mk k' o' a' l' s' xs,⟨h,hi⟩,⟨A',c',hv,_⟩ =>
  injection hv with hv;injection hv with hv;injection hv with h0 hv;injection h0 with _ h0;injection hv with _ hv;injection hv with _ hv;injection hv with _ hv;injection hv with h4 _;injection h4 with h4;subst h0 h4;refine ⟨?_,hi.1.1 rfl⟩;cases d with
  | zero =>
   obtain ⟨_,_,_,_,_,_,_,hk⟩:=h;rcases hk with hk | ⟨_,hk⟩ | hk | ⟨hk,_⟩
   ·cases hk
   ·exact hk
   ·cases hk
   ·cases hk
  | succ d =>
   obtain ⟨_,_,_,_,_,_,hk⟩:=h;rcases hk with ⟨_,hk⟩ | ⟨_,hk⟩
   ·rcases hk with hk | ⟨_,hk⟩ | hk | ⟨hk,_⟩
    ·cases hk
    ·exact hk
    ·cases hk
    ·cases hk
   ·omega
theorem z5z (m g:Nat) (l:List Nat) (E:Env) (bud:Int) (d:Nat) (hd:d<=5) (hE:z1s E) (ihE:z5v m g l E bud d):z8d m g l E bud d:=by
 intro w z hz h;have Hgs:=zhi h;have HE:=zhi hE;have hglt:=h.glt;have hmlt:=h.mka.lt;have hmg:=h.ne;have hgs0:=h.below ((q_i _ w).alloc (q_2 _) (.cells #[.int .i64 0,.int .i64 0,.int .i64 0,.int .i64 0,.string { data:=#[] },.slice none 0 0] 124));obtain ⟨_,_,fA,fc,_,_,c0,z1,c2,z3,z4,z5,z6,z7⟩:=hgs0.cells;obtain ⟨fr,_,_,_,_,_,_,rfl,hrg,z8⟩:=z6.2 0 _ (q_7 hE.fn.1);obtain ⟨sn,ln,pA,np,pc,bA,bn,bc,f0,f1,f2,f3,hff⟩:=zcG z6;have hfc:=z6.1;have hfn:=hE.fn;obtain ⟨nf,hnf⟩:∃ nf,nf=E.funs.length:=⟨_,rfl⟩;have Hnf:=zhi hnf;rw [<- hnf] at c2 hfc hfn f0 f1 f2 f3 hff;have Hff:=zhi hff;clear z1 z3 z4 z5 z6 z7 z8 hnf hff;have Hgs0:=zhi hgs0;have hz1:1<=z:=by omega
 have hz6:z<=6:=by omega
 have Hz:=zhi hz;have IHE:=zhi ihE;have HB0:=zhi (q_4 w (.cells #[.int .i64 0,.int .i64 0,.int .i64 0,.int .i64 0,.string { data:=#[] },.slice none 0 0] 124));have Hg00:=zhi (World.grownBy_alloc w (.cells #[.int .i64 0,.int .i64 0,.int .i64 0,.int .i64 0,.string { data:=#[] },.slice none 0 0] 124) (some g));clear hgs0 h hE hz ihE;have hw0:w.heap.size<(w.alloc (.cells #[.int .i64 0,.int .i64 0,.int .i64 0,.int .i64 0,.string { data:=#[] },.slice none 0 0] 124)).heap.size:=by simp
 go_enter Tryz.func72,Tryz.ntmps72;go_upto_region 1 with fail;generalize w.alloc (.cells #[.int .i64 0,.int .i64 0,.int .i64 0,.int .i64 0,.string { data:=#[] },.slice none 0 0] 124)=W0 at *
 go_cut [5] from 11 (fun v wc=>z6a w m g l E bud v wc)
 case first =>
  have HNX:Hid (∀ W,GS W m g l E bud->Calls Tryz.prog 15 #[.pointer (some ⟨g,0,none⟩),.int .i64 (nf:Int)] W (zdB m g l E bud nf W)):=zhi (fun W hW=>z0q nf nf hW rfl (by omega));have hS0:W0.drew.cell? ⟨m,0,none⟩=some (.pointer (some ⟨g,0,none⟩))/\W0.drew.cell? ⟨m,2,none⟩=some (.slice (some ⟨fr,0,none⟩) nf fc)/\(∀ q,q<nf->W0.drew.cell? ⟨fr,q * 4,none⟩=some (.string (sn q)))/\(∀ q,q<nf->W0.drew.cell? ⟨fr,q * 4+1,none⟩=some (.int .i64 (ln q)))/\(∀ q,q<nf->W0.drew.cell? ⟨fr,q * 4+2,none⟩=some (.slice (pA q) (np q) (pc q)))/\(∀ q,q<nf->W0.drew.cell? ⟨fr,q * 4+3,none⟩=some (.slice (bA q) (bn q) (bc q)))/\GS W0.drew m g l E bud/\W0.grownBy W0.drew (some g):=⟨c0,c2,f0,f1,f2,f3,Hgs0.out.below (q_i _ W0).drew,z02 (q_i _ W0).drew _⟩;have hS0a:W0.cell? ⟨m,0,none⟩=some (.pointer (some ⟨g,0,none⟩))/\W0.cell? ⟨m,2,none⟩=some (.slice (some ⟨fr,0,none⟩) nf fc)/\(∀ q,q<nf->W0.cell? ⟨fr,q * 4,none⟩=some (.string (sn q)))/\(∀ q,q<nf->W0.cell? ⟨fr,q * 4+1,none⟩=some (.int .i64 (ln q)))/\(∀ q,q<nf->W0.cell? ⟨fr,q * 4+2,none⟩=some (.slice (pA q) (np q) (pc q)))/\(∀ q,q<nf->W0.cell? ⟨fr,q * 4+3,none⟩=some (.slice (bA q) (bn q) (bc q)))/\GS W0 m g l E bud/\W0.grownBy W0 (some g):=⟨c0,c2,f0,f1,f2,f3,Hgs0.out,z02 (q_i _ W0) _⟩;have hb0a:(W0.alloc (.cells #[.string { data:=#[] },.int .i64 0,.slice none 0 0,.slice none 0 0] 83)).drew.heap[W0.heap.size]?=some (.cells #[.string { data:=#[] },.int .i64 0,.slice none 0 0,.slice none 0 0] 83 (0,0)):=q_4 W0 _;have hg0ne:W0.heap.size≠g:=by have:=Hgs0.out.glt; omega
  have hm0ne:m≠W0.heap.size:=by have:=Hgs0.out.mka.lt; omega
  have hf0ne:fr≠W0.heap.size:=by have hh:fr<W0.heap.size:=q_k _ _ (f0 0 (by omega)); omega
  clear f0 f1 f2 f3
  go_region_held3 (fun w'=>w'.cell? ⟨m,0,none⟩=some (.pointer (some ⟨g,0,none⟩))/\w'.cell? ⟨m,2,none⟩=some (.slice (some ⟨fr,0,none⟩) nf fc)/\(∀ q,q<nf->w'.cell? ⟨fr,q * 4,none⟩=some (.string (sn q)))/\(∀ q,q<nf->w'.cell? ⟨fr,q * 4+1,none⟩=some (.int .i64 (ln q)))/\(∀ q,q<nf->w'.cell? ⟨fr,q * 4+2,none⟩=some (.slice (pA q) (np q) (pc q)))/\(∀ q,q<nf->w'.cell? ⟨fr,q * 4+3,none⟩=some (.slice (bA q) (bn q) (bc q)))/\GS w' m g l E bud/\W0.grownBy w' (some g))
   (first | (with_reducible exact hS0) | (with_reducible exact hS2) | (with_reducible exact z6f _ hS0a) | (with_reducible exact z6g _ hS2) | (with_reducible exact z7I Hgs0.out (q_2 _) hm0ne hf0ne hS2))
   (first | (go_at_call 15; (with_reducible refine (HNX.out _ ?_).mono ?_); (go_split_ands; assumption); rintro e w2 ⟨q,rfl,hq1,_,hgs2,hg2⟩; have hq:q<nf:=(hq1 (by omega)); have hS2:=z7H hrg hgs2 hg2 (by assumption:_); (try (have hblk:=z04 hg2 hg0ne hb0a; have kk0:=zcr 0 hblk; have kk1:=zcr 1 hblk; have kk2:=zcr 2 hblk; have kk3:=zcr 3 hblk; have kf0:=z06 hblk 0; have kf1:=z06 hblk 1; have kf2:=z06 hblk 2; have kf3:=z06 hblk 3; have HBL:=zhi hblk; clear hblk)); clear hq1 hgs2))
  all_goals
   rename_i hH;obtain ⟨f,hf,hs,hn⟩:=Hff.out q hq;have hgr:=hH.2.2.2.2.2.2.2;have hHB:=z04 hgr (by omega) HB0.out
  ·have hres:z6a w m g l E bud (.pointer (some ⟨w2.heap.size,0,none⟩)) (w2.alloc (.cells #[.string (sn q),.int .i64 (ln q),.slice (pA q) (np q) (pc q),.slice (bA q) (bn q) (bc q)] 83)) :=
    ⟨w2.heap.size,f,pA q,pc q,bA q,bn q,bc q,ln q,rfl,hf,by rw [<- hs,<- hn]; exact q_4 w2 _,by have:=hg2.size; simp at this; omega,hH.2.2.2.2.2.2.1,Hg00.out.trans hgr,hHB⟩
   have HRES:=zhi hres;clear hres hH hgr hHB hf hs hn;go_wp2_with fail
   go_meet
   case rel=>exact HRES.out
  ·have hrow4:=zb7 (.string (sn q)) (.int .i64 (ln q)) (.slice (pA q) (np q) (pc q)) (.slice (bA q) (bn q) (bc q)) HBL.out;generalize ((((w2.setCell ⟨W0.heap.size,0,none⟩ (.string (sn q))).setCell ⟨W0.heap.size,1,none⟩ (.int .i64 (ln q))).setCell ⟨W0.heap.size,2,none⟩ (.slice (pA q) (np q) (pc q))).setCell ⟨W0.heap.size,3,none⟩ (.slice (bA q) (bn q) (bc q)))=w3 at *;have hres:z6a w m g l E bud (.pointer (some ⟨W0.heap.size,0,none⟩)) w3 :=
    ⟨W0.heap.size,f,pA q,pc q,bA q,bn q,bc q,ln q,rfl,hf,by rw [<- hs,<- hn]; exact hrow4,hw0,hH.2.2.2.2.2.2.1,Hg00.out.trans hgr,hHB⟩
   have HRES:=zhi hres;clear hres hH hgr hHB hf hs hn hrow4;go_wp2_with fail
   go_meet
   case rel=>exact HRES.out
 case rest =>
  clear f0 f1 f2 f3 c0 c2;obtain ⟨b5,f,pA,pc,bA,bn,bc,ln,rfl,hf,hrow,hb5,hgs,hg,hHB⟩:=hcut;have hst:z2o w m g l E bud b5 #[.string f.1,.int .i64 ln,.slice pA f.2.length pc,.slice bA bn bc] wc:=⟨hrow,hgs,hg,hHB⟩;have Hst:=zhi hst;have hf2:=(HE.out.fs f hf).2.1;have hf1:=zhi (HE.out.fs f hf).1;obtain ⟨np,hnp⟩:∃ np,np=f.2.length:=⟨_,rfl⟩;rw [<- hnp] at hf2 hst Hst hrow;have k2:=zcr 2 hrow;obtain ⟨_,_,_,_,_,_,x0,z1,z2,z3,z4,z5,z6,z7⟩:=hgs.cells;have hn3:=zhi (z0q 3 3 hgs rfl (by omega));have hbg:b5≠g:=by omega
  have hwg:w.heap.size≠g:=by omega
  have Hfn:Hid (∃ f'∈E.funs,f'.1=f.1/\f'.2.length=np):=zhi ⟨f,hf,rfl,hnp.symm⟩;generalize f.1=fname at *;clear z1 z2 z3 z4 z5 z6 z7 hrow hgs hg hHB hst hf hnp;go_wp2_with fail;refine hn3.out.mono ?_;rintro e w3 ⟨q3,rfl,_,_,hgs3,hg3⟩;have Hst3:=zhi (Hst.out.step hbg hwg hgs3 hg3);obtain ⟨_,_,_,_,_,_,y0,z1,z2,z3,z4,z5,z6,z7⟩:=hgs3.cells;clear z1 z2 z3 z4 z5 z6 z7 hgs3 hg3 hn3 x0 k2;go_upto_region 4 with fail;generalize ((q3:Int) == 2)=val at *
  go_cut [46] from 11 (fun v wd=>∃ b:Bool,v=.bool b/\(val=false->b=false)/\z2o w m g l E bud b5 #[.string fname,.int .i64 ln,.slice pA np pc,.slice bA bn bc] wd)
  case first =>
   cases val with
   | false =>
    go_wp2_with fail
    go_meet
    case rel=>exact ⟨_,rfl,fun _=>rfl,Hst3.out⟩
   | true =>
    have hn8:=zhi (z0q 8 8 Hst3.out.gs rfl (by omega));go_wp2_with fail;refine hn8.out.mono ?_;rintro e w4 ⟨q4,rfl,_,_,hgs4,hg4⟩;have Hst4:=zhi (Hst3.out.step hbg hwg hgs4 hg4);clear hgs4 hg4 hn8;go_wp2_with fail
    go_meet
    case rel=>exact ⟨_,rfl,fun h=>(by cases h),Hst4.out⟩
  case rest =>
   obtain ⟨vb,rfl,hvb,hst⟩:=hcut;have Hvb:=zhi hvb;have Hst4:=zhi hst;obtain ⟨_,_,_,_,_,_,x0,z1,z2,z3,z4,z5,z6,z7⟩:=hst.gs.cells;clear z1 z2 z3 z4 z5 z6 z7 hst y0 hvb
   go_upto_if 46 with fail
   go_cut [6] from 11 (fun v wd=>∃ n:Nat,v=.int .i64 (n:Int)/\n<=2/\(val=false->n=np)/\z2o w m g l E bud b5 #[.string fname,.int .i64 ln,.slice pA np pc,.slice bA bn bc] wd)
   case first =>
    cases vb with
    | false =>
     go_wp2_with fail
     go_meet
     case rel=>exact ⟨np,rfl,hf2,fun _=>rfl,Hst4.out⟩
    | true =>
     have Hvt:Hid (val=true):=zhi (by cases val with | true=>rfl | false=>exact absurd (Hvb.out rfl) (by decide));have hn5:=zhi (z0q 3 3 Hst4.out.gs rfl (by omega));go_wp2_with fail;refine hn5.out.mono ?_;rintro e w5 ⟨q5,rfl,hq5,_,hgs5,hg5⟩;have Hst5:=zhi (Hst4.out.step hbg hwg hgs5 hg5);have hq52:=hq5 (by omega);clear hgs5 hg5 hn5 hq5;go_wp2_with fail
     go_meet
     case rel=>exact ⟨q5,rfl,by omega,fun h=>(by have e:=Hvt.out; rw [h] at e; cases e),Hst5.out⟩
   case rest =>
    obtain ⟨n,rfl,hn2,hnv,hst⟩:=hcut;have Hnv:=zhi hnv;have Hst5:=zhi hst;have h5w:=(q_0.1 hst.row5).1;have hww:=(q_0.1 hst.res).1;clear hst hnv;go_wp2_with fail
    go_loopw [8,9] (fun v i wr=>z8e w m g l E bud d b5 #[.string fname,.int .i64 ln,.slice pA np pc,.slice bA bn bc] wc.heap.size n v i wr) (fun _ i _=>n - (intOf i).toNat)
    case atStart=>exact ⟨0,[],[],q_h _,rfl,rfl,by simp,z0p.nil _ _ _,Hst5.out,q_2 _⟩
    case round =>
     obtain ⟨k,xs,L,hk,rfl,hxk,hge,har,hst,hsz⟩:=hrel;have Hxk:=zhi hxk;have Hge:=zhi hge;have Har:=zhi har;have Hst6:=zhi hst;clear hxk hge har hst
     by_cases hlt:k<n
     ·have hih:=zhi (IHE.out wr (z - 1) (by have:=Hz.out; omega) Hst6.out.gs);go_wp2_with fail;refine hih.out.mono ?_;rintro e w7 ⟨x,v,rfl,hge,hx,hgs7,hg7⟩;obtain ⟨kk,o,a,lf,s,A,nn,c,rfl,_⟩:=z0G hx;have Har7:=zhi (Har.out.grown hg7 (by omega));have Hst7:=zhi (Hst6.out.step hbg hwg hgs7 hg7);have HX:=zhi hx;have HG:=zhi hge;have hsz7:=hg7.size;have HF:Hid (∀ b,(wr.heap.size<=b/\b<w7.heap.size)->wc.heap.size<=b/\b<w7.heap.size/\u8.ownBlock≠some b):=zhi (fun b hb=>⟨by omega,hb.2,fun e=>by have:=(Har.out.own.lt b e).2; omega⟩);clear hih hge hx hgs7 hg7;go_wp2_with (at_builtin; refine z07.out ?_);refine z07.of (z0M w7 rfl (.tmp 57) (.tmp 62) rfl wc.heap.size (d+1) _ xs L x _ _ _ _ _ _ _ _ _ rfl rfl Har7.out (by rw [Hxk.out]; omega) (by omega) HX.out HF.out ?_);intro g8 cap8 w8 har8 hg8;have hsz8:=hg8.size;have hst8:=Hst7.out.low Hgs.out (z05 hg8 (fun k hk=>(Har7.out.own.lt k hk).1) (by omega)) h5w hww;have hr:z8e w m g l E bud d b5 #[.string fname,.int .i64 ln,.slice pA np pc,.slice bA bn bc] wc.heap.size n (.slice (some ⟨g8,0,none⟩) (xs.length+1) cap8) (.int .i64 ((k:Int)+1)) w8 :=
       ⟨k+1,xs++[x],_,by omega,by go_num,by simp [Hxk.out],fun y hy=>by
        rcases q_8.1 hy with h | h
        ·exact Hge.out y h
        ·simp at h;subst h;exact HG.out,har8,hst8,by omega⟩
      have Hr:=zhi hr;clear hr hst8 har8 hg8;go_wp2_with fail;exact ⟨Hr.out,by simp [intOf]; omega⟩
     ·obtain rfl:k=n:=by omega
      obtain ⟨aA,aC,rfl⟩:=z0x Har.out.own;have kf:=zcr 0 Hst6.out.row5;have hrow:=Har.out.row;rw [Hxk.out] at hrow;cases val with
      | false =>
       have Hgs1:=zhi Hst6.out.gs;have Hg01:=zhi Hst6.out.grown;have HB:=zhi Hst6.out.res;have HX:Hid (ExV (fun b=>wc.heap.size<=b/\b<wr.heap.size) wr (d+2) (.mk 9 0 0 0 fname xs) (.agg #[.int .i64 9,.int .i64 0,.int .i64 0,.int .i64 0,.string fname,.slice aA k aC])):=zhi ⟨aA,aC,by rw [Hxk.out],hrow.2⟩;have HF:Hid (∀ b,(wc.heap.size<=b/\b<wr.heap.size)->w.heap.size<b/\b<wr.heap.size):=zhi (fun b hb=>⟨by omega,hb.2⟩);have HGE:Hid (GX E (d+1) (.mk 9 0 0 0 fname xs)):=zhi ⟨⟨⟨rfl,by unfold CnOk; simp⟩,by decide,by decide,by decide,by decide,hf1.out.1,.inr ⟨fun x hx=>(Hge.out x hx).1,by simp [hf1.out,Hxk.out]; exact hn2⟩⟩,z2M ⟨by simp,by simp,by simp,fun _=>.inl (by obtain ⟨f9,g1,g2,g3⟩:=Hfn.out; exact ⟨f9,g1,g2,by rw [g3,Hxk.out,Hnv.out rfl]⟩)⟩ (fun x hx=>(Hge.out x hx).2)⟩;clear hrow;go_wp2_with (with_reducible refine z01 ?_);refine z07.of (z00 _ rfl _ _ _ rfl w.heap.size _ rfl (by rfl) _ _ HB.out (by kernel_rfl) (by rfl) (by simp [Value.oneCell']) ?_);intro w9 hrow hg9;have H2:=Hgs.out.own Hgs1.out Hg01.out (q_2 _) hg9;have HY:=zhi (z1c HX.out HF.out hg9);obtain ⟨k0,k1,k2,k3,k4,k5⟩:=cl6 hrow;have HH:=zhi H2;clear hrow hg9 H2 HX HF;go_wp2_with fail;refine q_3 ?_ rfl ⟨_,_,rfl,HGE.out,HY.out,HH.out.1,HH.out.2⟩;simp [results,Tryz.results72,go_sem,k0,k1,k2,k3,k4,k5];exact Hxk.out
      | true =>
       have hlow:=(q_i _ wr).alloc (q_2 _) (.cells #[.int .i64 11,.int .i64 0,.int .i64 0,.int .i64 0,.string fname,.slice none 0 0] 124);have hst7:=Hst6.out.low Hgs.out (hlow.mono hsz) h5w hww;have har7:z0p wc.heap.size (d+1) (wr.alloc (.cells #[.int .i64 11,.int .i64 0,.int .i64 0,.int .i64 0,.string fname,.slice none 0 0] 124)) (.slice aA xs.length aC) xs L:=Har.out.grown (World.grownBy_alloc wr _ (some g)) (by omega);obtain ⟨_,_,_,_,_,_,x7,z1,z2,z3,z4,z5,z6,z7⟩:=hst7.gs.cells;have hn4:=zhi (z0q 4 4 hst7.gs rfl (by omega));have Hst7:=zhi hst7;have Har7:=zhi har7;clear z1 z2 z3 z4 z5 z6 z7 hlow hst7 har7 hrow;go_wp2_with fail;refine hn4.out.mono ?_;rintro e w8 ⟨q8,rfl,hq8,_,hgs8,hg8⟩;have Hst8:=zhi (Hst7.out.step hbg hwg hgs8 hg8);have Har8:=zhi (Har7.out.grown hg8 (by omega));have Hgr8:=zhi ((World.grownBy_alloc wr (.cells #[.int .i64 11,.int .i64 0,.int .i64 0,.int .i64 0,.string fname,.slice none 0 0] 124) (some g)).trans hg8);have HG8:=zhi (z04 hg8 (by omega) (q_4 wr (.cells #[.int .i64 11,.int .i64 0,.int .i64 0,.int .i64 0,.string fname,.slice none 0 0] 124)));clear hn4 hgs8 hg8 hq8 x7
       go_upto_if 78 with fail
       go_cut [10] from 11 (fun v wd=>z4K w m g l E bud d b5 #[.string fname,.int .i64 ln,.slice pA np pc,.slice bA bn bc] wc.heap.size wr.heap.size (.slice aA xs.length aC) xs L v wd)
       case first =>
        by_cases hq:q8=3
        ·subst hq;have hih:=zhi (IHE.out w8 (z - 1) (by have:=Hz.out; omega) Hst8.out.gs);go_wp2_with fail;refine hih.out.mono ?_;rintro e w9 ⟨x,v,rfl,hge,hx,hgs9,hg9⟩;obtain ⟨kk,o,a,lf,s,A,nn,c,rfl,_⟩:=z0G hx;have hG8:=(q_0.1 HG8.out).1;have Hst9:=zhi (Hst8.out.step hbg hwg hgs9 hg9);have Hgr9:=zhi (Hgr8.out.trans hg9);have HG9:=zhi (z04 hg9 (by omega) HG8.out);have HX:=zhi hx;have HGe:=zhi hge;clear hih hge hx hgs9 hg9;go_wp2_with (with_reducible refine z01 ?_);refine z07.of (z00 _ rfl _ _ _ rfl wr.heap.size _ rfl (by rfl) _ _ HG9.out (by kernel_rfl) (by rfl) (by simp [Value.oneCell']) ?_);intro wt hrow hgt;have hbl:Below wr.heap.size w9 wt:=z05 hgt (fun k hk=>by injection hk with hk; omega) (by have:=(q_0.1 HG9.out).1; omega);have hres:z4K w m g l E bud d b5 #[.string fname,.int .i64 ln,.slice pA np pc,.slice bA bn bc] wc.heap.size wr.heap.size (.slice aA xs.length aC) xs L (.pointer (some ⟨wr.heap.size,0,none⟩)) wt :=
          ⟨x,kk,o,a,lf,s,A,nn,c,rfl,hrow,HGe.out,z0H HX.out (fun b hb=>⟨⟨by omega,q_1 hb.2 hgt.size⟩,hb.2,by omega⟩) hgt,Hst9.out.low Hgs.out (hbl.mono hsz) h5w hww,Har.out.grown (z0r Hgr9.out hgt (q_2 _)) (by omega)⟩
         have HRES:=zhi hres;clear hres hrow hgt hbl hG8;go_wp2_with fail
         go_meet
         case rel=>exact HRES.out
        ·have hq:((q8:Int) == 3)=false:=by simp; omega
         have hG8:=(q_0.1 HG8.out).1;have hres:z4K w m g l E bud d b5 #[.string fname,.int .i64 ln,.slice pA np pc,.slice bA bn bc] wc.heap.size wr.heap.size (.slice aA xs.length aC) xs L (.pointer (some ⟨wr.heap.size,0,none⟩)) w8 :=
          ⟨.mk 11 0 0 0 fname [],11,0,0,0,fname,none,0,0,rfl,HG8.out,z8V (by decide) (by decide) hf1.out.1 (.inr (.inr (.inr ⟨rfl,hf1.out⟩))) ⟨by simp,by simp,fun _=>(by obtain ⟨f9,g1,g2,_⟩:=Hfn.out; exact ⟨f9,g1,g2⟩),by simp⟩,z2e,Hst8.out,Har8.out⟩
         have HRES:=zhi hres;clear hres hG8;go_wp2_with fail
         go_meet
         case rel=>exact HRES.out
       case rest =>
        obtain ⟨x,kk,o,a,lf,s,A,nn,c,rfl,hrow,hge,hx,hst,har⟩:=hcut;have hGw:=(q_0.1 hrow).1;obtain ⟨kg0,kg1,kg2,kg3,kg4,kg5⟩:=cl6 hrow;have HGe:=zhi hge;have HX0:=zhi hx;have Hst9:=zhi hst;have Har9:=zhi har;have h5c:=(q_0.1 hst.row5).1;have hwc:=(q_0.1 hst.res).1;clear hrow hge hx hst har kf
        by_cases h13:kk=13
        ·subst h13;have hsn:=zcI HGe.out HX0.out;have Hgs1:=zhi Hst9.out.gs;have Hg01:=zhi Hst9.out.grown;have HB:=zhi Hst9.out.res;have HX:Hid (ExV (fun b=>w.heap.size<b/\b<wc.heap.size) wc (d+2) (.mk 9 0 0 0 s xs) (.agg #[.int .i64 9,.int .i64 0,.int .i64 0,.int .i64 0,.string s,.slice aA xs.length aC])):=zhi ⟨aA,aC,rfl,Har9.out.row.2.keep (fun b hb=>⟨by omega,hb.2⟩) (fun _ _=>rfl)⟩;have HF:Hid (∀ b,(w.heap.size<b/\b<wc.heap.size)->w.heap.size<b/\b<wc.heap.size):=zhi (fun b hb=>hb);have HGE:Hid (GX E (d+1) (.mk 9 0 0 0 s xs)):=zhi ⟨⟨⟨rfl,by unfold CnOk; simp⟩,by decide,by decide,by decide,by decide,hsn.1.1,.inr ⟨fun x hx=>(Hge.out x hx).1,by simp [hsn.1,Hxk.out]; exact hn2⟩⟩,z2M ⟨by simp,by simp,by simp,fun _=>.inr hsn.2⟩ (fun x hx=>(Hge.out x hx).2)⟩;clear hsn;go_wp2_with (with_reducible refine z01 ?_);refine z07.of (z00 _ rfl _ _ _ rfl w.heap.size _ rfl (by rfl) _ _ HB.out (by kernel_rfl) (by rfl) (by simp [Value.oneCell']) ?_);intro w9 hrow hg9;have H2:=Hgs.out.own Hgs1.out Hg01.out (q_2 _) hg9;have HY:=zhi (z1c HX.out HF.out hg9);obtain ⟨k0,k1,k2,k3,k4,k5⟩:=cl6 hrow;have HH:=zhi H2;clear hrow hg9 H2 HX HF;go_wp2_with fail;refine q_3 ?_ rfl ⟨_,_,rfl,HGE.out,HY.out,HH.out.1,HH.out.2⟩;simp [results,Tryz.results72,go_sem,k0,k1,k2,k3,k4,k5]
        ·have h13b:(kk == 13)=false:=by simpa using h13
         have hF0:Hid (∀ b,(wr.heap.size<b/\b<wc.heap.size)->_<=b/\b<wc.heap.size):=zhi (fun b hb=>⟨q_9 hsz (Nat.le_of_lt hb.1),hb.2⟩);go_wp2_with (at_builtin; refine z07.out ?_);refine z07.of (z3f wc rfl (.tmp 91) (.tmp 92) rfl _ (d+1) aA aC xs L x _ _ _ _ _ _ _ _ _ rfl rfl Har9.out (by rw [Hxk.out]; omega) (by omega) HX0.out hF0.out ?_);intro A' c' wf hrow2 hb2;have hst10:=Hst9.out.low Hgs.out hb2 h5c hwc;have Hgs1:=zhi hst10.gs;have Hg01:=zhi hst10.grown;have HB:=zhi hst10.res;have HX:Hid (ExV (fun b=>w.heap.size<b/\b<wf.heap.size) wf (d+2) (.mk 10 0 0 0 ⟨#[]⟩ (x :: xs)) (.agg #[.int .i64 10,.int .i64 0,.int .i64 0,.int .i64 0,.string ⟨#[]⟩,.slice A' (1+xs.length) c'])):=zhi ⟨A',c',by rw [List.length_cons,Nat.add_comm],hrow2.keep (fun b hb=>⟨by omega,hb.2⟩) (fun _ _=>rfl)⟩;have HF:Hid (∀ b,(w.heap.size<b/\b<wf.heap.size)->w.heap.size<b/\b<wf.heap.size):=zhi (fun b hb=>hb);have HGE:Hid (GX E (d+1) (.mk 10 0 0 0 ⟨#[]⟩ (x :: xs))):=zhi ⟨⟨⟨rfl,by unfold CnOk; simp⟩,by decide,by decide,by decide,by decide,by decide,.inr ⟨fun y hy=>by
          rcases q_d.1 hy with h | h
          ·subst h; exact HGe.out.1
          ·exact (Hge.out y h).1,by simp [Hxk.out]; exact hn2⟩⟩,z2M (z0I (by decide)) (fun y hy=>by
          rcases q_d.1 hy with h | h
          ·subst h; exact HGe.out.2
          ·exact (Hge.out y h).2)⟩
         clear hst10 hrow2 hb2 kg0 kg1 kg2 kg3 kg4 kg5;go_wp2_with (with_reducible refine z01 ?_);refine z07.of (z00 _ rfl _ _ _ rfl w.heap.size _ rfl (by rfl) _ _ HB.out (by kernel_rfl) (by rfl) (by simp [Value.oneCell']) ?_);intro w9 hrow hg9;have H2:=Hgs.out.own Hgs1.out Hg01.out (q_2 _) hg9;have HY:=zhi (z1c HX.out HF.out hg9);obtain ⟨k0,k1,k2,k3,k4,k5⟩:=cl6 hrow;have HH:=zhi H2;clear hrow hg9 H2 HX HF;go_wp2_with fail;refine q_3 ?_ rfl ⟨_,_,rfl,HGE.out,HY.out,HH.out.1,HH.out.2⟩;simp [results,Tryz.results72,go_sem,k0,k1,k2,k3,k4,k5]
def OneG (k:Int) (s:Zb) (xs:Array Value) (w:World) (e:Ending) (w':World):Prop :=
 ∃ b,w.heap.size<=b/\b<w'.heap.size/\e=.returned (.agg #[.int .i64 k,.int .i64 0,.string s,.slice (some ⟨b,0,none⟩) 1 1,.slice none 0 0,.slice none 0 0])/\w'.heap[b]?=some (.cells xs 124 (0,0))/\Below w.heap.size w w'
theorem z5g (k:Int) (s:Zb) (k' o a l:Int) (s':Zb) (A:Option Addr) (n c:Nat) (w:World) :
  Calls Tryz.prog 68 #[.int .i64 k,.string s,.agg #[.int .i64 k',.int .i64 o,.int .i64 a,.int .i64 l,.string s',.slice A n c]] w (OneG k s #[.int .i64 k',.int .i64 o,.int .i64 a,.int .i64 l,.string s',.slice A n c] w):=by
 have hb:=(((q_i _ w).alloc (q_2 _) (.cells #[.int .i64 k',.int .i64 o,.int .i64 a,.int .i64 l,.string s',.slice A n c] 124)).alloc (by simp) (.cells #[.int .i64 0,.int .i64 0,.string { data:=#[] },.slice none 0 0,.slice none 0 0,.slice none 0 0] 121)).alloc (by simp; omega) (.cells #[.int .i64 k',.int .i64 o,.int .i64 a,.int .i64 l,.string s',.slice A n c] 124);have hr:=q_4 (w.alloc (.cells #[.int .i64 k',.int .i64 o,.int .i64 a,.int .i64 l,.string s',.slice A n c] 124)) (.cells #[.int .i64 0,.int .i64 0,.string { data:=#[] },.slice none 0 0,.slice none 0 0,.slice none 0 0] 121);have hr1:=(q_5 _ (.cells #[.int .i64 k',.int .i64 o,.int .i64 a,.int .i64 l,.string s',.slice A n c] 124) (q_0.1 hr).1).trans hr;have hr2:=q_4 ((w.alloc (.cells #[.int .i64 k',.int .i64 o,.int .i64 a,.int .i64 l,.string s',.slice A n c] 124)).alloc (.cells #[.int .i64 0,.int .i64 0,.string { data:=#[] },.slice none 0 0,.slice none 0 0,.slice none 0 0] 121)) (.cells #[.int .i64 k',.int .i64 o,.int .i64 a,.int .i64 l,.string s',.slice A n c] 124);rw [show ∀ o,(w.alloc o).heap.size=w.heap.size+1 from fun o=>by simp] at hr1;rw [show ∀ o o',((w.alloc o).alloc o').heap.size=w.heap.size+1+1 from fun o o'=>by simp] at hr2;have HB:=zhi hb;have HR1:=zhi hr1;have HR2:=zhi hr2;clear hb hr hr1 hr2;go_enter Tryz.func68,Tryz.ntmps68;go_wp2_with (with_reducible refine z01 ?_);refine z07.of (z00 _ rfl _ _ _ rfl (w.heap.size+1) _ rfl (by rfl) _ _ HR1.out (by kernel_rfl) (by rfl) (by simp [Value.oneCell']) ?_);intro w9 hrow hg9;obtain ⟨k0,k1,k2,k3,k4,k5⟩:=cl6 hrow;have HR3:=zhi (z04 hg9 (by omega) HR2.out);have HH:=zhi (HB.out.trans (z05 hg9 (fun k hk=>by injection hk with hk; omega) (by simp; omega):Below w.heap.size _ w9));clear hrow hg9;go_wp2_with fail;refine q_3 ?_ rfl ⟨w.heap.size+1+1,by omega,(q_0.1 HR3.out).1,rfl,HR3.out,HH.out⟩;simp [results,Tryz.results68,go_sem,k0,k1,k2,k3,k4,k5]
def z0E:List Zb:=[⟨#[97]⟩,⟨#[98]⟩,⟨#[99]⟩,⟨#[100]⟩,⟨#[101]⟩,⟨#[102]⟩,⟨#[105]⟩,⟨#[107]⟩]
def zdA (w:World) (e:Ending) (w':World):Prop:=∃ b,e=.returned (.slice (some ⟨b,0,none⟩) 8 8)/\(∀ i,i<8->∃ s∈z0E,w'.cell? ⟨b,i,none⟩=some (.string s))/\Below w.heap.size w w'
theorem z9k (w:World):Calls Tryz.prog 86 #[] w (zdA w):=by
 have hN:∀ i,i<8->∃ s∈z0E,(w.alloc (.cells #[.string ⟨#[97]⟩,.string ⟨#[98]⟩,.string ⟨#[99]⟩,.string ⟨#[100]⟩,.string ⟨#[101]⟩,.string ⟨#[102]⟩,.string ⟨#[105]⟩,.string ⟨#[107]⟩] 9)).cell? ⟨w.heap.size,i,none⟩=some (.string s):=fun i hi=>by
  have hr:=q_4 w (.cells #[.string ⟨#[97]⟩,.string ⟨#[98]⟩,.string ⟨#[99]⟩,.string ⟨#[100]⟩,.string ⟨#[101]⟩,.string ⟨#[102]⟩,.string ⟨#[105]⟩,.string ⟨#[107]⟩] 9);have hc:i=0\/i=1\/i=2\/i=3\/i=4\/i=5\/i=6\/i=7:=by omega
  rcases hc with rfl | rfl | rfl | rfl | rfl | rfl | rfl | rfl
  all_goals exact ⟨_,by simp [z0E],zcr _ hr⟩
 have HN:=zhi hN;have HB:=zhi ((q_i _ w).alloc (q_2 _) (.cells #[.string ⟨#[97]⟩,.string ⟨#[98]⟩,.string ⟨#[99]⟩,.string ⟨#[100]⟩,.string ⟨#[101]⟩,.string ⟨#[102]⟩,.string ⟨#[105]⟩,.string ⟨#[107]⟩] 9));clear hN;go_enter Tryz.func86,Tryz.ntmps86;go_wp2_with fail;go_ret;exact ⟨_,rfl,HN.out,HB.out⟩
def zdy (E:Env) (w:World) (e:Ending) (w':World):Prop:=∃ (s:Zb) (ok:Bool),e=.returned (.tuple #[.string s,.bool ok])/\(ok=true->s∈z0E/\s ∉ E.locals)/\Below w.heap.size w w'
theorem z8L (m g:Nat) (l:List Nat) (E:Env) (bud:Int) (w:World) (h:GS w m g l E bud) (hE:z1s E) :
  Calls Tryz.prog 67 #[.pointer (some ⟨m,0,none⟩)] w (zdy E w):=by
 obtain ⟨gA,gc,fA,fc,lA,lc,c0,c1,c2,c3,c4,hG,hF,hL⟩:=h.cells;have HL:=zhi hL;have hln:=hE.ln;obtain ⟨n,hn⟩:∃ n,n=E.locals.length:=⟨_,rfl⟩;have Hn:=zhi hn;have hgc:n<=lc:=by rw [hn]; exact hL.1
 rw [<- hn] at c3 hln;clear hL h hE hn c0 c1 c2 c4 hG hF;go_enter Tryz.func67,Tryz.ntmps67;go_wp2_with fail;refine (z9k _).mono ?_;rintro e w1 ⟨b,rfl,hN,hb1⟩;have HN:=zhi hN;have Hb1:=zhi hb1;clear hN hb1;go_wp2_with fail
 go_loopw [5] (fun i wr=>∃ k:Nat,k<=8/\i=.int .i64 (k:Int)/\Below w1.heap.size w1 wr) (fun i _=>8 - (intOf i).toNat)
 case atStart=>exact ⟨0,by omega,rfl,q_i _ _⟩
 case round =>
  obtain ⟨k,hk,rfl,hb⟩:=hrel;have Hb:=zhi hb;clear hb
  by_cases hlt:k<8
  ·have Hlt:=zhi hlt;obtain ⟨s,hs,hcs⟩:=HN.out k hlt;have Hs:=zhi hs;have Hcs:=zhi hcs;clear hs hcs;go_wp2_with fail
   go_loopw [6,7] (fun u i wr=>∃ (j:Nat) (o:Bool),j<=n/\u=.bool o/\i=.int .i64 (j:Int)/\Below w1.heap.size w1 wr/\Hid (o=false->∀ q,q<j->E.locals[q]?≠some s)) (fun _ i _=>n - (intOf i).toNat)
   case atStart=>exact ⟨0,false,by omega,rfl,rfl,Hb.out,zhi (fun _ q hq=>by omega)⟩
   case round =>
    obtain ⟨j,o,hj,rfl,rfl,hb2,HV⟩:=hrel;have Hb2:=zhi hb2;have d3:=hold (Hb1.out.trans (hb2.mono Hb1.out.size)) c3;clear hb2;have dn:=hold Hb2.out Hcs.out
    by_cases hjn:j<n
    ·obtain ⟨r,rfl,_,hloc⟩:=z2z HL.out (by rw [<- Hn.out]; omega);have dl:=hold (Hb1.out.trans (Hb2.out.mono Hb1.out.size)) (hloc j _ (q_7 (by rw [<- Hn.out]; exact hjn)));have Ht:Hid (E.locals[j]?=some (E.locals[j]'(by rw [<- Hn.out]; exact hjn))):=zhi (q_7 _);generalize E.locals[j]'(by rw [<- Hn.out]; exact hjn)=t at *;clear hloc;cases o with
     | true =>
      clear HV;go_wp2_with fail;go_quiet (fail);go_wp2_with fail;exact ⟨⟨j+1,true,by omega,rfl,by go_num,z2Q Hb2.out _,zhi (fun e=>by cases e)⟩,by simp [intOf]; omega⟩
     | false =>
      by_cases he:t=s
      ·subst he;clear HV;go_wp2_with fail;go_quiet (fail);go_wp2_with fail;exact ⟨⟨j+1,true,by omega,rfl,by go_num,z2Q Hb2.out _,zhi (fun e=>by cases e)⟩,by simp [intOf]; omega⟩
      ·have HV2:Hid (∀ q,q<j+1->E.locals[q]?≠some s):=zhi (fun q hq=>by
        rcases q_f q j with h | h
        ·exact HV.out rfl q h
        ·obtain rfl:q=j:=by omega
         rw [Ht.out];intro e;injection e with e;exact he e)
       have he2:(t.toList == s.toList)=false:=by
        rw [beq_eq_false_iff_ne];intro e;rw [Lib.toList_data,Lib.toList_data] at e;exact he (ByteArray.ext (Array.ext' e))
       clear HV he;go_wp2_with fail;go_quiet (fail);go_wp2_with fail;exact ⟨⟨j+1,false,by omega,rfl,by go_num,z2Q Hb2.out _,zhi (fun _=>HV2.out)⟩,by simp [intOf]; omega⟩
    ·obtain rfl:j=n:=by omega
     cases o with
     | true =>
      clear HV;go_wp2_with fail;exact ⟨⟨k+1,by omega,by go_num,Hb2.out⟩,by simp [intOf]; omega⟩
     | false =>
      have HV2:Hid (s ∉ E.locals):=zhi (fun hm=>by
       obtain ⟨q,hq⟩:=q_l hm;exact HV.out rfl q (by
        rcases q_f q E.locals.length with h | h
        ·rw [<- Hn.out] at h; exact h
        ·rw [q_j h] at hq; cases hq) hq)
      clear HV;go_wp2_with fail
      go_ret2
      exact ⟨s,true,rfl,fun _=>⟨Hs.out,HV2.out⟩,Hb1.out.trans (Hb2.out.mono Hb1.out.size)⟩
  ·obtain rfl:k=8:=by omega
   go_wp2_with fail
   go_ret2
   exact ⟨_,false,rfl,(fun h=>by cases h),Hb1.out.trans (Hb.out.mono Hb1.out.size)⟩
theorem z2W (m g:Nat) (l:List Nat) (E:Env) (bud:Int) (hE:z1s E):∀ d,d<=6->z5v m g l E bud d
 | 0,_=>zdK m g l E bud hE
 | d+1,h=>z7L m g l E bud d (by omega) hE (z2W m g l E bud hE d (by omega)) (z5z m g l E bud d (by omega) hE (z2W m g l E bud hE d (by omega)))
theorem zaA (m g:Nat) (l:List Nat) (E:Env) (bud:Int) (hE:z1s E) (d:Nat) (h:d<=5):z8d m g l E bud d:=z5z m g l E bud d h hE (z2W m g l E bud hE d (by omega))
def lb (w:World) (m:Nat):Option Nat:=match w.cell? ⟨m,3,none⟩ with | some v=>v.ownBlock | none=>none
structure Chg (m g:Nat) (w w':World):Prop where
 os:w'.os=w.os
 tape:w'.tape=w.tape
 output:w'.output=w.output
 size:w.heap.size<=w'.heap.size
 block:∀ k,k<w.heap.size->k≠m->k≠g->lb w m≠some k->w'.heap[k]?=w.heap[k]?
 lbs:lb w' m=lb w m\/∃ k,lb w' m=some k/\w.heap.size<=k
 pas:∀ k,k<3->w'.cell? ⟨m,k,none⟩=w.cell? ⟨m,k,none⟩
theorem Chg.refl (m g:Nat) (w:World):Chg m g w w:=⟨rfl,rfl,rfl,q_2 _,fun _ _ _ _ _=>rfl,.inl rfl,fun _ _=>rfl⟩
theorem Chg.trans {m g:Nat} {a b c:World} (h:Chg m g a b) (k:Chg m g b c):Chg m g a c:=by
 refine ⟨k.os.trans h.os,k.tape.trans h.tape,k.output.trans h.output,q_9 h.size k.size,fun i hi h1 h2 h3=>?_,?_,fun j hj=>(k.pas j hj).trans (h.pas j hj)⟩
 ·refine (k.block i (q_1 hi h.size) h1 h2 ?_).trans (h.block i hi h1 h2 h3);rcases h.lbs with e | ⟨q,e,hq⟩
  ·rw [e]; exact h3
  ·rw [e];intro e2;injection e2 with e2;omega
 ·rcases k.lbs with e | ⟨q,e,hq⟩
  ·rw [e];exact h.lbs
  ·exact .inr ⟨q,e,q_9 h.size hq⟩
theorem z2f {w w':World} {m:Nat} (h:w'.cell? ⟨m,3,none⟩=w.cell? ⟨m,3,none⟩):lb w' m=lb w m:=by unfold lb; rw [h]
theorem z7R {w:World} {m:Nat} {v:Value} (h:w.cell? ⟨m,3,none⟩=some v):lb w m=v.ownBlock:=by unfold lb; rw [h]
theorem Chg.grown {m g:Nat} {w w':World} (hg:w.grownBy w' (some g)) (hm:m<w.heap.size) (hne:m≠g):Chg m g w w' :=
 ⟨hg.os,hg.tape,hg.output,hg.size,fun k hk _ h2 _=>hg.block k hk (fun e=>h2 (by injection e)),.inl (z2f (q_6 (hg.block m hm (fun e=>hne (by injection e))))),fun _ _=>q_6 (hg.block m hm (fun e=>hne (by injection e)))⟩
def Made (m:Nat) (w0 w:World) (b:Nat):Prop:=w0.heap.size<=b/\b<w.heap.size/\lb w m≠some b
theorem z19 {m g:Nat} {w0 w w':World} (h:Chg m g w w') (hm:m<w0.heap.size) (hg:g<w0.heap.size):∀ b,Made m w0 w b->Made m w0 w' b/\w'.heap[b]?=w.heap[b]?:=fun b ⟨h1,h2,h3⟩ =>
 ⟨⟨h1,q_1 h2 h.size,by
  rcases h.lbs with e | ⟨q,e,hq⟩
  ·rw [e]; exact h3
  ·rw [e];intro e2;injection e2 with e2;omega⟩,h.block b h2 (by omega) (by omega) h3⟩
structure LS (w:World) (m g:Nat) (l:List Nat) (E:Env) (bud:Int) (base:Nat):Prop where
 gs:GS w m g l E bud
 own:∃ v,w.cell? ⟨m,3,none⟩=some v/\w.ownsRow base 9 1 v E.locals.length (strV E.locals)
 mb:m<base
 gb:g<m
 bs:base<=w.heap.size
 low:∃ gA gc fA fc,w.cell? ⟨m,1,none⟩=some (.slice gA E.globs.length gc)/\w.cell? ⟨m,2,none⟩=some (.slice fA E.funs.length fc)/\z0k (fun k=>k<base) w E.globs gA gc/\z1z (fun k=>k<base) w E.funs fA fc
theorem Chg.far {m g:Nat} {w0 w w':World} {row:Option Nat} (h:Chg m g w0 w) (hg:w.grownBy w' row) (hrow:∀ b,row=some b->w0.heap.size<=b) (hm:m<w0.heap.size):Chg m g w0 w':=by
 have hb:Below w0.heap.size w w':=z05 hg hrow h.size;have hl:lb w' m=lb w m:=z2f (q_6 (hb.block m hm));exact ⟨hg.os.trans h.os,hg.tape.trans h.tape,hg.output.trans h.output,q_9 h.size hg.size,fun k hk h1 h2 h3=>(hb.block k hk).trans (h.block k hk h1 h2 h3),by rw [hl]; exact h.lbs,fun j hj=>(q_6 (hb.block m hm)).trans (h.pas j hj)⟩
theorem LS.lbl {w:World} {m g:Nat} {l:List Nat} {E:Env} {bud:Int} {base:Nat} (h:LS w m g l E bud base):∀ b,lb w m=some b->base<=b/\b<w.heap.size:=fun b hb=>by
 obtain ⟨v,hv,ho⟩:=h.own;rw [z7R hv] at hb;exact ho.lt b hb
theorem LS.far {w w':World} {m g:Nat} {l:List Nat} {E:Env} {bud:Int} {base:Nat} {row:Option Nat} (h:LS w m g l E bud base) (hg:w.grownBy w' row) (hrow:∀ b,row=some b->base<=b/\lb w m≠some b):LS w' m g l E bud base:=by
 have hb:Below base w w':=z05 hg (fun b e=>(hrow b e).1) h.bs;obtain ⟨gA,gc,fA,fc,lA,lc,h0,h1,h2,h3⟩:=h.gs.mka;obtain ⟨gA',gc',fA',fc',k1,k2,l1,l2⟩:=h.low;obtain ⟨v,hv,ho⟩:=h.own;rw [zcr 1 h0] at k1;rw [zcr 2 h0] at k2;rw [zcr 3 h0] at hv;injection k1 with k1;injection k1 with e1 e2 e3;injection k2 with k2;injection k2 with e4 e5 e6;injection hv with hv;subst hv e1 e3 e4 e6;have ho:w.ownsRow base 9 1 (.slice lA E.locals.length lc) E.locals.length (strV E.locals):=ho;have hm0:=(hb.block m h.mb).trans h0;have hlow:∀ {r o:Nat} {u:Value},r<base->w.cell? ⟨r,o,none⟩=some u->w'.cell? ⟨r,o,none⟩=some u:=fun hr hu=>(q_6 (hb.block _ hr)).trans hu
 have hl:lb w m=(Value.slice lA E.locals.length lc).ownBlock:=z7R (by rw [zcr 3 h0]; rfl);have hg1:∀ {F:Nat->Prop},z0k F w E.globs gA gc->z0k F w' E.globs gA gc:=fun hG=>⟨hG.1,fun i x hi=>by
  obtain ⟨r,hA,hr,z0,z1⟩:=hG.2 i x hi;obtain ⟨r',hA',hr',_⟩:=l1.2 i x hi;rw [hA] at hA';injection hA' with hA';injection hA' with hA';subst hA';exact ⟨r,hA,hr,hlow hr' z0,hlow hr' z1⟩⟩
 have hf1:∀ {F:Nat->Prop},z1z F w E.funs fA fc->z1z F w' E.funs fA fc:=fun hF=>⟨hF.1,fun i x hi=>by
  obtain ⟨r,pA,pc,bA,bn,bc,ln,hA,hr,z0,z1,z2,z3⟩:=hF.2 i x hi;obtain ⟨r',_,_,_,_,_,_,hA',hr',_⟩:=l2.2 i x hi;rw [hA] at hA';injection hA' with hA';injection hA' with hA';subst hA';exact ⟨r,pA,pc,bA,bn,bc,ln,hA,hr,hlow hr' z0,hlow hr' z1,hlow hr' z2,hlow hr' z3⟩⟩
 refine ⟨⟨h.gs.ne,⟨gA,gc,fA,fc,lA,lc,hm0,hg1 h1,hf1 h2,⟨h3.1,fun i s hi=>?_⟩⟩,?_,h.gs.len,h.gs.lb⟩,⟨.slice lA E.locals.length lc,by rw [zcr 3 hm0]; rfl,?_⟩,h.mb,h.gb,q_9 h.bs hg.size,⟨gA,gc,fA,fc,by rw [zcr 1 hm0]; rfl,by rw [zcr 2 hm0]; rfl,hg1 l1,hf1 l2⟩⟩
 ·obtain ⟨r,hA,hr,z0⟩:=h3.2 i s hi;exact ⟨r,hA,hr,(q_6 (hg.block r (q_k _ _ z0) (fun e=>(hrow r e.symm).2 (by rw [hl,hA]; rfl)))).trans z0⟩
 ·obtain ⟨k,hk⟩:=h.gs.co;have:=h.gb;have:=h.mb;exact ⟨k,z1i hk hb (by omega)⟩
 ·rcases ho.2 with hn | ⟨g',cap,cur,e,hb',hh,rest⟩
  ·exact ⟨ho.1,.inl hn⟩
  ·exact ⟨ho.1,.inr ⟨g',cap,cur,e,hb',(hg.block g' (q_0.1 hh).1 (fun e2=>(hrow g' e2.symm).2 (by rw [hl,e]; rfl))).trans hh,rest⟩⟩
theorem z78:(Tryz.prog.info? 121).map (fun i=>(i.zero,i.size,i.bytes))=some (some (.agg #[.int .i64 0,.int .i64 0,.string ⟨#[]⟩,.slice none 0 0,.slice none 0 0,.slice none 0 0]),6,104):=by kernel_rfl
theorem za0 {F:Nat->Prop} {w:World} {D d:Nat} {x:St} {v:Value} (h:StV F w D d x v):∃ k l s eA en ec tA tn tc uA un uc,v=.agg #[.int .i64 k,.int .i64 l,.string s,.slice eA en ec,.slice tA tn tc,.slice uA un uc]:=by
 cases d with
 | zero=>exact h.elim
 | succ d =>
  match x,h with
  | .mk k l s es ts us,⟨eA,ec,tA,tc,uA,uc,hv,_⟩=>exact ⟨k,l,s,eA,es.length,ec,tA,ts.length,tc,uA,us.length,uc,hv⟩
structure z21 (m base D d:Nat) (w:World) (v:Value) (ts:List St) (L:List Value):Prop where
 own:w.ownsRow base 121 6 v ts.length L
 sep:∀ b,v.ownBlock=some b->lb w m≠some b
 at_:∀ j x,ts[j]?=some x->∃ c0 c1 c2 c3 c4 c5,L[j * 6]?=some c0/\L[j * 6+1]?=some c1/\L[j * 6+2]?=some c2/\L[j * 6+3]?=some c3/\L[j * 6+4]?=some c4/\L[j * 6+5]?=some c5/\StV (fun b=>base<=b/\b<w.heap.size/\v.ownBlock≠some b/\lb w m≠some b) w D d x (.agg #[c0,c1,c2,c3,c4,c5])
theorem z21.nil (m base D d:Nat) (w:World):z21 m base D d w (.slice none 0 0) [] []:=⟨World.ownsRow_nil _ _ _ _,fun b h=>by simp [Value.ownBlock] at h,fun j x h=>by simp at h⟩
theorem z79 {m g:Nat} {w w':World} (h:Chg m g w w') {b:Nat} (hb:b<w.heap.size) (hl:lb w m≠some b):lb w' m≠some b:=by
 rcases h.lbs with e | ⟨q,e,hq⟩
 ·rw [e]; exact hl
 ·rw [e];intro e2;injection e2 with e2;omega
theorem z21.chg {m g base D d:Nat} {w w':World} {v:Value} {ts:List St} {L:List Value} (h:z21 m base D d w v ts L) (hc:Chg m g w w') (hm:m<base) (hg:g<base):z21 m base D d w' v ts L:=by
 refine ⟨?_,fun b hb=>z79 hc (h.own.lt b hb).2 (h.sep b hb),fun j x hj=>?_⟩
 ·rcases h.own.2 with hn | ⟨g',cap,cur,e,hb',hh,rest⟩
  ·exact ⟨h.own.1,.inl hn⟩
  ·exact ⟨h.own.1,.inr ⟨g',cap,cur,e,hb',(hc.block g' (q_0.1 hh).1 (by omega) (by omega) (h.sep g' (by rw [e]; rfl))).trans hh,rest⟩⟩
 ·obtain ⟨c0,c1,c2,c3,c4,c5,e0,e1,e2,e3,e4,e5,hx⟩:=h.at_ j x hj;exact ⟨c0,c1,c2,c3,c4,c5,e0,e1,e2,e3,e4,e5,hx.keep (fun k hk=>⟨hk.1,q_1 hk.2.1 hc.size,hk.2.2.1,z79 hc hk.2.1 hk.2.2.2⟩) (fun k hk=>hc.block k hk.2.1 (by omega) (by omega) hk.2.2.2)⟩
theorem z21.push {m base D d g:Nat} {w wa w':World} {v:Value} {ts:List St} {L:List Value} {x:St} {cap:Nat} {c0 c1 c2 c3 c4 c5:Value} {F:Nat->Prop} (h:z21 m base D d w v ts L) (hx:StV F w D d x (.agg #[c0,c1,c2,c3,c4,c5])) (hF:∀ b,F b->base<=b/\b<w.heap.size/\v.ownBlock≠some b/\lb w m≠some b)
  (hm:m<base) (hmw:m<w.heap.size) (hlb:∀ b,lb w m=some b->b<w.heap.size) (hown:w'.ownsRow base 121 6 (.slice (some ⟨g,0,none⟩) (ts.length+1) cap) (ts.length+1) (L++[c0,c1,c2,c3,c4,c5])) (ha:Below w.heap.size w wa) (hg:wa.grownBy w' v.ownBlock) (hat:v.ownBlock=some g\/g=wa.heap.size) :
  z21 m base D d w' (.slice (some ⟨g,0,none⟩) (ts.length+1) cap) (ts++[x]) (L++[c0,c1,c2,c3,c4,c5]):=by
 have hL:L.length=ts.length * 6:=h.own.1;have has:=ha.size;have hl:lb w' m=lb w m:=z2f (q_6 ((hg.block m (q_1 hmw has) (fun e=>by have:=(h.own.lt m e.symm).1; omega)).trans (ha.block m hmw)));have step:∀ {F:Nat->Prop} {y:St} {u:Value},StV F w D d y u->(∀ b,F b->base<=b/\b<w.heap.size/\v.ownBlock≠some b/\lb w m≠some b)->StV (fun b=>base<=b/\b<w'.heap.size/\(Value.slice (some ⟨g,0,none⟩) (ts.length+1) cap).ownBlock≠some b/\lb w' m≠some b) w' D d y u:=fun hy hF=>hy.keep (fun b hb=>by
   obtain ⟨h1,h2,h3,h4⟩:=hF b hb;refine ⟨h1,q_1 h2 (q_9 ha.size hg.size),?_,by rw [hl]; exact h4⟩;intro e;have e2:g=b:=by simpa [Value.ownBlock] using e
   subst e2;rcases hat with hh | hh
   ·exact h3 hh
   ·omega) (fun b hb=>by
   obtain ⟨h1,h2,h3,_⟩:=hF b hb;exact (hg.block b (q_1 h2 ha.size) (fun e=>h3 e.symm)).trans (ha.block b h2))
 refine ⟨by simpa using hown,fun b hb=>?_,fun j y hj=>?_⟩
 ·have e2:g=b:=by simpa [Value.ownBlock] using hb
  subst e2;rw [hl];rcases hat with hh | hh
  ·exact h.sep g hh
  ·intro e;have:=hlb g e;omega
 rcases q_f j ts.length with hlt | hge
 ·rw [List.getElem?_append_left hlt] at hj;obtain ⟨d0,d1,d2,d3,d4,d5,e0,e1,e2,e3,e4,e5,hy⟩:=h.at_ j y hj;have hl:∀ k u,L[k]?=some u->(L++[c0,c1,c2,c3,c4,c5])[k]?=some u:=fun k u hk=>by
   have hk2:k<L.length:=by
    rcases q_f k L.length with h' | h'
    ·exact h'
    ·rw [q_j h'] at hk; cases hk
   rw [List.getElem?_append_left hk2]; exact hk
  exact ⟨d0,d1,d2,d3,d4,d5,hl _ _ e0,hl _ _ e1,hl _ _ e2,hl _ _ e3,hl _ _ e4,hl _ _ e5,step hy (fun b hb=>hb)⟩
 ·have hjx:j=ts.length:=by
   rcases q_f ts.length j with h' | h'
   ·rw [q_j (by simp; omega)] at hj; cases hj
   ·omega
  subst hjx;simp at hj;subst hj;have hr:∀ k,(L++[c0,c1,c2,c3,c4,c5])[ts.length * 6+k]?=[c0,c1,c2,c3,c4,c5][k]?:=fun k=>by
   rw [List.getElem?_append_right (by omega)]
   congr 1
   omega
  exact ⟨c0,c1,c2,c3,c4,c5,hr 0,hr 1,hr 2,hr 3,hr 4,hr 5,step hx hF⟩
theorem z21.row {m base D d:Nat} {w:World} {A:Option Addr} {n c:Nat} {ts:List St} {L:List Value} (h:z21 m base D d w (.slice A n c) ts L):n=ts.length/\RowS (fun b=>base<=b/\b<w.heap.size/\lb w m≠some b) w D d ts A c:=by
 rcases h.own.2 with ⟨e,h0⟩ | ⟨g,cap,cur,e,hb,hh,hc,_⟩
 ·injection e with e1 e2 e3;subst e1 e2 e3;exact ⟨h0.symm,by rw [h0]; exact q_2 _,fun i x hi=>by rw [q_g h0] at hi; simp at hi⟩
 ·injection e with e1 e2 e3;subst e1 e2 e3;refine ⟨rfl,hc,fun i x hi=>?_⟩;obtain ⟨c0,c1,c2,c3,c4,c5,e0,e1,e2,e3,e4,e5,hx⟩:=h.at_ i x hi;have hi2:i<ts.length:=by
   rcases q_f i ts.length with h' | h'
   ·exact h'
   ·rw [q_j h'] at hi; cases hi
  have hcell:∀ k u,L[k]?=some u->w.cell? ⟨g,0+k,none⟩=some u:=fun k u hk=>by
   rw [Nat.zero_add];have hk2:k<L.length:=by
    rcases q_f k L.length with h' | h'
    ·exact h'
    ·rw [q_j h'] at hk; cases hk
   exact (h.own.cellAt k (by have:=h.own.1; omega)).trans hk
  exact ⟨g,0,c0,c1,c2,c3,c4,c5,rfl,⟨hb,(q_0.1 hh).1,h.sep g rfl⟩,hcell _ _ e0,hcell _ _ e1,hcell _ _ e2,hcell _ _ e3,hcell _ _ e4,hcell _ _ e5,hx.keep (fun b hb=>⟨hb.1,hb.2.1,hb.2.2.2⟩) (fun _ _=>rfl)⟩
theorem z3E {ops:Array Oper} {rest:List Oper} {o:Oper} {a:Act} {Q:Exit->Act->World->Prop} (w:World) (hgd:o.guard=none) (s x:Operand)
  (ho:o.op=.call { callee:=.builtin .append,args:=#[s,x],argTypes:=#[81,81] }) (m base D d:Nat) (v:Value) (ts:List St) (L:List Value) (y:St) (k l:Int) (t:Zb) (eA tA uA:Option Addr) (en ec tn tc un uc:Nat) (F:Nat->Prop)
  (hs:a.eval s=v) (hx:a.eval x=.slice (some ⟨w.heap.size,0,none⟩) 1 1) (h:z21 m base D d w v ts L) (hlen:ts.length<=1000000) (hbase:base<=w.heap.size) (hm:m<base) (hlb:∀ b,lb w m=some b->b<w.heap.size)
  (hy:StV F w D d y (.agg #[.int .i64 k,.int .i64 l,.string t,.slice eA en ec,.slice tA tn tc,.slice uA un uc])) (hF:∀ b,F b->base<=b/\b<w.heap.size/\v.ownBlock≠some b/\lb w m≠some b)
  (hk:∀ g cap w',z21 m base D d w' (.slice (some ⟨g,0,none⟩) (ts.length+1) cap) (ts++[y]) (L++[.int .i64 k,.int .i64 l,.string t,.slice eA en ec,.slice tA tn tc,.slice uA un uc])->w.grownBy w' v.ownBlock->wpList Tryz.prog ops Q rest (a.put o.dst (.slice (some ⟨g,0,none⟩) (ts.length+1) cap)) w') :
  wpList Tryz.prog ops Q (o :: rest) a (w.alloc (.cells #[.int .i64 k,.int .i64 l,.string t,.slice eA en ec,.slice tA tn tc,.slice uA un uc] 121)):=by
 obtain ⟨i,hi,hz,hsz,hby⟩:=info_parts z78;refine wpList_append_lies _ hgd s x _ ho base 121 i _ 6 104 Tryz.underlying81 hi hz hsz hby rfl (by decide) v ts.length L hs (h.own.alloc _) ⟨w.heap.size,0,none⟩ 1 1 [.int .i64 k,.int .i64 l,.string t,.slice eA en ec,.slice tA tn tc,.slice uA un uc] hx (by simp) ?_ ?_ (by decide) (by unfold maxLen; omega) (by omega) (by simp; omega) _ rfl fun g cap w' h1 h2 h3 _=>hk g cap w' (h.push hy hF hm (by omega) hlb h1 ((q_i _ w).alloc (q_2 _) _) h2 h3) ((World.grownBy_alloc _ _ _).trans h2)
 ·intro j u hu;rw [Addr.add_lit,Nat.zero_add];exact (zcr _ (q_4 w _)).trans (by simpa using hu)
 ·intro u hu;simp at hu;rcases hu with rfl | rfl | rfl | rfl | rfl | rfl <;> rfl
def GSt:Nat->St->Prop
 | 0,_=>False
 | d+1,.mk k l s es ts us=>l=0/\(∀ x∈es,GE 2 x)/\(∀ t∈ts,GSt d t)/\(∀ t∈us,GSt d t) /\
   ((k=1/\z0B s/\es.length=1/\ts=[]/\us=[])\/(k=2/\z0B s/\es.length=1/\ts=[]/\us=[])\/(k=3/\z0B s/\es.length=2/\ts=[]/\us=[])\/(k=4/\s.size=0/\es.length=1)\/(k=5/\s.size=0/\es.length=1/\us=[])\/((k=6\/k=7\/k=8)/\s.size=0/\es.length=1/\ts=[]/\us=[]))
def incE:List Ex->Bool
 | [.mk k o _ _ _ [.mk k1 _ _ _ _ [],.mk k2 _ a _ _ []]]=>decide (k=6/\o=3/\k1=13/\k2=1/\a=1)
 | _=>false
def cK (k:Int) (es:List Ex):Nat:=if k=5 then 10 else if k=2/\incE es=true then 1 else 11
theorem z5x (k:Int) (es:List Ex):1<=cK k es/\cK k es<=11:=by
 unfold cK;split
 ·omega
 ·split <;> omega
def cntS:Nat->St->Nat
 | 0,_=>0
 | d+1,.mk k _ _ es ts us=>cK k es+(ts.map (cntS d)).sum+(us.map (cntS d)).sum
theorem z4Q {d:Nat} {k l:Int} {s:Zb} {es:List Ex} {bud:Int}:(cntS (d+1) (.mk k l s es [] []):Int)<=11+11 * (bud - bud):=by
 have:=(z5x k es).2;simp only [cntS,List.map_nil,List.sum_nil];omega
mutual
def InS (G:List (Zb × Int)) (P:List (Zb × List Zb)):List Zb->St->List Zb->Prop
 | L,.mk k _ s es ts us,L'=>InL ⟨G,P,L⟩ es/\((k=1->s∈z0E/\s ∉ L)/\(k=2->z2K ⟨G,P,L⟩ s)/\(k=3->IsGl ⟨G,P,L⟩ true s))/\∃ L1,InB G P (if k=1 then L++[s] else L) ts L1/\InB G P L1 us L'
def InB (G:List (Zb × Int)) (P:List (Zb × List Zb)):List Zb->List St->List Zb->Prop
 | L,[],L'=>L'=L
 | L,t :: ts,L'=>∃ L1,InS G P L t L1/\InB G P L1 ts L'
end
theorem z76 {G:List (Zb × Int)} {P:List (Zb × List Zb)} {x:St} {L1 L2:List Zb} (hx:InS G P L1 x L2):∀ {ts:List St} {L:List Zb},InB G P L ts L1->InB G P L (ts++[x]) L2
 | [],L,h=>by
  have e:L1=L:=h;subst e;exact ⟨L2,hx,rfl⟩
 | t :: ts,L,⟨L3,h1,h2⟩=>⟨L3,h1,z76 hx h2⟩
mutual
theorem zaL {G:List (Zb × Int)} {P:List (Zb × List Zb)}:∀ (x:St) {L L':List Zb},InS G P L x L'->∀ s∈L,s∈L'
 | .mk k _ n _ ts us,L,L',h,s,hs=>by
  obtain ⟨_,_,L1,h1,h2⟩:=h;refine z3K us h2 s (z3K ts h1 s ?_);split
  ·simp [hs]
  ·exact hs
theorem z3K {G:List (Zb × Int)} {P:List (Zb × List Zb)}:∀ (ts:List St) {L L':List Zb},InB G P L ts L'->∀ s∈L,s∈L'
 | [],L,L',h,s,hs=>by
  have e:L'=L:=h;rw [e]; exact hs
 | t :: ts,L,L',h,s,hs=>by
  obtain ⟨L1,h1,h2⟩:=h;exact z3K ts h2 s (zaL t h1 s hs)
end
def GSc (E E':Env) (d:Nat) (x:St):Prop:=GSt d x/\InS E.globs E.funs E.locals x E'.locals
def GBc (E E':Env) (d:Nat) (ts:List St):Prop:=(∀ t∈ts,GSt d t)/\InB E.globs E.funs E.locals ts E'.locals
theorem z6l (E:Env) (d:Nat):GBc E E d []:=⟨by simp,rfl⟩
structure Env.Like (E E':Env):Prop where
 globs:E'.globs=E.globs
 funs:E'.funs=E.funs
 ok:z1s E'
theorem Env.Like.refl {E:Env} (h:z1s E):E.Like E:=⟨rfl,rfl,h⟩
theorem Env.Like.trans {E E' E'':Env} (h:E.Like E') (k:E'.Like E''):E.Like E'':=⟨k.globs.trans h.globs,k.funs.trans h.funs,k.ok⟩
def z1g (m g:Nat) (l:List Nat) (E:Env) (bud:Int) (base d:Nat) (w:World) (e:Ending) (w':World):Prop :=
 ∃ E' bud' x v,e=.returned v/\E.Like E'/\LS w' m g l E' bud' base/\0<=bud'/\bud'<=bud/\(E'.locals.length:Int)+bud'<=1000/\Chg m g w w'/\GSc E E' (d+1) x/\(cntS (d+1) x:Int)<=11+11 * (bud - bud')/\StV (Made m w w') w' 3 (d+1) x v
def z8m (m g:Nat) (l:List Nat) (base d:Nat):Prop:=∀ (E:Env) (bud:Int) (w:World) (z:Int),z=(d:Int)->z1s E->LS w m g l E bud base->0<=bud->(E.locals.length:Int)+1+bud<=1000 ->
 Calls Tryz.prog 49 #[.pointer (some ⟨m,0,none⟩),.int .i64 z] w (z1g m g l E bud base d w)
def zbL (m g:Nat) (l:List Nat) (E:Env) (bud:Int) (base d:Nat) (w:World) (e:Ending) (w':World):Prop :=
 ∃ E' bud' ts A c,e=.returned (.slice A ts.length c)/\E.Like E'/\LS w' m g l E' bud' base/\0<=bud'/\bud'<=bud/\(E'.locals.length:Int)+bud'<=1000/\Chg m g w w'/\GBc E E' (d+1) ts/\((ts.map (cntS (d+1))).sum:Int)<=11 * (bud - bud')/\ts.length<=10/\∃ L,z21 m w.heap.size 3 (d+1) w' (.slice A ts.length c) ts L
def z3R (m g:Nat) (l:List Nat) (base d:Nat):Prop:=∀ (E:Env) (bud:Int) (w:World) (z:Int) (n:Nat),z=(d:Int)->n<=10->z1s E->LS w m g l E bud base->0<=bud->(E.locals.length:Int)+bud<=1000 ->
 Calls Tryz.prog 33 #[.pointer (some ⟨m,0,none⟩),.int .i64 z,.int .i64 (n:Int)] w (zbL m g l E bud base d w)
theorem z72 {E E' E2:Env} {d:Nat} {ts:List St} {x:St} (hl:E.Like E') (h:GBc E E' d ts) (hx:GSc E' E2 d x):GBc E E2 d (ts++[x]) :=
 ⟨fun t ht=>by
  rcases q_8.1 ht with h' | h'
  ·exact h.1 t h'
  ·simp at h';subst h';exact hx.1,z76 (by have:=hx.2; rwa [hl.globs,hl.funs] at this) h.2⟩
theorem z0J {w w':World} {base n size:Nat} {T:TypeId} {v:Value} {xs:List Value} (h:w.ownsRow base T size v n xs) (hk:∀ b,v.ownBlock=some b->w'.heap[b]?=w.heap[b]?):w'.ownsRow base T size v n xs:=by
 rcases h.2 with hn | ⟨g',cap,cur,e,hb',hh,rest⟩
 ·exact ⟨h.1,.inl hn⟩
 ·exact ⟨h.1,.inr ⟨g',cap,cur,e,hb',(hk g' (by rw [e]; rfl)).trans hh,rest⟩⟩
theorem z2g {w:World} {m r:Nat} {p:Option Addr} {cs:Array Value} {t:TypeId} {s:Zb} (hm:w.heap[m]?=some (.cells cs t (0,0))) (hp:cs[0]?=some (.pointer p)) (hs:w.cell? ⟨r,0,none⟩=some (.string s)):r≠m:=by
 intro e;subst e;rw [zcr 0 hm,hp] at hs;injection hs with hs;cases hs
theorem z59 {w:World} {base n size m b o:Nat} {T:TypeId} {v:Value} {xs:List Value} (h:w.ownsRow base T size v n xs) (hm:m<base) (hb:v.ownBlock=some b):some b≠some (Addr.mk m o none).block:=fun e=>by
 have e2:b=m:=by injection e
 have:=(h.lt b hb).1;omega
theorem LS.budget {w:World} {m g base:Nat} {l:List Nat} {E:Env} {bud bud':Int} (h:LS w m g l E bud base):LS (w.setCell ⟨m,4,none⟩ (.int .i64 bud')) m g l E bud' base/\Chg m g w (w.setCell ⟨m,4,none⟩ (.int .i64 bud')):=by
 have hgr:=z03 w ⟨m,4,none⟩ (.int .i64 bud');obtain ⟨gA,gc,fA,fc,lA,lc,h0,h1,h2,h3⟩:=h.gs.mka;have hm0:(w.setCell ⟨m,4,none⟩ (.int .i64 bud')).heap[m]?=some (.cells #[.pointer (some ⟨g,0,none⟩),.slice gA E.globs.length gc,.slice fA E.funs.length fc,.slice lA E.locals.length lc,.int .i64 bud'] 94 (0,0)):=by
  have:=z0a (i:=4) (.int .i64 bud') h0;simpa using this
 have hc3:(w.setCell ⟨m,4,none⟩ (.int .i64 bud')).cell? ⟨m,3,none⟩=w.cell? ⟨m,3,none⟩:=by rw [zcr 3 hm0,zcr 3 h0]; rfl
 have hk:∀ {r o:Nat} {v:Value},r≠m->w.cell? ⟨r,o,none⟩=some v->(w.setCell ⟨m,4,none⟩ (.int .i64 bud')).cell? ⟨r,o,none⟩=some v:=fun hr hv=>z0b hgr hr hv
 have hchg:Chg m g w (w.setCell ⟨m,4,none⟩ (.int .i64 bud')):=⟨hgr.os,hgr.tape,hgr.output,hgr.size,fun k hk h1 _ _=>hgr.block k hk (fun e=>h1 (by injection e)),.inl (z2f hc3),fun j hj=>by
  rw [zcr j hm0,zcr j h0];have hj3:j=0\/j=1\/j=2:=by omega
  rcases hj3 with rfl | rfl | rfl <;> rfl⟩
 refine ⟨⟨⟨h.gs.ne,⟨gA,gc,fA,fc,lA,lc,hm0,⟨h1.1,fun i x hi=>?_⟩,⟨h2.1,fun i f hi=>?_⟩,⟨h3.1,fun i s hi=>?_⟩⟩,?_,h.gs.len,h.gs.lb⟩,?_,h.mb,h.gb,q_9 h.bs hgr.size,?_⟩,hchg⟩
 ·have hl:0<E.globs.length:=by
   rcases q_f 0 E.globs.length with h' | h'
   ·exact h'
   ·rw [q_j (by omega)] at hi; cases hi
  obtain ⟨r,hA,hr,e0,e1⟩:=h1.2 i x hi;obtain ⟨r',hA',_,z0,_⟩:=h1.2 0 _ (q_7 hl);rw [hA] at hA';injection hA' with hA';injection hA' with hA';subst hA';have hrm:=z2g h0 rfl z0;exact ⟨r,hA,hr,hk hrm e0,hk hrm e1⟩
 ·have hl:0<E.funs.length:=by
   rcases q_f 0 E.funs.length with h' | h'
   ·exact h'
   ·rw [q_j (by omega)] at hi; cases hi
  obtain ⟨r,pA,pc,bA,bn,bc,ln,hA,hr,e0,e1,e2,e3⟩:=h2.2 i f hi;obtain ⟨r',_,_,_,_,_,_,hA',_,z0,_⟩:=h2.2 0 _ (q_7 hl);rw [hA] at hA';injection hA' with hA';injection hA' with hA';subst hA';have hrm:=z2g h0 rfl z0;exact ⟨r,pA,pc,bA,bn,bc,ln,hA,hr,hk hrm e0,hk hrm e1,hk hrm e2,hk hrm e3⟩
 ·have hl:0<E.locals.length:=by
   rcases q_f 0 E.locals.length with h' | h'
   ·exact h'
   ·rw [q_j (by omega)] at hi; cases hi
  obtain ⟨r,hA,hr,e0⟩:=h3.2 i s hi;obtain ⟨r',hA',_,z0⟩:=h3.2 0 _ (q_7 hl);rw [hA] at hA';injection hA' with hA';injection hA' with hA';subst hA';exact ⟨r,hA,hr,hk (z2g h0 rfl z0) e0⟩
 ·obtain ⟨k,hk⟩:=h.gs.co;exact ⟨k,z0v hk hgr h.gb⟩
 ·obtain ⟨v,hv,ho⟩:=h.own;exact ⟨v,hc3.trans hv,z0J ho (fun b hb=>hgr.block b (ho.lt b hb).2 (z59 ho h.mb hb))⟩
 ·obtain ⟨gA',gc',fA',fc',k1,k2,l1,l2⟩:=h.low;refine ⟨gA',gc',fA',fc',?_,?_,⟨l1.1,fun i x hi=>?_⟩,⟨l2.1,fun i x hi=>?_⟩⟩
  ·rw [zcr 1 hm0,<- k1,zcr 1 h0]; rfl
  ·rw [zcr 2 hm0,<- k2,zcr 2 h0]; rfl
  ·have hl:0<E.globs.length:=by
    rcases q_f 0 E.globs.length with h' | h'
    ·exact h'
    ·rw [q_j (by omega)] at hi; cases hi
   obtain ⟨r,hA,hr,e0,e1⟩:=l1.2 i x hi;obtain ⟨r',hA',_,z0,_⟩:=l1.2 0 _ (q_7 hl);rw [hA] at hA';injection hA' with hA';injection hA' with hA';subst hA';have hrm:=z2g h0 rfl z0;exact ⟨r,hA,hr,hk hrm e0,hk hrm e1⟩
  ·have hl:0<E.funs.length:=by
    rcases q_f 0 E.funs.length with h' | h'
    ·exact h'
    ·rw [q_j (by omega)] at hi; cases hi
   obtain ⟨r,pA,pc,bA,bn,bc,ln,hA,hr,e0,e1,e2,e3⟩:=l2.2 i x hi;obtain ⟨r',_,_,_,_,_,_,hA',_,z0,_⟩:=l2.2 0 _ (q_7 hl);rw [hA] at hA';injection hA' with hA';injection hA' with hA';subst hA';have hrm:=z2g h0 rfl z0;exact ⟨r,pA,pc,bA,bn,bc,ln,hA,hr,hk hrm e0,hk hrm e1,hk hrm e2,hk hrm e3⟩
def zbK (m g:Nat) (l:List Nat) (E:Env) (bud:Int) (base d:Nat) (w0:World) (n:Nat) (v i:Value) (wr:World):Prop :=
 ∃ (k:Nat) (E':Env) (bud':Int) (ts:List St) (L:List Value),k<=n/\i=.int .i64 (k:Int)/\E.Like E'/\LS wr m g l E' bud' base/\0<=bud'/\bud'<=bud/\(E'.locals.length:Int)+bud'<=1000/\Chg m g w0 wr/\GBc E E' (d+1) ts/\((ts.map (cntS (d+1))).sum:Int)<=11 * (bud - bud')/\z21 m w0.heap.size 3 (d+1) wr v ts L/\ts.length<=k
theorem z3T (m g:Nat) (l:List Nat) (base d:Nat) (hd:d<=5) (hS:z8m m g l base d):z3R m g l base d:=by
 intro E bud w z n hz hn hE hls hb0 hln;have HS:=zhi hS;have HE:=zhi hE;have Hls:=zhi hls;have Hln:=zhi hln;have Hb0:=zhi hb0;have hz0:0<=z:=by omega
 have hz6:z<=6:=by omega
 have Hz:=zhi hz;have hmb:=hls.mb;have hgm:=hls.gb;have hbs:=hls.bs;clear hS hE hls hln hb0 hz;go_enter Tryz.func33,Tryz.ntmps33;go_wp2_with fail
 go_loopw [7,8] (fun v i wr=>zbK m g l E bud base d w n v i wr) (fun _ i _=>n - (intOf i).toNat)
 case atStart=>exact ⟨0,E,bud,[],[],q_h _,rfl,Env.Like.refl HE.out,Hls.out,Hb0.out,Int.le_refl _,Hln.out,Chg.refl _ _ _,z6l _ _,by simp,z21.nil _ _ _ _ _,q_2 _⟩
 case round =>
  obtain ⟨k,E',bud',ts,L,hk,rfl,hlike,hls,hb0,hbb,hln,hchg,hts,hcnt,hrow,htk⟩:=hrel;have Hlike:=zhi hlike;have Hls1:=zhi hls;have Hln1:=zhi hln;have Hchg:=zhi hchg;have Hts:=zhi hts;have Hcnt:=zhi hcnt;have Hrow:=zhi hrow;have Hbb:=zhi hbb;have hb1000:bud'<=1000:=by omega
  obtain ⟨_,_,_,_,_,_,h0,_⟩:=hls.gs.mka;have b4:=zcr 4 h0;have bf:=z06 h0 4;clear hlike hls hln hchg hts hcnt hrow hbb h0
  by_cases hlt:k<n
  ·by_cases hp:0<bud'
   ·have hst:=zhi (HS.out E' (bud' - 1) _ z Hz.out Hlike.out.ok (Hls1.out.budget (bud':=bud' - 1)).1 (by omega) (by have:=Hln1.out; omega));go_wp2_with fail;refine hst.out.mono ?_;rintro e w2 ⟨E2,bud2,x,v,rfl,hlike2,hls2,h02,hle2,hln2,hchg2,hgst,hcnt2,hv⟩;obtain ⟨kk,ll,s,eA,en,ec,tA,tn,tc,uA,un,uc,rfl⟩:=za0 hv;have hc1:=(Hls1.out.budget (bud':=bud' - 1)).2;have hrow2:=Hrow.out.chg (hc1.trans hchg2) (by omega) (by omega);have hsz1:=Hchg.out.size;have hszc:=hc1.size;have hsz2:=hchg2.size;have hF:∀ b,Made m (wr.setCell ⟨m,4,none⟩ (.int .i64 (bud' - 1))) w2 b->w.heap.size<=b/\b<w2.heap.size/\u7.ownBlock≠some b/\lb w2 m≠some b:=fun b hb=>⟨by have:=hb.1; omega,hb.2.1,fun e=>by have:=(Hrow.out.own.lt b e).2; have:=hb.1; omega,hb.2.2⟩
    have Hlike2:=zhi (Hlike.out.trans hlike2);have Hls2:=zhi hls2;have Hln2:=zhi hln2;have Hle2:=zhi hle2;have H02:=zhi h02;have Hchg2:=zhi ((Hchg.out.trans hc1).trans hchg2);have Hg2:=zhi hgst;have Hcnt2:=zhi hcnt2;have HV:=zhi hv;have HF:=zhi hF;have Hrow2:=zhi hrow2;clear hlike2 hls2 h02 hle2 hln2 hchg2 hgst hcnt2 hv hF hrow2 hc1 hst b4 bf;go_wp2_with (at_builtin; refine z07.out ?_);refine z07.of (z3E w2 rfl (.tmp 28) (.tmp 32) rfl m w.heap.size 3 (d+1) _ ts L x _ _ _ _ _ _ _ _ _ _ _ _ _ rfl rfl Hrow2.out (by omega) (by omega) (by omega) (fun b hb=>(Hls2.out.lbl b hb).2) HV.out HF.out ?_);intro g8 cap8 w8 hrow8 hg8;have hfar:=Hls2.out.far hg8 (fun b hb=>⟨by have:=(Hrow2.out.own.lt b hb).1; omega,Hrow2.out.sep b hb⟩);have hchg8:=Hchg2.out.far hg8 (fun b hb=>(Hrow2.out.own.lt b hb).1) (by omega);have hr:zbK m g l E bud base d w n (.slice (some ⟨g8,0,none⟩) (ts.length+1) cap8) (.int .i64 ((k:Int)+1)) w8 :=
     ⟨k+1,E2,bud2,ts++[x],_,by omega,by go_num,Hlike2.out,hfar,H02.out,by have:=Hle2.out; have:=Hbb.out; omega,Hln2.out,hchg8,z72 Hlike.out Hts.out Hg2.out,by
      have h1:=Hcnt.out;have h2:=Hcnt2.out;rw [List.map_append,List.sum_append];simp only [List.map_cons,List.map_nil,List.sum_cons,List.sum_nil]
      push_cast
      omega,hrow8,by simp; omega⟩
    have Hr:=zhi hr;clear hr hfar hchg8 hrow8 hg8;go_wp2_with fail;exact ⟨Hr.out,by simp [intOf]; omega⟩
   ·obtain ⟨A,c,rfl⟩:=z0x Hrow.out.own;go_wp2_with fail;go_ret;exact ⟨E',bud',ts,A,c,rfl,Hlike.out,Hls1.out,hb0,Hbb.out,Hln1.out,Hchg.out,Hts.out,Hcnt.out,by omega,_,Hrow.out⟩
  ·obtain ⟨A,c,rfl⟩:=z0x Hrow.out.own;go_wp2_with fail;go_ret;exact ⟨E',bud',ts,A,c,rfl,Hlike.out,Hls1.out,hb0,Hbb.out,Hln1.out,Hchg.out,Hts.out,Hcnt.out,by omega,_,Hrow.out⟩
theorem LS.local {w wa w':World} {m g:Nat} {l:List Nat} {E:Env} {bud:Int} {base:Nat} {v:Value} {g' cap:Nat} {s:Zb} (h:LS w m g l E bud base) (ha:Below w.heap.size w wa) (hv:w.cell? ⟨m,3,none⟩=some v)
  (hown:w'.ownsRow base 9 1 (.slice (some ⟨g',0,none⟩) (E.locals.length+1) cap) (E.locals.length+1) (strV E.locals++[.string s])) (hcap:E.locals.length+1<=cap) (hg:wa.grownBy w' v.ownBlock) (hat:v.ownBlock=some g'\/g'=wa.heap.size) (hgb:base<=g') :
  LS (w'.setCell ⟨m,3,none⟩ (.slice (some ⟨g',0,none⟩) (E.locals.length+1) cap)) m g l { E with locals:=E.locals++[s] } bud base/\Chg m g w (w'.setCell ⟨m,3,none⟩ (.slice (some ⟨g',0,none⟩) (E.locals.length+1) cap)):=by
 have hmb:=h.mb;have hgm:=h.gb;have hlbl:∀ b,v.ownBlock=some b->base<=b/\b<w.heap.size:=fun b hb=>h.lbl b (by rw [z7R hv]; exact hb)
 have hbw:Below base w w':=(ha.mono h.bs).trans (z05 hg (fun b hb=>(hlbl b hb).1) (q_9 h.bs ha.size));have hgr:=z03 w' ⟨m,3,none⟩ (.slice (some ⟨g',0,none⟩) (E.locals.length+1) cap);generalize hw2:w'.setCell ⟨m,3,none⟩ (.slice (some ⟨g',0,none⟩) (E.locals.length+1) cap)=w2 at *;obtain ⟨gA,gc,fA,fc,lA,lc,h0,h1,h2,h3⟩:=h.gs.mka;obtain ⟨gA',gc',fA',fc',k1,k2,l1,l2⟩:=h.low;have k1o:=k1;have k2o:=k2;rw [zcr 1 h0] at k1;rw [zcr 2 h0] at k2;injection k1 with k1;injection k1 with e1 e2 e3;injection k2 with k2;injection k2 with e4 e5 e6;subst e1 e3 e4 e6;have hm0:w2.heap[m]?=some (.cells #[.pointer (some ⟨g,0,none⟩),.slice gA E.globs.length gc,.slice fA E.funs.length fc,.slice (some ⟨g',0,none⟩) (E.locals.length+1) cap,.int .i64 bud] 94 (0,0)):=by
  have:=z0a (i:=3) (.slice (some ⟨g',0,none⟩) (E.locals.length+1) cap) ((hbw.block m hmb).trans h0);rw [hw2] at this;simpa using this
 have hblk:∀ r,r<base->r≠m->w2.heap[r]?=w.heap[r]?:=fun r hr hne=>(hgr.block r (q_1 hr (q_9 h.bs hbw.size)) (fun e=>hne (by injection e))).trans (hbw.block r hr)
 have hlow:∀ {r o:Nat} {u:Value},r<base->r≠m->w.cell? ⟨r,o,none⟩=some u->w2.cell? ⟨r,o,none⟩=some u:=fun hr hne hu=>(q_6 (hblk _ hr hne)).trans hu
 have hg1:∀ {F:Nat->Prop},z0k F w E.globs gA gc->z0k F w2 E.globs gA gc:=fun hG=>⟨hG.1,fun i x hi=>by
  obtain ⟨r,hA,hr,z0,z1⟩:=hG.2 i x hi;obtain ⟨r',hA',hr',_⟩:=l1.2 i x hi;have hl:0<E.globs.length:=by
   rcases q_f 0 E.globs.length with h' | h'
   ·exact h'
   ·rw [q_j (by omega)] at hi; cases hi
  obtain ⟨r'',hA'',_,y0,_⟩:=hG.2 0 _ (q_7 hl);rw [hA] at hA' hA'';injection hA' with hA';injection hA' with hA';injection hA'' with hA'';injection hA'' with hA'';subst hA' hA'';have hne:=z2g h0 rfl y0;exact ⟨r,hA,hr,hlow hr' hne z0,hlow hr' hne z1⟩⟩
 have hf1:∀ {F:Nat->Prop},z1z F w E.funs fA fc->z1z F w2 E.funs fA fc:=fun hF=>⟨hF.1,fun i x hi=>by
  obtain ⟨r,pA,pc,bA,bn,bc,ln,hA,hr,z0,z1,z2,z3⟩:=hF.2 i x hi;obtain ⟨r',_,_,_,_,_,_,hA',hr',_⟩:=l2.2 i x hi;have hl:0<E.funs.length:=by
   rcases q_f 0 E.funs.length with h' | h'
   ·exact h'
   ·rw [q_j (by omega)] at hi; cases hi
  obtain ⟨r'',_,_,_,_,_,_,hA'',_,y0,_⟩:=hF.2 0 _ (q_7 hl);rw [hA] at hA' hA'';injection hA' with hA';injection hA' with hA';injection hA'' with hA'';injection hA'' with hA'';subst hA' hA'';have hne:=z2g h0 rfl y0;exact ⟨r,pA,pc,bA,bn,bc,ln,hA,hr,hlow hr' hne z0,hlow hr' hne z1,hlow hr' hne z2,hlow hr' hne z3⟩⟩
 have hown2:w2.ownsRow base 9 1 (.slice (some ⟨g',0,none⟩) (E.locals.length+1) cap) (E.locals.length+1) (strV E.locals++[.string s]):=z0J hown (fun b hb=>hgr.block b (hown.lt b hb).2 (z59 hown hmb hb));have hc3:w2.cell? ⟨m,3,none⟩=some (.slice (some ⟨g',0,none⟩) (E.locals.length+1) cap):=by rw [zcr 3 hm0]; rfl
 have hlen:(E.locals++[s]).length=E.locals.length+1:=by simp
 have hstr:strV (E.locals++[s])=strV E.locals++[.string s]:=by simp [strV]
 refine ⟨⟨⟨h.gs.ne,⟨gA,gc,fA,fc,some ⟨g',0,none⟩,cap,by rw [hm0,hlen],hg1 h1,hf1 h2,⟨by rw [hlen]; exact hcap,fun i t hi=>?_⟩⟩,?_,h.gs.len,h.gs.lb⟩,⟨_,hc3,by rw [hlen,hstr]; exact hown2⟩,hmb,hgm,q_9 h.bs (q_9 hbw.size hgr.size),⟨gA,gc,fA,fc,by rw [zcr 1 hm0]; rfl,by rw [zcr 2 hm0]; rfl,hg1 l1,hf1 l2⟩⟩,?_⟩
 ·refine ⟨g',rfl,by omega,?_⟩;have hi2:i<E.locals.length+1:=by
   rcases q_f i (E.locals.length+1) with h' | h'
   ·exact h'
   ·rw [q_j (by rw [hlen]; exact h')] at hi; cases hi
  have:=hown2.cellAt i (by omega);rw [this,<- hstr];have hi3:(E.locals++[s])[i]?=some t:=hi;rw [strV,q_b,hi3];rfl
 ·obtain ⟨k,hk⟩:=h.gs.co;exact ⟨k,z0v (z1i hk hbw (by omega)) hgr hgm⟩
 ·refine ⟨hgr.os.trans hbw.os,hgr.tape.trans hbw.tape,hgr.output.trans hbw.output,q_9 hbw.size hgr.size,fun k hk h1 h2 h3=>?_,?_,fun j hj=>by
    rw [zcr j hm0,zcr j h0];have hj3:j=0\/j=1\/j=2:=by omega
    rcases hj3 with rfl | rfl | rfl <;> rfl⟩
  ·refine (hgr.block k (q_1 hk hbw.size) (fun e=>h1 (by injection e))).trans ?_;refine (hg.block k (q_1 hk ha.size) (fun e=>h3 ?_)).trans (ha.block k hk);rw [z7R hv];exact e.symm
  ·rw [z7R hc3,z7R hv];rcases hat with e | e
   ·exact .inl (by rw [e]; rfl)
   ·exact .inr ⟨g',rfl,by have:=ha.size; omega⟩
theorem LS.grown {w w':World} {m g:Nat} {l:List Nat} {E:Env} {bud:Int} {base:Nat} (h:LS w m g l E bud base) (h2:GS w' m g l E bud) (hg:w.grownBy w' (some g)):LS w' m g l E bud base/\Chg m g w w':=by
 have hne:=h.gs.ne;have hmb:=h.mb;have hgm:=h.gb;obtain ⟨gA,gc,fA,fc,lA,lc,h0,h1,h3,_⟩:=h.gs.mka;obtain ⟨gA',gc',fA',fc',k1,k2,l1,l2⟩:=h.low;obtain ⟨v,hv,ho⟩:=h.own;have k1':=z0b hg hne k1;have k2':=z0b hg hne k2;rw [zcr 1 h0] at k1;rw [zcr 2 h0] at k2;injection k1 with k1;injection k1 with e1 e2 e3;injection k2 with k2;injection k2 with e4 e5 e6;subst e1 e3 e4 e6;refine ⟨⟨h2,⟨v,z0b hg hne hv,z0J ho (fun b hb=>hg.block b (ho.lt b hb).2 (z59 (o:=0) ho (Nat.lt_trans hgm hmb) hb))⟩,hmb,hgm,q_9 h.bs hg.size,⟨gA,gc,fA,fc,k1',k2',⟨l1.1,fun i x hi=>?_⟩,⟨l2.1,fun i x hi=>?_⟩⟩⟩,Chg.grown hg (q_1 hmb h.bs) hne⟩
 ·obtain ⟨r,hA,hr,z0,z1⟩:=l1.2 i x hi;obtain ⟨r',hA',hr',_⟩:=h1.2 i x hi;rw [hA] at hA';injection hA' with hA';injection hA' with hA';subst hA';exact ⟨r,hA,hr,z0b hg hr' z0,z0b hg hr' z1⟩
 ·obtain ⟨r,pA,pc,bA,bn,bc,ln,hA,hr,z0,z1,z2,z3⟩:=l2.2 i x hi;obtain ⟨r',_,_,_,_,_,_,hA',hr',_⟩:=h3.2 i x hi;rw [hA] at hA';injection hA' with hA';injection hA' with hA';subst hA';exact ⟨r,pA,pc,bA,bn,bc,ln,hA,hr,z0b hg hr' z0,z0b hg hr' z1,z0b hg hr' z2,z0b hg hr' z3⟩
theorem LS.below {w w':World} {m g:Nat} {l:List Nat} {E:Env} {bud:Int} {base:Nat} (h:LS w m g l E bud base) (hb:Below w.heap.size w w'):LS w' m g l E bud base/\Chg m g w w':=h.grown (h.gs.below hb) (z02 hb _)
structure SS (W:World) (m g:Nat) (l:List Nat) (E:Env) (bud:Int) (base:Nat) (wc:World):Prop where
 ls:LS wc m g l E bud base
 chg:Chg m g W wc
 bw:base<W.heap.size
theorem SS.mW {W wc:World} {m g base:Nat} {l:List Nat} {E:Env} {bud:Int} (h:SS W m g l E bud base wc):m<W.heap.size:=Nat.lt_trans h.ls.mb h.bw
theorem SS.gW {W wc:World} {m g base:Nat} {l:List Nat} {E:Env} {bud:Int} (h:SS W m g l E bud base wc):g<W.heap.size:=Nat.lt_trans h.ls.gb h.mW
theorem SS.grown {W wc w2:World} {m g base:Nat} {l:List Nat} {E:Env} {bud:Int} (h:SS W m g l E bud base wc) (h2:GS w2 m g l E bud) (hg:wc.grownBy w2 (some g)):SS W m g l E bud base w2/\Chg m g wc w2 :=
 ⟨⟨(h.ls.grown h2 hg).1,h.chg.trans (h.ls.grown h2 hg).2,h.bw⟩,(h.ls.grown h2 hg).2⟩
theorem SS.below {W wc w2:World} {m g base:Nat} {l:List Nat} {E:Env} {bud:Int} (h:SS W m g l E bud base wc) (hb:Below wc.heap.size wc w2):SS W m g l E bud base w2/\Chg m g wc w2 :=
 ⟨⟨(h.ls.below hb).1,h.chg.trans (h.ls.below hb).2,h.bw⟩,(h.ls.below hb).2⟩
theorem SS.start {w:World} {m g base:Nat} {l:List Nat} {E:Env} {bud:Int} (h:LS w m g l E bud base) (o:Obj):SS (w.alloc o) m g l E bud base (w.alloc o) :=
 ⟨(h.below ((q_i _ w).alloc (q_2 _) o)).1,Chg.refl _ _ _,by have:=h.bs; simp; omega⟩
theorem SS.tree {W wc w2:World} {m g base:Nat} {l:List Nat} {E:Env} {bud:Int} (h:SS W m g l E bud base wc) (hc:Chg m g wc w2) {d:Nat} {x:Ex} {v:Value} (hx:ExV (Made m W wc) wc d x v):ExV (Made m W w2) w2 d x v :=
 hx.keep (fun b hb=>(z19 hc h.mW h.gW b hb).1) (fun b hb=>(z19 hc h.mW h.gW b hb).2)
theorem SS.row {W wc w2:World} {m g base:Nat} {l:List Nat} {E:Env} {bud:Int} (h:SS W m g l E bud base wc) (hc:Chg m g wc w2) {d:Nat} {xs:List Ex} {A:Option Addr} {c:Nat} (hx:RowE (Made m W wc) wc d xs A c):RowE (Made m W w2) w2 d xs A c :=
 hx.keep (fun b hb=>(z19 hc h.mW h.gW b hb).1) (fun b hb=>(z19 hc h.mW h.gW b hb).2)
theorem SS.fresh {W wc w2:World} {m g base b:Nat} {l:List Nat} {E:Env} {bud:Int} (h:SS W m g l E bud base wc) (hc:wc.cell? ⟨m,3,none⟩=w2.cell? ⟨m,3,none⟩) (hb:wc.heap.size<=b) (hb2:b<w2.heap.size):Made m W w2 b :=
 ⟨q_9 h.chg.size hb,hb2,fun e=>by have:=(h.ls.lbl b (by rw [z2f hc]; exact e)).2; omega⟩
theorem zbP {F:Nat->Prop} {w:World}:∀ (d:Nat) (x:Ex) (v:Value),ExV F w d x v->ExV F w (d+1) x v
 | 0,_,_,h=>h.elim
 | d+1,.mk _ _ _ _ _ _,_,⟨A,c,hv,hc,h⟩=>⟨A,c,hv,hc,fun i x hi=>by
   obtain ⟨g,off,c0,c1,c2,c3,c4,c5,hA,hF,e0,e1,e2,e3,e4,e5,hx⟩:=h i x hi;exact ⟨g,off,c0,c1,c2,c3,c4,c5,hA,hF,e0,e1,e2,e3,e4,e5,zbP d x _ hx⟩⟩
theorem zbT:∀ (d:Nat) (x:Ex),GE d x->GE (d+1) x
 | 0,.mk _ _ _ _ _ _,⟨h0,h1,h2,h3,h4,h5,hxs,hk⟩=>⟨h0,h1,h2,h3,h4,h5,.inl ⟨hxs,hk⟩⟩
 | d+1,.mk _ _ _ _ _ _,⟨h0,h1,h2,h3,h4,h5,hk⟩=>⟨h0,h1,h2,h3,h4,h5,hk.imp id fun ⟨hx,hr⟩=>⟨fun x hm=>zbT d x (hx x hm),hr⟩⟩
theorem zeP {E:Env} (d:Nat) (x:Ex) (h:GX E d x):GX E (d+1) x:=⟨zbT d x h.1,h.2⟩
def ExS (W:World) (m g:Nat) (l:List Nat) (E:Env) (bud:Int) (base:Nat) (wc:World) (e:Ending) (w2:World):Prop :=
 ∃ x k o a lf s A n c,e=.returned (.agg #[.int .i64 k,.int .i64 o,.int .i64 a,.int .i64 lf,.string s,.slice A n c])/\GX E 2 x/\ExV (Made m W w2) w2 3 x (.agg #[.int .i64 k,.int .i64 o,.int .i64 a,.int .i64 lf,.string s,.slice A n c])/\SS W m g l E bud base w2/\Chg m g wc w2
theorem z8E {W wc w2:World} {m g base d:Nat} {l:List Nat} {E:Env} {bud:Int} {e:Ending} (h:SS W m g l E bud base wc) (hd:d=1\/d=2) (hr:z8g m g l E bud d wc e w2):ExS W m g l E bud base wc e w2:=by
 obtain ⟨x,v,rfl,hge,hx,hgs,hg⟩:=hr;obtain ⟨hs,hc⟩:=h.grown hgs hg;have hm:=q_1 h.mW h.chg.size;have hcell:wc.cell? ⟨m,3,none⟩=w2.cell? ⟨m,3,none⟩:=(q_6 (hg.block m hm (fun e=>h.ls.gs.ne (by injection e)))).symm;have hF:∀ b,(wc.heap.size<=b/\b<w2.heap.size)->Made m W w2 b:=fun b hb=>h.fresh hcell hb.1 hb.2
 have hx2:=hx.keep (G:=Made m W w2) hF (fun _ _=>rfl);obtain ⟨k,o,a,lf,s,A,n,c,rfl,_⟩:=z0G hx;refine ⟨x,k,o,a,lf,s,A,n,c,rfl,?_,?_,hs,hc⟩
 ·rcases hd with rfl | rfl
  ·exact zeP _ _ hge
  ·exact hge
 ·rcases hd with rfl | rfl
  ·exact zbP _ _ _ hx2
  ·exact hx2
theorem z9X {W wc:World} {m g base:Nat} {l:List Nat} {E:Env} {bud:Int} (h:SS W m g l E bud base wc) (hE:z1s E) (d:Nat) (hd:d=1\/d=2) (z:Int) (hz:z=(d:Int)) :
  Calls Tryz.prog 69 #[.pointer (some ⟨m,0,none⟩),.int .i64 z] wc (ExS W m g l E bud base wc) :=
 ((z2W m g l E bud hE d (by omega)) wc z hz h.ls.gs).mono fun _ _ hr=>z8E h hd hr
theorem zde {W wc:World} {m g base:Nat} {l:List Nat} {E:Env} {bud:Int} (h:SS W m g l E bud base wc) (hE:z1s E) :
  Calls Tryz.prog 72 #[.pointer (some ⟨m,0,none⟩),.int .i64 2] wc (ExS W m g l E bud base wc) :=
 ((zaA m g l E bud hE 1 (by omega)) wc 2 rfl h.ls.gs).mono fun _ _ hr=>z8E h (.inr rfl) hr
def NxS (W:World) (m g:Nat) (l:List Nat) (E:Env) (bud:Int) (base n:Nat) (wc:World) (e:Ending) (w2:World):Prop :=
 ∃ r:Nat,e=.returned (.int .i64 (r:Int))/\(1<=n->r<n)/\SS W m g l E bud base w2/\Chg m g wc w2/\wc.grownBy w2 (some g)
theorem z1d {W wc:World} {m g base:Nat} {l:List Nat} {E:Env} {bud:Int} (h:SS W m g l E bud base wc) (n:Nat) (z:Int) (hz:z=(n:Int)) (hn:n<=1000000000) :
  Calls Tryz.prog 15 #[.pointer (some ⟨g,0,none⟩),.int .i64 z] wc (NxS W m g l E bud base n wc) :=
 (z0q n z h.ls.gs hz hn).mono fun _ _ ⟨r,he,h1,_,h3,h4⟩=>⟨r,he,h1,(h.grown h3 h4).1,(h.grown h3 h4).2,h4⟩
def PkS (P:Zb->Prop) (W:World) (m g:Nat) (l:List Nat) (E:Env) (bud:Int) (base:Nat) (wc:World) (e:Ending) (w2:World):Prop :=
 ∃ (s:Zb) (ok:Bool),e=.returned (.tuple #[.string s,.bool ok])/\(ok=true->z0B s/\P s)/\SS W m g l E bud base w2/\Chg m g wc w2
theorem z6M {W wc:World} {m g base:Nat} {l:List Nat} {E:Env} {bud:Int} (h:SS W m g l E bud base wc) (hE:z1s E) (arr:Bool) :
  Calls Tryz.prog 70 #[.pointer (some ⟨m,0,none⟩),.bool arr] wc (PkS (IsGl E arr) W m g l E bud base wc) :=
 (z5i m g l E bud arr wc h.ls.gs hE).mono fun _ _ ⟨s,ok,he,hs,h3,h4⟩=>⟨s,ok,he,fun hk=>⟨by obtain ⟨x,hx,rfl,_⟩:=hs hk; exact (hE.gs x hx).1,hs hk⟩,(h.grown h3 h4).1,(h.grown h3 h4).2⟩
theorem z6n:∀ s∈z0E,z0B s:=by
 intro s hs;simp only [z0E,q_d,List.not_mem_nil,or_false] at hs;rcases hs with rfl | rfl | rfl | rfl | rfl | rfl | rfl | rfl <;> exact ⟨by decide,by decide⟩
theorem z7v {W wc:World} {m g base:Nat} {l:List Nat} {E:Env} {bud:Int} (h:SS W m g l E bud base wc) (hE:z1s E) :
  Calls Tryz.prog 67 #[.pointer (some ⟨m,0,none⟩)] wc (PkS (fun s=>s∈z0E/\s ∉ E.locals) W m g l E bud base wc) :=
 (z8L m g l E bud wc h.ls.gs hE).mono fun _ _ ⟨s,ok,he,hs,hb⟩=>⟨s,ok,he,fun hk=>⟨z6n s (hs hk).1,hs hk⟩,(h.below hb).1,(h.below hb).2⟩
def OnS (W:World) (m g:Nat) (l:List Nat) (E:Env) (bud:Int) (base:Nat) (x:Ex) (k:Int) (s:Zb) (wc:World) (e:Ending) (w2:World):Prop :=
 ∃ b,e=.returned (.agg #[.int .i64 k,.int .i64 0,.string s,.slice (some ⟨b,0,none⟩) 1 1,.slice none 0 0,.slice none 0 0])/\RowE (Made m W w2) w2 3 [x] (some ⟨b,0,none⟩) 1/\SS W m g l E bud base w2/\Chg m g wc w2
theorem z1r {W wc:World} {m g base:Nat} {l:List Nat} {E:Env} {bud:Int} {x:Ex} {k' o a lf:Int} {s':Zb} {A:Option Addr} {n c:Nat} (h:SS W m g l E bud base wc) (hx:ExV (Made m W wc) wc 3 x (.agg #[.int .i64 k',.int .i64 o,.int .i64 a,.int .i64 lf,.string s',.slice A n c])) (k:Int) (s:Zb) :
  Calls Tryz.prog 68 #[.int .i64 k,.string s,.agg #[.int .i64 k',.int .i64 o,.int .i64 a,.int .i64 lf,.string s',.slice A n c]] wc (OnS W m g l E bud base x k s wc) :=
 (z5g k s k' o a lf s' A n c wc).mono fun _ _ ⟨b,h1,h2,he,hrow,hb⟩=>by
  obtain ⟨hs,hc⟩:=h.below hb;have hm:=q_1 h.mW h.chg.size;exact ⟨b,he,z2w hx (fun b hb=>(z19 hc h.mW h.gW b hb).1) (fun b hb=>(z19 hc h.mW h.gW b hb).2) (h.fresh (q_6 (hb.block m hm)).symm h1 h2) hrow,hs,hc⟩
theorem SS.res {w W wc:World} {o:Obj} {m g base base':Nat} {l:List Nat} {E E':Env} {bud bud':Int} (h:SS W m g l E' bud' base' wc) (hW:W=w.alloc o) (h0:LS w m g l E bud base):wc.heap[w.heap.size]?=some o:=by
 subst hW;have hm:m<w.heap.size:=q_1 h0.mb h0.bs;have hg:=h0.gb;have hlw:lb (w.alloc o) m=lb w m:=z2f (q_6 (((q_i _ w).alloc (q_2 _) o).block m hm));refine (h.chg.block w.heap.size (by simp) (by omega) (by omega) (fun e=>?_)).trans (q_4 w o);rw [hlw] at e;have:=(h0.lbl _ e).2;omega
theorem z2m {w W wc w9:World} {o:Obj} {m g base d:Nat} {l:List Nat} {E E':Env} {bud bud':Int} {x:St} {v:Value} (h:SS W m g l E' bud' base wc) (hW:W=w.alloc o) (h0:LS w m g l E bud base) (hl:E.Like E') (hb0:0<=bud') (hbb:bud'<=bud) (hln:(E'.locals.length:Int)+bud'<=1000)
  (hg:wc.grownBy w9 (some w.heap.size)) (hgs:GSc E E' (d+1) x) (hcnt:(cntS (d+1) x:Int)<=11+11 * (bud - bud')) (hx:StV (Made m W wc) wc 3 (d+1) x v):z1g m g l E bud base d w (.returned v) w9:=by
 subst hW;have hsz:(w.alloc o).heap.size=w.heap.size+1:=by simp
 have hm:m<w.heap.size:=q_1 h0.mb h0.bs;have hba:=(q_i _ w).alloc (q_2 _) o;have hlw:lb (w.alloc o) m=lb w m:=z2f (q_6 (hba.block m hm));have hne:lb wc m≠some w.heap.size:=by
  rcases h.chg.lbs with e | ⟨q,e,hq⟩
  ·rw [e,hlw];intro e2;have:=(h0.lbl _ e2).2;omega
  ·rw [e];intro e2;injection e2 with e2;omega
 have hc1:Chg m g w wc:=(h0.below hba).2.trans h.chg;have hc:=hc1.far hg (fun b e=>by injection e with e; omega) hm;have hwc:=h.chg.size;have hlw9:lb w9 m=lb wc m:=z2f (q_6 (hg.block m (by omega) (fun e=>by injection e with e; omega)));refine ⟨E',bud',x,v,rfl,hl,h.ls.far hg (fun b e=>by injection e with e; subst e; exact ⟨h0.bs,hne⟩),hb0,hbb,hln,hc,hgs,hcnt,hx.keep (fun b hb=>⟨?_,q_1 hb.2.1 hg.size,by rw [hlw9]; exact hb.2.2⟩) (fun b hb=>hg.block b hb.2.1 (fun e=>?_))⟩
 ·injection e with e;have:=hb.1;omega
 ·have:=hb.1;omega
theorem z0X {F:Nat->Prop} {w:World} {D d:Nat}:RowS F w D d [] none 0:=⟨q_2 _,fun i x h=>by simp at h⟩
theorem z74 {d:Nat} {x:Ex} {k:Int} {s:Zb} (hx:GE 2 x) (hk:((k=1\/k=2)/\z0B s)\/((k=6\/k=7\/k=8)/\s.size=0)):GSt (d+1) (.mk k 0 s [x] [] []) :=
 ⟨rfl,by simpa using hx,by simp,by simp,by
  rcases hk with ⟨h1 | h1,h2⟩ | ⟨h1,h2⟩
  ·exact .inl ⟨h1,h2,rfl,rfl,rfl⟩
  ·exact .inr (.inl ⟨h1,h2,rfl,rfl,rfl⟩)
  ·exact .inr (.inr (.inr (.inr (.inr ⟨h1,h2,rfl,rfl,rfl⟩))))⟩
theorem z8T {E:Env} {d:Nat} {x:Ex} {k:Int} {s:Zb} (hx:GX E 2 x) (hk:(k=2/\z0B s/\z2K E s)\/((k=6\/k=7\/k=8)/\s.size=0)):GSc E E (d+1) (.mk k 0 s [x] [] []) :=
 ⟨z74 hx.1 (hk.imp (fun h=>⟨.inr h.1,h.2.1⟩) id),z42 (by simpa using hx.2),⟨fun e=>by omega,fun e=>by
  rcases hk with h | h
  ·exact h.2.2
  ·omega,fun e=>by omega⟩,_,rfl,by
  have:¬ k=1:=by omega
  rw [if_neg this];rfl⟩
theorem z8U {E:Env} {d:Nat} {x:Ex} {s:Zb} (hx:GX E 2 x) (hs:z0B s/\s∈z0E/\s ∉ E.locals):GSc E { E with locals:=E.locals++[s] } (d+1) (.mk 1 0 s [x] [] []) :=
 ⟨z74 hx.1 (.inl ⟨.inl rfl,hs.1⟩),z42 (by simpa using hx.2),⟨fun _=>hs.2,by simp,by simp⟩,_,rfl,rfl⟩
theorem zaK {E:Env} {d:Nat} {x y:Ex} {s:Zb} (hx:GX E 2 x) (hy:GX E 2 y) (hs:z0B s/\IsGl E true s):GSc E E (d+1) (.mk 3 0 s [x,y] [] []) :=
 ⟨⟨rfl,by simpa using ⟨hx.1,hy.1⟩,by simp,by simp,.inr (.inr (.inl ⟨rfl,hs.1,rfl,rfl,rfl⟩))⟩,z42 (by simpa using ⟨hx.2,hy.2⟩),⟨by simp,by simp,fun _=>hs.2⟩,_,rfl,rfl⟩
theorem z73 {E E1 E2:Env} {d:Nat} {x:Ex} {ts us:List St} (hl:E.Like E1) (hx:GX E 2 x) (ht:GBc E E1 d ts) (hu:GBc E1 E2 d us):GSc E E2 (d+1) (.mk 4 0 ⟨#[]⟩ [x] ts us) :=
 ⟨⟨rfl,by simpa using hx.1,ht.1,hu.1,.inr (.inr (.inr (.inl ⟨rfl,rfl,rfl⟩)))⟩,z42 (by simpa using hx.2),⟨by simp,by simp,by simp⟩,E1.locals,ht.2,by have:=hu.2; rwa [hl.globs,hl.funs] at this⟩
theorem z3Y {E E1:Env} {d:Nat} {x:Ex} {ts:List St} (hx:GX E 2 x) (ht:GBc E E1 d ts):GSc E E1 (d+1) (.mk 5 0 ⟨#[]⟩ [x] ts []) :=
 ⟨⟨rfl,by simpa using hx.1,ht.1,by simp,.inr (.inr (.inr (.inr (.inl ⟨rfl,rfl,rfl,rfl⟩))))⟩,z42 (by simpa using hx.2),⟨by simp,by simp,by simp⟩,E1.locals,ht.2,rfl⟩
theorem z5m {F:Nat->Prop} {w:World} {d:Nat} {x:Ex} {k:Int} {s:Zb} {A:Option Addr} (hr:RowE F w 3 [x] A 1):StV F w 3 (d+1) (.mk k 0 s [x] [] []) (.agg #[.int .i64 k,.int .i64 0,.string s,.slice A 1 1,.slice none 0 0,.slice none 0 0]) :=
 ⟨A,1,none,0,none,0,rfl,hr,z0X,z0X⟩
theorem z1y {w W wc w9:World} {o:Obj} {m g base d:Nat} {l:List Nat} {E:Env} {bud:Int} {x:Ex} {k:Int} {s:Zb} {A:Option Addr} (h:SS W m g l E bud base wc) (hW:W=w.alloc o) (h0:LS w m g l E bud base) (hE:z1s E) (hb0:0<=bud) (hln:(E.locals.length:Int)+1+bud<=1000)
  (hg:wc.grownBy w9 (some w.heap.size)) (hx:GX E 2 x) (hk:(k=2/\z0B s/\z2K E s)\/((k=6\/k=7\/k=8)/\s.size=0)) (hr:RowE (Made m W wc) wc 3 [x] A 1) :
  z1g m g l E bud base d w (.returned (.agg #[.int .i64 k,.int .i64 0,.string s,.slice A 1 1,.slice none 0 0,.slice none 0 0])) w9 :=
 z2m h hW h0 (Env.Like.refl hE) hb0 (Int.le_refl _) (by omega) hg (z8T hx hk) z4Q (z5m hr)
def BlS (W:World) (m g:Nat) (l:List Nat) (E:Env) (bud:Int) (base d:Nat) (wc:World) (e:Ending) (w2:World):Prop :=
 ∃ E' bud' ts A c,e=.returned (.slice A ts.length c)/\E.Like E'/\SS W m g l E' bud' base w2/\0<=bud'/\bud'<=bud/\(E'.locals.length:Int)+bud'<=1000/\Chg m g wc w2/\GBc E E' (d+1) ts/\((ts.map (cntS (d+1))).sum:Int)<=11 * (bud - bud')/\RowS (Made m wc w2) w2 3 (d+1) ts A c/\ts.length<=10/\∃ L,z21 m wc.heap.size 3 (d+1) w2 (.slice A ts.length c) ts L
theorem z2k {W wc:World} {m g base d:Nat} {l:List Nat} {E:Env} {bud:Int} (hB:z3R m g l base d) (h:SS W m g l E bud base wc) (hE:z1s E) (z nz:Int) (n:Nat) (hz:z=(d:Int)) (hnz:nz=(n:Int)) (hn:n<=10) (hb0:0<=bud) (hln:(E.locals.length:Int)+bud<=1000) :
  Calls Tryz.prog 33 #[.pointer (some ⟨m,0,none⟩),.int .i64 z,.int .i64 nz] wc (BlS W m g l E bud base d wc):=by
 subst hnz;exact (hB E bud wc z n hz hn hE h.ls hb0 hln).mono fun e w2 ⟨E',bud',ts,A,c,he,h1,h2,h3,h4,h5,h6,h7,h8,h10,L,h9⟩=>⟨E',bud',ts,A,c,he,h1,⟨h2,h.chg.trans h6,h.bw⟩,h3,h4,h5,h6,h7,h8,h9.row.2,h10,L,h9⟩
structure IfSt (W:World) (m g:Nat) (l:List Nat) (E:Env) (bud:Int) (base q:Nat) (row:Array Value) (wc:World):Prop where
 ss:SS W m g l E bud base wc
 row:wc.heap[q]?=some (.cells row 121 (0,0))
 qW:W.heap.size<=q
 qlb:lb wc m≠some q
def Mad (m:Nat) (W:World) (q:Nat) (wc:World) (b:Nat):Prop:=Made m W wc b/\b≠q
theorem IfSt.lt {W wc:World} {m g base q:Nat} {l:List Nat} {E:Env} {bud:Int} {row:Array Value} (h:IfSt W m g l E bud base q row wc):q<wc.heap.size:=(q_0.1 h.row).1
theorem IfSt.step {W wc w2:World} {m g base q:Nat} {l:List Nat} {E E':Env} {bud bud':Int} {row:Array Value} (h:IfSt W m g l E bud base q row wc) (hs:SS W m g l E' bud' base w2) (hc:Chg m g wc w2):IfSt W m g l E' bud' base q row w2:=by
 have h1:=h.qW;have h2:=h.ss.mW;have h3:=h.ss.gW;exact ⟨hs,(hc.block q h.lt (by omega) (by omega) h.qlb).trans h.row,h1,z79 hc h.lt h.qlb⟩
theorem IfSt.set {W wc:World} {m g base q:Nat} {l:List Nat} {E:Env} {bud:Int} {row:Array Value} (h:IfSt W m g l E bud base q row wc) (i:Nat) (v:Value):IfSt W m g l E bud base q (row.setIfInBounds i v) (wc.setCell ⟨q,i,none⟩ v):=by
 have h1:=h.qW;have h2:=h.ss.mW;have h3:=h.ss.bw;have h4:=h.ss.chg.size;have hg:=z03 wc ⟨q,i,none⟩ v;have hl:lb (wc.setCell ⟨q,i,none⟩ v) m=lb wc m:=z2f (q_6 (hg.block m (by omega) (fun e=>absurd (show m=q by injection e) (by omega))));exact ⟨⟨h.ss.ls.far hg (fun b e=>(show q=b by injection e) ▸ ⟨by omega,h.qlb⟩),h.ss.chg.far hg (fun b e=>(show q=b by injection e) ▸ h1) h2,h3⟩,z0a v h.row,h1,by rw [hl]; exact h.qlb⟩
theorem z0c {W wc w2:World} {m g base q:Nat} {l:List Nat} {E:Env} {bud:Int} (h:SS W m g l E bud base wc) (hc:Chg m g wc w2):∀ b,Mad m W q wc b->Mad m W q w2 b/\w2.heap[b]?=wc.heap[b]?:=fun b hb =>
 ⟨⟨(z19 hc h.mW h.gW b hb.1).1,hb.2⟩,(z19 hc h.mW h.gW b hb.1).2⟩
theorem z0t {W wc:World} {m g base q:Nat} {l:List Nat} {E:Env} {bud:Int} {row:Array Value} (h:IfSt W m g l E bud base q row wc) (i:Nat) (v:Value):∀ b,Mad m W q wc b->Mad m W q (wc.setCell ⟨q,i,none⟩ v) b/\(wc.setCell ⟨q,i,none⟩ v).heap[b]?=wc.heap[b]?:=by
 intro b hb;have h1:=h.qW;have h2:=h.ss.mW;have h4:=h.ss.chg.size;have hg:=z03 wc ⟨q,i,none⟩ v;have hl:lb (wc.setCell ⟨q,i,none⟩ v) m=lb wc m:=z2f (q_6 (hg.block m (by omega) (fun e=>absurd (show m=q by injection e) (by omega))));exact ⟨⟨⟨hb.1.1,q_1 hb.1.2.1 hg.size,by rw [hl]; exact hb.1.2.2⟩,hb.2⟩,hg.block b hb.1.2.1 (fun e=>hb.2 (by injection e))⟩
theorem IfSt.make {W wc w2:World} {m g base:Nat} {l:List Nat} {E:Env} {bud:Int} {row:Array Value} {o:Obj} (h:SS W m g l E bud base wc) (hg:(wc.alloc o).grownBy w2 (some wc.heap.size)) (hr:w2.heap[wc.heap.size]?=some (.cells row 121 (0,0))) :
  IfSt W m g l E bud base wc.heap.size row w2/\Chg m g wc w2/\∀ b,Made m W wc b->Mad m W wc.heap.size w2 b/\w2.heap[b]?=wc.heap[b]?:=by
 have hb:Below wc.heap.size wc w2:=((q_i _ wc).alloc (q_2 _) o).trans (z05 hg (fun k hk=>by injection hk with hk; omega) (by simp));obtain ⟨hs,hc⟩:=h.below hb;have hm:=q_1 h.mW h.chg.size;have hl:lb w2 m=lb wc m:=z2f (q_6 (hb.block m hm));refine ⟨⟨hs,hr,h.chg.size,fun e=>?_⟩,hc,fun b hb=>⟨⟨(z19 hc h.mW h.gW b hb).1,fun e=>?_⟩,(z19 hc h.mW h.gW b hb).2⟩⟩
 ·rw [hl] at e;have:=(h.ls.lbl _ e).2;omega
 ·have:=hb.2.1;omega
end Go.Proofs.YtdflbhofmmlpgaaGreat
