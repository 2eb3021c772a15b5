/-
  Kj: PtM, PtV, PtA, PtG. Walks and laws that the statement's proof is made of. No condition of its own.
-/
import Derived.Test.YtdplfnemedckaaaGreatDoorKd
import Derived.Test.YtdplfnemedckaaaGreatDoorKb
import Derived.Test.YtdplfnemedckaaaGreatDoorKi
import Derived.Test.YtdplfnemedckaaaGreatDoorKf
namespace Go.Proofs.YtdplfnemedckaaaGreatDoor
open Go.RowKit
def z1r (E:P1):P1:=fun s =>
 match E s with
 | none=>none
 | some (x,s1)=>some (x,z09 [59] s1)
abbrev PS1:=PS→Option (St × PS)
abbrev PSL:=PS→Option (List St × PS)
def z2H (S:PS1):Nat→List St→PSL
 | 0,_,_=>none
 | n+1,l,s =>
  if z0c [[125]] s then some (l,popP s)
  else if s.ref≠0 then some (l,s)
  else
   match S s with
   | none=>none
   | some (t,s1)=>z2H S n (l++[t]) s1
def z1D (S:PS1):PSL:=fun s=>z2H S ((z09 [123] s).rest.length+1) [] (z09 [123] s)
def wVar:z03:=[118,97,114]
def wIf:z03:=[105,102]
def z2J:z03:=[101,108,115,101]
def z2q:z03:=[119,104,105,108,101]
def z2j:z03:=[114,101,116,117,114,110]
def z3n:z03:=[112,114,105,110,116]
def z5f:z03:=[99,97,108,108]
def oneP (k line:Int) (nm:ByteArray) (V:P1) (s:PS):Option (St × PS) :=
 match V s with
 | none=>none
 | some (x,s1)=>some (.mk k line nm [x] [] [],s1)
def z1H (B:PSL) (E:P1) (s:PS):Option (Ex × List St × PS) :=
 match E s with
 | none=>none
 | some (x,s1) =>
  match B s1 with
  | none=>none
  | some (t,s2)=>some (x,t,s2)
def z2O (E:P1) (line:Int):PS1:=fun s =>
 if z0c [[91]] (z07 1 s).2 then
  match E (popP (z07 1 s).2) with
  | none=>none
  | some (x,s1) =>
   match z1r E (z09 [61] (z09 [93] s1)) with
   | none=>none
   | some (y,s2)=>some (.mk 3 line (nmB (z07 1 s).1.text) [x,y] [] [],s2)
 else oneP 2 line (nmB (z07 1 s).1.text) (z1r E) (z09 [61] (z07 1 s).2)
def z4k (B:PSL) (E:P1):PS1:=fun s =>
 if z0c [wVar] s then oneP 1 ((hdT s).line:Int) (nmB (z07 1 (popP s)).1.text) (z1r E) (z09 [61] (z07 1 (popP s)).2)
 else if z0c [wIf] s then
  match z1H B E (popP s) with
  | none=>none
  | some (x,t,s2) =>
   if z0c [z2J] s2 then
    match B (popP s2) with
    | none=>none
    | some (u,s3)=>some (.mk 4 ((hdT s).line:Int) ⟨#[]⟩ [x] t u,s3)
   else some (.mk 4 ((hdT s).line:Int) ⟨#[]⟩ [x] t [],s2)
 else if z0c [z2q] s then
  match z1H B E (popP s) with
  | none=>none
  | some (x,t,s2)=>some (.mk 5 ((hdT s).line:Int) ⟨#[]⟩ [x] t [],s2)
 else if z0c [z2j] s then oneP 6 ((hdT s).line:Int) ⟨#[]⟩ (z1r E) (popP s)
 else if z0c [z3n] s then oneP 7 ((hdT s).line:Int) ⟨#[]⟩ (z1r E) (popP s)
 else if z0c [z5f] s then oneP 8 ((hdT s).line:Int) ⟨#[]⟩ (z1r E) (popP s)
 else z2O E ((hdT s).line:Int) s
def z3b:P1:=fun s=>z1a s.rest.length s
def z2A:Nat→PS1
 | 0=>fun _=>none
 | d+1=>z4k (z1D (z2A d)) z3b
def z1f:Nat→List ByteArray→PS→Option (List ByteArray × PS)
 | 0,_,_=>none
 | n+1,l,s=>if z0c [[44]] s then z1f n (l++[nmB (z07 1 (popP s)).1.text]) (z07 1 (popP s)).2 else some (l,s)
def z2i (s:PS):Option (List ByteArray × PS) :=
 if z0c [[41]] s then some ([],popP s)
 else
  match z1f (s.rest.length+1) [nmB (z07 1 s).1.text] (z07 1 s).2 with
  | none=>none
  | some (ps,s1)=>some (ps,z09 [41] s1)
def z4m:z03:=[102,117,110,99]
def z0I:z03:=[103,108,111,98,97,108]
def z1b (B:PSL) (s:PS):Option (Fn × PS) :=
 match z2i (z09 [40] (z07 1 (z09 z4m s)).2) with
 | none=>none
 | some (ps,s1) =>
  match B s1 with
  | none=>none
  | some (b,s2)=>some (⟨nmB (z07 1 (z09 z4m s)).1.text,((hdT s).line:Int),ps,b⟩,s2)
def outP (t:Tok) (s:PS):PS:=if s.out=0∧(t.value<1∨1024<t.value) then { s with out:=t.line } else s
def z3w (s:PS):Int × PS:=(((z07 2 s).1.value:Int),outP (z07 2 s).1 (z07 2 s).2)
def z1l (s:PS):(ByteArray × Int) × PS :=
 if z0c [[91]] (z07 1 (z09 z0I s)).2 then
  ((nmB (z07 1 (z09 z0I s)).1.text,(z3w (popP (z07 1 (z09 z0I s)).2)).1),z09 [59] (z09 [93] (z3w (popP (z07 1 (z09 z0I s)).2)).2))
 else ((nmB (z07 1 (z09 z0I s)).1.text,0),z09 [59] (z07 1 (z09 z0I s)).2)
def z0P (B:PSL):Nat→List (ByteArray × Int)→List Fn→PS→Option (List (ByteArray × Int) × List Fn × PS)
 | 0,_,_,_=>none
 | n+1,gl,fl,s =>
  if (hdT s).kind=0 then some (gl,fl,s)
  else if z0c [z0I] s then z0P B n (gl++[(z1l s).1]) fl (z1l s).2
  else
   match z1b B s with
   | none=>none
   | some (f,s1)=>z0P B n gl (fl++[f]) s1
end Go.Proofs.YtdplfnemedckaaaGreatDoor
namespace Go.Proofs.YtdplfnemedckaaaGreatDoor
open Go.RowKit
structure SW (w0:World) (p tb sb:Nat) (zo:Obj) (k l:Int) (t:ByteArray) (s:PS) (xs:List Ex) (W:World):Prop where
 pa:PA W p tb s
 gr:w0.grownBy W (some p)
 z:W.heap[w0.heap.size]?=some zo
 lo:p<w0.heap.size∧tb<w0.heap.size∧w0.heap.size<sb
 row:∃ A n c d L,W.heap[sb]?=some (.cells #[.int .i64 k,.int .i64 l,.string t,.slice A n c,.slice none 0 0,.slice none 0 0] 84 (0,0))∧ArgG 0 0 (sb+1) d W (.slice A n c) xs L
theorem SW.slt {w0 W:World} {p tb sb:Nat} {zo:Obj} {k l:Int} {t:ByteArray} {s:PS} {xs:List Ex} (h:SW w0 p tb sb zo k l t s xs W):sb<W.heap.size:=by
 obtain ⟨A,n,c,d,L,hr,_⟩:=h.row
 exact (Array.getElem?_eq_some_iff.1 hr).1
theorem SW.step {w0 W W2:World} {p tb sb:Nat} {zo:Obj} {k l:Int} {t:ByteArray} {s s2:PS} {xs:List Ex} (h:SW w0 p tb sb zo k l t s xs W) (hg:W.grownBy W2 (some p)) (hp:PA W2 p tb s2):SW w0 p tb sb zo k l t s2 xs W2:=by
 obtain ⟨h1,h2,h3⟩:=h.lo
 obtain ⟨A,n,c,d,L,hr,ha⟩:=h.row
 exact ⟨hp,h.gr.trans hg,z04 hg (by omega) h.z,h.lo,⟨A,n,c,d,L,z04 hg (by omega) hr,ha.grown hg (by omega) (by omega)⟩⟩
theorem SW.below {w0 W W2:World} {p tb sb:Nat} {zo:Obj} {k l:Int} {t:ByteArray} {s:PS} {xs:List Ex} (h:SW w0 p tb sb zo k l t s xs W) (hb:Below W.heap.size W W2):SW w0 p tb sb zo k l t s xs W2:=h.step (z01 hb _) (h.pa.below hb)
theorem SW.kind {w0 W:World} {p tb sb:Nat} {zo:Obj} {k l:Int} {t:ByteArray} {s:PS} {xs:List Ex} (h:SW w0 p tb sb zo k l t s xs W) (k':Int):SW w0 p tb sb zo k' l t s xs (W.setCell ⟨sb,0,none⟩ (.int .i64 k')):=by
 obtain ⟨h1,h2,h3⟩:=h.lo
 obtain ⟨A,n,c,d,L,hr,ha⟩:=h.row
 have hg:W.grownBy (W.setCell ⟨sb,0,none⟩ (.int .i64 k')) (some sb):=z06 W ⟨sb,0,none⟩ (.int .i64 k')
 exact ⟨h.pa.other hg (by omega) (by omega),z0g h.gr hg (by omega),z04 hg (by omega) h.z,h.lo,⟨A,n,c,d,L,z0f (i:=0) _ hr,ha.grown hg (by omega) (by omega)⟩⟩
theorem SW.name {w0 W:World} {p tb sb:Nat} {zo:Obj} {k l:Int} {t:ByteArray} {s:PS} {xs:List Ex} (h:SW w0 p tb sb zo k l t s xs W) (t':ByteArray):SW w0 p tb sb zo k l t' s xs (W.setCell ⟨sb,2,none⟩ (.string t')):=by
 obtain ⟨h1,h2,h3⟩:=h.lo
 obtain ⟨A,n,c,d,L,hr,ha⟩:=h.row
 have hg:W.grownBy (W.setCell ⟨sb,2,none⟩ (.string t')) (some sb):=z06 W ⟨sb,2,none⟩ (.string t')
 exact ⟨h.pa.other hg (by omega) (by omega),z0g h.gr hg (by omega),z04 hg (by omega) h.z,h.lo,⟨A,n,c,d,L,z0f (i:=2) _ hr,ha.grown hg (by omega) (by omega)⟩⟩
theorem SW.push {w0 W w6 w7:World} {p tb sb g cap n c d:Nat} {zo:Obj} {k l:Int} {t:ByteArray} {s:PS} {xs:List Ex} {y:Ex} {A:Option Addr} {L L2:List Value} (h:SW w0 p tb sb zo k l t s xs W)
  (hr:W.heap[sb]?=some (.cells #[.int .i64 k,.int .i64 l,.string t,.slice A n c,.slice none 0 0,.slice none 0 0] 84 (0,0))) (hown:ArgG 0 0 (sb+1) d W (.slice A n c) xs L) (hg:W.grownBy w6 (Value.slice A n c).ownBlock)
  (hg7:w6.grownBy w7 (some g)) (hgb:sb+1≤g) (ha:ArgG 0 0 (sb+1) d w7 (.slice (some ⟨g,0,none⟩) (xs.length+1) cap) (xs++[y]) L2) :
  SW w0 p tb sb zo k l t s (xs++[y]) (w7.setCell ⟨sb,3,none⟩ (.slice (some ⟨g,0,none⟩) (xs.length+1) cap)):=by
 obtain ⟨h1,h2,h3⟩:=h.lo
 have hge:∀ b,(Value.slice A n c).ownBlock=some b→sb+1≤b:=fun b e=>(hown.own.lt b e).1
 have hne:∀ b,b<sb+1→some b≠(Value.slice A n c).ownBlock:=fun b hb e=>by have:=hge b e.symm; omega
 have hsz:=h.gr.size
 have hgs:w7.grownBy (w7.setCell ⟨sb,3,none⟩ (.slice (some ⟨g,0,none⟩) (xs.length+1) cap)) (some sb):=z06 w7 ⟨sb,3,none⟩ (.slice (some ⟨g,0,none⟩) (xs.length+1) cap)
 have hk:∀ b,b<sb+1→b<W.heap.size→w7.heap[b]?=W.heap[b]?:=fun b hb hbw=>(hg7.block b (Nat.lt_of_lt_of_le hbw hg.size) (fun e=>by injection e with e; omega)).trans (hg.block b hbw (hne b hb))
 have hlt:=h.slt
 have hr7:=(hk sb (by omega) hlt).trans hr
 refine ⟨(h.pa.keep (hk p (by omega) h.pa.lt.1) (hk tb (by omega) h.pa.lt.2.1)).other hgs (by omega) (by omega),?_,?_,h.lo,⟨_,_,_,d,L2,z0f (i:=3) _ hr7,ha.grown hgs (by omega) (by omega)⟩⟩
 ·have hb6:Below w0.heap.size W w6:=z0b hg (fun b e=>by have:=hge b e; omega) hsz
  exact z0g (z0g (z17 h.gr hb6 (Nat.le_refl _)) hg7 (by omega)) hgs (by omega)
 ·exact z04 hgs (by omega) ((hk _ (by omega) (by omega)).trans h.z)
theorem SW.last {w0 w7 W:World} {p tb sb g cap d n:Nat} {zo:Obj} {k l:Int} {t:ByteArray} {s:PS} {xs ys:List Ex} {L:List Value} (h:SW w0 p tb sb zo k l t s xs w7) (hr:w7.heap[sb]?=some (.cells #[.int .i64 k,.int .i64 l,.string t,.slice (some ⟨g,0,none⟩) n cap,.slice none 0 0,.slice none 0 0] 84 (0,0)))
  (hg:w7.grownBy W (some g)) (hgb:sb+1≤g) (ha:ArgG 0 0 (sb+1) d W (.slice (some ⟨g,0,none⟩) n cap) ys L):SW w0 p tb sb zo k l t s ys W:=by
 obtain ⟨h1,h2,h3⟩:=h.lo
 exact ⟨h.pa.other hg (by omega) (by omega),z0g h.gr hg (by omega),z04 hg (by omega) h.z,h.lo,⟨_,_,_,d,L,z04 hg (by omega) hr,ha⟩⟩
theorem SW.after {w0 W w2:World} {p tb sb n c d b5:Nat} {zo:Obj} {k l:Int} {t:ByteArray} {s s':PS} {xs:List Ex} {y:Ex} {A:Option Addr} {L:List Value} (h:SW w0 p tb sb zo k l t s xs W)
  (hr:W.heap[sb]?=some (.cells #[.int .i64 k,.int .i64 l,.string t,.slice A n c,.slice none 0 0,.slice none 0 0] 84 (0,0))) (ha:ArgG 0 0 (sb+1) d W (.slice A n c) xs L) (hx:XAt W.heap.size w2 b5 y) (hp:PA w2 p tb s') (hg:W.grownBy w2 (some p)) :
  ∃ dy ky oy ay ly sy Ay ny cy,w2.heap[b5]?=some (.cells #[.int .i64 ky,.int .i64 oy,.int .i64 ay,.int .i64 ly,.string sy,.slice Ay ny cy] 39 (0,0))∧SW w0 p tb sb zo k l t s' xs w2∧w2.heap[sb]?=some (.cells #[.int .i64 k,.int .i64 l,.string t,.slice A n c,.slice none 0 0,.slice none 0 0] 84 (0,0))∧ArgG 0 0 (sb+1) (d+dy) w2 (.slice A n c) xs L ∧
   ExV (fun b=>W.heap.size≤b∧b<w2.heap.size) w2 (d+dy) y (.agg #[.int .i64 ky,.int .i64 oy,.int .i64 ay,.int .i64 ly,.string sy,.slice Ay ny cy])∧(∀ b,(W.heap.size≤b∧b<w2.heap.size)→(0≤b∧b<0∨sb+1≤b)∧b<w2.heap.size∧(Value.slice A n c).ownBlock≠some b)∧sb+1≤w2.heap.size:=by
 obtain ⟨h1,h2,h3⟩:=h.lo
 have hlt:=h.slt
 obtain ⟨_,dy,ky,oy,ay,ly,sy,Ay,ny,cy,rx,vx⟩:=hx
 have hsz:=hg.size
 refine ⟨dy,ky,oy,ay,ly,sy,Ay,ny,cy,rx,h.step hg hp,z04 hg (by omega) hr,(ha.grown hg (by omega) (by omega)).mono dy,by rw [Nat.add_comm]; exact vx.mono d,fun b hb=>⟨.inr (by omega),hb.2,fun e=>by have:=(ha.own.lt b e).2; omega⟩,by omega⟩
def VaG (w0:World) (p tb sb:Nat) (zo:Obj) (k l:Int) (t:ByteArray) (s:PS) (xs:List Ex) (n:Nat) (e:Ending) (W:World):Prop:=(∃ v,e=.returned v)∧SW w0 p tb sb zo k l t s xs W∧s.rest.length≤n
def SvO (sb:Nat) (v:Value) (w':World):Prop:=w'.cell? ⟨sb,3,none⟩=some v
def SvB (b5:Nat) (c0 c1 c2 c3 c4 c5:Value) (w':World):Prop:=w'.cell? ⟨b5,0,none⟩=some c0∧w'.cell? ⟨b5,1,none⟩=some c1∧w'.cell? ⟨b5,2,none⟩=some c2∧w'.cell? ⟨b5,3,none⟩=some c3∧w'.cell? ⟨b5,4,none⟩=some c4∧w'.cell? ⟨b5,5,none⟩=some c5
theorem SvB.below {w w':World} {b5:Nat} {c0 c1 c2 c3 c4 c5:Value} (h:SvB b5 c0 c1 c2 c3 c4 c5 w) (hb:Below w.heap.size w w'):SvB b5 c0 c1 c2 c3 c4 c5 w' :=
 ⟨hold hb h.1,hold hb h.2.1,hold hb h.2.2.1,hold hb h.2.2.2.1,hold hb h.2.2.2.2.1,hold hb h.2.2.2.2.2⟩
theorem SvB.grown {w w':World} {b5 g:Nat} {c0 c1 c2 c3 c4 c5:Value} (h:SvB b5 c0 c1 c2 c3 c4 c5 w) (hg:w.grownBy w' (some g)) (h3:b5≠g):SvB b5 c0 c1 c2 c3 c4 c5 w' :=
 ⟨z08 hg h3 h.1,z08 hg h3 h.2.1,z08 hg h3 h.2.2.1,z08 hg h3 h.2.2.2.1,z08 hg h3 h.2.2.2.2.1,z08 hg h3 h.2.2.2.2.2⟩
theorem SvB.of_row {w:World} {b5:Nat} {c0 c1 c2 c3 c4 c5:Value} {T:TypeId} (hr:w.heap[b5]?=some (.cells #[c0,c1,c2,c3,c4,c5] T (0,0))):SvB b5 c0 c1 c2 c3 c4 c5 w :=
 ⟨cell_of_row _ _ 0 _ _ _ hr,cell_of_row _ _ 1 _ _ _ hr,cell_of_row _ _ 2 _ _ _ hr,cell_of_row _ _ 3 _ _ _ hr,cell_of_row _ _ 4 _ _ _ hr,cell_of_row _ _ 5 _ _ _ hr⟩
def zEx:Obj:=.cells #[.int .i64 0,.int .i64 0,.int .i64 0,.int .i64 0,.string ⟨#[]⟩,.slice none 0 0] 39
set_option linter.unusedSimpArgs false in
set_option maxRecDepth 100000 in
set_option maxHeartbeats 1000000 in
theorem z2I (E:P1) (he:z1K 132 E) {w0:World} {p tb sb:Nat} {zo:Obj} {k l:Int} {t:ByteArray} {s s':PS} {xs:List Ex} {y:Ex} (W:World) (h:SW w0 p tb sb zo k l t s xs W) (hV:z1r E s=some (y,s')) (hfew:xs.length≤1) :
  Calls Tryz.prog 116 #[.pointer (some ⟨p,0,none⟩),.pointer (some ⟨sb,0,none⟩)] W (VaG w0 p tb sb zo k l t s' (xs++[y]) s.rest.length):=by
 obtain ⟨s1,hE,rfl⟩:∃ s1,E s=some (y,s1)∧s'=z09 [59] s1:=by
  unfold z1r at hV
  cases hq:E s with
  | none=>rw [hq] at hV; cases hV
  | some q =>
   obtain ⟨y',s1⟩:=q
   rw [hq] at hV
   injection hV with hV
   injection hV with e1 e2
   subst e1
   exact ⟨s1,rfl,e2.symm⟩
 have HCS:=zhi h
 have HE:=zhi hE
 have HS:=zhi he
 clear h hE he hV
 go_enter Tryz.func116,Tryz.ntmps116
 go_upto_region 0 with fail
 have hcs:=HCS.out.below ((Below.refl _ W).drew)
 have HC:=zhi (HS.out p tb s s1 y W.drew hcs.pa HE.out)
 obtain ⟨A,n,c,d,L,hr,ha⟩:=hcs.row
 obtain rfl:n=xs.length:=ha.row.1
 have hO0:SvO sb (.slice A xs.length c) W.drew:=cell_of_row _ _ 3 _ _ _ hr
 have HCS1:=zhi hcs
 have HR:=zhi hr
 have HAR:=zhi ha
 clear hcs hr ha
 refine GoT.region (S:=fun _=>True) (T:=SvO sb (.slice A xs.length c)) (z:=15) (by kernel_rfl) trivial hO0 (fun _=>?_)
 simp only [List.size_toArray,List.length_cons,List.length_nil,Nat.zero_add,Nat.reduceAdd]
 refine GoT.take (i:=0) (v:=?_) rfl rfl (by decide +kernel) (by kernel_rfl) (by decide +kernel) (by decide +kernel) (fun _ _ _ h=>h) (Or.inl ⟨by rfl,?_⟩) ⟨by (first | with_reducible assumption | trivial),(by first | exact .inr (by with_reducible assumption) | exact .inl (by decide +kernel))⟩ ?_
 rotate_left
 ·intro w hSw
  (try unfold SvB at hSw)
  go_simp
  (try rw [if_pos (by omega)])
  (try with_reducible rfl)
 try simp only [List.getElem_toArray,List.getElem_cons_zero,List.getElem_cons_succ,Act.put,List.setIfInBounds_toArray,List.set_cons_zero,List.set_cons_succ]
 refine GoT.take (i:=1) (v:=?_) rfl rfl (by decide +kernel) (by kernel_rfl) (by decide +kernel) (by decide +kernel) (fun _ _ _ h=>h) (Or.inl ⟨by rfl,?_⟩) ⟨by (first | with_reducible assumption | trivial),(by first | exact .inr (by with_reducible assumption) | exact .inl (by decide +kernel))⟩ ?_
 rotate_left
 ·intro w hSw
  (try unfold SvB at hSw)
  go_simp
  (try rw [if_pos (by omega)])
  (try with_reducible rfl)
 try simp only [List.getElem_toArray,List.getElem_cons_zero,List.getElem_cons_succ,Act.put,List.setIfInBounds_toArray,List.set_cons_zero,List.set_cons_succ]
 refine GoT.take (i:=2) (v:=?_) rfl rfl (by decide +kernel) (by kernel_rfl) (by decide +kernel) (by decide +kernel) (fun _ _ _ h=>h) (Or.inl ⟨by rfl,?_⟩) ⟨by (first | with_reducible assumption | trivial),(by first | exact .inr (by with_reducible assumption) | exact .inl (by decide +kernel))⟩ ?_
 rotate_left
 ·intro w hSw
  (try unfold SvB at hSw)
  go_simp
  (try rw [if_pos (by omega)])
  (try with_reducible rfl)
 try simp only [List.getElem_toArray,List.getElem_cons_zero,List.getElem_cons_succ,Act.put,List.setIfInBounds_toArray,List.set_cons_zero,List.set_cons_succ]
 refine GoT.takeT (i:=3) (v:=?_) rfl rfl (by decide +kernel) (by kernel_rfl) (by decide +kernel) (by decide +kernel) (fun _ _ _ h=>h) (Or.inl ⟨by rfl,?_⟩) ⟨by (first | with_reducible assumption | trivial),.inr (by with_reducible assumption)⟩ ?_
 rotate_left
 ·intro w hSw
  unfold SvO at hSw
  go_simp
  (try with_reducible rfl)
 try simp only [List.getElem_toArray,List.getElem_cons_zero,List.getElem_cons_succ,Act.put,List.setIfInBounds_toArray,List.set_cons_zero,List.set_cons_succ]
 refine GoT.take (i:=4) (v:=?_) rfl rfl (by decide +kernel) (by kernel_rfl) (by decide +kernel) (by decide +kernel) (fun _ _ _ h=>h) (Or.inl ⟨by rfl,?_⟩) ⟨by (first | with_reducible assumption | trivial),(by first | exact .inr (by with_reducible assumption) | exact .inl (by decide +kernel))⟩ ?_
 rotate_left
 ·intro w hSw
  (try unfold SvB at hSw)
  go_simp
  (try rw [if_pos (by omega)])
  (try with_reducible rfl)
 try simp only [List.getElem_toArray,List.getElem_cons_zero,List.getElem_cons_succ,Act.put,List.setIfInBounds_toArray,List.set_cons_zero,List.set_cons_succ]
 refine GoT.take (i:=8) (v:=?_) rfl rfl (by decide +kernel) (by kernel_rfl) (by decide +kernel) (by decide +kernel) (fun _ _ _ h=>h) (Or.inl ⟨by rfl,?_⟩) ⟨by (first | with_reducible assumption | trivial),(by first | exact .inr (by with_reducible assumption) | exact .inl (by decide +kernel))⟩ ?_
 rotate_left
 ·intro w hSw
  (try unfold SvB at hSw)
  go_simp
  (try rw [if_pos (by omega)])
  (try with_reducible rfl)
 try simp only [List.getElem_toArray,List.getElem_cons_zero,List.getElem_cons_succ,Act.put,List.setIfInBounds_toArray,List.set_cons_zero,List.set_cons_succ]
 refine GoT.next (rs:=[5,9]) (by decide +kernel) (by simp) (AllT.cons rfl (fun K hK=>?_) (AllT.cons rfl (fun K hK=>?_) AllT.nil))
 ·dsimp only [List.getElem_toArray,List.getElem_cons_zero,List.getElem_cons_succ]
  go_simp
  go_at_call 132
  (with_reducible refine HC.out.mono ?_)
  rintro e w2 ⟨b5,rfl,hx2,hp2,hg2,hl2⟩
  obtain ⟨dy,ky,oy,ay,ly,sy,Ay,ny,cy,rx,hcs2,hr2,ha2,hy2,hF2,hb2⟩:=HCS1.out.after HR.out HAR.out hx2 hp2 hg2
  have hb5:=hx2.1
  have HLN:=zhi hl2
  have hO2:SvO sb (.slice A xs.length c) w2:=cell_of_row _ _ 3 _ _ _ hr2
  have hB2:SvB b5 (.int .i64 ky) (.int .i64 oy) (.int .i64 ay) (.int .i64 ly) (.string sy) (.slice Ay ny cy) w2:=SvB.of_row rx
  have HCS2:=zhi hcs2
  have HR2:=zhi hr2
  have HA2:=zhi ha2
  have HY2:=zhi hy2
  have HF2:=zhi hF2
  have HG2:=zhi hg2
  have HRX:=zhi rx
  clear hx2 hp2 hg2 hl2 rx hcs2 hr2 ha2 hy2 hF2
  dsimp only
  refine hK.out _ _ ⟨trivial,.inr hO2⟩ (fun _=>?_)
  clear hK K
  try simp only [List.setIfInBounds_toArray,List.set_cons_zero,List.set_cons_succ]
  refine GoT.sharp (S':=SvB b5 (.int .i64 ky) (.int .i64 oy) (.int .i64 ay) (.int .i64 ly) (.string sy) (.slice Ay ny cy)) (fun _ h=>trivial) _ _ _ _ ?_
  refine GoT.take (i:=6) (v:=?_) rfl rfl (by decide +kernel) (by kernel_rfl) (by decide +kernel) (by decide +kernel) (fun _ _ _ h=>h) (Or.inl ⟨by rfl,?_⟩) ⟨by (first | with_reducible assumption | trivial),(by first | exact .inr (by with_reducible assumption) | exact .inl (by decide +kernel))⟩ ?_
  rotate_left
  ·intro w hSw
   (try unfold SvB at hSw)
   go_simp
   (try rw [if_pos (by omega)])
   (try with_reducible rfl)
  try simp only [List.getElem_toArray,List.getElem_cons_zero,List.getElem_cons_succ,Act.put,List.setIfInBounds_toArray,List.set_cons_zero,List.set_cons_succ]
  refine GoT.take (i:=7) (v:=?_) rfl rfl (by decide +kernel) (by kernel_rfl) (by decide +kernel) (by decide +kernel) (fun _ _ _ h=>h) (Or.inl ⟨by rfl,?_⟩) ⟨by (first | with_reducible assumption | trivial),(by first | exact .inr (by with_reducible assumption) | exact .inl (by decide +kernel))⟩ ?_
  rotate_left
  ·intro w hSw
   (try unfold SvB at hSw)
   go_simp
   (try rw [if_pos (by omega)])
   (try with_reducible rfl)
  try simp only [List.getElem_toArray,List.getElem_cons_zero,List.getElem_cons_succ,Act.put,List.setIfInBounds_toArray,List.set_cons_zero,List.set_cons_succ]
  have hBa:=hB2.below ((Below.refl _ w2).alloc (Nat.le_refl _) zEx)
  have hOa:SvO sb (.slice A xs.length c) (w2.alloc zEx):=hold ((Below.refl _ w2).alloc (Nat.le_refl _) _) hO2
  unfold zEx at hBa hOa
  refine GoT.next (rs:=[9]) (by decide +kernel) (by simp) (AllT.cons rfl (fun K hK=>?_) AllT.nil)
  dsimp only [List.getElem_toArray,List.getElem_cons_zero,List.getElem_cons_succ]
  go_simp
  refine hK.out _ _ ⟨hBa,.inr hOa⟩ (fun _=>?_)
  clear hK K
  try simp only [Act.put,List.setIfInBounds_toArray,List.set_cons_zero,List.set_cons_succ]
  refine GoT.next (rs:=[10]) (by decide +kernel) (by simp) (AllT.cons rfl (fun K hK=>?_) AllT.nil)
  obtain ⟨D,hD⟩:∃ D,d+dy=D+1:=by
   cases hq:d+dy with
   | zero =>
    have:=HY2.out
    rw [hq] at this
    exact this.elim
   | succ q=>exact ⟨q,rfl⟩
  refine z1q w2 ?_ (.tmp 7) (.tmp 13) ?_ 0 0 (sb+1) (d+dy) (.slice A xs.length c) xs L (.mk 0 0 0 0 ⟨#[]⟩ []) 0 0 0 0 ⟨#[]⟩ none 0 0 (fun _=>False) ?_ ?_ HA2.out (by omega) hb2 (by rw [hD]; exact z19) (fun b h=>h.elim) ?_
  ·rfl
  ·rfl
  ·rfl
  ·rfl
  intro g6 cap6 w6 har6 hg6 hat6
  have hlo:=HCS2.out.lo
  have hsb:=(Array.getElem?_eq_some_iff.1 HR2.out).1
  have hr6:=(hg6.block sb hsb (fun e=>by have:=(HA2.out.own.lt sb e.symm).1; omega)).trans HR2.out
  have hx6:=(hg6.block b5 (Array.getElem?_eq_some_iff.1 HRX.out).1 (fun e=>(HF2.out b5 ⟨hb5,(Array.getElem?_eq_some_iff.1 HRX.out).1⟩).2.2 e.symm)).trans HRX.out
  have hO6:SvO sb (.slice A xs.length c) w6:=cell_of_row _ _ 3 _ _ _ hr6
  have hB6:=SvB.of_row hx6
  have f6:=z0i hr6 3
  have c6:w6.cell? ⟨sb,3,none⟩=some (.slice A xs.length c):=hO6
  obtain ⟨l0,l1,l2,l3,l4,l5,lf,hgb,hglt,hcap⟩:=har6.tail_cells HA2.out.own.1
  have lf0:=lf (xs.length * 6)
  have lf1:=lf (xs.length * 6+1)
  have lf2:=lf (xs.length * 6+2)
  have lf3:=lf (xs.length * 6+3)
  have lf4:=lf (xs.length * 6+4)
  have lf5:=lf (xs.length * 6+5)
  have hsz6:=hg6.size
  have hb5l:=(Array.getElem?_eq_some_iff.1 HRX.out).1
  have hbg:b5≠g6:=fun e=>by
   subst e
   rcases hat6 with h | h
   ·exact (HF2.out b5 ⟨hb5,hb5l⟩).2.2 h
   ·omega
  have hbs:b5≠sb:=by
   have:=HCS1.out.slt
   omega
  have hy6:ExV (fun b=>(0≤b∧b<0∨sb+1≤b)∧b<w6.heap.size∧b≠g6) w6 (d+dy) y (.agg #[.int .i64 ky,.int .i64 oy,.int .i64 ay,.int .i64 ly,.string sy,.slice Ay ny cy]):=by
   refine ExV.keep (fun b hb=>?_) (fun b hb=>?_) _ _ _ HY2.out
   ·have h1:=HF2.out b hb
    refine ⟨h1.1,by omega,fun e=>?_⟩
    subst e
    rcases hat6 with h | h
    ·exact h1.2.2 h
    ·omega
   ·have h1:=HF2.out b hb
    exact hg6.block b hb.2 (fun e=>h1.2.2 e.symm)
  obtain ⟨hla,hgl⟩:=ArgG.last rfl HA2.out.own.1 har6 hy6 (fun b hb=>hb)
  have hEA:=HCS2.out.push HR2.out HA2.out hg6 hgl hgb hla
  have hBA:=hB6.grown hgl hbg
  have hOA:=z08 hgl (by omega) c6
  have fA:=z0i (z04 hgl (by omega) hr6) 3
  have hP6:=HCS2.out.push HR2.out HA2.out hg6 (z01 (Below.refl _ w6) _) hgb har6
  have hr7:(w6.setCell ⟨sb,3,none⟩ (.slice (some ⟨g6,0,none⟩) (xs.length+1) cap6)).heap[sb]?=some (.cells #[.int .i64 k,.int .i64 l,.string t,.slice (some ⟨g6,0,none⟩) (xs.length+1) cap6,.slice none 0 0,.slice none 0 0] 84 (0,0)):=z0f (i:=3) _ hr6
  have hgs:w6.grownBy (w6.setCell ⟨sb,3,none⟩ (.slice (some ⟨g6,0,none⟩) (xs.length+1) cap6)) (some sb):=z06 w6 ⟨sb,3,none⟩ (.slice (some ⟨g6,0,none⟩) (xs.length+1) cap6)
  have har7:=har6.grown hgs (by omega) (by omega)
  have hy7:ExV (fun b=>(0≤b∧b<0∨sb+1≤b)∧b<(w6.setCell ⟨sb,3,none⟩ (.slice (some ⟨g6,0,none⟩) (xs.length+1) cap6)).heap.size∧b≠g6) (w6.setCell ⟨sb,3,none⟩ (.slice (some ⟨g6,0,none⟩) (xs.length+1) cap6)) (d+dy) y (.agg #[.int .i64 ky,.int .i64 oy,.int .i64 ay,.int .i64 ly,.string sy,.slice Ay ny cy]) :=
   ExV.keep (fun b hb=>⟨hb.1,Nat.lt_of_lt_of_le hb.2.1 hgs.size,hb.2.2⟩) (fun b hb=>hgs.block b hb.2.1 (fun e=>by injection e with e; have:=hb.1; omega)) _ _ _ hy6
  obtain ⟨hlb,hgl7⟩:=ArgG.last rfl HA2.out.own.1 har7 hy7 (fun b hb=>hb)
  have hEB:=hP6.last hr7 hgl7 hgb hlb
  have hB7:=hB6.grown hgs hbs
  have hB8:=hB7.grown hgl7 hbg
  obtain ⟨m0,m1,m2,m3,m4,m5,mf,_⟩:=har7.tail_cells HA2.out.own.1
  have HM:=zhi (And.intro m0 (And.intro m1 (And.intro m2 (And.intro m3 (And.intro m4 m5)))))
  have HMF:=zhi mf
  have HBA:=zhi hBA
  have HOA:=zhi hOA
  have HFA:=zhi fA
  have HB7:=zhi hB7
  have HB8:=zhi hB8
  have HEA:=zhi hEA
  have HEB:=zhi hEB
  clear hr6 har6 hg6 hx6 hlo hsb hEA hEB hP6 hr7 hgs har7 hy6 hy7 hla hlb hgl hgl7 lf mf m0 m1 m2 m3 m4 m5 hBA hOA fA hB7 hB8
  refine hK.out _ _ ⟨hB6,.inr hO6⟩ (fun _=>?_)
  clear hK K
  try simp only [List.getElem_toArray,List.getElem_cons_zero,List.getElem_cons_succ,Act.put,List.setIfInBounds_toArray,List.set_cons_zero,List.set_cons_succ]
  refine GoT.take (i:=11) (v:=?_) rfl rfl (by decide +kernel) (by kernel_rfl) (by decide +kernel) (by decide +kernel) (fun _ _ _ h=>h) (Or.inl ⟨by rfl,?_⟩) ⟨by (first | with_reducible assumption | trivial),(by first | exact .inr (by with_reducible assumption) | exact .inl (by decide +kernel))⟩ ?_
  rotate_left
  ·intro w hSw
   (try unfold SvB at hSw)
   go_simp
   (try rw [if_pos (by omega)])
   (try with_reducible rfl)
  try simp only [List.getElem_toArray,List.getElem_cons_zero,List.getElem_cons_succ,Act.put,List.setIfInBounds_toArray,List.set_cons_zero,List.set_cons_succ]
  refine GoT.take (i:=13) (v:=?_) rfl rfl (by decide +kernel) (by kernel_rfl) (by decide +kernel) (by decide +kernel) (fun _ _ _ h=>h) (Or.inl ⟨by rfl,?_⟩) ⟨by (first | with_reducible assumption | trivial),(by first | exact .inr (by with_reducible assumption) | exact .inl (by decide +kernel))⟩ ?_
  rotate_left
  ·intro w hSw
   (try unfold SvB at hSw)
   go_simp
   (try rw [if_pos (by omega)])
   (try with_reducible rfl)
  try simp only [List.getElem_toArray,List.getElem_cons_zero,List.getElem_cons_succ,Act.put,List.setIfInBounds_toArray,List.set_cons_zero,List.set_cons_succ]
  refine GoT.take (i:=14) (v:=?_) rfl rfl (by decide +kernel) (by kernel_rfl) (by decide +kernel) (by decide +kernel) (fun _ _ _ h=>h) (Or.inl ⟨by rfl,?_⟩) ⟨by (first | with_reducible assumption | trivial),(by first | exact .inr (by with_reducible assumption) | exact .inl (by decide +kernel))⟩ ?_
  rotate_left
  ·intro w hSw
   (try unfold SvB at hSw)
   go_simp
   (try rw [if_pos (by omega)])
   (try with_reducible rfl)
  try simp only [List.getElem_toArray,List.getElem_cons_zero,List.getElem_cons_succ,Act.put,List.setIfInBounds_toArray,List.set_cons_zero,List.set_cons_succ]
  refine GoT.next (rs:=[12,15]) (by decide +kernel) (by simp) (AllT.cons rfl (fun K hK=>?_) (AllT.cons rfl (fun K hK=>?_) AllT.nil))
  ·dsimp only [List.getElem_toArray,List.getElem_cons_zero,List.getElem_cons_succ]
   go_simp
   refine hK.out _ _ ⟨HBA.out,.inr HOA.out⟩ (fun _=>?_)
   clear hK K
   try simp only [Act.put,List.setIfInBounds_toArray,List.set_cons_zero,List.set_cons_succ]
   have fA:=HFA.out
   refine GoT.next (rs:=[15]) (by decide +kernel) (by simp) (AllT.cons rfl (fun K hK=>?_) AllT.nil)
   dsimp only [List.getElem_toArray,List.getElem_cons_zero,List.getElem_cons_succ]
   go_simp
   refine hK.out _ _ ⟨SvB.grown HBA.out (z06 _ ⟨sb,3,none⟩ _) hbs,.inl (by decide +kernel)⟩ (fun _=>?_)
   clear hK K
   try simp only [Act.put,List.setIfInBounds_toArray,List.set_cons_zero,List.set_cons_succ]
   refine GoT.done (by decide +kernel) ?_ _
   clear fA c6 f6 l0 l1 l2 l3 l4 l5 lf0 lf1 lf2 lf3 lf4 lf5 hO6 hB6 HBA HOA HFA HB7 HB8 HM HMF HEB
   have HD:=zhi (z0r [59] ⟨#[59]⟩ _ rfl (by decide) HEA.out.pa)
   have HWf:=zhi HEA.out.pa.wf.pos
   go_wp2_with fail
   refine HD.out.mono ?_
   rintro e w9 ⟨⟨v9,rfl⟩,hp9,hg9⟩
   have HEND:=zhi (HEA.out.step hg9 hp9)
   have HLL:=zhi (z0q [59] s1 HWf.out)
   clear hp9 hg9 HD HEA
   go_wp2_with fail
   exact bodyPost_ret (results_none rfl _ _ _) rfl ⟨⟨_,rfl⟩,HEND.out,by have:=HLL.out; have:=HLN.out; omega⟩
  ·dsimp only [List.getElem_toArray,List.getElem_cons_zero,List.getElem_cons_succ]
   go_simp
   refine hK.out _ _ ⟨HB7.out,.inl (by decide +kernel)⟩ (fun _=>?_)
   clear hK K
   try simp only [Act.put,List.setIfInBounds_toArray,List.set_cons_zero,List.set_cons_succ]
   obtain ⟨m0,m1,m2,m3,m4,m5⟩:=HM.out
   have mf0:=HMF.out (xs.length * 6)
   have mf1:=HMF.out (xs.length * 6+1)
   have mf2:=HMF.out (xs.length * 6+2)
   have mf3:=HMF.out (xs.length * 6+3)
   have mf4:=HMF.out (xs.length * 6+4)
   have mf5:=HMF.out (xs.length * 6+5)
   refine GoT.next (rs:=[12]) (by decide +kernel) (by simp) (AllT.cons rfl (fun K hK=>?_) AllT.nil)
   dsimp only [List.getElem_toArray,List.getElem_cons_zero,List.getElem_cons_succ]
   go_simp
   refine hK.out _ _ ⟨HB8.out,.inl (by decide +kernel)⟩ (fun _=>?_)
   clear hK K
   try simp only [Act.put,List.setIfInBounds_toArray,List.set_cons_zero,List.set_cons_succ]
   refine GoT.done (by decide +kernel) ?_ _
   clear c6 f6 l0 l1 l2 l3 l4 l5 lf0 lf1 lf2 lf3 lf4 lf5 hO6 hB6 HBA HOA HFA HB7 HB8 HM HMF HEA m0 m1 m2 m3 m4 m5 mf0 mf1 mf2 mf3 mf4 mf5
   have HD:=zhi (z0r [59] ⟨#[59]⟩ _ rfl (by decide) HEB.out.pa)
   have HWf:=zhi HEB.out.pa.wf.pos
   go_wp2_with fail
   refine HD.out.mono ?_
   rintro e w9 ⟨⟨v9,rfl⟩,hp9,hg9⟩
   have HEND:=zhi (HEB.out.step hg9 hp9)
   have HLL:=zhi (z0q [59] s1 HWf.out)
   clear hp9 hg9 HD HEB
   go_wp2_with fail
   exact bodyPost_ret (results_none rfl _ _ _) rfl ⟨⟨_,rfl⟩,HEND.out,by have:=HLL.out; have:=HLN.out; omega⟩
 ·have hbz:Below W.drew.heap.size W.drew (W.alloc zEx).drew:=(Below.refl _ W.drew).alloc (Nat.le_refl _) zEx
  have hz:((W.alloc zEx).drew).heap[W.heap.size]?=some zEx:=heap_alloc_new W zEx
  have hOz:SvO sb (.slice A xs.length c) ((W.alloc zEx).drew):=hold hbz hO0
  have HCS1:=zhi (HCS1.out.below hbz)
  have HR:=zhi ((hbz.block _ (Array.getElem?_eq_some_iff.1 HR.out).1).trans HR.out)
  have HAR:=zhi (HAR.out.grown (z01 hbz (some p)) (by have:=HCS1.out.lo; omega) (by have:=HCS1.out.lo; omega))
  have HC:=zhi (HS.out p tb s s1 y _ HCS1.out.pa HE.out)
  unfold zEx at hz hOz HCS1 HR HAR HC
  dsimp only [List.getElem_toArray,List.getElem_cons_zero,List.getElem_cons_succ]
  go_simp
  refine hK.out _ _ ⟨trivial,.inr hOz⟩ (fun _=>?_)
  clear hK K
  try simp only [Act.put,List.setIfInBounds_toArray,List.set_cons_zero,List.set_cons_succ]
  clear hO0 hbz
  refine GoT.next (rs:=[5]) (by decide +kernel) (by simp) (AllT.cons rfl (fun K hK=>?_) AllT.nil)
  dsimp only [List.getElem_toArray,List.getElem_cons_zero,List.getElem_cons_succ]
  go_simp
  go_at_call 132
  (with_reducible refine HC.out.mono ?_)
  rintro e w2 ⟨b5,rfl,hx2,hp2,hg2,hl2⟩
  obtain ⟨dy,ky,oy,ay,ly,sy,Ay,ny,cy,rx,hcs2,hr2,ha2,hy2,hF2,hb2⟩:=HCS1.out.after HR.out HAR.out hx2 hp2 hg2
  have hb5:=hx2.1
  have HLN:=zhi hl2
  have hO2:SvO sb (.slice A xs.length c) w2:=cell_of_row _ _ 3 _ _ _ hr2
  have hB2:SvB b5 (.int .i64 ky) (.int .i64 oy) (.int .i64 ay) (.int .i64 ly) (.string sy) (.slice Ay ny cy) w2:=SvB.of_row rx
  have HCS2:=zhi hcs2
  have HR2:=zhi hr2
  have HA2:=zhi ha2
  have HY2:=zhi hy2
  have HF2:=zhi hF2
  have HG2:=zhi hg2
  have HRX:=zhi rx
  clear hx2 hp2 hg2 hl2 rx hcs2 hr2 ha2 hy2 hF2
  dsimp only
  refine hK.out _ _ ⟨trivial,.inr hO2⟩ (fun _=>?_)
  clear hK K
  try simp only [List.setIfInBounds_toArray,List.set_cons_zero,List.set_cons_succ]
  refine GoT.sharp (S':=SvB b5 (.int .i64 ky) (.int .i64 oy) (.int .i64 ay) (.int .i64 ly) (.string sy) (.slice Ay ny cy)) (fun _ h=>trivial) _ _ _ _ ?_
  refine GoT.take (i:=6) (v:=?_) rfl rfl (by decide +kernel) (by kernel_rfl) (by decide +kernel) (by decide +kernel) (fun _ _ _ h=>h) (Or.inl ⟨by rfl,?_⟩) ⟨by (first | with_reducible assumption | trivial),(by first | exact .inr (by with_reducible assumption) | exact .inl (by decide +kernel))⟩ ?_
  rotate_left
  ·intro w hSw
   (try unfold SvB at hSw)
   go_simp
   (try rw [if_pos (by omega)])
   (try with_reducible rfl)
  try simp only [List.getElem_toArray,List.getElem_cons_zero,List.getElem_cons_succ,Act.put,List.setIfInBounds_toArray,List.set_cons_zero,List.set_cons_succ]
  refine GoT.take (i:=7) (v:=?_) rfl rfl (by decide +kernel) (by kernel_rfl) (by decide +kernel) (by decide +kernel) (fun _ _ _ h=>h) (Or.inl ⟨by rfl,?_⟩) ⟨by (first | with_reducible assumption | trivial),(by first | exact .inr (by with_reducible assumption) | exact .inl (by decide +kernel))⟩ ?_
  rotate_left
  ·intro w hSw
   (try unfold SvB at hSw)
   go_simp
   (try rw [if_pos (by omega)])
   (try with_reducible rfl)
  try simp only [List.getElem_toArray,List.getElem_cons_zero,List.getElem_cons_succ,Act.put,List.setIfInBounds_toArray,List.set_cons_zero,List.set_cons_succ]
  refine GoT.next (rs:=[10]) (by decide +kernel) (by simp) (AllT.cons rfl (fun K hK=>?_) AllT.nil)
  obtain ⟨D,hD⟩:∃ D,d+dy=D+1:=by
   cases hq:d+dy with
   | zero =>
    have:=HY2.out
    rw [hq] at this
    exact this.elim
   | succ q=>exact ⟨q,rfl⟩
  have hz2:=z04 HG2.out (by have:=HCS.out.pa.lt.1; omega) hz
  refine z3y w2 ?_ (.tmp 7) (.tmp 13) ?_ 0 0 (sb+1) (d+dy) W.heap.size (.slice A xs.length c) xs L (.mk 0 0 0 0 ⟨#[]⟩ []) 0 0 0 0 ⟨#[]⟩ none 0 0 (fun _=>False) ?_ ?_ hz2 HA2.out (by omega) hb2 (by rw [hD]; exact z19) (fun b h=>h.elim) ?_
  ·rfl
  ·rfl
  ·rfl
  ·rfl
  clear hz2 hz
  intro g6 cap6 w6 har6 hg6 hat6
  have hlo:=HCS2.out.lo
  have hsb:=(Array.getElem?_eq_some_iff.1 HR2.out).1
  have hr6:=(hg6.block sb hsb (fun e=>by have:=(HA2.out.own.lt sb e.symm).1; omega)).trans HR2.out
  have hx6:=(hg6.block b5 (Array.getElem?_eq_some_iff.1 HRX.out).1 (fun e=>(HF2.out b5 ⟨hb5,(Array.getElem?_eq_some_iff.1 HRX.out).1⟩).2.2 e.symm)).trans HRX.out
  have hO6:SvO sb (.slice A xs.length c) w6:=cell_of_row _ _ 3 _ _ _ hr6
  have hB6:=SvB.of_row hx6
  have f6:=z0i hr6 3
  have c6:w6.cell? ⟨sb,3,none⟩=some (.slice A xs.length c):=hO6
  obtain ⟨l0,l1,l2,l3,l4,l5,lf,hgb,hglt,hcap⟩:=har6.tail_cells HA2.out.own.1
  have lf0:=lf (xs.length * 6)
  have lf1:=lf (xs.length * 6+1)
  have lf2:=lf (xs.length * 6+2)
  have lf3:=lf (xs.length * 6+3)
  have lf4:=lf (xs.length * 6+4)
  have lf5:=lf (xs.length * 6+5)
  have hsz6:=hg6.size
  have hb5l:=(Array.getElem?_eq_some_iff.1 HRX.out).1
  have hbg:b5≠g6:=fun e=>by
   subst e
   rcases hat6 with h | h
   ·exact (HF2.out b5 ⟨hb5,hb5l⟩).2.2 h
   ·omega
  have hbs:b5≠sb:=by
   have:=HCS1.out.slt
   omega
  have hy6:ExV (fun b=>(0≤b∧b<0∨sb+1≤b)∧b<w6.heap.size∧b≠g6) w6 (d+dy) y (.agg #[.int .i64 ky,.int .i64 oy,.int .i64 ay,.int .i64 ly,.string sy,.slice Ay ny cy]):=by
   refine ExV.keep (fun b hb=>?_) (fun b hb=>?_) _ _ _ HY2.out
   ·have h1:=HF2.out b hb
    refine ⟨h1.1,by omega,fun e=>?_⟩
    subst e
    rcases hat6 with h | h
    ·exact h1.2.2 h
    ·omega
   ·have h1:=HF2.out b hb
    exact hg6.block b hb.2 (fun e=>h1.2.2 e.symm)
  obtain ⟨hla,hgl⟩:=ArgG.last rfl HA2.out.own.1 har6 hy6 (fun b hb=>hb)
  have hEA:=HCS2.out.push HR2.out HA2.out hg6 hgl hgb hla
  have hBA:=hB6.grown hgl hbg
  have hOA:=z08 hgl (by omega) c6
  have fA:=z0i (z04 hgl (by omega) hr6) 3
  have hP6:=HCS2.out.push HR2.out HA2.out hg6 (z01 (Below.refl _ w6) _) hgb har6
  have hr7:(w6.setCell ⟨sb,3,none⟩ (.slice (some ⟨g6,0,none⟩) (xs.length+1) cap6)).heap[sb]?=some (.cells #[.int .i64 k,.int .i64 l,.string t,.slice (some ⟨g6,0,none⟩) (xs.length+1) cap6,.slice none 0 0,.slice none 0 0] 84 (0,0)):=z0f (i:=3) _ hr6
  have hgs:w6.grownBy (w6.setCell ⟨sb,3,none⟩ (.slice (some ⟨g6,0,none⟩) (xs.length+1) cap6)) (some sb):=z06 w6 ⟨sb,3,none⟩ (.slice (some ⟨g6,0,none⟩) (xs.length+1) cap6)
  have har7:=har6.grown hgs (by omega) (by omega)
  have hy7:ExV (fun b=>(0≤b∧b<0∨sb+1≤b)∧b<(w6.setCell ⟨sb,3,none⟩ (.slice (some ⟨g6,0,none⟩) (xs.length+1) cap6)).heap.size∧b≠g6) (w6.setCell ⟨sb,3,none⟩ (.slice (some ⟨g6,0,none⟩) (xs.length+1) cap6)) (d+dy) y (.agg #[.int .i64 ky,.int .i64 oy,.int .i64 ay,.int .i64 ly,.string sy,.slice Ay ny cy]) :=
   ExV.keep (fun b hb=>⟨hb.1,Nat.lt_of_lt_of_le hb.2.1 hgs.size,hb.2.2⟩) (fun b hb=>hgs.block b hb.2.1 (fun e=>by injection e with e; have:=hb.1; omega)) _ _ _ hy6
  obtain ⟨hlb,hgl7⟩:=ArgG.last rfl HA2.out.own.1 har7 hy7 (fun b hb=>hb)
  have hEB:=hP6.last hr7 hgl7 hgb hlb
  have hB7:=hB6.grown hgs hbs
  have hB8:=hB7.grown hgl7 hbg
  obtain ⟨m0,m1,m2,m3,m4,m5,mf,_⟩:=har7.tail_cells HA2.out.own.1
  have HM:=zhi (And.intro m0 (And.intro m1 (And.intro m2 (And.intro m3 (And.intro m4 m5)))))
  have HMF:=zhi mf
  have HBA:=zhi hBA
  have HOA:=zhi hOA
  have HFA:=zhi fA
  have HB7:=zhi hB7
  have HB8:=zhi hB8
  have HEA:=zhi hEA
  have HEB:=zhi hEB
  clear hr6 har6 hg6 hx6 hlo hsb hEA hEB hP6 hr7 hgs har7 hy6 hy7 hla hlb hgl hgl7 lf mf m0 m1 m2 m3 m4 m5 hBA hOA fA hB7 hB8
  refine hK.out _ _ ⟨hB6,.inr hO6⟩ (fun _=>?_)
  clear hK K
  try simp only [List.getElem_toArray,List.getElem_cons_zero,List.getElem_cons_succ,Act.put,List.setIfInBounds_toArray,List.set_cons_zero,List.set_cons_succ]
  refine GoT.take (i:=11) (v:=?_) rfl rfl (by decide +kernel) (by kernel_rfl) (by decide +kernel) (by decide +kernel) (fun _ _ _ h=>h) (Or.inl ⟨by rfl,?_⟩) ⟨by (first | with_reducible assumption | trivial),(by first | exact .inr (by with_reducible assumption) | exact .inl (by decide +kernel))⟩ ?_
  rotate_left
  ·intro w hSw
   (try unfold SvB at hSw)
   go_simp
   (try rw [if_pos (by omega)])
   (try with_reducible rfl)
  try simp only [List.getElem_toArray,List.getElem_cons_zero,List.getElem_cons_succ,Act.put,List.setIfInBounds_toArray,List.set_cons_zero,List.set_cons_succ]
  refine GoT.take (i:=13) (v:=?_) rfl rfl (by decide +kernel) (by kernel_rfl) (by decide +kernel) (by decide +kernel) (fun _ _ _ h=>h) (Or.inl ⟨by rfl,?_⟩) ⟨by (first | with_reducible assumption | trivial),(by first | exact .inr (by with_reducible assumption) | exact .inl (by decide +kernel))⟩ ?_
  rotate_left
  ·intro w hSw
   (try unfold SvB at hSw)
   go_simp
   (try rw [if_pos (by omega)])
   (try with_reducible rfl)
  try simp only [List.getElem_toArray,List.getElem_cons_zero,List.getElem_cons_succ,Act.put,List.setIfInBounds_toArray,List.set_cons_zero,List.set_cons_succ]
  refine GoT.take (i:=14) (v:=?_) rfl rfl (by decide +kernel) (by kernel_rfl) (by decide +kernel) (by decide +kernel) (fun _ _ _ h=>h) (Or.inl ⟨by rfl,?_⟩) ⟨by (first | with_reducible assumption | trivial),(by first | exact .inr (by with_reducible assumption) | exact .inl (by decide +kernel))⟩ ?_
  rotate_left
  ·intro w hSw
   (try unfold SvB at hSw)
   go_simp
   (try rw [if_pos (by omega)])
   (try with_reducible rfl)
  try simp only [List.getElem_toArray,List.getElem_cons_zero,List.getElem_cons_succ,Act.put,List.setIfInBounds_toArray,List.set_cons_zero,List.set_cons_succ]
  refine GoT.next (rs:=[12,15]) (by decide +kernel) (by simp) (AllT.cons rfl (fun K hK=>?_) (AllT.cons rfl (fun K hK=>?_) AllT.nil))
  ·dsimp only [List.getElem_toArray,List.getElem_cons_zero,List.getElem_cons_succ]
   go_simp
   refine hK.out _ _ ⟨HBA.out,.inr HOA.out⟩ (fun _=>?_)
   clear hK K
   try simp only [Act.put,List.setIfInBounds_toArray,List.set_cons_zero,List.set_cons_succ]
   have fA:=HFA.out
   refine GoT.next (rs:=[15]) (by decide +kernel) (by simp) (AllT.cons rfl (fun K hK=>?_) AllT.nil)
   dsimp only [List.getElem_toArray,List.getElem_cons_zero,List.getElem_cons_succ]
   go_simp
   refine hK.out _ _ ⟨SvB.grown HBA.out (z06 _ ⟨sb,3,none⟩ _) hbs,.inl (by decide +kernel)⟩ (fun _=>?_)
   clear hK K
   try simp only [Act.put,List.setIfInBounds_toArray,List.set_cons_zero,List.set_cons_succ]
   refine GoT.done (by decide +kernel) ?_ _
   clear fA c6 f6 l0 l1 l2 l3 l4 l5 lf0 lf1 lf2 lf3 lf4 lf5 hO6 hB6 HBA HOA HFA HB7 HB8 HM HMF HEB
   have HD:=zhi (z0r [59] ⟨#[59]⟩ _ rfl (by decide) HEA.out.pa)
   have HWf:=zhi HEA.out.pa.wf.pos
   go_wp2_with fail
   refine HD.out.mono ?_
   rintro e w9 ⟨⟨v9,rfl⟩,hp9,hg9⟩
   have HEND:=zhi (HEA.out.step hg9 hp9)
   have HLL:=zhi (z0q [59] s1 HWf.out)
   clear hp9 hg9 HD HEA
   go_wp2_with fail
   exact bodyPost_ret (results_none rfl _ _ _) rfl ⟨⟨_,rfl⟩,HEND.out,by have:=HLL.out; have:=HLN.out; omega⟩
  ·dsimp only [List.getElem_toArray,List.getElem_cons_zero,List.getElem_cons_succ]
   go_simp
   refine hK.out _ _ ⟨HB7.out,.inl (by decide +kernel)⟩ (fun _=>?_)
   clear hK K
   try simp only [Act.put,List.setIfInBounds_toArray,List.set_cons_zero,List.set_cons_succ]
   obtain ⟨m0,m1,m2,m3,m4,m5⟩:=HM.out
   have mf0:=HMF.out (xs.length * 6)
   have mf1:=HMF.out (xs.length * 6+1)
   have mf2:=HMF.out (xs.length * 6+2)
   have mf3:=HMF.out (xs.length * 6+3)
   have mf4:=HMF.out (xs.length * 6+4)
   have mf5:=HMF.out (xs.length * 6+5)
   refine GoT.next (rs:=[12]) (by decide +kernel) (by simp) (AllT.cons rfl (fun K hK=>?_) AllT.nil)
   dsimp only [List.getElem_toArray,List.getElem_cons_zero,List.getElem_cons_succ]
   go_simp
   refine hK.out _ _ ⟨HB8.out,.inl (by decide +kernel)⟩ (fun _=>?_)
   clear hK K
   try simp only [Act.put,List.setIfInBounds_toArray,List.set_cons_zero,List.set_cons_succ]
   refine GoT.done (by decide +kernel) ?_ _
   clear c6 f6 l0 l1 l2 l3 l4 l5 lf0 lf1 lf2 lf3 lf4 lf5 hO6 hB6 HBA HOA HFA HB7 HB8 HM HMF HEA m0 m1 m2 m3 m4 m5 mf0 mf1 mf2 mf3 mf4 mf5
   have HD:=zhi (z0r [59] ⟨#[59]⟩ _ rfl (by decide) HEB.out.pa)
   have HWf:=zhi HEB.out.pa.wf.pos
   go_wp2_with fail
   refine HD.out.mono ?_
   rintro e w9 ⟨⟨v9,rfl⟩,hp9,hg9⟩
   have HEND:=zhi (HEB.out.step hg9 hp9)
   have HLL:=zhi (z0q [59] s1 HWf.out)
   clear hp9 hg9 HD HEB
   go_wp2_with fail
   exact bodyPost_ret (results_none rfl _ _ _) rfl ⟨⟨_,rfl⟩,HEND.out,by have:=HLL.out; have:=HLN.out; omega⟩
end Go.Proofs.YtdplfnemedckaaaGreatDoor
namespace Go.Proofs.YtdplfnemedckaaaGreatDoor
open Go.RowKit
structure SU (p tb sb:Nat) (s:PS) (x:St) (w wr:World):Prop where
 ra:PA wr p tb s
 gr:w.grownBy wr (some p)
 z:wr.heap[w.heap.size]?=some z3A
 lt:w.heap.size<sb
 at_:∃ D d k l t eA en ec tA tn tc uA un uc,wr.heap[sb]?=some (.cells #[.int .i64 k,.int .i64 l,.string t,.slice eA en ec,.slice tA tn tc,.slice uA un uc] 84 (0,0)) ∧
  StV (FF (w.heap.size+1) sb wr) wr D d x (.agg #[.int .i64 k,.int .i64 l,.string t,.slice eA en ec,.slice tA tn tc,.slice uA un uc])
section
variable {p tb sb:Nat} {s s':PS} {x:St} {w wr w':World}
theorem SU.row (h:SU p tb sb s x w wr):∃ v0 v1 v2 v3 v4 v5,wr.heap[sb]?=some (.cells #[v0,v1,v2,v3,v4,v5] 84 (0,0)):=by
 obtain ⟨D,d,k,l,t,eA,en,ec,tA,tn,tc,uA,un,uc,hr,_⟩:=h.at_
 exact ⟨_,_,_,_,_,_,hr⟩
theorem SU.slt (h:SU p tb sb s x w wr):sb<wr.heap.size:=by
 obtain ⟨_,_,_,_,_,_,hr⟩:=h.row
 exact (Array.getElem?_eq_some_iff.1 hr).1
theorem SU.step (h:SU p tb sb s x w wr) (hp:p<w.heap.size) (hg:wr.grownBy w' (some p)) (ha:PA w' p tb s'):SU p tb sb s' x w w':=by
 obtain ⟨D,d,k,l,t,eA,en,ec,tA,tn,tc,uA,un,uc,hr,hv⟩:=h.at_
 have hlt:=h.lt
 exact ⟨ha,h.gr.trans hg,z04 hg (by omega) h.z,h.lt,D,d,k,l,t,eA,en,ec,tA,tn,tc,uA,un,uc,z04 hg (by omega) hr,hv.keep (fun q hq=>⟨hq.1,Nat.lt_of_lt_of_le hq.2.1 hg.size,hq.2.2⟩) (fun q hq=>hg.block q hq.2.1 (fun e=>by injection e with e; have:=hq.1; omega))⟩
theorem SU.alloc (h:SU p tb sb s x w wr) (hp:p<w.heap.size) (o:Obj):SU p tb sb s x w (wr.alloc o) :=
 h.step hp (z01 ((Below.refl _ wr).alloc (Nat.le_refl _) o) _) (h.ra.alloc o)
theorem SU.set_ (h:SU p tb sb s x w wr) (hp:p<w.heap.size) (ht:tb<w.heap.size) (i:Nat) (v:Value):PA (wr.setCell ⟨sb,i,none⟩ v) p tb s∧w.grownBy (wr.setCell ⟨sb,i,none⟩ v) (some p)∧(wr.setCell ⟨sb,i,none⟩ v).heap[w.heap.size]?=some z3A:=by
 have hg:wr.grownBy (wr.setCell ⟨sb,i,none⟩ v) (some sb):=z06 wr ⟨sb,i,none⟩ v
 have hlt:=h.lt
 exact ⟨h.ra.other hg (by omega) (by omega),z0g h.gr hg (by omega),z04 hg (by omega) h.z⟩
variable {k l:Int} {t:ByteArray} {es:List Ex} {ts us:List St}
theorem SU.kind (h:SU p tb sb s (.mk k l t es ts us) w wr) (hp:p<w.heap.size) (ht:tb<w.heap.size) (k':Int):SU p tb sb s (.mk k' l t es ts us) w (wr.setCell ⟨sb,0,none⟩ (.int .i64 k')):=by
 obtain ⟨h1,h2,h3⟩:=h.set_ hp ht 0 (.int .i64 k')
 obtain ⟨f1,f2⟩:=z5n (w.heap.size+1) sb 0 wr (.int .i64 k')
 obtain ⟨D,d,k0,l0,t0,eA,en,ec,tA,tn,tc,uA,un,uc,hr,hv⟩:=h.at_
 refine ⟨h1,h2,h3,h.lt,D,d,k',l0,t0,eA,en,ec,tA,tn,tc,uA,un,uc,z0f (i:=0) (.int .i64 k') hr,?_⟩
 cases d with
 | zero=>exact hv.elim
 | succ d =>
  obtain ⟨eA',ec',tA',tc',uA',uc',hv,he,h4,h5⟩:=hv
  injection hv with hv
  injection hv with hv
  injection hv with _ hv
  injection hv with q1 hv
  injection hv with q2 hv
  injection hv with q3 hv
  injection hv with q4 hv
  injection hv with q5 _
  exact ⟨eA',ec',tA',tc',uA',uc',by rw [q1,q2,q3,q4,q5],he.keep f1 f2,RowS.keep f1 f2 h4,RowS.keep f1 f2 h5⟩
theorem SU.name (h:SU p tb sb s (.mk k l t es ts us) w wr) (hp:p<w.heap.size) (ht:tb<w.heap.size) (t':ByteArray):SU p tb sb s (.mk k l t' es ts us) w (wr.setCell ⟨sb,2,none⟩ (.string t')):=by
 obtain ⟨h1,h2,h3⟩:=h.set_ hp ht 2 (.string t')
 obtain ⟨f1,f2⟩:=z5n (w.heap.size+1) sb 2 wr (.string t')
 obtain ⟨D,d,k0,l0,t0,eA,en,ec,tA,tn,tc,uA,un,uc,hr,hv⟩:=h.at_
 refine ⟨h1,h2,h3,h.lt,D,d,k0,l0,t',eA,en,ec,tA,tn,tc,uA,un,uc,z0f (i:=2) (.string t') hr,?_⟩
 cases d with
 | zero=>exact hv.elim
 | succ d =>
  obtain ⟨eA',ec',tA',tc',uA',uc',hv,he,h4,h5⟩:=hv
  injection hv with hv
  injection hv with hv
  injection hv with q0 hv
  injection hv with q1 hv
  injection hv with _ hv
  injection hv with q3 hv
  injection hv with q4 hv
  injection hv with q5 _
  exact ⟨eA',ec',tA',tc',uA',uc',by rw [q0,q1,q3,q4,q5],he.keep f1 f2,RowS.keep f1 f2 h4,RowS.keep f1 f2 h5⟩
theorem SU.exprs (h:SU p tb sb s (.mk k l t es ts us) w wr) (hp:p<w.heap.size) (ht:tb<w.heap.size) {D':Nat} {xs:List Ex} {A:Option Addr} {m c:Nat} (hx:RowE (FF (w.heap.size+1) sb wr) wr D' xs A c) (hm:m=xs.length):SU p tb sb s (.mk k l t xs ts us) w (wr.setCell ⟨sb,3,none⟩ (.slice A m c)):=by
 subst hm
 obtain ⟨h1,h2,h3⟩:=h.set_ hp ht 3 (.slice A xs.length c)
 obtain ⟨f1,f2⟩:=z5n (w.heap.size+1) sb 3 wr (.slice A xs.length c)
 obtain ⟨D,d,k0,l0,t0,eA,en,ec,tA,tn,tc,uA,un,uc,hr,hv⟩:=h.at_
 refine ⟨h1,h2,h3,h.lt,D+D',d+1,k0,l0,t0,A,xs.length,c,tA,tn,tc,uA,un,uc,z0f (i:=3) (.slice A xs.length c) hr,?_⟩
 cases d with
 | zero=>exact hv.elim
 | succ d =>
  obtain ⟨eA',ec',tA',tc',uA',uc',hv,he,h4,h5⟩:=hv
  injection hv with hv
  injection hv with hv
  injection hv with q0 hv
  injection hv with q1 hv
  injection hv with q2 hv
  injection hv with _ hv
  injection hv with q4 hv
  injection hv with q5 _
  have hx2:=hx.up D
  rw [Nat.add_comm D' D] at hx2
  exact ⟨A,c,tA',tc',uA',uc',by rw [q0,q1,q2,q4,q5],hx2.keep f1 f2,RowS.keep f1 f2 (RowS.more h4 D' 0),RowS.keep f1 f2 (RowS.more h5 D' 0)⟩
theorem SU.thens (h:SU p tb sb s (.mk k l t es ts us) w wr) (hp:p<w.heap.size) (ht:tb<w.heap.size) {D' d':Nat} {xs:List St} {A:Option Addr} {m c:Nat} (hx:RowS (FF (w.heap.size+1) sb wr) wr D' d' xs A c) (hm:m=xs.length):SU p tb sb s (.mk k l t es xs us) w (wr.setCell ⟨sb,4,none⟩ (.slice A m c)):=by
 subst hm
 obtain ⟨h1,h2,h3⟩:=h.set_ hp ht 4 (.slice A xs.length c)
 obtain ⟨f1,f2⟩:=z5n (w.heap.size+1) sb 4 wr (.slice A xs.length c)
 obtain ⟨D,d,k0,l0,t0,eA,en,ec,tA,tn,tc,uA,un,uc,hr,hv⟩:=h.at_
 refine ⟨h1,h2,h3,h.lt,D+D',d+d'+1,k0,l0,t0,eA,en,ec,A,xs.length,c,uA,un,uc,z0f (i:=4) (.slice A xs.length c) hr,?_⟩
 cases d with
 | zero=>exact hv.elim
 | succ d =>
  obtain ⟨eA',ec',tA',tc',uA',uc',hv,he,h4,h5⟩:=hv
  injection hv with hv
  injection hv with hv
  injection hv with q0 hv
  injection hv with q1 hv
  injection hv with q2 hv
  injection hv with q3 hv
  injection hv with _ hv
  injection hv with q5 _
  have e:d+1+d'=d+d'+1:=by omega
  have h5':=RowS.more h5 D' d'
  rw [e]
  exact ⟨eA',ec',A,c,uA',uc',by rw [q0,q1,q2,q3,q5],(he.up D').keep f1 f2,RowS.keep f1 f2 (hx.join D d),RowS.keep f1 f2 h5'⟩
theorem SU.elses (h:SU p tb sb s (.mk k l t es ts us) w wr) (hp:p<w.heap.size) (ht:tb<w.heap.size) {D' d':Nat} {xs:List St} {A:Option Addr} {m c:Nat} (hx:RowS (FF (w.heap.size+1) sb wr) wr D' d' xs A c) (hm:m=xs.length):SU p tb sb s (.mk k l t es ts xs) w (wr.setCell ⟨sb,5,none⟩ (.slice A m c)):=by
 subst hm
 obtain ⟨h1,h2,h3⟩:=h.set_ hp ht 5 (.slice A xs.length c)
 obtain ⟨f1,f2⟩:=z5n (w.heap.size+1) sb 5 wr (.slice A xs.length c)
 obtain ⟨D,d,k0,l0,t0,eA,en,ec,tA,tn,tc,uA,un,uc,hr,hv⟩:=h.at_
 refine ⟨h1,h2,h3,h.lt,D+D',d+d'+1,k0,l0,t0,eA,en,ec,tA,tn,tc,A,xs.length,c,z0f (i:=5) (.slice A xs.length c) hr,?_⟩
 cases d with
 | zero=>exact hv.elim
 | succ d =>
  obtain ⟨eA',ec',tA',tc',uA',uc',hv,he,h4,h5⟩:=hv
  injection hv with hv
  injection hv with hv
  injection hv with q0 hv
  injection hv with q1 hv
  injection hv with q2 hv
  injection hv with q3 hv
  injection hv with q4 hv
  have e:d+1+d'=d+d'+1:=by omega
  have h4':=RowS.more h4 D' d'
  rw [e]
  exact ⟨eA',ec',tA',tc',A,c,by rw [q0,q1,q2,q3,q4],(he.up D').keep f1 f2,RowS.keep f1 f2 h4',RowS.keep f1 f2 (hx.join D d)⟩
end
def SPG (p tb:Nat) (x:St) (s s':PS) (w:World) (e:Ending) (w':World):Prop:=∃ D d k l t eA en ec tA tn tc uA un uc,e=.returned (.agg #[.int .i64 k,.int .i64 l,.string t,.slice eA en ec,.slice tA tn tc,.slice uA un uc]) ∧
 StV (fun q=>w.heap.size≤q∧q<w'.heap.size) w' D d x (.agg #[.int .i64 k,.int .i64 l,.string t,.slice eA en ec,.slice tA tn tc,.slice uA un uc])∧PA w' p tb s'∧w.grownBy w' (some p)∧s'.rest.length≤s.rest.length
def zeI (f:FuncId) (P:PS1):Prop:=∀ (p tb:Nat) (s s':PS) (x:St) (w:World),PA w p tb s→P s=some (x,s')→Calls Tryz.prog f #[.pointer (some ⟨p,0,none⟩)] w (SPG p tb x s s' w)
def BPG (p tb:Nat) (xs:List St) (s s':PS) (w:World) (e:Ending) (w':World):Prop:=∃ D d A m c,e=.returned (.slice A m c)∧m=xs.length∧RowS (fun q=>w.heap.size≤q∧q<w'.heap.size) w' D d xs A c∧PA w' p tb s'∧w.grownBy w' (some p)∧s'.rest.length≤s.rest.length
def z98 (f:FuncId) (P:PSL):Prop:=∀ (p tb:Nat) (s s':PS) (xs:List St) (w:World),PA w p tb s→P s=some (xs,s')→Calls Tryz.prog f #[.pointer (some ⟨p,0,none⟩)] w (BPG p tb xs s s' w)
theorem z3i {p tb sb D d:Nat} {x:St} {s s':PS} {w wr w9:World} {k l:Int} {t:ByteArray} {eA tA uA:Option Addr} {en ec tn tc un uc:Nat} (hv:StV (FF (w.heap.size+1) sb wr) wr D d x (.agg #[.int .i64 k,.int .i64 l,.string t,.slice eA en ec,.slice tA tn tc,.slice uA un uc])) (h:SU p tb sb s' x w wr) (hl:s'.rest.length≤s.rest.length) (hp:p<w.heap.size) (ht:tb<w.heap.size) (hg9:wr.grownBy w9 (some w.heap.size)) :
  SPG p tb x s s' w (.returned (.agg #[.int .i64 k,.int .i64 l,.string t,.slice eA en ec,.slice tA tn tc,.slice uA un uc])) w9 :=
 ⟨D,d,k,l,t,eA,en,ec,tA,tn,tc,uA,un,uc,rfl,hv.keep (fun q hq=>⟨by have:=hq.1; omega,Nat.lt_of_lt_of_le hq.2.1 hg9.size⟩) (fun q hq=>hg9.block q hq.2.1 (fun e=>by injection e with e; have:=hq.1; omega)),h.ra.other hg9 (by omega) (by omega),z0g h.gr hg9 (Nat.le_refl _),hl⟩
theorem SW.su {w0 W:World} {p tb sb:Nat} {k l:Int} {t:ByteArray} {s:PS} {xs:List Ex} (h:SW w0 p tb sb z3A k l t s xs W):SU p tb sb s (.mk k l t xs [] []) w0 W:=by
 obtain ⟨A,n,c,d,L,hr,ha⟩:=h.row
 obtain ⟨rfl,hrow⟩:=ha.row
 obtain ⟨h1,h2,h3⟩:=h.lo
 have hn:∀ D d,RowS (FF (w0.heap.size+1) sb W) W D d [] none 0:=fun D d=>⟨Nat.le_refl _,fun i x hi=>by simp at hi⟩
 exact ⟨h.pa,h.gr,h.z,h3,d,1,k,l,t,A,xs.length,c,none,0,0,none,0,0,hr,A,c,none,0,none,0,rfl,hrow.keep (fun q hq=>⟨by have:=hq.1; omega,hq.2,by have:=hq.1; omega⟩) (fun _ _=>rfl),hn _ _,hn _ _⟩
end Go.Proofs.YtdplfnemedckaaaGreatDoor
namespace Go.Proofs.YtdplfnemedckaaaGreatDoor
open Go.RowKit
theorem z7C {B:PSL} {E:P1} {s s':PS} {x:Ex} {ts:List St} (h:z1H B E s=some (x,ts,s')):∃ s1,E s=some (x,s1)∧B s1=some (ts,s'):=by
 unfold z1H at h
 cases hq:E s with
 | none=>rw [hq] at h; cases h
 | some q =>
  obtain ⟨y,s1⟩:=q
  rw [hq] at h
  dsimp only at h
  cases hb:B s1 with
  | none=>rw [hb] at h; cases h
  | some q2 =>
   obtain ⟨t2,s2⟩:=q2
   rw [hb] at h
   injection h with h
   injection h with e1 h
   injection h with e2 e3
   subst e1 e2 e3
   exact ⟨s1,rfl,hb⟩
def GuG (w0:World) (p tb sb:Nat) (x:St) (s':PS) (n:Nat) (e:Ending) (W:World):Prop:=(∃ v,e=.returned v)∧SU p tb sb s' x w0 W∧s'.rest.length≤n
set_option maxRecDepth 100000 in
set_option maxHeartbeats 2000000 in
theorem z4V (B:PSL) (E:P1) (he:z1K 132 E) (hbk:z98 74 B) {w0:World} {p tb sb:Nat} {k l:Int} {t:ByteArray} {es:List Ex} {ts us th:List St} {y:Ex} {s s':PS} (W:World) (plt:p<w0.heap.size) (tlt:tb<w0.heap.size) (h:SU p tb sb s (.mk k l t es ts us) w0 W) (hG:z1H B E s=some (y,th,s')) :
  Calls Tryz.prog 117 #[.pointer (some ⟨p,0,none⟩),.pointer (some ⟨sb,0,none⟩)] W (GuG w0 p tb sb (.mk k l t [y] th us) s' s.rest.length):=by
 obtain ⟨s1,hq,hb⟩:=z7C hG
 have HX:=zhi (he p tb s s1 y W h.ra hq)
 have HB:=zhi (fun w h=>hbk p tb s1 s' th w h hb)
 have H0:=zhi h
 have hsb:=h.lt
 have hsl:=h.slt
 clear he hbk hG hq hb h
 go_enter Tryz.func117,Tryz.ntmps117
 go_wp2_with fail
 refine HX.out.mono ?_
 rintro e w5 ⟨b5,rfl,hx5,hp5,hg5,hl5⟩
 obtain ⟨_,d5,k5,o5,a5,l5,t5,A5,n5,c5,rx,vx⟩:=hx5
 have hsz5:=hg5.size
 obtain ⟨q0,q1,q2,q3,q4,q5⟩:=cl6 rx
 have H6:=zhi ((H0.out.step plt hg5 hp5).alloc plt (.cells #[.int .i64 k5,.int .i64 o5,.int .i64 a5,.int .i64 l5,.string t5,.slice A5 n5 c5] 39))
 have HR6:=zhi (zfx (lo:=w0.heap.size+1) (sb:=sb) (T:=39) (vx.keep (G:=fun q=>w0.heap.size+1≤q∧q<w5.heap.size∧q≠sb) (fun q hq=>⟨by have:=hq.1; omega,hq.2,by have:=hq.1; omega⟩) (fun _ _=>rfl)) (by omega) (by omega))
 have HL5:=zhi hl5
 clear rx vx hp5 hg5 hl5 HX H0
 obtain ⟨v0,v1,v2,v3,v4,v5,hrowU⟩:=H6.out.row
 have b3:=cell_of_row _ _ 3 _ _ _ hrowU
 have f3:=z0i hrowU 3
 clear hrowU
 have H:=zhi (H6.out.exprs (m:=1) plt tlt HR6.out rfl)
 clear H6 HR6
 have HBc:=zhi (HB.out _ H.out.ra)
 clear HB
 go_wp2_with fail
 clear b3 f3 q0 q1 q2 q3 q4 q5
 refine HBc.out.mono ?_
 rintro e wb ⟨Db,db,Ab,mb,cb,rfl,hmb,hrb,hpb,hgb,hlb⟩
 have hsl:=H.out.slt
 have Hb:=zhi (H.out.step plt hgb hpb)
 have HRb:=zhi (RowS.keep (G:=FF (w0.heap.size+1) sb wb) (fun q hq=>⟨by omega,hq.2,by omega⟩) (fun _ _=>rfl) hrb)
 have HMb:=zhi hmb
 have HLb:=zhi hlb
 clear hmb hrb hpb hgb hlb HBc H
 obtain ⟨v0,v1,v2,v3,v4,v5,hrowU⟩:=Hb.out.row
 have b4:=cell_of_row _ _ 4 _ _ _ hrowU
 have f4:=z0i hrowU 4
 clear hrowU
 have H:=zhi (Hb.out.thens plt tlt HRb.out HMb.out)
 clear Hb HRb HMb
 go_wp2_with fail
 exact bodyPost_ret (results_none rfl _ _ _) rfl ⟨⟨_,rfl⟩,H.out,by have:=HLb.out; have:=HL5.out; omega⟩
theorem SW.one {w0 W w5:World} {p tb sb d:Nat} {k l:Int} {t:ByteArray} {zo:Obj} {s s1:PS} {y:Ex} {c0 c1 c2 c3 c4 c5:Value} (h:SW w0 p tb sb zo k l t s [] W) (hg:W.grownBy w5 (some p)) (hp:PA w5 p tb s1) (vx:ExV (fun q=>W.heap.size≤q∧q<w5.heap.size) w5 d y (.agg #[c0,c1,c2,c3,c4,c5])) :
  SW w0 p tb sb zo k l t s1 [y] ((w5.alloc (.cells #[c0,c1,c2,c3,c4,c5] 39)).setCell ⟨sb,3,none⟩ (.slice (some ⟨w5.heap.size,0,none⟩) 1 1)):=by
 have hsl:=h.slt
 have hsz:=hg.size
 obtain ⟨h1,h2,h3⟩:=h.lo
 have h5:=h.step hg hp
 have hba:=(Below.refl _ w5).alloc (Nat.le_refl _) (.cells #[c0,c1,c2,c3,c4,c5] 39)
 have h6:=h5.below hba
 obtain ⟨A,n,c,d0,L,hr,ha⟩:=h6.row
 have hown:(w5.alloc (.cells #[c0,c1,c2,c3,c4,c5] 39)).ownsRow (sb+1) 39 6 (.slice (some ⟨w5.heap.size,0,none⟩) 1 1) 1 [c0,c1,c2,c3,c4,c5]:=World.ownsRow_lit w5 #[c0,c1,c2,c3,c4,c5] 1 (by omega) (by decide) rfl
 have hg3:(w5.alloc (.cells #[c0,c1,c2,c3,c4,c5] 39)).grownBy ((w5.alloc (.cells #[c0,c1,c2,c3,c4,c5] 39)).setCell ⟨sb,3,none⟩ (.slice (some ⟨w5.heap.size,0,none⟩) 1 1)) (some sb):=z06 _ ⟨sb,3,none⟩ _
 have hrow:ArgG 0 0 (sb+1) d (w5.alloc (.cells #[c0,c1,c2,c3,c4,c5] 39)) (.slice (some ⟨w5.heap.size,0,none⟩) 1 1) [y] [c0,c1,c2,c3,c4,c5]:=⟨hown,fun j x hj=>by
  match j,hj with
  | 0,hj =>
   cases hj
   exact ⟨c0,c1,c2,c3,c4,c5,rfl,rfl,rfl,rfl,rfl,rfl,vx.keep (fun q hq=>⟨.inr (by omega),by have:=hba.size; omega,fun e=>by simp [Value.ownBlock] at e; omega⟩) (fun q hq=>hba.block q hq.2)⟩
  | j+1,hj=>simp at hj⟩
 exact ⟨h6.pa.other hg3 (by omega) (by omega),z0g h6.gr hg3 (by omega),z04 hg3 (by omega) h6.z,h.lo,⟨_,_,_,d,_,z0f (i:=3) _ hr,hrow.grown hg3 (by omega) (by omega)⟩⟩
theorem z5N {E:P1} {ln:Int} {s s':PS} {x:St} (h:z2O E ln s=some (x,s')):(z0c [[91]] (z07 1 s).2=true∧∃ y s1 z,E (popP (z07 1 s).2)=some (y,s1)∧z1r E (z09 [61] (z09 [93] s1))=some (z,s')∧x=.mk 3 ln (nmB (z07 1 s).1.text) [y,z] [] [])∨(z0c [[91]] (z07 1 s).2=false∧∃ y,z1r E (z09 [61] (z07 1 s).2)=some (y,s')∧x=.mk 2 ln (nmB (z07 1 s).1.text) [y] [] []):=by
 unfold z2O at h
 cases hs:z0c [[91]] (z07 1 s).2 with
 | true =>
  rw [if_pos hs] at h
  cases hq:E (popP (z07 1 s).2) with
  | none=>rw [hq] at h; cases h
  | some q =>
   obtain ⟨y,s1⟩:=q
   rw [hq] at h
   dsimp only at h
   cases hv:z1r E (z09 [61] (z09 [93] s1)) with
   | none=>rw [hv] at h; cases h
   | some q2 =>
    obtain ⟨z,s2⟩:=q2
    rw [hv] at h
    injection h with h
    injection h with e1 e2
    subst e2
    exact .inl ⟨rfl,y,s1,z,rfl,hv,e1.symm⟩
 | false =>
  rw [if_neg (by rw [hs]; decide)] at h
  unfold oneP at h
  cases hv:z1r E (z09 [61] (z07 1 s).2) with
  | none=>rw [hv] at h; cases h
  | some q2 =>
   obtain ⟨z,s2⟩:=q2
   rw [hv] at h
   injection h with h
   injection h with e1 e2
   subst e2
   exact .inr ⟨rfl,z,rfl,e1.symm⟩
set_option maxRecDepth 100000 in
set_option maxHeartbeats 4000000 in
theorem z9i (E:P1) (he:z1K 132 E) {w0:World} {p tb sb:Nat} {k l:Int} {t:ByteArray} {x:St} {s s':PS} (W:World) (h:SW w0 p tb sb z3A k l t s [] W) (hC:z2O E l s=some (x,s')) :
  Calls Tryz.prog 118 #[.pointer (some ⟨p,0,none⟩),.pointer (some ⟨sb,0,none⟩)] W (GuG w0 p tb sb x s' s.rest.length):=by
 have hlo:=h.lo
 have hwf:=h.pa.wf.pos
 have HE:=zhi he
 have HC:=zhi (z5N hC)
 obtain ⟨A0,n0,c0,dd,L0,hrow0,_⟩:=h.row
 have b0:=cell_of_row _ _ 0 _ _ _ hrow0
 have f0:=z0i hrow0 0
 have H1:=zhi (h.kind 2)
 have HN:=zhi (z2T _ H1.out.pa)
 clear he hC hrow0 h
 go_enter Tryz.func118,Tryz.ntmps118
 go_wp2_with fail
 clear b0 f0
 refine HN.out.mono ?_
 rintro e w1 ⟨rfl,hp1,hg1⟩
 have H2:=zhi (H1.out.step hg1 hp1)
 have H3:=zhi (H2.out.name (nmB (z07 1 s).1.text))
 have HL1:=zhi (z1h 1 s hwf)
 obtain ⟨A1,n1,c1,dd1,L1,hrow1,_⟩:=H2.out.row
 have b2:=cell_of_row _ _ 2 _ _ _ hrow1
 have f2:=z0i hrow1 2
 clear hrow1 hp1 hg1 HN H1 H2
 rcases HC.out with ⟨hs,y,s1,z,hq,hv,rfl⟩ | ⟨hs,y,hv,rfl⟩
 ·have HA:=zhi (z0n [91] ⟨#[91]⟩ _ rfl (by decide) H3.out.pa hs)
  have HQ:=zhi hq
  have HV:=zhi hv
  clear HC hs hq hv
  go_wp2_with fail
  clear b2 f2
  refine HA.out.mono ?_
  rintro e w2 ⟨rfl,hp2,hg2⟩
  have H4:=zhi (H3.out.step hg2 hp2)
  obtain ⟨A2,n2,c2,dd2,L2,hrow2,_⟩:=H4.out.row
  have b0:=cell_of_row _ _ 0 _ _ _ hrow2
  have f0:=z0i hrow2 0
  have H5:=zhi (H4.out.kind 3)
  have HX:=zhi (HE.out p tb _ s1 y _ H5.out.pa HQ.out)
  clear hrow2 hp2 hg2 HA H3 H4
  go_wp2_with fail
  clear b0 f0
  refine HX.out.mono ?_
  rintro e w5 ⟨b5,rfl,hx5,hp5,hg5,hl5⟩
  obtain ⟨_,d5,k5,o5,a5,l5,t5,A5,n5,c5,rx,vx⟩:=hx5
  have hsz5:=hg5.size
  obtain ⟨q0,q1,q2,q3,q4,q5⟩:=cl6 rx
  have H6:=zhi ((H5.out.step hg5 hp5).below ((Below.refl _ w5).alloc (Nat.le_refl _) (.cells #[.int .i64 k5,.int .i64 o5,.int .i64 a5,.int .i64 l5,.string t5,.slice A5 n5 c5] 39)))
  have H7:=zhi (H5.out.one hg5 hp5 vx)
  obtain ⟨A2,n2,c2,dd2,L2,hrow2,_⟩:=H6.out.row
  have b3:=cell_of_row _ _ 3 _ _ _ hrow2
  have f3:=z0i hrow2 3
  have HL5:=zhi hl5
  have HD:=zhi (z0r [93] ⟨#[93]⟩ _ rfl (by decide) H7.out.pa)
  have HW7:=zhi H7.out.pa.wf.pos
  clear rx vx hp5 hg5 hl5 HX H5 H6 hrow2
  go_wp2_with fail
  clear b3 f3 q0 q1 q2 q3 q4 q5
  refine HD.out.mono ?_
  rintro e w7 ⟨⟨v7,rfl⟩,hp7,hg7⟩
  have H8:=zhi (H7.out.step hg7 hp7)
  have HLd:=zhi (z0q [93] s1 HW7.out)
  have HD2:=zhi (z0r [61] ⟨#[61]⟩ _ rfl (by decide) H8.out.pa)
  have HLd2:=zhi (z0q [61] _ H8.out.pa.wf.pos)
  clear hp7 hg7 HD H7
  go_wp2_with fail
  refine HD2.out.mono ?_
  rintro e w8 ⟨⟨v8,rfl⟩,hp8,hg8⟩
  have H9:=zhi (H8.out.step hg8 hp8)
  have HV9:=zhi (z2I E HE.out _ H9.out HV.out (by simp))
  clear hp8 hg8 HD2 H8
  go_wp2_with fail
  refine HV9.out.mono ?_
  rintro e w9 ⟨⟨v9,rfl⟩,hs9,hl9⟩
  have HEND:=zhi hs9.su
  have HLE:=zhi hl9
  clear hs9 hl9 HV9
  go_wp2_with fail
  exact bodyPost_ret (results_none rfl _ _ _) rfl ⟨⟨_,rfl⟩,HEND.out,by
   have h1:=HLE.out
   have h2:=HLd.out
   have h3:=HLd2.out
   have h4:=HL5.out
   have h5:=HL1.out
   rw [z0h] at h4
   omega⟩
 ·have HA:=zhi (z0m [91] ⟨#[91]⟩ _ rfl H3.out.pa hs)
  have HV:=zhi hv
  clear HC hs hv
  go_wp2_with fail
  clear b2 f2
  refine HA.out.mono ?_
  rintro e w2 ⟨rfl,hp2,hg2⟩
  have H4:=zhi (H3.out.step hg2 hp2)
  have HD2:=zhi (z0r [61] ⟨#[61]⟩ _ rfl (by decide) H4.out.pa)
  have HLd2:=zhi (z0q [61] _ H4.out.pa.wf.pos)
  clear hp2 hg2 HA H3
  go_wp2_with fail
  refine HD2.out.mono ?_
  rintro e w8 ⟨⟨v8,rfl⟩,hp8,hg8⟩
  have H9:=zhi (H4.out.step hg8 hp8)
  have HV9:=zhi (z2I E HE.out _ H9.out HV.out (by simp))
  clear hp8 hg8 HD2 H4
  go_wp2_with fail
  refine HV9.out.mono ?_
  rintro e w9 ⟨⟨v9,rfl⟩,hs9,hl9⟩
  have HEND:=zhi hs9.su
  have HLE:=zhi hl9
  clear hs9 hl9 HV9
  go_wp2_with fail
  exact bodyPost_ret (results_none rfl _ _ _) rfl ⟨⟨_,rfl⟩,HEND.out,by
   have h1:=HLE.out
   have h3:=HLd2.out
   have h5:=HL1.out
   omega⟩
end Go.Proofs.YtdplfnemedckaaaGreatDoor
