/-
  Ki: RegT, PsCall2, PsCall3, PsCall4, PsCall5, PsCall6, PsEnd. Walks and laws that the statement's proof is made of. No condition of its own.
-/
import Derived.Test.YtdplfnemedckaaaGreatDoorRows
import Derived.OrdersHeld
import Derived.RegionTactic
import Derived.Deep.RegionHeld
import Derived.Test.YtdplfnemedckaaaGreatDoorKh
import Derived.Deep.QuietTactic
import Derived.BigQuiet
namespace Go.Proofs.YtdplfnemedckaaaGreatDoor
section
variable {P:Program} {ops:Array Oper} {Q:Exit→Act→World→Prop} {md:Region.Mode} {S T S':World→Prop} {z:Nat}
def InvT (S T:World→Prop) (z:Nat) (L:Array Bool) (w:World):Prop:=S w∧(L.getD z true=true∨T w)
def GoT (P:Program) (md:Region.Mode) (ops:Array Oper) (Q:Exit→Act→World→Prop) (S T:World→Prop) (z:Nat):Nat→Array Bool→Act→World→Prop
 | 0,L,a,w=>Region.ready md ops L=[]∧Q .normal a w
 | n+1,L,a,w=>(Region.ready md ops L=[]→Q .normal a w)∧∀ i∈Region.ready md ops L,wpOp P ops Q i (fun a' w'=>InvT S T z (L.setIfInBounds i true) w'∧GoT P md ops Q S T z n (L.setIfInBounds i true) a' w') a w
theorem GoT.plain:∀ (n:Nat) (L:Array Bool) (a:Act) (w:World),GoT P md ops Q S T z n L a w→wpAny P md ops Q n L a w
 | 0,_,_,_,h=>h
 | _+1,_,_,_,h=>⟨h.1,fun i hi=>wpOp_mono (fun a' w' h'=>GoT.plain _ _ a' w' h'.2) (h.2 i hi)⟩
theorem GoT.sharp (hs:∀ w,S' w→S w):∀ (n:Nat) (L:Array Bool) (a:Act) (w:World),GoT P md ops Q S' T z n L a w→GoT P md ops Q S T z n L a w
 | 0,_,_,_,h=>h
 | _+1,_,_,_,h=>⟨h.1,fun i hi=>wpOp_mono (fun a' w' h'=>⟨⟨hs _ h'.1.1,h'.1.2⟩,GoT.sharp hs _ _ a' w' h'.2⟩) (h.2 i hi)⟩
def z5H (md:Region.Mode) (ops:Array Oper) (z i:Nat):Bool:=match ops[z]? with
 | some o=>o.after.any fun e=>Region.binds md e&&e.on == i
 | none=>false
theorem z5A {i:Nat} {L:Array Bool} (hun:L.getD i true=false) (h1:L.getD i false=true):False:=by
 rcases Nat.lt_or_ge i L.size with h' | h'
 ·simp [h'] at hun h1
  rw [hun] at h1
  cases h1
 ·simp [Array.getElem?_eq_none h'] at h1
theorem zcr {i:Nat} {L:Array Bool} (h:z5H md ops z i=true) (hi:i∈Region.ready md ops L) (hz:z∈Region.ready md ops L):False:=by
 unfold z5H at h
 obtain ⟨hun,_⟩:=mem_ready.1 hi
 obtain ⟨_,o,ho,hall⟩:=mem_ready.1 hz
 rw [ho] at h
 obtain ⟨k,hk,he⟩:=Array.any_eq_true.1 h
 simp only [Bool.and_eq_true,beq_iff_eq] at he
 have h1:=hall _ (Array.getElem_mem hk) he.1
 rw [he.2] at h1
 exact z5A hun h1
theorem InvT.set {i:Nat} {L:Array Bool} {w:World} (hi:i≠z) (h:InvT S T z L w):InvT S T z (L.setIfInBounds i true) w:=⟨h.1,by
 rw [getD_set_ne true hi]
 exact h.2⟩
theorem InvT.unset {i:Nat} {L:Array Bool} {w:World} (hi:i≠z) (h:InvT S T z (L.setIfInBounds i true) w):InvT S T z L w:=⟨h.1,by
 have:=h.2
 rw [getD_set_ne true hi] at this
 exact this⟩
theorem GoT.first {U:World→Prop} {i:Nat} {oi:Oper} {v:Value} (hi:ops[i]?=some oi) (hiz:i≠z) (hU:∀ L w,i∈Region.ready md ops L→(L.getD z true=true→¬ z5H md ops z i=true)→InvT S T z L w→U w) (hsel:∀ (j:Nat) (o:Oper) cs b,ops[j]?=some o→o.op≠.select cs b) (hQ:∀ c a w,Q (.panic c) (a.put oi.dst v) w→Q (.panic c) a w) :
  ∀ (n:Nat) (L:Array Bool) (a:Act) (w:World),(∀ j oj,ops[j]?=some oj→j≠i→L.getD j true=false→(∀ e∈oj.after,Region.binds md e=true→e.on≠i)→oi.apart ops oj=true)→i∈Region.ready md ops L→(L.getD z true=true→¬ z5H md ops z i=true)→YieldsIf P ops U oi v a→InvT S T z L w →
   GoT P md ops Q S T z n (L.setIfInBounds i true) (a.put oi.dst v) w→GoT P md ops Q S T z (n+1) L a w:=by
 intro n
 induction n with
 | zero =>
  intro L a w _ hr hzl hy hS H
  refine ⟨fun h=>(by rw [h] at hr; cases hr),fun j hj=>?_⟩
  by_cases hji:j=i
  ·subst hji
   exact hy.wpOp hi (hU L w hr hzl hS) ⟨hS.set hiz,H⟩
  ·have:=ready_mono hj hji
   rw [H.1] at this
   cases this
 | succ n ih =>
  intro L a w hfree hr hzl hy hS H
  refine ⟨fun h=>(by rw [h] at hr; cases hr),fun j hj=>?_⟩
  by_cases hji:j=i
  ·subst hji
   exact hy.wpOp hi (hU L w hr hzl hS) ⟨hS.set hiz,H⟩
  ·obtain ⟨hjun,oj,hoj,hall⟩:=mem_ready.1 hj
   have hnot:∀ e∈oj.after,Region.binds md e=true→e.on≠i:=fun e he hb heq=>by
    have h1:=hall e he hb
    rw [heq] at h1
    exact z5A (mem_ready.1 hr).1 h1
   have h2:=wpOp_putIf hoj (hfree j oj hoj hji hjun hnot) (fun cs b=>hsel i oi cs b hi) (fun cs b=>hsel j oj cs b hoj) hQ hy (H.2 j (ready_mono hj hji))
   refine wpOp_mono (fun a' w' h3=>?_) h2
   have hcm:(L.setIfInBounds i true).setIfInBounds j true=(L.setIfInBounds j true).setIfInBounds i true:=Array.setIfInBounds_comm _ _ (Ne.symm hji)
   have hS':InvT S T z (L.setIfInBounds j true) w':=by
    have:=h3.2.1
    rw [hcm] at this
    exact this.unset hiz
   refine ⟨hS',ih (L.setIfInBounds j true) a' w' (fun k ok hk hki hun hno=>?_) (ready_mono hr (Ne.symm hji)) (fun h=>?_) h3.1 hS' ?_⟩
   ·refine hfree k ok hk hki ?_ hno
    by_cases hjk:j=k
    ·subst hjk
     exact hjun
    ·rw [getD_set_ne true hjk] at hun
     exact hun
   ·by_cases hjz:j=z
    ·subst hjz
     exact fun hw=>zcr hw hr hj
    ·rw [getD_set_ne true hjz] at h
     exact hzl h
   ·rw [← hcm]
    exact h3.2.2
theorem GoT.take {i:Nat} {oi:Oper} {v:Value} {n:Nat} {L:Array Bool} {a:Act} {w:World} (hi:ops[i]?=some oi) (hiz:(i == z)=false) (hzl:(!(L.getD z true)||!(z5H md ops z i))=true) (hs:Region.noSelect ops=true) (hf:Region.free md ops L i=true) (hr:(Region.ready md ops L).contains i=true)
  (hQ:∀ c a w,Q (.panic c) (a.put oi.dst v) w→Q (.panic c) a w) (hy:YieldsIf P ops S oi v a) (hS:InvT S T z L w) (h:GoT P md ops Q S T z n (L.setIfInBounds i true) (a.put oi.dst v) w):GoT P md ops Q S T z (n+1) L a w :=
 GoT.first (U:=S) hi (by simpa using hiz) (fun _ _ _ _ h=>h.1) (Region.noSelect_spec hs) hQ n L a w (Region.free_spec hi hf) (by simpa using hr) (fun h hw=>by rw [h,hw] at hzl; cases hzl) hy hS h
theorem GoT.takeT {i:Nat} {oi:Oper} {v:Value} {n:Nat} {L:Array Bool} {a:Act} {w:World} (hi:ops[i]?=some oi) (hiz:(i == z)=false) (hzl:(!(L.getD z true)&&z5H md ops z i)=true) (hs:Region.noSelect ops=true) (hf:Region.free md ops L i=true) (hr:(Region.ready md ops L).contains i=true)
  (hQ:∀ c a w,Q (.panic c) (a.put oi.dst v) w→Q (.panic c) a w) (hy:YieldsIf P ops (fun w=>S w∧T w) oi v a) (hS:InvT S T z L w) (h:GoT P md ops Q S T z n (L.setIfInBounds i true) (a.put oi.dst v) w):GoT P md ops Q S T z (n+1) L a w:=by
 simp only [Bool.and_eq_true,Bool.not_eq_true'] at hzl
 exact GoT.first (U:=fun w=>S w∧T w) hi (by simpa using hiz) (fun L' w' _ h1 h=>⟨h.1,h.2.resolve_left (fun e=>h1 e hzl.2)⟩) (Region.noSelect_spec hs) hQ n L a w (Region.free_spec hi hf) (by simpa using hr) (fun h=>by rw [h] at hzl; cases hzl.1) hy hS h
def AllT (P:Program) (md:Region.Mode) (ops:Array Oper) (Q:Exit→Act→World→Prop) (S T:World→Prop) (z n:Nat) (L:Array Bool) (a:Act) (w:World) (rs:List Nat):Prop :=
 ∀ i∈rs,wpOp P ops Q i (fun a' w'=>InvT S T z (L.setIfInBounds i true) w'∧GoT P md ops Q S T z n (L.setIfInBounds i true) a' w') a w
theorem AllT.nil {n:Nat} {L:Array Bool} {a:Act} {w:World}:AllT P md ops Q S T z n L a w []:=fun _ h=>by cases h
theorem AllT.cons {n:Nat} {L:Array Bool} {a:Act} {w:World} {i:Nat} {o:Oper} {rs:List Nat} (ho:ops[i]?=some o)
  (h:∀ K':Act→World→Prop,Shut (∀ a w,InvT S T z (L.setIfInBounds i true) w→(InvT S T z (L.setIfInBounds i true) w→GoT P md ops Q S T z n (L.setIfInBounds i true) a w)→K' a w)→if Region.wanted o (yielded ops a.tmps)=true then Oper.wp P o a w K' Q else K' (a.put o.dst undef) w)
  (hs:AllT P md ops Q S T z n L a w rs):AllT P md ops Q S T z n L a w (i :: rs):=fun j hj=>by
 rcases List.mem_cons.1 hj with rfl | hj
 ·exact wpOp_step ho (fun K' hK=>h K' (fun a w hS hW=>hK a w ⟨hS,hW hS⟩))
 ·exact hs j hj
theorem GoT.next {rs:List Nat} {n:Nat} {L:Array Bool} {a:Act} {w:World} (hr:Region.ready md ops L=rs) (hne:rs≠[]) (h:AllT P md ops Q S T z n L a w rs):GoT P md ops Q S T z (n+1) L a w :=
 ⟨fun h0=>absurd (hr ▸ h0) hne,hr ▸ h⟩
theorem GoT.done {L:Array Bool} {a:Act} {w:World} (hr:Region.ready md ops L=[]) (h:Q .normal a w):∀ n,GoT P md ops Q S T z n L a w
 | 0=>⟨hr,h⟩
 | _+1=>⟨fun _=>h,by rw [hr]; simp⟩
theorem GoT.region {id:Nat} {a:Act} {w:World} (hm:P.follows .mixedOrders=true) (hS:S w.drew) (hT:T w.drew) (h:InvT S T z (Array.replicate ops.size false) w.drew→GoT P .any ops Q S T z ops.size (Array.replicate ops.size false) a w.drew):(Code.region id ops true).wp P Q a w :=
 wp_region_any hm (GoT.plain _ _ _ _ (h ⟨hS,.inr hT⟩))
end
end Go.Proofs.YtdplfnemedckaaaGreatDoor
namespace Go.Proofs.YtdplfnemedckaaaGreatDoor
open Go.RowKit
def ElG (w0:World) (lw p tb xv pbx xb base:Nat) (k l:Int) (nm:ByteArray) (s:PS) (xs:List Ex) (n:Nat) (e:Ending) (W:World):Prop:=(∃ v,e=.returned v)∧CS w0 lw p tb xv pbx xb base k l nm s xs W∧s.rest.length≤n
theorem CS.farp {w0 W w6:World} {lw p tb xv pbx xb base d:Nat} {k l:Int} {nm:ByteArray} {s:PS} {xs:List Ex} {v:Value} {L:List Value} (h:CS w0 lw p tb xv pbx xb base k l nm s xs W) (ha:ArgG lw w0.heap.size base d W v xs L) (hg:W.grownBy w6 v.ownBlock):w6.cell? ⟨pbx,0,none⟩=some (.pointer (some ⟨p,0,none⟩)):=by
 have hl:=h.lo.2.2.2.2.2.2.2.1
 exact (World.cell?_of_block (hg.block pbx (World.block_lt_of_cell? W _ h.cp) (fun e=>by have:=(ha.own.lt pbx e.symm).1; omega))).trans h.cp
def SeV (xv pbx xb p:Nat) (w':World):Prop:=w'.cell? ⟨xv,0,none⟩=some (.pointer (some ⟨xb,0,none⟩))∧w'.cell? ⟨pbx,0,none⟩=some (.pointer (some ⟨p,0,none⟩))
def SeO (xb:Nat) (v:Value) (w':World):Prop:=w'.cell? ⟨xb,5,none⟩=some v
def SeB (xv pbx xb p b5:Nat) (c0 c1 c2 c3 c4 c5:Value) (w':World):Prop:=SeV xv pbx xb p w'∧w'.cell? ⟨b5,0,none⟩=some c0∧w'.cell? ⟨b5,1,none⟩=some c1∧w'.cell? ⟨b5,2,none⟩=some c2∧w'.cell? ⟨b5,3,none⟩=some c3∧w'.cell? ⟨b5,4,none⟩=some c4∧w'.cell? ⟨b5,5,none⟩=some c5
theorem SeV.below {w w':World} {xv pbx xb p:Nat} (h:SeV xv pbx xb p w) (hb:Below w.heap.size w w'):SeV xv pbx xb p w':=⟨hold hb h.1,hold hb h.2⟩
theorem SeB.below {w w':World} {xv pbx xb p b5:Nat} {c0 c1 c2 c3 c4 c5:Value} (h:SeB xv pbx xb p b5 c0 c1 c2 c3 c4 c5 w) (hb:Below w.heap.size w w'):SeB xv pbx xb p b5 c0 c1 c2 c3 c4 c5 w' :=
 ⟨h.1.below hb,hold hb h.2.1,hold hb h.2.2.1,hold hb h.2.2.2.1,hold hb h.2.2.2.2.1,hold hb h.2.2.2.2.2.1,hold hb h.2.2.2.2.2.2⟩
theorem SeB.set {w:World} {xv pbx xb p b5:Nat} {c0 c1 c2 c3 c4 c5:Value} (h:SeB xv pbx xb p b5 c0 c1 c2 c3 c4 c5 w) (h1:xv≠xb) (h2:pbx≠xb) (h3:b5≠xb) (v:Value):SeB xv pbx xb p b5 c0 c1 c2 c3 c4 c5 (w.setCell ⟨xb,5,none⟩ v):=by
 have hg:=z06 w ⟨xb,5,none⟩ v
 exact ⟨⟨z08 hg h1 h.1.1,z08 hg h2 h.1.2⟩,z08 hg h3 h.2.1,z08 hg h3 h.2.2.1,z08 hg h3 h.2.2.2.1,z08 hg h3 h.2.2.2.2.1,z08 hg h3 h.2.2.2.2.2.1,z08 hg h3 h.2.2.2.2.2.2⟩
theorem SeB.of_row {w:World} {xv pbx xb p b5:Nat} {c0 c1 c2 c3 c4 c5:Value} {T:TypeId} (h:SeV xv pbx xb p w) (hr:w.heap[b5]?=some (.cells #[c0,c1,c2,c3,c4,c5] T (0,0))):SeB xv pbx xb p b5 c0 c1 c2 c3 c4 c5 w :=
 ⟨h,cell_of_row _ _ 0 _ _ _ hr,cell_of_row _ _ 1 _ _ _ hr,cell_of_row _ _ 2 _ _ _ hr,cell_of_row _ _ 3 _ _ _ hr,cell_of_row _ _ 4 _ _ _ hr,cell_of_row _ _ 5 _ _ _ hr⟩
theorem ArgG.tail_cells {lw hi base d g cap n:Nat} {w:World} {xs:List Ex} {L:List Value} {z0 z1 z2 z3 z4 z5:Value} (hL:L.length=n * 6) (h:ArgG lw hi base d w (.slice (some ⟨g,0,none⟩) (n+1) cap) xs (L++[z0,z1,z2,z3,z4,z5])) :
  w.cell? ⟨g,n * 6,none⟩=some z0∧w.cell? ⟨g,n * 6+1,none⟩=some z1∧w.cell? ⟨g,n * 6+2,none⟩=some z2∧w.cell? ⟨g,n * 6+3,none⟩=some z3∧w.cell? ⟨g,n * 6+4,none⟩=some z4∧w.cell? ⟨g,n * 6+5,none⟩=some z5∧(∀ o,w.frozen? ⟨g,o,none⟩=false)∧base≤g∧g<w.heap.size∧n+1≤cap:=by
 rcases h.own.2 with ⟨e,_⟩ | ⟨g',cap',cur,e,hb,hh,hc,_⟩
 ·cases e
 ·injection e with e1 e2 e3
  injection e1 with e1
  injection e1 with e1
  subst e1 e3
  have ho:w.ownsRow base 39 6 (.slice (some ⟨g,0,none⟩) (n+1) cap) (n+1) (L++[z0,z1,z2,z3,z4,z5]):=by
   have:=h.own
   rwa [← e2] at this
  have hk:∀ k z,[z0,z1,z2,z3,z4,z5][k]?=some z→k<6→w.cell? ⟨g,n * 6+k,none⟩=some z:=fun k z hz hk6=>by
   refine (ho.cellAt (n * 6+k) (by omega)).trans ?_
   rw [List.getElem?_append_right (by omega),hL,Nat.add_sub_cancel_left]
   exact hz
  exact ⟨hk 0 _ rfl (by decide),hk 1 _ rfl (by decide),hk 2 _ rfl (by decide),hk 3 _ rfl (by decide),hk 4 _ rfl (by decide),hk 5 _ rfl (by decide),fun o=>z0i hh o,hb,(Array.getElem?_eq_some_iff.1 hh).1,by omega⟩
theorem CS.last {w0 w7 W:World} {lw p tb xv pbx xb base g cap d n:Nat} {k l:Int} {nm:ByteArray} {s:PS} {xs ys:List Ex} {L:List Value} (h:CS w0 lw p tb xv pbx xb base k l nm s xs w7) (hr:w7.heap[xb]?=some (.cells #[.int .i64 k,.int .i64 0,.int .i64 0,.int .i64 l,.string nm,.slice (some ⟨g,0,none⟩) n cap] 39 (0,0)))
  (hlen:ys.length=xs.length) (hg:w7.grownBy W (some g)) (hgb:base≤g) (ha:ArgG lw w0.heap.size base d W (.slice (some ⟨g,0,none⟩) n cap) ys L):CS w0 lw p tb xv pbx xb base k l nm s ys W:=by
 obtain ⟨h1,hlw,h2,h3,h4,h5,h6,h7,h8,h9,h10,h11⟩:=h.lo
 exact ⟨h.pa.other hg (by omega) (by omega),z08 hg (by omega) h.cv,z08 hg (by omega) h.cp,⟨_,_,_,d,L,z04 hg (by omega) hr,ha⟩,z0g h.gr hg (by omega),⟨h1,hlw,h2,h3,h4,h5,h6,h7,h8,Nat.le_trans h9 hg.size,h10,h11⟩,by have:=h.few; omega⟩
def zE:Obj:=.cells #[.int .i64 0,.int .i64 0,.int .i64 0,.int .i64 0,.string ⟨#[]⟩,.slice none 0 0] 39
set_option linter.unusedSimpArgs false in
set_option maxRecDepth 100000 in
set_option maxHeartbeats 4000000 in
theorem z8k (E:P1) (he:z1K 132 E) {w0:World} {lw p tb xv pbx xb base:Nat} {k l:Int} {nm:ByteArray} {s s':PS} {xs:List Ex} {y:Ex} (W:World) (h:CS w0 lw p tb xv pbx xb base k l nm s xs W) (hE:E s=some (y,s')) (hfew:xs.length+1+s.rest.length≤1000002) :
  Calls Tryz.prog 162 #[.pointer (some ⟨xv,0,none⟩),.pointer (some ⟨pbx,0,none⟩)] W (ElG w0 lw p tb xv pbx xb base k l nm s' (xs++[y]) s.rest.length):=by
 have HCS:=zhi h
 have HE:=zhi hE
 have HS:=zhi he
 clear h hE he
 go_enter Tryz.func162,Tryz.ntmps162
 go_wp2_with fail
 go_region
 ·have hcs:=HCS.out.below ((((Below.refl _ W).alloc (Nat.le_refl _) (.cells #[.bool false] 4)).drew).drew)
  have HC:=zhi (HS.out p tb s s' y _ hcs.pa HE.out)
  obtain ⟨A,n,c,d,L,hr,ha⟩:=hcs.row
  obtain rfl:n=xs.length:=ha.row.1
  have hlen:xs.length≤1000000:=by have:=hcs.pa.wf.pos; omega
  have hV0:SeV xv pbx xb p ((W.alloc (.cells #[.bool false] 4)).drew).drew:=⟨hcs.cv,hcs.cp⟩
  have hO0:SeO xb (.slice A xs.length c) ((W.alloc (.cells #[.bool false] 4)).drew).drew:=cell_of_row _ _ 5 _ _ _ hr
  have HCS1:=zhi hcs
  have HR:=zhi hr
  have HAR:=zhi ha
  clear hcs hr ha
  go_upto_region 3 with fail
  refine GoT.region (S:=SeV xv pbx xb p) (T:=SeO xb (.slice A xs.length c)) (z:=13) (by kernel_rfl) hV0 hO0 (fun _=>?_)
  simp only [List.size_toArray,List.length_cons,List.length_nil,Nat.zero_add,Nat.reduceAdd]
  refine GoT.take (i:=0) (v:=?_) rfl rfl (by decide +kernel) (by kernel_rfl) (by decide +kernel) (by decide +kernel) (fun _ _ _ h=>h) (Or.inl ⟨by rfl,?_⟩) ⟨by assumption,(by first | exact .inr (by assumption) | exact .inl (by decide +kernel))⟩ ?_
  rotate_left
  ·intro w hSw
   (try unfold SeB at hSw)
   (try unfold SeV at hSw)
   go_simp
   (try with_reducible rfl)
  try simp only [List.getElem_toArray,List.getElem_cons_zero,List.getElem_cons_succ,Act.put,List.setIfInBounds_toArray,List.set_cons_zero,List.set_cons_succ]
  refine GoT.take (i:=1) (v:=?_) rfl rfl (by decide +kernel) (by kernel_rfl) (by decide +kernel) (by decide +kernel) (fun _ _ _ h=>h) (Or.inl ⟨by rfl,?_⟩) ⟨by assumption,(by first | exact .inr (by assumption) | exact .inl (by decide +kernel))⟩ ?_
  rotate_left
  ·intro w hSw
   (try unfold SeB at hSw)
   (try unfold SeV at hSw)
   go_simp
   (try with_reducible rfl)
  try simp only [List.getElem_toArray,List.getElem_cons_zero,List.getElem_cons_succ,Act.put,List.setIfInBounds_toArray,List.set_cons_zero,List.set_cons_succ]
  refine GoT.take (i:=2) (v:=?_) rfl rfl (by decide +kernel) (by kernel_rfl) (by decide +kernel) (by decide +kernel) (fun _ _ _ h=>h) (Or.inl ⟨by rfl,?_⟩) ⟨by assumption,(by first | exact .inr (by assumption) | exact .inl (by decide +kernel))⟩ ?_
  rotate_left
  ·intro w hSw
   (try unfold SeB at hSw)
   (try unfold SeV at hSw)
   go_simp
   (try with_reducible rfl)
  try simp only [List.getElem_toArray,List.getElem_cons_zero,List.getElem_cons_succ,Act.put,List.setIfInBounds_toArray,List.set_cons_zero,List.set_cons_succ]
  refine GoT.take (i:=3) (v:=?_) rfl rfl (by decide +kernel) (by kernel_rfl) (by decide +kernel) (by decide +kernel) (fun _ _ _ h=>h) (Or.inl ⟨by rfl,?_⟩) ⟨by assumption,(by first | exact .inr (by assumption) | exact .inl (by decide +kernel))⟩ ?_
  rotate_left
  ·intro w hSw
   (try unfold SeB at hSw)
   (try unfold SeV at hSw)
   go_simp
   (try with_reducible rfl)
  try simp only [List.getElem_toArray,List.getElem_cons_zero,List.getElem_cons_succ,Act.put,List.setIfInBounds_toArray,List.set_cons_zero,List.set_cons_succ]
  refine GoT.takeT (i:=4) (v:=?_) rfl rfl (by decide +kernel) (by kernel_rfl) (by decide +kernel) (by decide +kernel) (fun _ _ _ h=>h) (Or.inl ⟨by rfl,?_⟩) ⟨by assumption,.inr (by assumption)⟩ ?_
  rotate_left
  ·intro w hSw
   unfold SeV SeO at hSw
   go_simp
   (try with_reducible rfl)
  try simp only [List.getElem_toArray,List.getElem_cons_zero,List.getElem_cons_succ,Act.put,List.setIfInBounds_toArray,List.set_cons_zero,List.set_cons_succ]
  refine GoT.take (i:=5) (v:=?_) rfl rfl (by decide +kernel) (by kernel_rfl) (by decide +kernel) (by decide +kernel) (fun _ _ _ h=>h) (Or.inl ⟨by rfl,?_⟩) ⟨by assumption,(by first | exact .inr (by assumption) | exact .inl (by decide +kernel))⟩ ?_
  rotate_left
  ·intro w hSw
   (try unfold SeB at hSw)
   (try unfold SeV at hSw)
   go_simp
   (try with_reducible rfl)
  try simp only [List.getElem_toArray,List.getElem_cons_zero,List.getElem_cons_succ,Act.put,List.setIfInBounds_toArray,List.set_cons_zero,List.set_cons_succ]
  refine GoT.next (rs:=[6]) (by decide +kernel) (by simp) (AllT.cons rfl (fun K hK=>?_) AllT.nil)
  dsimp only [List.getElem_toArray,List.getElem_cons_zero,List.getElem_cons_succ]
  go_simp
  go_at_call 132
  (with_reducible refine HC.out.mono ?_)
  rintro e w2 ⟨b5,rfl,hx2,hp2,hg2,hl2⟩
  obtain ⟨dy,ky,oy,ay,ly,sy,Ay,ny,cy,rx,hcs2,hr2,ha2,hy2,hF2,hb2⟩:=HCS1.out.after HR.out HAR.out hx2 hp2 hg2 hl2
  have hb5:=hx2.1
  have HLN:=zhi hl2
  have Hf:Hid (xs.length+1+s'.rest.length≤1000002):=zhi (by omega)
  have hV2:SeV xv pbx xb p w2:=⟨hcs2.cv,hcs2.cp⟩
  have hO2:SeO xb (.slice A xs.length c) w2:=cell_of_row _ _ 5 _ _ _ hr2
  have hB2:SeB xv pbx xb p b5 (.int .i64 ky) (.int .i64 oy) (.int .i64 ay) (.int .i64 ly) (.string sy) (.slice Ay ny cy) w2:=⟨hV2,cell_of_row _ _ 0 _ _ _ rx,cell_of_row _ _ 1 _ _ _ rx,cell_of_row _ _ 2 _ _ _ rx,cell_of_row _ _ 3 _ _ _ rx,cell_of_row _ _ 4 _ _ _ rx,cell_of_row _ _ 5 _ _ _ rx⟩
  have HCS2:=zhi hcs2
  have HR2:=zhi hr2
  have HA2:=zhi ha2
  have HY2:=zhi hy2
  have HF2:=zhi hF2
  have HG2:=zhi hg2
  have HRX:=zhi rx
  clear hx2 hp2 hg2 hl2 rx hcs2 hr2 ha2 hy2 hF2
  dsimp only
  refine hK.out _ _ ⟨hV2,.inr hO2⟩ (fun _=>?_)
  clear hK K
  try simp only [Act.put,List.setIfInBounds_toArray,List.set_cons_zero,List.set_cons_succ]
  refine GoT.sharp (S':=SeB xv pbx xb p b5 (.int .i64 ky) (.int .i64 oy) (.int .i64 ay) (.int .i64 ly) (.string sy) (.slice Ay ny cy)) (fun _ h=>h.1) _ _ _ _ ?_
  refine GoT.take (i:=7) (v:=?_) rfl rfl (by decide +kernel) (by kernel_rfl) (by decide +kernel) (by decide +kernel) (fun _ _ _ h=>h) (Or.inl ⟨by rfl,?_⟩) ⟨by assumption,(by first | exact .inr (by assumption) | exact .inl (by decide +kernel))⟩ ?_
  rotate_left
  ·intro w hSw
   (try unfold SeB at hSw)
   (try unfold SeV at hSw)
   go_simp
   (try with_reducible rfl)
  try simp only [List.getElem_toArray,List.getElem_cons_zero,List.getElem_cons_succ,Act.put,List.setIfInBounds_toArray,List.set_cons_zero,List.set_cons_succ]
  refine GoT.take (i:=8) (v:=?_) rfl rfl (by decide +kernel) (by kernel_rfl) (by decide +kernel) (by decide +kernel) (fun _ _ _ h=>h) (Or.inl ⟨by rfl,?_⟩) ⟨by assumption,(by first | exact .inr (by assumption) | exact .inl (by decide +kernel))⟩ ?_
  rotate_left
  ·intro w hSw
   (try unfold SeB at hSw)
   (try unfold SeV at hSw)
   go_simp
   (try with_reducible rfl)
  try simp only [List.getElem_toArray,List.getElem_cons_zero,List.getElem_cons_succ,Act.put,List.setIfInBounds_toArray,List.set_cons_zero,List.set_cons_succ]
  have hBa:=hB2.below ((Below.refl _ w2).alloc (Nat.le_refl _) (.cells #[.int .i64 ky,.int .i64 oy,.int .i64 ay,.int .i64 ly,.string sy,.slice Ay ny cy] 39))
  have hOa:SeO xb (.slice A xs.length c) (w2.alloc (.cells #[.int .i64 ky,.int .i64 oy,.int .i64 ay,.int .i64 ly,.string sy,.slice Ay ny cy] 39)):=hold ((Below.refl _ w2).alloc (Nat.le_refl _) _) hO2
  refine GoT.next (rs:=[9]) (by decide +kernel) (by simp) (AllT.cons rfl (fun K hK=>?_) AllT.nil)
  dsimp only [List.getElem_toArray,List.getElem_cons_zero,List.getElem_cons_succ]
  go_simp
  refine hK.out _ _ ⟨hBa,.inr hOa⟩ (fun _=>?_)
  clear hK K
  try simp only [Act.put,List.setIfInBounds_toArray,List.set_cons_zero,List.set_cons_succ]
  refine GoT.next (rs:=[10]) (by decide +kernel) (by simp) (AllT.cons rfl (fun K hK=>?_) AllT.nil)
  refine z1q w2 ?_ (.tmp 22) (.tmp 27) ?_ lw w0.heap.size base (d+dy) (.slice A xs.length c) xs L y ky oy ay ly sy Ay ny cy _ ?_ ?_ HA2.out hlen hb2 HY2.out HF2.out ?_
  ·rfl
  ·rfl
  ·rfl
  ·rfl
  intro g6 cap6 w6 har6 hg6 _
  have hlo:=HCS2.out.lo
  have hxb:=(Array.getElem?_eq_some_iff.1 HR.out).1
  have hr6:=(hg6.block xb (Array.getElem?_eq_some_iff.1 HR2.out).1 (fun e=>by have:=(HA2.out.own.lt xb e.symm).1; omega)).trans HR2.out
  have hx6:=(hg6.block b5 (Array.getElem?_eq_some_iff.1 HRX.out).1 (fun e=>(HF2.out b5 ⟨hb5,(Array.getElem?_eq_some_iff.1 HRX.out).1⟩).2.2 e.symm)).trans HRX.out
  have hO6:SeO xb (.slice A xs.length c) w6:=cell_of_row _ _ 5 _ _ _ hr6
  have c6:w6.cell? ⟨xb,5,none⟩=some (.slice A xs.length c):=hO6
  have f6:=z0i hr6 5
  have hB6:=SeB.of_row (p:=p) ⟨HCS2.out.far HA2.out hg6,HCS2.out.farp HA2.out hg6⟩ hx6
  have hB7:=hB6.set (by omega) (by omega) (by omega) (.slice (some ⟨g6,0,none⟩) (xs.length+1) cap6)
  have HEND:=zhi (HCS2.out.push Hf.out HR2.out HA2.out hg6 har6)
  clear hr6 har6 hg6 hx6 hlo hxb
  refine hK.out _ _ ⟨hB6,.inr hO6⟩ (fun _=>?_)
  clear hK K
  try simp only [List.getElem_toArray,List.getElem_cons_zero,List.getElem_cons_succ,Act.put,List.setIfInBounds_toArray,List.set_cons_zero,List.set_cons_succ]
  refine GoT.take (i:=11) (v:=?_) rfl rfl (by decide +kernel) (by kernel_rfl) (by decide +kernel) (by decide +kernel) (fun _ _ _ h=>h) (Or.inl ⟨by rfl,?_⟩) ⟨by assumption,(by first | exact .inr (by assumption) | exact .inl (by decide +kernel))⟩ ?_
  rotate_left
  ·intro w hSw
   (try unfold SeB at hSw)
   (try unfold SeV at hSw)
   go_simp
   (try with_reducible rfl)
  try simp only [List.getElem_toArray,List.getElem_cons_zero,List.getElem_cons_succ,Act.put,List.setIfInBounds_toArray,List.set_cons_zero,List.set_cons_succ]
  refine GoT.take (i:=12) (v:=?_) rfl rfl (by decide +kernel) (by kernel_rfl) (by decide +kernel) (by decide +kernel) (fun _ _ _ h=>h) (Or.inl ⟨by rfl,?_⟩) ⟨by assumption,(by first | exact .inr (by assumption) | exact .inl (by decide +kernel))⟩ ?_
  rotate_left
  ·intro w hSw
   (try unfold SeB at hSw)
   (try unfold SeV at hSw)
   go_simp
   (try with_reducible rfl)
  try simp only [List.getElem_toArray,List.getElem_cons_zero,List.getElem_cons_succ,Act.put,List.setIfInBounds_toArray,List.set_cons_zero,List.set_cons_succ]
  refine GoT.next (rs:=[13]) (by decide +kernel) (by simp) (AllT.cons rfl (fun K hK=>?_) AllT.nil)
  dsimp only [List.getElem_toArray,List.getElem_cons_zero,List.getElem_cons_succ]
  go_simp
  refine hK.out _ _ ⟨hB7,.inl (by decide +kernel)⟩ (fun _=>?_)
  clear hK K
  try simp only [Act.put,List.setIfInBounds_toArray,List.set_cons_zero,List.set_cons_succ]
  refine GoT.done (by decide +kernel) ?_ _
  exact bodyPost_ret (results_none rfl _ _ _) rfl ⟨⟨_,rfl⟩,HEND.out,HLN.out⟩
 ·have hcs:=HCS.out.below ((((Below.refl _ W).alloc (Nat.le_refl _) (.cells #[.bool true] 4)).drew).drew)
  obtain ⟨A,n,c,d,L,hr,ha⟩:=hcs.row
  obtain rfl:n=xs.length:=ha.row.1
  have hlen:xs.length≤1000000:=by have:=hcs.pa.wf.pos; omega
  have hV0:SeV xv pbx xb p ((W.alloc (.cells #[.bool true] 4)).drew).drew:=⟨hcs.cv,hcs.cp⟩
  have hO0:SeO xb (.slice A xs.length c) ((W.alloc (.cells #[.bool true] 4)).drew).drew:=cell_of_row _ _ 5 _ _ _ hr
  have HCS1:=zhi hcs
  have HR:=zhi hr
  have HAR:=zhi ha
  have HC:=zhi (HS.out p tb s s' y _ hcs.pa HE.out)
  clear hcs hr ha
  go_upto_region 1 with fail
  refine GoT.region (S:=SeV xv pbx xb p) (T:=SeO xb (.slice A xs.length c)) (z:=13) (by kernel_rfl) hV0 hO0 (fun _=>?_)
  simp only [List.size_toArray,List.length_cons,List.length_nil,Nat.zero_add,Nat.reduceAdd]
  refine GoT.take (i:=0) (v:=?_) rfl rfl (by decide +kernel) (by kernel_rfl) (by decide +kernel) (by decide +kernel) (fun _ _ _ h=>h) (Or.inl ⟨by rfl,?_⟩) ⟨by assumption,(by first | exact .inr (by assumption) | exact .inl (by decide +kernel))⟩ ?_
  rotate_left
  ·intro w hSw
   (try unfold SeB at hSw)
   (try unfold SeV at hSw)
   go_simp
   (try with_reducible rfl)
  try simp only [List.getElem_toArray,List.getElem_cons_zero,List.getElem_cons_succ,Act.put,List.setIfInBounds_toArray,List.set_cons_zero,List.set_cons_succ]
  refine GoT.take (i:=1) (v:=?_) rfl rfl (by decide +kernel) (by kernel_rfl) (by decide +kernel) (by decide +kernel) (fun _ _ _ h=>h) (Or.inl ⟨by rfl,?_⟩) ⟨by assumption,(by first | exact .inr (by assumption) | exact .inl (by decide +kernel))⟩ ?_
  rotate_left
  ·intro w hSw
   (try unfold SeB at hSw)
   (try unfold SeV at hSw)
   go_simp
   (try with_reducible rfl)
  try simp only [List.getElem_toArray,List.getElem_cons_zero,List.getElem_cons_succ,Act.put,List.setIfInBounds_toArray,List.set_cons_zero,List.set_cons_succ]
  refine GoT.take (i:=2) (v:=?_) rfl rfl (by decide +kernel) (by kernel_rfl) (by decide +kernel) (by decide +kernel) (fun _ _ _ h=>h) (Or.inl ⟨by rfl,?_⟩) ⟨by assumption,(by first | exact .inr (by assumption) | exact .inl (by decide +kernel))⟩ ?_
  rotate_left
  ·intro w hSw
   (try unfold SeB at hSw)
   (try unfold SeV at hSw)
   go_simp
   (try with_reducible rfl)
  try simp only [List.getElem_toArray,List.getElem_cons_zero,List.getElem_cons_succ,Act.put,List.setIfInBounds_toArray,List.set_cons_zero,List.set_cons_succ]
  refine GoT.takeT (i:=3) (v:=?_) rfl rfl (by decide +kernel) (by kernel_rfl) (by decide +kernel) (by decide +kernel) (fun _ _ _ h=>h) (Or.inl ⟨by rfl,?_⟩) ⟨by assumption,.inr (by assumption)⟩ ?_
  rotate_left
  ·intro w hSw
   unfold SeV SeO at hSw
   go_simp
   (try with_reducible rfl)
  try simp only [List.getElem_toArray,List.getElem_cons_zero,List.getElem_cons_succ,Act.put,List.setIfInBounds_toArray,List.set_cons_zero,List.set_cons_succ]
  refine GoT.take (i:=4) (v:=?_) rfl rfl (by decide +kernel) (by kernel_rfl) (by decide +kernel) (by decide +kernel) (fun _ _ _ h=>h) (Or.inl ⟨by rfl,?_⟩) ⟨by assumption,(by first | exact .inr (by assumption) | exact .inl (by decide +kernel))⟩ ?_
  rotate_left
  ·intro w hSw
   (try unfold SeB at hSw)
   (try unfold SeV at hSw)
   go_simp
   (try with_reducible rfl)
  try simp only [List.getElem_toArray,List.getElem_cons_zero,List.getElem_cons_succ,Act.put,List.setIfInBounds_toArray,List.set_cons_zero,List.set_cons_succ]
  refine GoT.take (i:=8) (v:=?_) rfl rfl (by decide +kernel) (by kernel_rfl) (by decide +kernel) (by decide +kernel) (fun _ _ _ h=>h) (Or.inl ⟨by rfl,?_⟩) ⟨by assumption,(by first | exact .inr (by assumption) | exact .inl (by decide +kernel))⟩ ?_
  rotate_left
  ·intro w hSw
   (try unfold SeB at hSw)
   (try unfold SeV at hSw)
   go_simp
   (try with_reducible rfl)
  try simp only [List.getElem_toArray,List.getElem_cons_zero,List.getElem_cons_succ,Act.put,List.setIfInBounds_toArray,List.set_cons_zero,List.set_cons_succ]
  refine GoT.next (rs:=[5,9]) (by decide +kernel) (by simp) (AllT.cons rfl (fun K hK=>?_) (AllT.cons rfl (fun K hK=>?_) AllT.nil))
  ·dsimp only [List.getElem_toArray,List.getElem_cons_zero,List.getElem_cons_succ]
   go_simp
   go_at_call 132
   (with_reducible refine HC.out.mono ?_)
   rintro e w2 ⟨b5,rfl,hx2,hp2,hg2,hl2⟩
   obtain ⟨dy,ky,oy,ay,ly,sy,Ay,ny,cy,rx,hcs2,hr2,ha2,hy2,hF2,hb2⟩:=HCS1.out.after HR.out HAR.out hx2 hp2 hg2 hl2
   have hb5:=hx2.1
   have HLN:=zhi hl2
   have Hf:Hid (xs.length+1+s'.rest.length≤1000002):=zhi (by omega)
   have hV2:SeV xv pbx xb p w2:=⟨hcs2.cv,hcs2.cp⟩
   have hO2:SeO xb (.slice A xs.length c) w2:=cell_of_row _ _ 5 _ _ _ hr2
   have hB2:SeB xv pbx xb p b5 (.int .i64 ky) (.int .i64 oy) (.int .i64 ay) (.int .i64 ly) (.string sy) (.slice Ay ny cy) w2:=⟨hV2,cell_of_row _ _ 0 _ _ _ rx,cell_of_row _ _ 1 _ _ _ rx,cell_of_row _ _ 2 _ _ _ rx,cell_of_row _ _ 3 _ _ _ rx,cell_of_row _ _ 4 _ _ _ rx,cell_of_row _ _ 5 _ _ _ rx⟩
   have HCS2:=zhi hcs2
   have HR2:=zhi hr2
   have HA2:=zhi ha2
   have HY2:=zhi hy2
   have HF2:=zhi hF2
   have HG2:=zhi hg2
   have HRX:=zhi rx
   clear hx2 hp2 hg2 hl2 rx hcs2 hr2 ha2 hy2 hF2
   dsimp only
   refine hK.out _ _ ⟨hV2,.inr hO2⟩ (fun _=>?_)
   clear hK K
   try simp only [Act.put,List.setIfInBounds_toArray,List.set_cons_zero,List.set_cons_succ]
   refine GoT.sharp (S':=SeB xv pbx xb p b5 (.int .i64 ky) (.int .i64 oy) (.int .i64 ay) (.int .i64 ly) (.string sy) (.slice Ay ny cy)) (fun _ h=>h.1) _ _ _ _ ?_
   refine GoT.take (i:=6) (v:=?_) rfl rfl (by decide +kernel) (by kernel_rfl) (by decide +kernel) (by decide +kernel) (fun _ _ _ h=>h) (Or.inl ⟨by rfl,?_⟩) ⟨by assumption,(by first | exact .inr (by assumption) | exact .inl (by decide +kernel))⟩ ?_
   rotate_left
   ·intro w hSw
    (try unfold SeB at hSw)
    (try unfold SeV at hSw)
    go_simp
    (try with_reducible rfl)
   try simp only [List.getElem_toArray,List.getElem_cons_zero,List.getElem_cons_succ,Act.put,List.setIfInBounds_toArray,List.set_cons_zero,List.set_cons_succ]
   refine GoT.take (i:=7) (v:=?_) rfl rfl (by decide +kernel) (by kernel_rfl) (by decide +kernel) (by decide +kernel) (fun _ _ _ h=>h) (Or.inl ⟨by rfl,?_⟩) ⟨by assumption,(by first | exact .inr (by assumption) | exact .inl (by decide +kernel))⟩ ?_
   rotate_left
   ·intro w hSw
    (try unfold SeB at hSw)
    (try unfold SeV at hSw)
    go_simp
    (try with_reducible rfl)
   try simp only [List.getElem_toArray,List.getElem_cons_zero,List.getElem_cons_succ,Act.put,List.setIfInBounds_toArray,List.set_cons_zero,List.set_cons_succ]
   have hBa:=hB2.below ((Below.refl _ w2).alloc (Nat.le_refl _) zE)
   have hOa:SeO xb (.slice A xs.length c) (w2.alloc zE):=hold ((Below.refl _ w2).alloc (Nat.le_refl _) _) hO2
   unfold zE at hBa hOa
   refine GoT.next (rs:=[9]) (by decide +kernel) (by simp) (AllT.cons rfl (fun K hK=>?_) AllT.nil)
   dsimp only [List.getElem_toArray,List.getElem_cons_zero,List.getElem_cons_succ]
   go_simp
   refine hK.out _ _ ⟨hBa,.inr hOa⟩ (fun _=>?_)
   clear hK K
   try simp only [Act.put,List.setIfInBounds_toArray,List.set_cons_zero,List.set_cons_succ]
   refine GoT.next (rs:=[10]) (by decide +kernel) (by simp) (AllT.cons rfl (fun K hK=>?_) AllT.nil)
   obtain ⟨D,hD⟩:∃ D,d+dy=D+1:=by
    cases hq:d+dy with
    | zero =>
     have:=HY2.out
     rw [hq] at this
     exact this.elim
    | succ q=>exact ⟨q,rfl⟩
   refine z1q w2 ?_ (.tmp 7) (.tmp 13) ?_ lw w0.heap.size base (d+dy) (.slice A xs.length c) xs L (.mk 0 0 0 0 ⟨#[]⟩ []) 0 0 0 0 ⟨#[]⟩ none 0 0 (fun _=>False) ?_ ?_ HA2.out hlen hb2 (by rw [hD]; exact z19) (fun b h=>h.elim) ?_
   ·rfl
   ·rfl
   ·rfl
   ·rfl
   intro g6 cap6 w6 har6 hg6 hat6
   have hlo:=HCS2.out.lo
   have hxb:=(Array.getElem?_eq_some_iff.1 HR.out).1
   have hr6:=(hg6.block xb (Array.getElem?_eq_some_iff.1 HR2.out).1 (fun e=>by have:=(HA2.out.own.lt xb e.symm).1; omega)).trans HR2.out
   have hx6:=(hg6.block b5 (Array.getElem?_eq_some_iff.1 HRX.out).1 (fun e=>(HF2.out b5 ⟨hb5,(Array.getElem?_eq_some_iff.1 HRX.out).1⟩).2.2 e.symm)).trans HRX.out
   have hO6:SeO xb (.slice A xs.length c) w6:=cell_of_row _ _ 5 _ _ _ hr6
   have c6:w6.cell? ⟨xb,5,none⟩=some (.slice A xs.length c):=hO6
   have f6:=z0i hr6 5
   have hB6:=SeB.of_row (p:=p) ⟨HCS2.out.far HA2.out hg6,HCS2.out.farp HA2.out hg6⟩ hx6
   have hB7:=hB6.set (by omega) (by omega) (by omega) (.slice (some ⟨g6,0,none⟩) (xs.length+1) cap6)
   have hEND:=HCS2.out.push Hf.out HR2.out HA2.out hg6 har6
   have hrow7:(w6.setCell ⟨xb,5,none⟩ (.slice (some ⟨g6,0,none⟩) (xs.length+1) cap6)).heap[xb]?=some (.cells #[.int .i64 k,.int .i64 0,.int .i64 0,.int .i64 l,.string nm,.slice (some ⟨g6,0,none⟩) (xs.length+1) cap6] 39 (0,0)):=z0f (i:=5) _ hr6
   have hgs:w6.grownBy (w6.setCell ⟨xb,5,none⟩ (.slice (some ⟨g6,0,none⟩) (xs.length+1) cap6)) (some xb):=z06 w6 ⟨xb,5,none⟩ (.slice (some ⟨g6,0,none⟩) (xs.length+1) cap6)
   have har7:=har6.grown hgs (by omega) (by omega)
   obtain ⟨l0,l1,l2,l3,l4,l5,lf,hgb,hglt,hcap⟩:=har7.tail_cells HA2.out.own.1
   have lf0:=lf (xs.length * 6)
   have lf1:=lf (xs.length * 6+1)
   have lf2:=lf (xs.length * 6+2)
   have lf3:=lf (xs.length * 6+3)
   have lf4:=lf (xs.length * 6+4)
   have lf5:=lf (xs.length * 6+5)
   have hsz6:=hg6.size
   have hy7:ExV (fun b=>(lw≤b∧b<w0.heap.size∨base≤b)∧b<(w6.setCell ⟨xb,5,none⟩ (.slice (some ⟨g6,0,none⟩) (xs.length+1) cap6)).heap.size∧b≠g6) (w6.setCell ⟨xb,5,none⟩ (.slice (some ⟨g6,0,none⟩) (xs.length+1) cap6)) (d+dy) y (.agg #[.int .i64 ky,.int .i64 oy,.int .i64 ay,.int .i64 ly,.string sy,.slice Ay ny cy]):=by
    refine ExV.keep (fun b hb=>?_) (fun b hb=>?_) _ _ _ HY2.out
    ·have h1:=HF2.out b hb
     have h2:=hgs.size
     refine ⟨h1.1,by omega,fun e=>?_⟩
     subst e
     rcases hat6 with h | h
     ·exact h1.2.2 h
     ·omega
    ·have h1:=HF2.out b hb
     exact (hgs.block b (by omega) (fun e=>by injection e with e; omega)).trans (hg6.block b hb.2 (fun e=>h1.2.2 e.symm))
   obtain ⟨hlast,hgl⟩:=ArgG.last rfl HA2.out.own.1 har7 hy7 (fun b hb=>hb)
   have HEND:=zhi (hEND.last hrow7 (by simp) hgl hgb hlast)
   clear hr6 har6 hg6 hx6 hlo hxb hEND hrow7 hgs har7 hy7 hlast hgl lf
   refine hK.out _ _ ⟨hB6,.inr hO6⟩ (fun _=>?_)
   clear hK K
   try simp only [List.getElem_toArray,List.getElem_cons_zero,List.getElem_cons_succ,Act.put,List.setIfInBounds_toArray,List.set_cons_zero,List.set_cons_succ]
   refine GoT.take (i:=11) (v:=?_) rfl rfl (by decide +kernel) (by kernel_rfl) (by decide +kernel) (by decide +kernel) (fun _ _ _ h=>h) (Or.inl ⟨by rfl,?_⟩) ⟨by assumption,(by first | exact .inr (by assumption) | exact .inl (by decide +kernel))⟩ ?_
   rotate_left
   ·intro w hSw
    (try unfold SeB at hSw)
    (try unfold SeV at hSw)
    go_simp
    (try with_reducible rfl)
   try simp only [List.getElem_toArray,List.getElem_cons_zero,List.getElem_cons_succ,Act.put,List.setIfInBounds_toArray,List.set_cons_zero,List.set_cons_succ]
   refine GoT.take (i:=12) (v:=?_) rfl rfl (by decide +kernel) (by kernel_rfl) (by decide +kernel) (by decide +kernel) (fun _ _ _ h=>h) (Or.inl ⟨by rfl,?_⟩) ⟨by assumption,(by first | exact .inr (by assumption) | exact .inl (by decide +kernel))⟩ ?_
   rotate_left
   ·intro w hSw
    (try unfold SeB at hSw)
    (try unfold SeV at hSw)
    go_simp
    (try with_reducible rfl)
   try simp only [List.getElem_toArray,List.getElem_cons_zero,List.getElem_cons_succ,Act.put,List.setIfInBounds_toArray,List.set_cons_zero,List.set_cons_succ]
   refine GoT.next (rs:=[13]) (by decide +kernel) (by simp) (AllT.cons rfl (fun K hK=>?_) AllT.nil)
   dsimp only [List.getElem_toArray,List.getElem_cons_zero,List.getElem_cons_succ]
   go_simp
   refine hK.out _ _ ⟨hB7,.inl (by decide +kernel)⟩ (fun _=>?_)
   clear hK K
   try simp only [Act.put,List.setIfInBounds_toArray,List.set_cons_zero,List.set_cons_succ]
   refine GoT.done (by decide +kernel) ?_ _
   clear hB6 hB7 hO6 hB2 hV2 hO2 f6 c6
   go_wp2_with fail
   exact bodyPost_ret (results_none rfl _ _ _) rfl ⟨⟨_,rfl⟩,HEND.out,HLN.out⟩
  ·have hbz:Below ((W.alloc (.cells #[.bool true] 4)).drew).drew.heap.size ((W.alloc (.cells #[.bool true] 4)).drew).drew (((W.alloc (.cells #[.bool true] 4)).alloc zE).drew).drew:=(Below.refl _ ((W.alloc (.cells #[.bool true] 4)).drew).drew).alloc (Nat.le_refl _) zE
   have hz:((((W.alloc (.cells #[.bool true] 4)).alloc zE).drew).drew).heap[W.heap.size+1]?=some zE:=z0F W _ zE
   have hVz:=hV0.below hbz
   have hOz:SeO xb (.slice A xs.length c) ((((W.alloc (.cells #[.bool true] 4)).alloc zE).drew).drew):=hold hbz hO0
   have HCS1:=zhi (HCS1.out.below hbz)
   have HR:=zhi ((hbz.block _ (Array.getElem?_eq_some_iff.1 HR.out).1).trans HR.out)
   have HAR:=zhi (HAR.out.grown (z01 hbz (some p)) (by have:=HCS1.out.lo; omega) (by have:=HCS1.out.lo; omega))
   have HC:=zhi (HS.out p tb s s' y _ HCS1.out.pa HE.out)
   unfold zE at hz hVz hOz HCS1 HR HAR HC
   dsimp only [List.getElem_toArray,List.getElem_cons_zero,List.getElem_cons_succ]
   go_simp
   refine hK.out _ _ ⟨hVz,.inr hOz⟩ (fun _=>?_)
   clear hK K
   try simp only [Act.put,List.setIfInBounds_toArray,List.set_cons_zero,List.set_cons_succ]
   clear hV0 hO0 hbz
   refine GoT.next (rs:=[5]) (by decide +kernel) (by simp) (AllT.cons rfl (fun K hK=>?_) AllT.nil)
   dsimp only [List.getElem_toArray,List.getElem_cons_zero,List.getElem_cons_succ]
   go_simp
   go_at_call 132
   (with_reducible refine HC.out.mono ?_)
   rintro e w2 ⟨b5,rfl,hx2,hp2,hg2,hl2⟩
   obtain ⟨dy,ky,oy,ay,ly,sy,Ay,ny,cy,rx,hcs2,hr2,ha2,hy2,hF2,hb2⟩:=HCS1.out.after HR.out HAR.out hx2 hp2 hg2 hl2
   have hb5:=hx2.1
   have HLN:=zhi hl2
   have Hf:Hid (xs.length+1+s'.rest.length≤1000002):=zhi (by omega)
   have hV2:SeV xv pbx xb p w2:=⟨hcs2.cv,hcs2.cp⟩
   have hO2:SeO xb (.slice A xs.length c) w2:=cell_of_row _ _ 5 _ _ _ hr2
   have hB2:SeB xv pbx xb p b5 (.int .i64 ky) (.int .i64 oy) (.int .i64 ay) (.int .i64 ly) (.string sy) (.slice Ay ny cy) w2:=⟨hV2,cell_of_row _ _ 0 _ _ _ rx,cell_of_row _ _ 1 _ _ _ rx,cell_of_row _ _ 2 _ _ _ rx,cell_of_row _ _ 3 _ _ _ rx,cell_of_row _ _ 4 _ _ _ rx,cell_of_row _ _ 5 _ _ _ rx⟩
   have HCS2:=zhi hcs2
   have HR2:=zhi hr2
   have HA2:=zhi ha2
   have HY2:=zhi hy2
   have HF2:=zhi hF2
   have HG2:=zhi hg2
   have HRX:=zhi rx
   clear hx2 hp2 hg2 hl2 rx hcs2 hr2 ha2 hy2 hF2
   dsimp only
   refine hK.out _ _ ⟨hV2,.inr hO2⟩ (fun _=>?_)
   clear hK K
   try simp only [Act.put,List.setIfInBounds_toArray,List.set_cons_zero,List.set_cons_succ]
   refine GoT.sharp (S':=SeB xv pbx xb p b5 (.int .i64 ky) (.int .i64 oy) (.int .i64 ay) (.int .i64 ly) (.string sy) (.slice Ay ny cy)) (fun _ h=>h.1) _ _ _ _ ?_
   refine GoT.take (i:=6) (v:=?_) rfl rfl (by decide +kernel) (by kernel_rfl) (by decide +kernel) (by decide +kernel) (fun _ _ _ h=>h) (Or.inl ⟨by rfl,?_⟩) ⟨by assumption,(by first | exact .inr (by assumption) | exact .inl (by decide +kernel))⟩ ?_
   rotate_left
   ·intro w hSw
    (try unfold SeB at hSw)
    (try unfold SeV at hSw)
    go_simp
    (try with_reducible rfl)
   try simp only [List.getElem_toArray,List.getElem_cons_zero,List.getElem_cons_succ,Act.put,List.setIfInBounds_toArray,List.set_cons_zero,List.set_cons_succ]
   refine GoT.take (i:=7) (v:=?_) rfl rfl (by decide +kernel) (by kernel_rfl) (by decide +kernel) (by decide +kernel) (fun _ _ _ h=>h) (Or.inl ⟨by rfl,?_⟩) ⟨by assumption,(by first | exact .inr (by assumption) | exact .inl (by decide +kernel))⟩ ?_
   rotate_left
   ·intro w hSw
    (try unfold SeB at hSw)
    (try unfold SeV at hSw)
    go_simp
    (try with_reducible rfl)
   try simp only [List.getElem_toArray,List.getElem_cons_zero,List.getElem_cons_succ,Act.put,List.setIfInBounds_toArray,List.set_cons_zero,List.set_cons_succ]
   refine GoT.next (rs:=[10]) (by decide +kernel) (by simp) (AllT.cons rfl (fun K hK=>?_) AllT.nil)
   obtain ⟨D,hD⟩:∃ D,d+dy=D+1:=by
    cases hq:d+dy with
    | zero =>
     have:=HY2.out
     rw [hq] at this
     exact this.elim
    | succ q=>exact ⟨q,rfl⟩
   have hz2:=z04 HG2.out (by have:=HCS.out.pa.lt.1; omega) hz
   refine z3y w2 ?_ (.tmp 7) (.tmp 13) ?_ lw w0.heap.size base (d+dy) (W.heap.size+1) (.slice A xs.length c) xs L (.mk 0 0 0 0 ⟨#[]⟩ []) 0 0 0 0 ⟨#[]⟩ none 0 0 (fun _=>False) ?_ ?_ hz2 HA2.out hlen hb2 (by rw [hD]; exact z19) (fun b h=>h.elim) ?_
   ·rfl
   ·rfl
   ·rfl
   ·rfl
   clear hz2 hz
   intro g6 cap6 w6 har6 hg6 hat6
   have hlo:=HCS2.out.lo
   have hxb:=(Array.getElem?_eq_some_iff.1 HR.out).1
   have hr6:=(hg6.block xb (Array.getElem?_eq_some_iff.1 HR2.out).1 (fun e=>by have:=(HA2.out.own.lt xb e.symm).1; omega)).trans HR2.out
   have hx6:=(hg6.block b5 (Array.getElem?_eq_some_iff.1 HRX.out).1 (fun e=>(HF2.out b5 ⟨hb5,(Array.getElem?_eq_some_iff.1 HRX.out).1⟩).2.2 e.symm)).trans HRX.out
   have hO6:SeO xb (.slice A xs.length c) w6:=cell_of_row _ _ 5 _ _ _ hr6
   have c6:w6.cell? ⟨xb,5,none⟩=some (.slice A xs.length c):=hO6
   have f6:=z0i hr6 5
   have hB6:=SeB.of_row (p:=p) ⟨HCS2.out.far HA2.out hg6,HCS2.out.farp HA2.out hg6⟩ hx6
   have hB7:=hB6.set (by omega) (by omega) (by omega) (.slice (some ⟨g6,0,none⟩) (xs.length+1) cap6)
   have hEND:=HCS2.out.push Hf.out HR2.out HA2.out hg6 har6
   have hrow7:(w6.setCell ⟨xb,5,none⟩ (.slice (some ⟨g6,0,none⟩) (xs.length+1) cap6)).heap[xb]?=some (.cells #[.int .i64 k,.int .i64 0,.int .i64 0,.int .i64 l,.string nm,.slice (some ⟨g6,0,none⟩) (xs.length+1) cap6] 39 (0,0)):=z0f (i:=5) _ hr6
   have hgs:w6.grownBy (w6.setCell ⟨xb,5,none⟩ (.slice (some ⟨g6,0,none⟩) (xs.length+1) cap6)) (some xb):=z06 w6 ⟨xb,5,none⟩ (.slice (some ⟨g6,0,none⟩) (xs.length+1) cap6)
   have har7:=har6.grown hgs (by omega) (by omega)
   obtain ⟨l0,l1,l2,l3,l4,l5,lf,hgb,hglt,hcap⟩:=har7.tail_cells HA2.out.own.1
   have lf0:=lf (xs.length * 6)
   have lf1:=lf (xs.length * 6+1)
   have lf2:=lf (xs.length * 6+2)
   have lf3:=lf (xs.length * 6+3)
   have lf4:=lf (xs.length * 6+4)
   have lf5:=lf (xs.length * 6+5)
   have hsz6:=hg6.size
   have hy7:ExV (fun b=>(lw≤b∧b<w0.heap.size∨base≤b)∧b<(w6.setCell ⟨xb,5,none⟩ (.slice (some ⟨g6,0,none⟩) (xs.length+1) cap6)).heap.size∧b≠g6) (w6.setCell ⟨xb,5,none⟩ (.slice (some ⟨g6,0,none⟩) (xs.length+1) cap6)) (d+dy) y (.agg #[.int .i64 ky,.int .i64 oy,.int .i64 ay,.int .i64 ly,.string sy,.slice Ay ny cy]):=by
    refine ExV.keep (fun b hb=>?_) (fun b hb=>?_) _ _ _ HY2.out
    ·have h1:=HF2.out b hb
     have h2:=hgs.size
     refine ⟨h1.1,by omega,fun e=>?_⟩
     subst e
     rcases hat6 with h | h
     ·exact h1.2.2 h
     ·omega
    ·have h1:=HF2.out b hb
     exact (hgs.block b (by omega) (fun e=>by injection e with e; omega)).trans (hg6.block b hb.2 (fun e=>h1.2.2 e.symm))
   obtain ⟨hlast,hgl⟩:=ArgG.last rfl HA2.out.own.1 har7 hy7 (fun b hb=>hb)
   have HEND:=zhi (hEND.last hrow7 (by simp) hgl hgb hlast)
   clear hr6 har6 hg6 hx6 hlo hxb hEND hrow7 hgs har7 hy7 hlast hgl lf
   refine hK.out _ _ ⟨hB6,.inr hO6⟩ (fun _=>?_)
   clear hK K
   try simp only [List.getElem_toArray,List.getElem_cons_zero,List.getElem_cons_succ,Act.put,List.setIfInBounds_toArray,List.set_cons_zero,List.set_cons_succ]
   refine GoT.take (i:=11) (v:=?_) rfl rfl (by decide +kernel) (by kernel_rfl) (by decide +kernel) (by decide +kernel) (fun _ _ _ h=>h) (Or.inl ⟨by rfl,?_⟩) ⟨by assumption,(by first | exact .inr (by assumption) | exact .inl (by decide +kernel))⟩ ?_
   rotate_left
   ·intro w hSw
    (try unfold SeB at hSw)
    (try unfold SeV at hSw)
    go_simp
    (try with_reducible rfl)
   try simp only [List.getElem_toArray,List.getElem_cons_zero,List.getElem_cons_succ,Act.put,List.setIfInBounds_toArray,List.set_cons_zero,List.set_cons_succ]
   refine GoT.take (i:=12) (v:=?_) rfl rfl (by decide +kernel) (by kernel_rfl) (by decide +kernel) (by decide +kernel) (fun _ _ _ h=>h) (Or.inl ⟨by rfl,?_⟩) ⟨by assumption,(by first | exact .inr (by assumption) | exact .inl (by decide +kernel))⟩ ?_
   rotate_left
   ·intro w hSw
    (try unfold SeB at hSw)
    (try unfold SeV at hSw)
    go_simp
    (try with_reducible rfl)
   try simp only [List.getElem_toArray,List.getElem_cons_zero,List.getElem_cons_succ,Act.put,List.setIfInBounds_toArray,List.set_cons_zero,List.set_cons_succ]
   refine GoT.next (rs:=[13]) (by decide +kernel) (by simp) (AllT.cons rfl (fun K hK=>?_) AllT.nil)
   dsimp only [List.getElem_toArray,List.getElem_cons_zero,List.getElem_cons_succ]
   go_simp
   refine hK.out _ _ ⟨hB7,.inl (by decide +kernel)⟩ (fun _=>?_)
   clear hK K
   try simp only [Act.put,List.setIfInBounds_toArray,List.set_cons_zero,List.set_cons_succ]
   refine GoT.done (by decide +kernel) ?_ _
   clear hB6 hB7 hO6 hB2 hV2 hO2 f6 c6
   go_wp2_with fail
   exact bodyPost_ret (results_none rfl _ _ _) rfl ⟨⟨_,rfl⟩,HEND.out,HLN.out⟩
end Go.Proofs.YtdplfnemedckaaaGreatDoor
namespace Go.Proofs.YtdplfnemedckaaaGreatDoor
open Go.RowKit
theorem zdm {E:P1} {n:Nat} {xs ys:List Ex} {s s':PS} (h:z2x E n xs s=some (ys,s')) (hs:z0c [[44]] s=true):∃ m y s2,n=m+1∧E (popP s)=some (y,s2)∧z2x E m (xs++[y]) s2=some (ys,s'):=by
 cases n with
 | zero=>cases h
 | succ m =>
  unfold z2x at h
  rw [if_pos hs] at h
  cases hq:E (popP s) with
  | none=>rw [hq] at h; cases h
  | some q =>
   obtain ⟨y,s2⟩:=q
   rw [hq] at h
   exact ⟨m,y,s2,rfl,rfl,h⟩
theorem zfq {E:P1} {n:Nat} {xs ys:List Ex} {s s':PS} (h:z2x E n xs s=some (ys,s')) (hs:z0c [[44]] s=false):ys=xs∧s'=s:=by
 cases n with
 | zero=>cases h
 | succ m =>
  unfold z2x at h
  rw [if_neg (by rw [hs]; decide)] at h
  injection h with h
  injection h with h1 h2
  exact ⟨h1.symm,h2.symm⟩
theorem z9x {E:P1} {xs ys:List Ex} {s s':PS} (h:z2E E xs s=some (ys,s')):(z0c [[41]] s=true∧ys=xs∧s'=popP s)∨(z0c [[41]] s=false∧∃ y s1 s2,E s=some (y,s1)∧z2x E (s.rest.length+1) (xs++[y]) s1=some (ys,s2)∧s'=z09 [41] s2):=by
 unfold z2E at h
 split at h
 ·rename_i hs
  injection h with h
  injection h with h1 h2
  exact .inl ⟨hs,h1.symm,h2.symm⟩
 ·rename_i hs
  cases hq:E s with
  | none=>rw [hq] at h; cases h
  | some q =>
   obtain ⟨y,s1⟩:=q
   rw [hq] at h
   simp only [] at h
   cases hm:z2x E (s.rest.length+1) (xs++[y]) s1 with
   | none=>rw [hm] at h; cases h
   | some r =>
    obtain ⟨zs,s2⟩:=r
    rw [hm] at h
    injection h with h
    injection h with h1 h2
    subst h1 h2
    exact .inr ⟨by simpa using hs,y,s1,s2,rfl,hm,rfl⟩
def LstR (E:P1) (w0:World) (lw p tb xv pbx xb base:Nat) (k l:Int) (nm:ByteArray) (ys:List Ex) (s2:PS) (N:Nat) (wr:World):Prop:=∃ n xs s,CS w0 lw p tb xv pbx xb base k l nm s xs wr∧z2x E n xs s=some (ys,s2)∧s.rest.length≤N
set_option maxRecDepth 100000 in
set_option maxHeartbeats 2000000 in
theorem z64 (E:P1) (he:z1K 132 E) {w0:World} {lw p tb xv pbx xb base:Nat} {k l:Int} {nm:ByteArray} {s s':PS} {xs ys:List Ex} (W:World) (h:CS w0 lw p tb xv pbx xb base k l nm s xs W) (hL:z2E E xs s=some (ys,s')) (hfew:xs.length+1+s.rest.length≤1000002) :
  Calls Tryz.prog 72 #[.pointer (some ⟨p,0,none⟩),.func (.func 162) #[] #[.pointer (some ⟨xv,0,none⟩),.pointer (some ⟨pbx,0,none⟩)]] W (ElG w0 lw p tb xv pbx xb base k l nm s' ys s.rest.length):=by
 rcases z9x hL with ⟨hs,rfl,rfl⟩ | ⟨hs,y,s1,s2,hE,hM,rfl⟩
 ·have h2:=z0t h.pa.wf (by decide) hs
  have HA:=zhi (z0n [41] ⟨#[41]⟩ W rfl (by decide) h.pa hs)
  have HCS:=zhi h
  clear h hL hs
  go_enter Tryz.func72,Tryz.ntmps72
  go_wp2_with fail
  refine HA.out.mono ?_
  rintro e w1 ⟨rfl,hp1,hg1⟩
  have HE:=zhi (HCS.out.step hg1 hp1 (by rw [z0h]; omega))
  clear HA hp1 hg1
  go_wp2_with fail
  exact bodyPost_ret (results_none rfl _ _ _) rfl ⟨⟨_,rfl⟩,HE.out,by rw [z0h]; omega⟩
 ·have HA:=zhi (z0m [41] ⟨#[41]⟩ W rfl h.pa hs)
  have HCS:=zhi h
  have HE:=zhi hE
  have HM:=zhi hM
  have HS:=zhi he
  clear h hL hs hE hM he
  go_enter Tryz.func72,Tryz.ntmps72
  go_wp2_with fail
  refine HA.out.mono ?_
  rintro e w1 ⟨rfl,hp1,hg1⟩
  have HC:=zhi (z8k E HS.out w1 (HCS.out.step hg1 hp1 (Nat.le_refl _)) HE.out hfew)
  clear HA hp1 hg1 HCS HE
  go_wp2_with fail
  refine HC.out.mono ?_
  rintro e w2 ⟨⟨v2,rfl⟩,hc2,hn2⟩
  have HC2:Hid (LstR E w0 lw p tb xv pbx xb base k l nm ys s2 s.rest.length w2):=zhi ⟨_,_,_,hc2,HM.out,hn2⟩
  clear HC hc2 HM hn2
  go_wp2_with fail
  go_loopw [] (fun wr=>LstR E w0 lw p tb xv pbx xb base k l nm ys s2 s.rest.length wr) (fun wr=>z0B wr p)
  case atStart=>exact HC2.out
  case round =>
   obtain ⟨n,xs1,s3,hcs,hm,hn3⟩:=hrel
   have HRL:=zhi hcs.pa.rest
   clear HC2
   cases hs:z0c [[44]] s3 with
   | true =>
    obtain ⟨m,y3,s4,rfl,hE3,hM3⟩:=zdm hm hs
    have h2:=z0t hcs.pa.wf (by decide) hs
    have HA:=zhi (z0n [44] ⟨#[44]⟩ wr rfl (by decide) hcs.pa hs)
    have HCS:=zhi hcs
    have HE3:=zhi hE3
    have HM3:=zhi hM3
    have hfew3:xs1.length+1+(popP s3).rest.length≤1000002:=by
     have:=hcs.few
     rw [z0h]
     omega
    have hpl:(popP s3).rest.length<s3.rest.length:=by
     rw [z0h]
     omega
    clear hcs hm hs hE3 hM3
    go_wp2_with fail
    refine HA.out.mono ?_
    rintro e w3 ⟨rfl,hp3,hg3⟩
    have HC:=zhi (z8k E HS.out w3 (HCS.out.step hg3 hp3 (Nat.le_of_lt hpl)) HE3.out hfew3)
    clear HA hp3 hg3 HCS HE3
    go_wp2_with fail
    refine HC.out.mono ?_
    rintro e w4 ⟨⟨v4,rfl⟩,hc4,hn4⟩
    have HE4:Hid (LstR E w0 lw p tb xv pbx xb base k l nm ys s2 s.rest.length w4∧z0B w4 p<z0B wr p):=zhi ⟨⟨_,_,_,hc4,HM3.out,by omega⟩,by rw [hc4.pa.rest,HRL.out]; omega⟩
    clear HC hc4 HM3 hn4
    go_wp2_with fail
    exact HE4.out
   | false =>
    obtain ⟨rfl,rfl⟩:=zfq hm hs
    have HA:=zhi (z0m [44] ⟨#[44]⟩ wr rfl hcs.pa hs)
    have HCS:=zhi hcs
    clear hcs hm hs
    go_wp2_with fail
    refine HA.out.mono ?_
    rintro e w3 ⟨rfl,hp3,hg3⟩
    have HCS3:=zhi (HCS.out.step hg3 hp3 (Nat.le_refl _))
    have HD:=zhi (z0r [41] ⟨#[41]⟩ w3 rfl (by decide) hp3)
    have HW:=zhi hp3.wf.pos
    clear HA hp3 hg3 HCS
    go_wp2_with fail
    refine HD.out.mono ?_
    rintro e w4 ⟨⟨v4,rfl⟩,hp4,hg4⟩
    have HE4:=zhi (HCS3.out.step hg4 hp4 (z0q [41] s2 HW.out))
    clear HD hp4 hg4 HCS3
    go_wp2_with fail
    exact bodyPost_ret (results_none rfl _ _ _) rfl ⟨⟨_,rfl⟩,HE4.out,Nat.le_trans (z0q [41] s2 HW.out) hn3⟩
end Go.Proofs.YtdplfnemedckaaaGreatDoor
namespace Go.Proofs.YtdplfnemedckaaaGreatDoor
open Go.RowKit
def za4 (lo p tb:Nat) (x:Ex) (s s':PS) (w:World) (e:Ending) (w':World):Prop:=∃ b,e=.returned (.pointer (some ⟨b,0,none⟩))∧XAt lo w' b x∧PA w' p tb s'∧w.grownBy w' (some p)∧s'.rest.length<s.rest.length
theorem z9e {E:P1} {x y:Ex} {s s':PS} (h:z36 E x true s=some (y,s')):∃ k o a l nm xs ys,x=.mk k o a l nm xs∧z2E E [] (popP s)=some (ys,s')∧y=.mk 9 0 0 ((hdT s).line:Int) nm ys:=by
 unfold z36 at h
 rw [if_pos rfl] at h
 cases hq:z2E E [] (popP s) with
 | none=>rw [hq] at h; cases h
 | some q =>
  obtain ⟨ys,s2⟩:=q
  rw [hq] at h
  obtain ⟨k,o,a,l,nm,xs⟩:=x
  simp only at h
  injection h with h
  injection h with h1 h2
  subst h1 h2
  exact ⟨k,o,a,l,nm,xs,ys,rfl,rfl,rfl⟩
theorem z1n {w w':World} {o':Obj} {q:Nat} (hb:Below w.heap.size w w') (h:w.heap[q]?=some o'):w'.heap[q]?=some o':=(hb.block q (Array.getElem?_eq_some_iff.1 h).1).trans h
set_option maxRecDepth 100000 in
set_option maxHeartbeats 2000000 in
theorem zal (E:P1) (he:z1K 132 E) {p tb b1 lo:Nat} {s s':PS} {x y:Ex} (w:World) (h:PA w p tb s) (hx:XAt lo w b1 x) (hlo:p<lo) (h40:z0c [[40]] s=true) (hC:z36 E x true s=some (y,s')) :
  Calls Tryz.prog 161 #[.pointer (some ⟨p,0,none⟩),.pointer (some ⟨b1,0,none⟩),.bool true] w (za4 lo p tb y s s' w):=by
 obtain ⟨kx,ox,ax,lx,nm,xx,ys,rfl,hL,rfl⟩:=z9e hC
 have h2:=z0t h.wf (by decide) h40
 obtain ⟨hb1lo,dx,k1,o1,a1,l1,t1,A1,n1,c1,hrx,hvx⟩:=hx
 have hnm:t1=nm:=by
  cases dx with
  | zero=>exact hvx.elim
  | succ D =>
   obtain ⟨A',c',hv,_⟩:=z3E.1 hvx
   injection hv with hv
   injection hv with hv
   injection hv with _ hv
   injection hv with _ hv
   injection hv with _ hv
   injection hv with _ hv
   injection hv with hv _
   injection hv
 subst hnm
 have hb0:=(Below.refl _ w).alloc (Nat.le_refl _) (.cells #[.pointer (some ⟨p,0,none⟩)] 69)
 have hbx:=heap_alloc_new w (.cells #[.pointer (some ⟨p,0,none⟩)] 69)
 have HN:=zhi (z1P _ (h.below hb0) h2)
 have hsl:s.rest.length≤1000001:=by
  obtain ⟨_,_,m,hr⟩:=h
  have:=hr.len
  have:=hr.sm
  omega
 have hplt:=h.lt.1
 have htlt:=h.lt.2.1
 have hb1:=(Array.getElem?_eq_some_iff.1 hrx).1
 have HBX:=zhi hbx
 have HRX:=zhi ((hb0.block _ hb1).trans hrx)
 have HG0:=zhi (z01 hb0 (some p))
 have HL:=zhi hL
 have HS:=zhi he
 have hmf:∀ (fn:Go.Fn) (first cap:Array Value) (w:World),(Instr.makeFunc fn first cap).run Tryz.prog w=.ok (.func fn first cap) w:=fun _ _ _ _=>rfl
 have hfd:∀ w:World,(Instr.field 99 (tokV (hdT s)) 1).run Tryz.prog w=.ok (.int .i64 ((hdT s).line:Int)) w:=fun _=>by kernel_rfl
 unfold tokV at hfd
 clear h hC hL he hb0 hbx hrx hvx h40
 go_enter Tryz.func161,Tryz.ntmps161
 go_wp2_with fail
 obtain ⟨W0,hW0⟩:∃ W0,W0=w.alloc (.cells #[.pointer (some ⟨p,0,none⟩)] 69):=⟨_,rfl⟩
 rw [← hW0] at HN HBX HRX HG0 ⊢
 refine HN.out.mono ?_
 rintro e w2 ⟨rfl,hp2,hg2⟩
 unfold tokV
 have hsz2:=hg2.size
 have hsz0:w.heap.size<W0.heap.size:=(Array.getElem?_eq_some_iff.1 HBX.out).1
 have hrx2:=z04 hg2 (by omega) HRX.out
 have hbx2:=z04 hg2 (by omega) HBX.out
 have hb4:Below w2.heap.size w2 ((w2.alloc (.cells #[.int .i64 10,.int .i64 0,.int .i64 0,.int .i64 ((hdT s).line:Int),.string ⟨#[]⟩,.slice none 0 0] 39)).alloc (.cells #[.pointer (some ⟨w2.heap.size,0,none⟩)] 171)):=((Below.refl _ w2).alloc (Nat.le_refl _) _).alloc (by simp) _
 have hx4:=z0G w2 (.cells #[.int .i64 10,.int .i64 0,.int .i64 0,.int .i64 ((hdT s).line:Int),.string ⟨#[]⟩,.slice none 0 0] 39) (.cells #[.pointer (some ⟨w2.heap.size,0,none⟩)] 171)
 have hv4:=z0F w2 (.cells #[.int .i64 10,.int .i64 0,.int .i64 0,.int .i64 ((hdT s).line:Int),.string ⟨#[]⟩,.slice none 0 0] 39) (.cells #[.pointer (some ⟨w2.heap.size,0,none⟩)] 171)
 go_upto_region 3 with fail
 obtain ⟨W4,hW4⟩:∃ W4,W4=(w2.alloc (.cells #[.int .i64 10,.int .i64 0,.int .i64 0,.int .i64 ((hdT s).line:Int),.string ⟨#[]⟩,.slice none 0 0] 39)).alloc (.cells #[.pointer (some ⟨w2.heap.size,0,none⟩)] 171):=⟨_,rfl⟩
 rw [← hW4] at hb4 hx4 hv4 ⊢
 clear hW4
 have hlt4:=(Array.getElem?_eq_some_iff.1 hv4).1
 have hbx4:=z1n hb4 hbx2
 have hrx4:=z1n hb4 hrx2
 have cv4:=cell_of_row _ _ 0 _ _ _ hv4
 have cn4:=cell_of_row _ _ 4 _ _ _ hrx4
 have cx0:=cell_of_row _ _ 0 _ _ _ hx4
 have cx4:=cell_of_row _ _ 4 _ _ _ hx4
 have fx0:=z0i hx4 0
 have fx4:=z0i hx4 4
 have hg46:W4.grownBy ((W4.setCell ⟨w2.heap.size,0,none⟩ (.int .i64 9)).setCell ⟨w2.heap.size,4,none⟩ (.string t1)).drew (some w2.heap.size):=z4e ((z06 W4 ⟨w2.heap.size,0,none⟩ (.int .i64 9)).trans (z06 _ ⟨w2.heap.size,4,none⟩ (.string t1)))
 have hx6:((W4.setCell ⟨w2.heap.size,0,none⟩ (.int .i64 9)).setCell ⟨w2.heap.size,4,none⟩ (.string t1)).drew.heap[w2.heap.size]?=some (.cells #[.int .i64 9,.int .i64 0,.int .i64 0,.int .i64 ((hdT s).line:Int),.string t1,.slice none 0 0] 39 (0,0)):=z0f (i:=4) _ (z0f (i:=0) _ hx4)
 have hv6:=z04 hg46 (by omega) hv4
 have hbx6:=z04 hg46 (by omega) hbx4
 have hs46:=hg46.size
 have hs24:=hb4.size
 have hwf2:=hp2.wf.pos
 have hsm:(popP s).rest.length≤1000000:=by
  obtain ⟨_,_,m,hr⟩:=hp2
  have:=hr.len
  have:=hr.sm
  have:s.rest.length≤1000001:=hsl
  rw [z0h]
  omega
 have hcs:CS w lo p tb (w2.heap.size+1) w.heap.size w2.heap.size W4.heap.size 9 ((hdT s).line:Int) t1 (popP s) [] ((W4.setCell ⟨w2.heap.size,0,none⟩ (.int .i64 9)).setCell ⟨w2.heap.size,4,none⟩ (.string t1)).drew :=
  ⟨(hp2.below hb4).other hg46 (by omega) (by omega),cell_of_row _ _ 0 _ _ _ hv6,cell_of_row _ _ 0 _ _ _ hbx6,⟨none,0,0,0,[],hx6,ArgG.nil _ _ _ _ _⟩,z0g ((HG0.out.trans hg2).trans (z01 hb4 (some p))) hg46 (by omega),⟨hlo,by omega,htlt,by omega,Nat.le_refl _,by omega,by omega,by omega,by omega,hs46,by omega,by omega⟩,by simp; omega⟩
 have cv6:=hcs.cv
 have cp6:=hcs.cp
 have HLi:=zhi (z64 E HS.out _ hcs HL.out (by simp; omega))
 clear hcs hv6 hbx6 hx6 hg46
 go_region
 clear cx0 cx4 fx0 fx4 cn4 cv4
 go_wp2_with fail
 refine HLi.out.mono ?_
 rintro e w7 ⟨⟨v7,rfl⟩,hcs7,hn7⟩
 have cv7:=hcs7.cv
 obtain ⟨A7,n7,c7,d7,L7,hr7,ha7⟩:=hcs7.row
 obtain ⟨hnn,hrow7⟩:=ha7.row
 have HE:Hid (za4 lo p tb (.mk 9 0 0 ((hdT s).line:Int) t1 ys) s s' w (.returned (.pointer (some ⟨w2.heap.size,0,none⟩))) w7):=zhi ⟨_,rfl,⟨by omega,d7+1,_,_,_,_,_,_,_,_,hr7,z3E.2 ⟨A7,c7,by rw [hnn],RowE.keep (fun b hb=>⟨by have:=hb.1; omega,hb.2⟩) (fun _ _=>rfl) hrow7⟩⟩,hcs7.pa,hcs7.gr,by rw [z0h] at hn7; omega⟩
 clear hcs7 hr7 ha7 hrow7 HLi
 go_wp2_with fail
 go_ret
 exact HE.out
end Go.Proofs.YtdplfnemedckaaaGreatDoor
namespace Go.Proofs.YtdplfnemedckaaaGreatDoor
open Go.RowKit
theorem z9f {E:P1} {x y:Ex} {s s':PS} (h:z36 E x false s=some (y,s')):∃ ys,z2E E [x] (popP s)=some (ys,s')∧y=.mk 10 0 0 ((hdT s).line:Int) ⟨#[]⟩ ys:=by
 unfold z36 at h
 rw [if_neg (by decide)] at h
 cases hq:z2E E [x] (popP s) with
 | none=>rw [hq] at h; cases h
 | some q =>
  obtain ⟨ys,s2⟩:=q
  rw [hq] at h
  obtain ⟨k,o,a,l,nm,xs⟩:=x
  simp only at h
  injection h with h
  injection h with h1 h2
  subst h1 h2
  exact ⟨ys,rfl,rfl⟩
theorem CS.begin {w w2 W4 w':World} {p tb lo:Nat} {l:Int} {s:PS} {x:Ex} {d g cap:Nat} {L:List Value} (hp:PA w2 p tb s) (h4:Below w2.heap.size w2 W4) (hbW:Below W4.heap.size W4 w') (h1:w.grownBy w2 (some p)) (hlo:p<lo) (hlw:lo≤w.heap.size) (ht:tb<w.heap.size) (hs:w.heap.size<w2.heap.size)
  (hv:W4.heap[w2.heap.size+1]?=some (.cells #[.pointer (some ⟨w2.heap.size,0,none⟩)] 171 (0,0))) (hbx:W4.heap[w.heap.size]?=some (.cells #[.pointer (some ⟨p,0,none⟩)] 69 (0,0)))
  (hx:W4.heap[w2.heap.size]?=some (.cells #[.int .i64 10,.int .i64 0,.int .i64 0,.int .i64 l,.string ⟨#[]⟩,.slice none 0 0] 39 (0,0))) (ha:ArgG lo w.heap.size W4.heap.size d w' (.slice (some ⟨g,0,none⟩) 1 cap) [x] L) (hfew:1+s.rest.length≤1000002) :
  CS w lo p tb (w2.heap.size+1) w.heap.size w2.heap.size W4.heap.size 10 l ⟨#[]⟩ s [x] (w'.setCell ⟨w2.heap.size,5,none⟩ (.slice (some ⟨g,0,none⟩) 1 cap)):=by
 have hlt:=(Array.getElem?_eq_some_iff.1 hv).1
 have hsz:=hbW.size
 have hgs:w'.grownBy (w'.setCell ⟨w2.heap.size,5,none⟩ (.slice (some ⟨g,0,none⟩) 1 cap)) (some w2.heap.size):=z06 w' ⟨w2.heap.size,5,none⟩ (.slice (some ⟨g,0,none⟩) 1 cap)
 refine ⟨((hp.below h4).below hbW).other hgs (by omega) (by omega),z08 hgs (by omega) (cell_of_row _ _ 0 _ _ _ (z1n hbW hv)),z08 hgs (by omega) (cell_of_row _ _ 0 _ _ _ (z1n hbW hbx)),⟨_,_,_,d,L,z0f (i:=5) _ (z1n hbW hx),ha.grown hgs (by omega) (.inr (by omega))⟩,z0g ((h1.trans (z01 h4 (some p))).trans (z01 hbW (some p))) hgs (by omega),⟨hlo,hlw,ht,by omega,Nat.le_refl _,by omega,by omega,by omega,by omega,Nat.le_trans hsz hgs.size,by omega,by omega⟩,by simp; omega⟩
set_option linter.unusedSimpArgs false in
set_option maxRecDepth 100000 in
set_option maxHeartbeats 2000000 in
theorem z6K (E:P1) (he:z1K 132 E) {p tb b1 lo:Nat} {s s':PS} {x y:Ex} (w:World) (h:PA w p tb s) (hx:XAt lo w b1 x) (hlo:p<lo) (h40:z0c [[40]] s=true) (hC:z36 E x false s=some (y,s')) :
  Calls Tryz.prog 161 #[.pointer (some ⟨p,0,none⟩),.pointer (some ⟨b1,0,none⟩),.bool false] w (za4 lo p tb y s s' w):=by
 obtain ⟨ys,hL,rfl⟩:=z9f hC
 have h2:=z0t h.wf (by decide) h40
 obtain ⟨hb1lo,dx,k1,o1,a1,l1,t1,A1,n1,c1,hrx,hvx⟩:=hx
 have hb0:=(Below.refl _ w).alloc (Nat.le_refl _) (.cells #[.pointer (some ⟨p,0,none⟩)] 69)
 have hbx:=heap_alloc_new w (.cells #[.pointer (some ⟨p,0,none⟩)] 69)
 have HN:=zhi (z1P _ (h.below hb0) h2)
 have hsl:s.rest.length≤1000001:=by
  obtain ⟨_,_,m,hr⟩:=h
  have:=hr.len
  have:=hr.sm
  omega
 have hplt:=h.lt.1
 have htlt:=h.lt.2.1
 have hb1:=(Array.getElem?_eq_some_iff.1 hrx).1
 have HBX:=zhi hbx
 have HRX:=zhi ((hb0.block _ hb1).trans hrx)
 have HG0:=zhi (z01 hb0 (some p))
 have HL:=zhi hL
 have HS:=zhi he
 have hmf:∀ (fn:Go.Fn) (first cap:Array Value) (w:World),(Instr.makeFunc fn first cap).run Tryz.prog w=.ok (.func fn first cap) w:=fun _ _ _ _=>rfl
 have hfd:∀ w:World,(Instr.field 99 (tokV (hdT s)) 1).run Tryz.prog w=.ok (.int .i64 ((hdT s).line:Int)) w:=fun _=>by kernel_rfl
 unfold tokV at hfd
 have HVX:=zhi hvx
 clear h hC hL he hb0 hbx hrx hvx h40
 go_enter Tryz.func161,Tryz.ntmps161
 go_wp2_with fail
 obtain ⟨W0,hW0⟩:∃ W0,W0=w.alloc (.cells #[.pointer (some ⟨p,0,none⟩)] 69):=⟨_,rfl⟩
 rw [← hW0] at HN HBX HRX HG0 ⊢
 refine HN.out.mono ?_
 rintro e w2 ⟨rfl,hp2,hg2⟩
 unfold tokV
 have hsz2:=hg2.size
 have hsz0:w.heap.size<W0.heap.size:=(Array.getElem?_eq_some_iff.1 HBX.out).1
 have hrx2:=z04 hg2 (by omega) HRX.out
 have hbx2:=z04 hg2 (by omega) HBX.out
 have hb4:Below w2.heap.size w2 ((w2.alloc (.cells #[.int .i64 10,.int .i64 0,.int .i64 0,.int .i64 ((hdT s).line:Int),.string ⟨#[]⟩,.slice none 0 0] 39)).alloc (.cells #[.pointer (some ⟨w2.heap.size,0,none⟩)] 171)):=((Below.refl _ w2).alloc (Nat.le_refl _) _).alloc (by simp) _
 have hx4:=z0G w2 (.cells #[.int .i64 10,.int .i64 0,.int .i64 0,.int .i64 ((hdT s).line:Int),.string ⟨#[]⟩,.slice none 0 0] 39) (.cells #[.pointer (some ⟨w2.heap.size,0,none⟩)] 171)
 have hv4:=z0F w2 (.cells #[.int .i64 10,.int .i64 0,.int .i64 0,.int .i64 ((hdT s).line:Int),.string ⟨#[]⟩,.slice none 0 0] 39) (.cells #[.pointer (some ⟨w2.heap.size,0,none⟩)] 171)
 go_upto_region 4 with fail
 obtain ⟨W4,hW4⟩:∃ W4,W4=(w2.alloc (.cells #[.int .i64 10,.int .i64 0,.int .i64 0,.int .i64 ((hdT s).line:Int),.string ⟨#[]⟩,.slice none 0 0] 39)).alloc (.cells #[.pointer (some ⟨w2.heap.size,0,none⟩)] 171):=⟨_,rfl⟩
 rw [← hW4] at hb4 hx4 hv4 ⊢
 clear hW4
 have hlt4:=(Array.getElem?_eq_some_iff.1 hv4).1
 have hbx4:=z1n hb4 hbx2
 have hrx4:=z1n hb4 hrx2
 have hwf2:=hp2.wf.pos
 have hsm:(popP s).rest.length≤1000000:=by
  obtain ⟨_,_,m,hr⟩:=hp2
  have:=hr.len
  have:=hr.sm
  have:s.rest.length≤1000001:=hsl
  rw [z0h]
  omega
 have hs24:=hb4.size
 have HBG:=zhi fun (x:Ex) (w':World) (d g cap:Nat) (L:List Value) (hbW:Below W4.heap.size W4 w') (ha:ArgG lo w.heap.size W4.heap.size d w' (.slice (some ⟨g,0,none⟩) 1 cap) [x] L)=>CS.begin hp2 hb4 hbW (HG0.out.trans hg2) hlo (by omega) htlt (by omega) hv4 hbx4 hx4 ha (by omega)
 have HX4:Hid (ExV (fun q=>lo≤q∧q<w.heap.size) W4 dx x (.agg #[.int .i64 k1,.int .i64 o1,.int .i64 a1,.int .i64 l1,.string t1,.slice A1 n1 c1])):=zhi (z0J HVX.out (fun q hq=>⟨hq,hq.2,by omega⟩) ((HG0.out.trans hg2).trans (z01 hb4 (some p))))
 have hB4:SeB (w2.heap.size+1) w.heap.size w2.heap.size p b1 (.int .i64 k1) (.int .i64 o1) (.int .i64 a1) (.int .i64 l1) (.string t1) (.slice A1 n1 c1) W4:=SeB.of_row ⟨cell_of_row _ _ 0 _ _ _ hv4,cell_of_row _ _ 0 _ _ _ hbx4⟩ hrx4
 have hO4:SeO w2.heap.size (.slice none 0 0) W4:=cell_of_row _ _ 5 _ _ _ hx4
 have HX:=zhi hx4
 clear hv4 hbx4 hrx4 hx4 hbx2 hrx2 hp2 hg2
 go_region
 ·go_upto_region 7 with fail
  have hbB:Below W4.heap.size W4 (W4.alloc (.cells #[.bool false] 4)).drew:=((Below.refl _ W4).alloc (Nat.le_refl _) (.cells #[.bool false] 4)).drew
  obtain ⟨W,hW⟩:∃ W,W=(W4.alloc (.cells #[.bool false] 4)).drew:=⟨_,rfl⟩
  rw [← hW] at hbB ⊢
  have hB:=hB4.below hbB
  have hO:SeO w2.heap.size (.slice none 0 0) W:=hold hbB hO4
  clear hB4 hO4 hW
  refine GoT.region (S:=SeB (w2.heap.size+1) w.heap.size w2.heap.size p b1 (.int .i64 k1) (.int .i64 o1) (.int .i64 a1) (.int .i64 l1) (.string t1) (.slice A1 n1 c1)) (T:=SeO w2.heap.size (.slice none 0 0)) (z:=12) (by kernel_rfl) hB hO (fun _=>?_)
  simp only [List.size_toArray,List.length_cons,List.length_nil,Nat.zero_add,Nat.reduceAdd]
  obtain ⟨V,hV⟩:∃ V,V=W.drew:=⟨_,rfl⟩
  have hbV:Below W4.heap.size W4 V:=by
   rw [hV]
   exact hbB.drew
  rw [← hV]
  have hb1:=hB.below (w':=V) (by rw [hV]; exact (Below.refl _ W).drew)
  have ho1:SeO w2.heap.size (.slice none 0 0) V:=hold (by rw [hV]; exact (Below.refl W.heap.size W).drew) hO
  clear hV hB hO hbB
  have hB:=hb1
  have hO:=ho1
  have hbB:=hbV
  obtain ⟨W,hW⟩:∃ W,W=V:=⟨_,rfl⟩
  subst hW
  refine GoT.take (i:=0) (v:=?_) rfl rfl (by decide +kernel) (by kernel_rfl) (by decide +kernel) (by decide +kernel) (fun _ _ _ h=>h) (Or.inl ⟨by rfl,?_⟩) ⟨by assumption,(by first | exact .inr (by assumption) | exact .inl (by decide +kernel))⟩ ?_
  rotate_left
  ·intro w hSw
   (try unfold SeB at hSw)
   (try unfold SeV at hSw)
   go_simp
   (try with_reducible rfl)
  try simp only [List.getElem_toArray,List.getElem_cons_zero,List.getElem_cons_succ,Act.put,List.setIfInBounds_toArray,List.set_cons_zero,List.set_cons_succ]
  refine GoT.take (i:=1) (v:=?_) rfl rfl (by decide +kernel) (by kernel_rfl) (by decide +kernel) (by decide +kernel) (fun _ _ _ h=>h) (Or.inl ⟨by rfl,?_⟩) ⟨by assumption,(by first | exact .inr (by assumption) | exact .inl (by decide +kernel))⟩ ?_
  rotate_left
  ·intro w hSw
   (try unfold SeB at hSw)
   (try unfold SeV at hSw)
   go_simp
   (try with_reducible rfl)
  try simp only [List.getElem_toArray,List.getElem_cons_zero,List.getElem_cons_succ,Act.put,List.setIfInBounds_toArray,List.set_cons_zero,List.set_cons_succ]
  refine GoT.take (i:=2) (v:=?_) rfl rfl (by decide +kernel) (by kernel_rfl) (by decide +kernel) (by decide +kernel) (fun _ _ _ h=>h) (Or.inl ⟨by rfl,?_⟩) ⟨by assumption,(by first | exact .inr (by assumption) | exact .inl (by decide +kernel))⟩ ?_
  rotate_left
  ·intro w hSw
   (try unfold SeB at hSw)
   (try unfold SeV at hSw)
   go_simp
   (try with_reducible rfl)
  try simp only [List.getElem_toArray,List.getElem_cons_zero,List.getElem_cons_succ,Act.put,List.setIfInBounds_toArray,List.set_cons_zero,List.set_cons_succ]
  refine GoT.take (i:=3) (v:=?_) rfl rfl (by decide +kernel) (by kernel_rfl) (by decide +kernel) (by decide +kernel) (fun _ _ _ h=>h) (Or.inl ⟨by rfl,?_⟩) ⟨by assumption,(by first | exact .inr (by assumption) | exact .inl (by decide +kernel))⟩ ?_
  rotate_left
  ·intro w hSw
   (try unfold SeB at hSw)
   (try unfold SeV at hSw)
   go_simp
   (try with_reducible rfl)
  try simp only [List.getElem_toArray,List.getElem_cons_zero,List.getElem_cons_succ,Act.put,List.setIfInBounds_toArray,List.set_cons_zero,List.set_cons_succ]
  refine GoT.takeT (i:=4) (v:=?_) rfl rfl (by decide +kernel) (by kernel_rfl) (by decide +kernel) (by decide +kernel) (fun _ _ _ h=>h) (Or.inl ⟨by rfl,?_⟩) ⟨by assumption,.inr (by assumption)⟩ ?_
  rotate_left
  ·intro w hSw
   unfold SeB SeV SeO at hSw
   go_simp
   (try with_reducible rfl)
  try simp only [List.getElem_toArray,List.getElem_cons_zero,List.getElem_cons_succ,Act.put,List.setIfInBounds_toArray,List.set_cons_zero,List.set_cons_succ]
  refine GoT.take (i:=5) (v:=?_) rfl rfl (by decide +kernel) (by kernel_rfl) (by decide +kernel) (by decide +kernel) (fun _ _ _ h=>h) (Or.inl ⟨by rfl,?_⟩) ⟨by assumption,(by first | exact .inr (by assumption) | exact .inl (by decide +kernel))⟩ ?_
  rotate_left
  ·intro w hSw
   (try unfold SeB at hSw)
   (try unfold SeV at hSw)
   go_simp
   (try with_reducible rfl)
  try simp only [List.getElem_toArray,List.getElem_cons_zero,List.getElem_cons_succ,Act.put,List.setIfInBounds_toArray,List.set_cons_zero,List.set_cons_succ]
  refine GoT.take (i:=6) (v:=?_) rfl rfl (by decide +kernel) (by kernel_rfl) (by decide +kernel) (by decide +kernel) (fun _ _ _ h=>h) (Or.inl ⟨by rfl,?_⟩) ⟨by assumption,(by first | exact .inr (by assumption) | exact .inl (by decide +kernel))⟩ ?_
  rotate_left
  ·intro w hSw
   (try unfold SeB at hSw)
   (try unfold SeV at hSw)
   go_simp
   (try with_reducible rfl)
  try simp only [List.getElem_toArray,List.getElem_cons_zero,List.getElem_cons_succ,Act.put,List.setIfInBounds_toArray,List.set_cons_zero,List.set_cons_succ]
  refine GoT.take (i:=7) (v:=?_) rfl rfl (by decide +kernel) (by kernel_rfl) (by decide +kernel) (by decide +kernel) (fun _ _ _ h=>h) (Or.inl ⟨by rfl,?_⟩) ⟨by assumption,(by first | exact .inr (by assumption) | exact .inl (by decide +kernel))⟩ ?_
  rotate_left
  ·intro w hSw
   (try unfold SeB at hSw)
   (try unfold SeV at hSw)
   go_simp
   (try with_reducible rfl)
  try simp only [List.getElem_toArray,List.getElem_cons_zero,List.getElem_cons_succ,Act.put,List.setIfInBounds_toArray,List.set_cons_zero,List.set_cons_succ]
  have hBa:=hB.below ((Below.refl _ W).alloc (Nat.le_refl _) (.cells #[.int .i64 k1,.int .i64 o1,.int .i64 a1,.int .i64 l1,.string t1,.slice A1 n1 c1] 39))
  have hOa:SeO w2.heap.size (.slice none 0 0) (W.alloc (.cells #[.int .i64 k1,.int .i64 o1,.int .i64 a1,.int .i64 l1,.string t1,.slice A1 n1 c1] 39)):=hold ((Below.refl _ W).alloc (Nat.le_refl _) _) hO
  refine GoT.next (rs:=[8]) (by decide +kernel) (by simp) (AllT.cons rfl (fun K hK=>?_) AllT.nil)
  dsimp only [List.getElem_toArray,List.getElem_cons_zero,List.getElem_cons_succ]
  go_simp
  refine hK.out _ _ ⟨hBa,.inr hOa⟩ (fun _=>?_)
  clear hK K
  try simp only [Act.put,List.setIfInBounds_toArray,List.set_cons_zero,List.set_cons_succ]
  refine GoT.next (rs:=[9]) (by decide +kernel) (by simp) (AllT.cons rfl (fun K hK=>?_) AllT.nil)
  refine z1q W ?_ (.tmp 43) (.tmp 47) ?_ lo w.heap.size W4.heap.size dx (.slice none 0 0) [] [] x k1 o1 a1 l1 t1 A1 n1 c1 (fun q=>lo≤q∧q<w.heap.size) ?_ ?_ (ArgG.nil _ _ _ _ _) (by decide) hbB.size (HX4.out.keep (fun _ h=>h) (fun q hq=>hbB.block q (by omega))) (fun q hq=>⟨.inl hq,by have:=hbB.size; omega,by simp [Value.ownBlock]⟩) ?_
  ·rfl
  ·rfl
  ·rfl
  ·rfl
  intro g6 cap6 w6 har6 hg6 _
  have hb6:Below W.heap.size W w6:=z0b hg6 (fun b e=>by cases e) (Nat.le_refl _)
  have hbW:Below W4.heap.size W4 w6:=hbB.trans (z0b hg6 (fun b e=>by cases e) hbB.size)
  have hB6:=hB.below hb6
  have hO6:SeO w2.heap.size (.slice none 0 0) w6:=hold hb6 hO
  have f6:=z0i (z1n hbW HX.out) 5
  have c6:w6.cell? ⟨w2.heap.size,5,none⟩=some (.slice none 0 0):=hO6
  have hB7:=hB6.set (by omega) (by omega) (by omega) (.slice (some ⟨g6,0,none⟩) 1 cap6)
  have hCS:=HBG.out x w6 dx g6 cap6 _ hbW har6
  refine hK.out _ _ ⟨hB6,.inr hO6⟩ (fun _=>?_)
  clear hK K
  simp only [List.getElem_toArray,List.getElem_cons_zero,List.getElem_cons_succ,Act.put,List.setIfInBounds_toArray,List.set_cons_zero,List.set_cons_succ,List.length_nil,Nat.zero_add]
  refine GoT.take (i:=10) (v:=?_) rfl rfl (by decide +kernel) (by kernel_rfl) (by decide +kernel) (by decide +kernel) (fun _ _ _ h=>h) (Or.inl ⟨by rfl,?_⟩) ⟨by assumption,(by first | exact .inr (by assumption) | exact .inl (by decide +kernel))⟩ ?_
  rotate_left
  ·intro w hSw
   (try unfold SeB at hSw)
   (try unfold SeV at hSw)
   go_simp
   (try with_reducible rfl)
  try simp only [List.getElem_toArray,List.getElem_cons_zero,List.getElem_cons_succ,Act.put,List.setIfInBounds_toArray,List.set_cons_zero,List.set_cons_succ]
  refine GoT.take (i:=11) (v:=?_) rfl rfl (by decide +kernel) (by kernel_rfl) (by decide +kernel) (by decide +kernel) (fun _ _ _ h=>h) (Or.inl ⟨by rfl,?_⟩) ⟨by assumption,(by first | exact .inr (by assumption) | exact .inl (by decide +kernel))⟩ ?_
  rotate_left
  ·intro w hSw
   (try unfold SeB at hSw)
   (try unfold SeV at hSw)
   go_simp
   (try with_reducible rfl)
  try simp only [List.getElem_toArray,List.getElem_cons_zero,List.getElem_cons_succ,Act.put,List.setIfInBounds_toArray,List.set_cons_zero,List.set_cons_succ]
  refine GoT.next (rs:=[12]) (by decide +kernel) (by simp) (AllT.cons rfl (fun K hK=>?_) AllT.nil)
  dsimp only [List.getElem_toArray,List.getElem_cons_zero,List.getElem_cons_succ]
  go_simp
  refine hK.out _ _ ⟨hB7,.inl (by decide +kernel)⟩ (fun _=>?_)
  clear hK K
  try simp only [Act.put,List.setIfInBounds_toArray,List.set_cons_zero,List.set_cons_succ]
  refine GoT.done (by decide +kernel) ?_ _
  clear hB hO hBa hOa hB6 hO6 hB7 f6 c6 hb6
  have cv6:=(hCS).cv
  have cp6:=(hCS).cp
  have HLi:=zhi (z64 E HS.out _ hCS HL.out (by simp; omega))
  go_wp2_with fail
  refine HLi.out.mono ?_
  rintro e w7 ⟨⟨v7,rfl⟩,hcs7,hn7⟩
  have cv7:=hcs7.cv
  obtain ⟨A7,n7,c7,d7,L7,hr7,ha7⟩:=hcs7.row
  obtain ⟨hnn,hrow7⟩:=ha7.row
  have HE:Hid (za4 lo p tb (.mk 10 0 0 ((hdT s).line:Int) ⟨#[]⟩ ys) s s' w (.returned (.pointer (some ⟨w2.heap.size,0,none⟩))) w7):=zhi ⟨_,rfl,⟨by omega,d7+1,_,_,_,_,_,_,_,_,hr7,z3E.2 ⟨A7,c7,by rw [hnn],RowE.keep (fun b hb=>⟨by have:=hb.1; omega,hb.2⟩) (fun _ _=>rfl) hrow7⟩⟩,hcs7.pa,hcs7.gr,by rw [z0h] at hn7; omega⟩
  clear hcs7 hr7 ha7 hrow7 HLi
  go_wp2_with fail
  go_ret
  exact HE.out
 ·go_upto_region 5 with fail
  have hbB:Below W4.heap.size W4 (W4.alloc (.cells #[.bool true] 4)).drew:=((Below.refl _ W4).alloc (Nat.le_refl _) (.cells #[.bool true] 4)).drew
  obtain ⟨W,hW⟩:∃ W,W=(W4.alloc (.cells #[.bool true] 4)).drew:=⟨_,rfl⟩
  rw [← hW] at hbB ⊢
  have hB:=hB4.below hbB
  have hO:SeO w2.heap.size (.slice none 0 0) W:=hold hbB hO4
  clear hB4 hO4 hW
  refine GoT.region (S:=SeB (w2.heap.size+1) w.heap.size w2.heap.size p b1 (.int .i64 k1) (.int .i64 o1) (.int .i64 a1) (.int .i64 l1) (.string t1) (.slice A1 n1 c1)) (T:=SeO w2.heap.size (.slice none 0 0)) (z:=12) (by kernel_rfl) hB hO (fun _=>?_)
  simp only [List.size_toArray,List.length_cons,List.length_nil,Nat.zero_add,Nat.reduceAdd]
  obtain ⟨V,hV⟩:∃ V,V=W.drew:=⟨_,rfl⟩
  have hbV:Below W4.heap.size W4 V:=by
   rw [hV]
   exact hbB.drew
  rw [← hV]
  have hb1:=hB.below (w':=V) (by rw [hV]; exact (Below.refl _ W).drew)
  have ho1:SeO w2.heap.size (.slice none 0 0) V:=hold (by rw [hV]; exact (Below.refl W.heap.size W).drew) hO
  clear hV hB hO hbB
  have hB:=hb1
  have hO:=ho1
  have hbB:=hbV
  obtain ⟨W,hW⟩:∃ W,W=V:=⟨_,rfl⟩
  subst hW
  refine GoT.take (i:=0) (v:=?_) rfl rfl (by decide +kernel) (by kernel_rfl) (by decide +kernel) (by decide +kernel) (fun _ _ _ h=>h) (Or.inl ⟨by rfl,?_⟩) ⟨by assumption,(by first | exact .inr (by assumption) | exact .inl (by decide +kernel))⟩ ?_
  rotate_left
  ·intro w hSw
   (try unfold SeB at hSw)
   (try unfold SeV at hSw)
   go_simp
   (try with_reducible rfl)
  try simp only [List.getElem_toArray,List.getElem_cons_zero,List.getElem_cons_succ,Act.put,List.setIfInBounds_toArray,List.set_cons_zero,List.set_cons_succ]
  refine GoT.take (i:=1) (v:=?_) rfl rfl (by decide +kernel) (by kernel_rfl) (by decide +kernel) (by decide +kernel) (fun _ _ _ h=>h) (Or.inl ⟨by rfl,?_⟩) ⟨by assumption,(by first | exact .inr (by assumption) | exact .inl (by decide +kernel))⟩ ?_
  rotate_left
  ·intro w hSw
   (try unfold SeB at hSw)
   (try unfold SeV at hSw)
   go_simp
   (try with_reducible rfl)
  try simp only [List.getElem_toArray,List.getElem_cons_zero,List.getElem_cons_succ,Act.put,List.setIfInBounds_toArray,List.set_cons_zero,List.set_cons_succ]
  refine GoT.take (i:=2) (v:=?_) rfl rfl (by decide +kernel) (by kernel_rfl) (by decide +kernel) (by decide +kernel) (fun _ _ _ h=>h) (Or.inl ⟨by rfl,?_⟩) ⟨by assumption,(by first | exact .inr (by assumption) | exact .inl (by decide +kernel))⟩ ?_
  rotate_left
  ·intro w hSw
   (try unfold SeB at hSw)
   (try unfold SeV at hSw)
   go_simp
   (try with_reducible rfl)
  try simp only [List.getElem_toArray,List.getElem_cons_zero,List.getElem_cons_succ,Act.put,List.setIfInBounds_toArray,List.set_cons_zero,List.set_cons_succ]
  refine GoT.takeT (i:=3) (v:=?_) rfl rfl (by decide +kernel) (by kernel_rfl) (by decide +kernel) (by decide +kernel) (fun _ _ _ h=>h) (Or.inl ⟨by rfl,?_⟩) ⟨by assumption,.inr (by assumption)⟩ ?_
  rotate_left
  ·intro w hSw
   unfold SeB SeV SeO at hSw
   go_simp
   (try with_reducible rfl)
  try simp only [List.getElem_toArray,List.getElem_cons_zero,List.getElem_cons_succ,Act.put,List.setIfInBounds_toArray,List.set_cons_zero,List.set_cons_succ]
  refine GoT.take (i:=4) (v:=?_) rfl rfl (by decide +kernel) (by kernel_rfl) (by decide +kernel) (by decide +kernel) (fun _ _ _ h=>h) (Or.inl ⟨by rfl,?_⟩) ⟨by assumption,(by first | exact .inr (by assumption) | exact .inl (by decide +kernel))⟩ ?_
  rotate_left
  ·intro w hSw
   (try unfold SeB at hSw)
   (try unfold SeV at hSw)
   go_simp
   (try with_reducible rfl)
  try simp only [List.getElem_toArray,List.getElem_cons_zero,List.getElem_cons_succ,Act.put,List.setIfInBounds_toArray,List.set_cons_zero,List.set_cons_succ]
  refine GoT.take (i:=5) (v:=?_) rfl rfl (by decide +kernel) (by kernel_rfl) (by decide +kernel) (by decide +kernel) (fun _ _ _ h=>h) (Or.inl ⟨by rfl,?_⟩) ⟨by assumption,(by first | exact .inr (by assumption) | exact .inl (by decide +kernel))⟩ ?_
  rotate_left
  ·intro w hSw
   (try unfold SeB at hSw)
   (try unfold SeV at hSw)
   go_simp
   (try with_reducible rfl)
  try simp only [List.getElem_toArray,List.getElem_cons_zero,List.getElem_cons_succ,Act.put,List.setIfInBounds_toArray,List.set_cons_zero,List.set_cons_succ]
  refine GoT.take (i:=6) (v:=?_) rfl rfl (by decide +kernel) (by kernel_rfl) (by decide +kernel) (by decide +kernel) (fun _ _ _ h=>h) (Or.inl ⟨by rfl,?_⟩) ⟨by assumption,(by first | exact .inr (by assumption) | exact .inl (by decide +kernel))⟩ ?_
  rotate_left
  ·intro w hSw
   (try unfold SeB at hSw)
   (try unfold SeV at hSw)
   go_simp
   (try with_reducible rfl)
  try simp only [List.getElem_toArray,List.getElem_cons_zero,List.getElem_cons_succ,Act.put,List.setIfInBounds_toArray,List.set_cons_zero,List.set_cons_succ]
  refine GoT.take (i:=7) (v:=?_) rfl rfl (by decide +kernel) (by kernel_rfl) (by decide +kernel) (by decide +kernel) (fun _ _ _ h=>h) (Or.inl ⟨by rfl,?_⟩) ⟨by assumption,(by first | exact .inr (by assumption) | exact .inl (by decide +kernel))⟩ ?_
  rotate_left
  ·intro w hSw
   (try unfold SeB at hSw)
   (try unfold SeV at hSw)
   go_simp
   (try with_reducible rfl)
  try simp only [List.getElem_toArray,List.getElem_cons_zero,List.getElem_cons_succ,Act.put,List.setIfInBounds_toArray,List.set_cons_zero,List.set_cons_succ]
  obtain ⟨D,rfl⟩:∃ D,dx=D+1:=by
   cases dx with
   | zero=>exact HX4.out.elim
   | succ q=>exact ⟨q,rfl⟩
  have hBa:=hB.below ((Below.refl _ W).alloc (Nat.le_refl _) zE)
  have hOa:SeO w2.heap.size (.slice none 0 0) (W.alloc zE):=hold ((Below.refl _ W).alloc (Nat.le_refl _) _) hO
  unfold zE at hBa hOa
  refine GoT.next (rs:=[8]) (by decide +kernel) (by simp) (AllT.cons rfl (fun K hK=>?_) AllT.nil)
  dsimp only [List.getElem_toArray,List.getElem_cons_zero,List.getElem_cons_succ]
  go_simp
  refine hK.out _ _ ⟨hBa,.inr hOa⟩ (fun _=>?_)
  clear hK K
  try simp only [Act.put,List.setIfInBounds_toArray,List.set_cons_zero,List.set_cons_succ]
  refine GoT.next (rs:=[9]) (by decide +kernel) (by simp) (AllT.cons rfl (fun K hK=>?_) AllT.nil)
  refine z1q W ?_ (.tmp 29) (.tmp 34) ?_ lo w.heap.size W4.heap.size (D+1) (.slice none 0 0) [] [] (.mk 0 0 0 0 ⟨#[]⟩ []) 0 0 0 0 ⟨#[]⟩ none 0 0 (fun _=>False) ?_ ?_ (ArgG.nil _ _ _ _ _) (by decide) hbB.size z19 (fun q hq=>hq.elim) ?_
  ·rfl
  ·rfl
  ·rfl
  ·rfl
  intro g6 cap6 w6 har6 hg6 _
  have hb6:Below W.heap.size W w6:=z0b hg6 (fun b e=>by cases e) (Nat.le_refl _)
  have hbW:Below W4.heap.size W4 w6:=hbB.trans (z0b hg6 (fun b e=>by cases e) hbB.size)
  have hB6:=hB.below hb6
  have hO6:SeO w2.heap.size (.slice none 0 0) w6:=hold hb6 hO
  have f6:=z0i (z1n hbW HX.out) 5
  have c6:w6.cell? ⟨w2.heap.size,5,none⟩=some (.slice none 0 0):=hO6
  have hB7:=hB6.set (by omega) (by omega) (by omega) (.slice (some ⟨g6,0,none⟩) 1 cap6)
  have hCS:=HBG.out _ w6 (D+1) g6 cap6 _ hbW har6
  have hx7:(w6.setCell ⟨w2.heap.size,5,none⟩ (.slice (some ⟨g6,0,none⟩) 1 cap6)).heap[w2.heap.size]?=some (.cells #[.int .i64 10,.int .i64 0,.int .i64 0,.int .i64 ((hdT s).line:Int),.string ⟨#[]⟩,.slice (some ⟨g6,0,none⟩) 1 cap6] 39 (0,0)):=z0f (i:=5) _ (z1n hbW HX.out)
  have hgs:w6.grownBy (w6.setCell ⟨w2.heap.size,5,none⟩ (.slice (some ⟨g6,0,none⟩) 1 cap6)) (some w2.heap.size):=z06 w6 ⟨w2.heap.size,5,none⟩ (.slice (some ⟨g6,0,none⟩) 1 cap6)
  have har7:ArgG lo w.heap.size W4.heap.size (D+1) (w6.setCell ⟨w2.heap.size,5,none⟩ (.slice (some ⟨g6,0,none⟩) 1 cap6)) (.slice (some ⟨g6,0,none⟩) (0+1) cap6) ([]++[.mk 0 0 0 0 ⟨#[]⟩ []]) ([]++[.int .i64 0,.int .i64 0,.int .i64 0,.int .i64 0,.string ⟨#[]⟩,.slice none 0 0]):=har6.grown hgs (by omega) (.inr (by omega))
  obtain ⟨q0,q1,q2,q3,q4,q5,lf,hgb,hglt,hcap⟩:=har7.tail_cells rfl
  have lf0:=lf 0
  have lf1:=lf 1
  have lf2:=lf 2
  have lf3:=lf 3
  have lf4:=lf 4
  have lf5:=lf 5
  have hs46:=hbW.size
  have hs67:=hgs.size
  have hy7:ExV (fun q=>lo≤q∧q<w.heap.size) (w6.setCell ⟨w2.heap.size,5,none⟩ (.slice (some ⟨g6,0,none⟩) 1 cap6)) (D+1) x (.agg #[.int .i64 k1,.int .i64 o1,.int .i64 a1,.int .i64 l1,.string t1,.slice A1 n1 c1]) :=
   HX4.out.keep (fun _ h=>h) (fun q hq=>(hgs.block q (by omega) (fun e=>by injection e with e; omega)).trans (hbW.block q (by omega)))
  have hFF:∀ b,(lo≤b∧b<w.heap.size)→(lo≤b∧b<w.heap.size∨W4.heap.size≤b)∧b<(w6.setCell ⟨w2.heap.size,5,none⟩ (.slice (some ⟨g6,0,none⟩) 1 cap6)).heap.size∧b≠g6:=fun b hb=>by
   have h1:=hb.1
   have h2:=hb.2
   exact ⟨.inl hb,by omega,by omega⟩
  obtain ⟨hlast,hgl⟩:=ArgG.last (n:=0) (xs:=[]) (L:=[]) rfl rfl har7 hy7 hFF
  have hEND:=hCS.last (ys:=[x]) hx7 rfl hgl hgb hlast
  simp only [Nat.zero_mul,Nat.zero_add] at q0 q1 q2 q3 q4 q5 hcap hEND
  have HEND:=zhi hEND
  refine hK.out _ _ ⟨hB6,.inr hO6⟩ (fun _=>?_)
  clear hK K
  clear hEND har6 har7 hlast hgl hgs hy7 lf hCS hx7
  simp only [List.getElem_toArray,List.getElem_cons_zero,List.getElem_cons_succ,Act.put,List.setIfInBounds_toArray,List.set_cons_zero,List.set_cons_succ,List.length_nil,Nat.zero_add]
  refine GoT.take (i:=10) (v:=?_) rfl rfl (by decide +kernel) (by kernel_rfl) (by decide +kernel) (by decide +kernel) (fun _ _ _ h=>h) (Or.inl ⟨by rfl,?_⟩) ⟨by assumption,(by first | exact .inr (by assumption) | exact .inl (by decide +kernel))⟩ ?_
  rotate_left
  ·intro w hSw
   (try unfold SeB at hSw)
   (try unfold SeV at hSw)
   go_simp
   (try with_reducible rfl)
  try simp only [List.getElem_toArray,List.getElem_cons_zero,List.getElem_cons_succ,Act.put,List.setIfInBounds_toArray,List.set_cons_zero,List.set_cons_succ]
  refine GoT.take (i:=11) (v:=?_) rfl rfl (by decide +kernel) (by kernel_rfl) (by decide +kernel) (by decide +kernel) (fun _ _ _ h=>h) (Or.inl ⟨by rfl,?_⟩) ⟨by assumption,(by first | exact .inr (by assumption) | exact .inl (by decide +kernel))⟩ ?_
  rotate_left
  ·intro w hSw
   (try unfold SeB at hSw)
   (try unfold SeV at hSw)
   go_simp
   (try with_reducible rfl)
  try simp only [List.getElem_toArray,List.getElem_cons_zero,List.getElem_cons_succ,Act.put,List.setIfInBounds_toArray,List.set_cons_zero,List.set_cons_succ]
  refine GoT.next (rs:=[12]) (by decide +kernel) (by simp) (AllT.cons rfl (fun K hK=>?_) AllT.nil)
  dsimp only [List.getElem_toArray,List.getElem_cons_zero,List.getElem_cons_succ]
  go_simp
  refine hK.out _ _ ⟨hB7,.inl (by decide +kernel)⟩ (fun _=>?_)
  clear hK K
  try simp only [Act.put,List.setIfInBounds_toArray,List.set_cons_zero,List.set_cons_succ]
  refine GoT.done (by decide +kernel) ?_ _
  clear hB hO hBa hOa hB6 hO6 hB7 f6 c6 hb6
  go_upto_region 8 with fail
  have hCS:=HEND.out
  have cv6:=(hCS).cv
  have cp6:=(hCS).cp
  have HLi:=zhi (z64 E HS.out _ hCS HL.out (by simp; omega))
  go_wp2_with fail
  refine HLi.out.mono ?_
  rintro e w7 ⟨⟨v7,rfl⟩,hcs7,hn7⟩
  have cv7:=hcs7.cv
  obtain ⟨A7,n7,c7,d7,L7,hr7,ha7⟩:=hcs7.row
  obtain ⟨hnn,hrow7⟩:=ha7.row
  have HE:Hid (za4 lo p tb (.mk 10 0 0 ((hdT s).line:Int) ⟨#[]⟩ ys) s s' w (.returned (.pointer (some ⟨w2.heap.size,0,none⟩))) w7):=zhi ⟨_,rfl,⟨by omega,d7+1,_,_,_,_,_,_,_,_,hr7,z3E.2 ⟨A7,c7,by rw [hnn],RowE.keep (fun b hb=>⟨by have:=hb.1; omega,hb.2⟩) (fun _ _=>rfl) hrow7⟩⟩,hcs7.pa,hcs7.gr,by rw [z0h] at hn7; omega⟩
  clear hcs7 hr7 ha7 hrow7 HLi
  go_wp2_with fail
  go_ret
  exact HE.out
end Go.Proofs.YtdplfnemedckaaaGreatDoor
namespace Go.Proofs.YtdplfnemedckaaaGreatDoor
open Go.RowKit
theorem zan {E:P1} {bare:Bool} {n:Nat} {x xr:Ex} {s sr:PS} (h:z12 E bare n x s=some (xr,sr)) (hs:z0c [[40]] s=true):∃ m y s2,n=m+1∧z36 E x (bare&&x.kind == 13) s=some (y,s2)∧z12 E bare m y s2=some (xr,sr):=by
 cases n with
 | zero=>cases h
 | succ m =>
  obtain ⟨k,o,a,l,nm,xs⟩:=x
  unfold z12 at h
  rw [if_pos hs] at h
  simp only [] at h
  cases hq:z36 E (.mk k o a l nm xs) (bare&&k == 13) s with
  | none=>rw [hq] at h; cases h
  | some q=>rw [hq] at h; exact ⟨m,q.1,q.2,rfl,hq,h⟩
theorem zcL {E:P1} {bare:Bool} {n:Nat} {x xr:Ex} {s sr:PS} (h:z12 E bare n x s=some (xr,sr)) (hs:z0c [[40]] s=false):xr=x∧sr=s:=by
 cases n with
 | zero=>cases h
 | succ m =>
  unfold z12 at h
  rw [if_neg (by rw [hs]; decide)] at h
  injection h with h
  injection h with h1 h2
  exact ⟨h1.symm,h2.symm⟩
theorem z6N {E:P1} {xr:Ex} {s sr:PS} (h:z1W E s=some (xr,sr)):∃ x1 s1 n,z0p E s=some (x1,s1)∧z12 E ((hdT s).kind == 1) n x1 s1=some (xr,sr):=by
 unfold z1W at h
 cases hp:z0p E s with
 | none=>rw [hp] at h; cases h
 | some q=>rw [hp] at h; exact ⟨q.1,q.2,_,rfl,h⟩
theorem XAt.kind {lo b:Nat} {w:World} {x:Ex} (h:XAt lo w b x):w.cell? ⟨b,0,none⟩=some (.int .i64 x.kind):=by
 obtain ⟨_,d,k,o,a,l,s,A,n,c,hr,hv⟩:=h
 obtain ⟨k',o',a',l',s',A',n',c',e,hk⟩:=z0K hv
 injection e with e
 injection e with e
 injection e with e0 e
 injection e with e1 e
 injection e with e2 e
 injection e with e3 e
 injection e with e4 e
 injection e with e5 _
 rw [hk k (by rw [e1,e2,e3,e4,e5])]
 exact cell_of_row _ _ 0 _ _ _ hr
def CalP (E:P1) (bare:Bool) (p tb:Nat) (x:Ex) (s s':PS) (w:World) (v:Value) (wr:World):Prop :=
 ∃ b n xx ss,v=.pointer (some ⟨b,0,none⟩)∧z12 E bare n xx ss=some (x,s')∧XAt w.heap.size wr b xx∧PA wr p tb ss∧w.grownBy wr (some p)∧ss.rest.length≤s.rest.length
set_option maxRecDepth 100000 in
set_option maxHeartbeats 2000000 in
theorem z9g (E:P1) (he:z1K 132 E):z1K 159 (z1W E):=by
 intro p tb s s' x w h hP
 obtain ⟨x1,s1,n1,hp,hloop⟩:=z6N hP
 have HS:=zhi he
 have HC:=zhi (z7X E he p tb s s1 x1 w h hp)
 have hplt:=h.lt.1
 obtain ⟨off,c,m,hr⟩:=h
 have hcap:=hr.cap
 have c0:=hr.cells.1
 have k0:=hr.hd.1
 clear he hr hP hp
 obtain ⟨BARE,hBARE⟩:∃ B,B=((hdT s).kind == 1):=⟨_,rfl⟩
 rw [← hBARE] at hloop
 have hbv:(((hdT s).kind:Int) == 1)=BARE:=by
  rw [hBARE]
  cases hq:((hdT s).kind == 1) with
  | true =>
   have h1:(hdT s).kind=1:=by simpa using hq
   rw [h1]
   rfl
  | false =>
   have h1:¬ (hdT s).kind=1:=by simpa using hq
   simp
   omega
 have HL:=zhi hloop
 clear hBARE hloop
 go_enter Tryz.func159,Tryz.ntmps159
 go_wp2_with fail
 refine HC.out.mono ?_
 rintro e w1 ⟨b1,rfl,hx1,hp1,hg1,hl1⟩
 have HR:Hid (CalP E BARE p tb x s s' w (.pointer (some ⟨b1,0,none⟩)) w1):=zhi ⟨b1,n1,x1,s1,rfl,HL.out,hx1,hp1,hg1,hl1⟩
 clear HC HL hx1 hp1 hg1 hl1
 go_wp2_with fail
 clear hbv
 go_loopw [4] (fun v wr=>CalP E BARE p tb x s s' w v wr) (fun _ wr=>z0B wr p)
 case atStart=>exact HR.out
 case round =>
  obtain ⟨b,n,xx,ss,rfl,hloop,hx,hp,hg,hl⟩:=hrel
  clear HR
  have hsz:=hg.size
  have hb:=(Below.refl _ wr).alloc (Nat.le_refl _) (.cells #[.string ⟨#[40]⟩] 9)
  have HRL:=zhi hp.rest
  cases hs:z0c [[40]] ss with
  | true =>
   obtain ⟨m,y,s2,rfl,hcall,hloop2⟩:=zan hloop hs
   have HSE:=zhi (z0W true [[40]] wr.heap.size 1 1 _ (hp.below hb) hs rfl (Nat.le_refl _) (by omega) (z1t wr [[40]] 9))
   have kx:=(hx.below hb).kind
   have HX:=zhi (hx.below hb)
   have HP:=zhi (hp.below hb)
   have HG:=zhi (hg.trans (z01 hb (some p)))
   have HL2:=zhi hloop2
   have HCA:=zhi hcall
   have Hl:=zhi hl
   have H40:=zhi hs
   clear hloop hx hp hg hloop2 hcall hl hs
   cases BARE with
   | false =>
    have HC:=zhi (z6K E HS.out _ HP.out HX.out hplt H40.out (by have:=HCA.out; rw [Bool.false_and] at this; exact this))
    clear hb
    go_wp2_with fail
    refine HSE.out.mono ?_
    rintro e w2 ⟨rfl,rfl⟩
    go_wp2_with fail
    refine HC.out.mono ?_
    rintro e w3 ⟨b3,rfl,hx3,hp3,hg3,hl3⟩
    have HE:Hid (CalP E false p tb x s s' w (.pointer (some ⟨b3,0,none⟩)) w3∧z0B w3 p<z0B wr p):=zhi ⟨⟨b3,m,y,s2,rfl,HL2.out,hx3,hp3,HG.out.trans hg3,by have:=Hl.out; omega⟩,by rw [hp3.rest,HRL.out]; exact hl3⟩
    clear HC hx3 hp3 hg3 hl3
    go_wp2_with fail
    exact HE.out
   | true =>
    cases hk:(xx.kind == 13) with
    | true =>
     have HC:=zhi (zal E HS.out _ HP.out HX.out hplt H40.out (by have:=HCA.out; rw [hk] at this; exact this))
     clear hb
     go_wp2_with fail
     refine HSE.out.mono ?_
     rintro e w2 ⟨rfl,rfl⟩
     go_wp2_with fail
     refine HC.out.mono ?_
     rintro e w3 ⟨b3,rfl,hx3,hp3,hg3,hl3⟩
     have HE:Hid (CalP E true p tb x s s' w (.pointer (some ⟨b3,0,none⟩)) w3∧z0B w3 p<z0B wr p):=zhi ⟨⟨b3,m,y,s2,rfl,HL2.out,hx3,hp3,HG.out.trans hg3,by have:=Hl.out; omega⟩,by rw [hp3.rest,HRL.out]; exact hl3⟩
     clear HC hx3 hp3 hg3 hl3
     go_wp2_with fail
     exact HE.out
    | false =>
     have HC:=zhi (z6K E HS.out _ HP.out HX.out hplt H40.out (by have:=HCA.out; rw [hk] at this; exact this))
     clear hb
     go_wp2_with fail
     refine HSE.out.mono ?_
     rintro e w2 ⟨rfl,rfl⟩
     go_wp2_with fail
     refine HC.out.mono ?_
     rintro e w3 ⟨b3,rfl,hx3,hp3,hg3,hl3⟩
     have HE:Hid (CalP E true p tb x s s' w (.pointer (some ⟨b3,0,none⟩)) w3∧z0B w3 p<z0B wr p):=zhi ⟨⟨b3,m,y,s2,rfl,HL2.out,hx3,hp3,HG.out.trans hg3,by have:=Hl.out; omega⟩,by rw [hp3.rest,HRL.out]; exact hl3⟩
     clear HC hx3 hp3 hg3 hl3
     go_wp2_with fail
     exact HE.out
  | false =>
   obtain ⟨rfl,rfl⟩:=zcL hloop hs
   have HSE:=zhi (z0W false [[40]] wr.heap.size 1 1 _ (hp.below hb) hs rfl (Nat.le_refl _) (by omega) (z1t wr [[40]] 9))
   have HE:Hid (ExG p tb x s s' w (.returned (.pointer (some ⟨b,0,none⟩))) _):=zhi ⟨b,rfl,hx.below hb,hp.below hb,hg.trans (z01 hb (some p)),hl⟩
   clear hloop hs hx hp hg hb hl
   go_wp2_with fail
   refine HSE.out.mono ?_
   rintro e w2 ⟨rfl,rfl⟩
   go_wp2_with fail
   go_ret
   exact HE.out
theorem z8p:∀ d,z1K 132 (z1a d)
 | 0=>fun p tb s s' x w h hP=>by cases hP
 | d+1=>by
  have hc:=z9g (z1a d) (z8p d)
  have hu:z1K 158 (z22 (z1a d)):=fun p tb s s' x w h hP=>zcn (z1a d) hc (s.rest.length+1) p tb s s' x w h hP
  exact z9m _ (zad _ (z5R _ (zcb _ (z9W _ hu))))
end Go.Proofs.YtdplfnemedckaaaGreatDoor
namespace Go.Proofs.YtdplfnemedckaaaGreatDoor
open Go.RowKit
theorem zdv {w:World} {base:Nat} {v:Value} {ts:List Tok} (hown:w.ownsRow base 99 4 v ts.length (tks ts)) (hwf:WFt ts) (hlen:ts.length≤1000000):∃ g c,v=.slice (some ⟨g,0,none⟩) ts.length c∧base≤g∧g<w.heap.size∧∀ T:TypeId,PA (w.alloc (.cells #[v,.int .i64 0,.int .i64 0] T)) w.heap.size g ⟨ts,0,0⟩:=by
 have hpos:=hwf.pos
 obtain ⟨g,c,hv,hb,hc,hg,_⟩:=z6f hown (k:=0) (List.getElem?_eq_getElem hpos)
 refine ⟨g,c,hv,hb,hg,fun T=>⟨0,c,ts.length - 1,hwf,by omega,?_,?_,?_,⟨T,?_⟩,fun k t hk=>?_⟩⟩
 ·show ts.length=ts.length - 1+1
  omega
 ·omega
 ·omega
 ·rw [heap_alloc_new,hv]
  have e:ts.length=ts.length - 1+1:=by omega
  rw [← e]
  rfl
 ·obtain ⟨g',c',hv',_,_,_,h0,h1,h2,h3⟩:=z6f hown hk
  rw [hv] at hv'
  injection hv' with e1 e2 e3
  injection e1 with e1
  injection e1 with e1
  subst e1
  have hb:=(Below.refl _ w).alloc (Nat.le_refl _) (.cells #[v,.int .i64 0,.int .i64 0] T)
  have hT:z5J w g (k * 4) t:=⟨h0,h1,h2,h3⟩
  rw [Nat.zero_add]
  exact hT.keep (hb.block g hg)
theorem z4H {P:Program} {w:World} {ops:Array Oper} {rest:List Oper} {d:Option Tmp} {ty:TypeId} {x y:Operand} {pos:String} {af:Array Edge} {gd:Option (Nat × Bool)} {a:Act} {Q:Exit→Act→World→Prop}
  (h:z0a (wpList P ops Q ({ dst:=d,op:=.store 39 x y,type:=ty,pos:=pos,after:=af,guard:=gd } :: rest) a w)):wpList P ops Q ({ dst:=d,op:=.store 39 x y,type:=ty,pos:=pos,after:=af,guard:=gd } :: rest) a w:=h
end Go.Proofs.YtdplfnemedckaaaGreatDoor
namespace Go.Proofs.YtdplfnemedckaaaGreatDoor
open Go.RowKit
def endP (s:PS):PS:=if (hdT s).kind=0 then s else z0k s
end Go.Proofs.YtdplfnemedckaaaGreatDoor
namespace Go.Proofs.YtdplfnemedckaaaGreatDoor
open Go.RowKit
def zeF:Nat→List Ex→Prop
 | 0,xs=>xs.length≤1000000
 | d+1,xs=>xs.length≤1000000∧∀ x∈xs,zeF d x.args
theorem zeF.le {d:Nat} {xs:List Ex} (h:zeF d xs):xs.length≤1000000:=by
 cases d with
 | zero=>exact h
 | succ d=>exact h.1
theorem zeN {a b:ByteArray} (h:a.data.toList=b.data.toList):a=b:=by
 cases a with
 | mk a=>cases b with
  | mk b=>congr 1; exact Array.toList_inj.1 h
end Go.Proofs.YtdplfnemedckaaaGreatDoor
