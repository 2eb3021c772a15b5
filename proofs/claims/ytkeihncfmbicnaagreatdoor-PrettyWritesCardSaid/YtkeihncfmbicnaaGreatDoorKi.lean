/-
  Ki: RegT, PsCall2, PsCall3, PsCall4, PsCall5, PsCall6, PsEnd. Walks and laws that the statement's proof is made of. No condition of its own.
-/
import Derived.Test.YtkeihncfmbicnaaGreatDoorRows
import Derived.OrdersHeld
import Derived.RegionTactic
import Derived.Deep.RegionHeld
import Derived.Test.YtkeihncfmbicnaaGreatDoorKh
import Derived.Deep.QuietTactic
import Derived.BigQuiet
namespace Go.Proofs.YtkeihncfmbicnaaGreatDoor
section
variable {P:Program} {ops:Array Oper} {Q:Exit→Act→World→Prop} {md:Region.Mode} {S T S':World→Prop} {z:Nat}
def InvT (S T:World→Prop) (z:Nat) (L:Array Bool) (w:World):Prop:=S w∧(L.getD z true=true∨T w)
def GoT (P:Program) (md:Region.Mode) (ops:Array Oper) (Q:Exit→Act→World→Prop) (S T:World→Prop) (z:Nat):Nat→Array Bool→Act→World→Prop
 | 0,L,a,w=>Region.ready md ops L=[]∧Q .normal a w
 | n+1,L,a,w=>(Region.ready md ops L=[]→Q .normal a w)∧∀ i∈Region.ready md ops L,wpOp P ops Q i (fun a' w'=>InvT S T z (L.setIfInBounds i true) w'∧GoT P md ops Q S T z n (L.setIfInBounds i true) a' w') a w
theorem GoT.plain:∀ (n:Nat) (L:Array Bool) (a:Act) (w:World),GoT P md ops Q S T z n L a w→wpAny P md ops Q n L a w
 | 0,_,_,_,h=>h
 | _+1,_,_,_,h=>⟨h.1,fun i hi=>wpOp_mono (fun a' w' h'=>GoT.plain _ _ a' w' h'.2) (h.2 i hi)⟩
def z60 (md:Region.Mode) (ops:Array Oper) (z i:Nat):Bool:=match ops[z]? with
 | some o=>o.after.any fun e=>Region.binds md e&&e.on == i
 | none=>false
theorem z4D {i:Nat} {L:Array Bool} (hun:L.getD i true=false) (h1:L.getD i false=true):False:=by
 rcases Nat.lt_or_ge i L.size with h' | h'
 ·simp [h'] at hun h1
  rw [hun] at h1
  cases h1
 ·simp [Array.getElem?_eq_none h'] at h1
theorem zaa {i:Nat} {L:Array Bool} (h:z60 md ops z i=true) (hi:i∈Region.ready md ops L) (hz:z∈Region.ready md ops L):False:=by
 unfold z60 at h
 obtain ⟨hun,_⟩:=mem_ready.1 hi
 obtain ⟨_,o,ho,hall⟩:=mem_ready.1 hz
 rw [ho] at h
 obtain ⟨k,hk,he⟩:=Array.any_eq_true.1 h
 simp only [Bool.and_eq_true,beq_iff_eq] at he
 have h1:=hall _ (Array.getElem_mem hk) he.1
 rw [he.2] at h1
 exact z4D hun h1
theorem InvT.set {i:Nat} {L:Array Bool} {w:World} (hi:i≠z) (h:InvT S T z L w):InvT S T z (L.setIfInBounds i true) w:=⟨h.1,by
 rw [getD_set_ne true hi]
 exact h.2⟩
theorem InvT.unset {i:Nat} {L:Array Bool} {w:World} (hi:i≠z) (h:InvT S T z (L.setIfInBounds i true) w):InvT S T z L w:=⟨h.1,by
 have:=h.2
 rw [getD_set_ne true hi] at this
 exact this⟩
theorem GoT.first {U:World→Prop} {i:Nat} {oi:Oper} {v:Value} (hi:ops[i]?=some oi) (hiz:i≠z) (hU:∀ L w,i∈Region.ready md ops L→(L.getD z true=true→¬ z60 md ops z i=true)→InvT S T z L w→U w) (hsel:∀ (j:Nat) (o:Oper) cs b,ops[j]?=some o→o.op≠.select cs b) (hQ:∀ c a w,Q (.panic c) (a.put oi.dst v) w→Q (.panic c) a w) :
  ∀ (n:Nat) (L:Array Bool) (a:Act) (w:World),(∀ j oj,ops[j]?=some oj→j≠i→L.getD j true=false→(∀ e∈oj.after,Region.binds md e=true→e.on≠i)→oi.apart ops oj=true)→i∈Region.ready md ops L→(L.getD z true=true→¬ z60 md ops z i=true)→YieldsIf P ops U oi v a→InvT S T z L w →
   GoT P md ops Q S T z n (L.setIfInBounds i true) (a.put oi.dst v) w→GoT P md ops Q S T z (n+1) L a w:=by
 intro n
 induction n with
 | zero =>
  intro L a w _ hr hzl hy hS H
  refine ⟨fun h=>(by rw [h] at hr; cases hr),fun j hj=>?_⟩
  by_cases hji:j=i
  ·subst hji
   exact hy.wpOp hi (hU L w hr hzl hS) ⟨hS.set hiz,H⟩
  ·have:=ready_mono hj hji
   rw [H.1] at this
   cases this
 | succ n ih =>
  intro L a w hfree hr hzl hy hS H
  refine ⟨fun h=>(by rw [h] at hr; cases hr),fun j hj=>?_⟩
  by_cases hji:j=i
  ·subst hji
   exact hy.wpOp hi (hU L w hr hzl hS) ⟨hS.set hiz,H⟩
  ·obtain ⟨hjun,oj,hoj,hall⟩:=mem_ready.1 hj
   have hnot:∀ e∈oj.after,Region.binds md e=true→e.on≠i:=fun e he hb heq=>by
    have h1:=hall e he hb
    rw [heq] at h1
    exact z4D (mem_ready.1 hr).1 h1
   have h2:=wpOp_putIf hoj (hfree j oj hoj hji hjun hnot) (fun cs b=>hsel i oi cs b hi) (fun cs b=>hsel j oj cs b hoj) hQ hy (H.2 j (ready_mono hj hji))
   refine wpOp_mono (fun a' w' h3=>?_) h2
   have hcm:(L.setIfInBounds i true).setIfInBounds j true=(L.setIfInBounds j true).setIfInBounds i true:=Array.setIfInBounds_comm _ _ (Ne.symm hji)
   have hS':InvT S T z (L.setIfInBounds j true) w':=by
    have:=h3.2.1
    rw [hcm] at this
    exact this.unset hiz
   refine ⟨hS',ih (L.setIfInBounds j true) a' w' (fun k ok hk hki hun hno=>?_) (ready_mono hr (Ne.symm hji)) (fun h=>?_) h3.1 hS' ?_⟩
   ·refine hfree k ok hk hki ?_ hno
    by_cases hjk:j=k
    ·subst hjk
     exact hjun
    ·rw [getD_set_ne true hjk] at hun
     exact hun
   ·by_cases hjz:j=z
    ·subst hjz
     exact fun hw=>zaa hw hr hj
    ·rw [getD_set_ne true hjz] at h
     exact hzl h
   ·rw [← hcm]
    exact h3.2.2
theorem GoT.take {i:Nat} {oi:Oper} {v:Value} {n:Nat} {L:Array Bool} {a:Act} {w:World} (hi:ops[i]?=some oi) (hiz:(i == z)=false) (hzl:(!(L.getD z true)||!(z60 md ops z i))=true) (hs:Region.noSelect ops=true) (hf:Region.free md ops L i=true) (hr:(Region.ready md ops L).contains i=true)
  (hQ:∀ c a w,Q (.panic c) (a.put oi.dst v) w→Q (.panic c) a w) (hy:YieldsIf P ops S oi v a) (hS:InvT S T z L w) (h:GoT P md ops Q S T z n (L.setIfInBounds i true) (a.put oi.dst v) w):GoT P md ops Q S T z (n+1) L a w :=
 GoT.first (U:=S) hi (by simpa using hiz) (fun _ _ _ _ h=>h.1) (Region.noSelect_spec hs) hQ n L a w (Region.free_spec hi hf) (by simpa using hr) (fun h hw=>by rw [h,hw] at hzl; cases hzl) hy hS h
def AllT (P:Program) (md:Region.Mode) (ops:Array Oper) (Q:Exit→Act→World→Prop) (S T:World→Prop) (z n:Nat) (L:Array Bool) (a:Act) (w:World) (rs:List Nat):Prop :=
 ∀ i∈rs,wpOp P ops Q i (fun a' w'=>InvT S T z (L.setIfInBounds i true) w'∧GoT P md ops Q S T z n (L.setIfInBounds i true) a' w') a w
theorem AllT.nil {n:Nat} {L:Array Bool} {a:Act} {w:World}:AllT P md ops Q S T z n L a w []:=fun _ h=>by cases h
theorem AllT.cons {n:Nat} {L:Array Bool} {a:Act} {w:World} {i:Nat} {o:Oper} {rs:List Nat} (ho:ops[i]?=some o)
  (h:∀ K':Act→World→Prop,Shut (∀ a w,InvT S T z (L.setIfInBounds i true) w→(InvT S T z (L.setIfInBounds i true) w→GoT P md ops Q S T z n (L.setIfInBounds i true) a w)→K' a w)→if Region.wanted o (yielded ops a.tmps)=true then Oper.wp P o a w K' Q else K' (a.put o.dst undef) w)
  (hs:AllT P md ops Q S T z n L a w rs):AllT P md ops Q S T z n L a w (i :: rs):=fun j hj=>by
 rcases List.mem_cons.1 hj with rfl | hj
 ·exact wpOp_step ho (fun K' hK=>h K' (fun a w hS hW=>hK a w ⟨hS,hW hS⟩))
 ·exact hs j hj
theorem GoT.next {rs:List Nat} {n:Nat} {L:Array Bool} {a:Act} {w:World} (hr:Region.ready md ops L=rs) (hne:rs≠[]) (h:AllT P md ops Q S T z n L a w rs):GoT P md ops Q S T z (n+1) L a w :=
 ⟨fun h0=>absurd (hr ▸ h0) hne,hr ▸ h⟩
theorem GoT.done {L:Array Bool} {a:Act} {w:World} (hr:Region.ready md ops L=[]) (h:Q .normal a w):∀ n,GoT P md ops Q S T z n L a w
 | 0=>⟨hr,h⟩
 | _+1=>⟨fun _=>h,by rw [hr]; simp⟩
end
end Go.Proofs.YtkeihncfmbicnaaGreatDoor
namespace Go.Proofs.YtkeihncfmbicnaaGreatDoor
open Go.RowKit
def SeV (xv pbx xb p:Nat) (w':World):Prop:=w'.cell? ⟨xv,0,none⟩=some (.pointer (some ⟨xb,0,none⟩))∧w'.cell? ⟨pbx,0,none⟩=some (.pointer (some ⟨p,0,none⟩))
def SeB (xv pbx xb p b5:Nat) (c0 c1 c2 c3 c4 c5:Value) (w':World):Prop:=SeV xv pbx xb p w'∧w'.cell? ⟨b5,0,none⟩=some c0∧w'.cell? ⟨b5,1,none⟩=some c1∧w'.cell? ⟨b5,2,none⟩=some c2∧w'.cell? ⟨b5,3,none⟩=some c3∧w'.cell? ⟨b5,4,none⟩=some c4∧w'.cell? ⟨b5,5,none⟩=some c5
theorem SeV.below {w w':World} {xv pbx xb p:Nat} (h:SeV xv pbx xb p w) (hb:Below w.heap.size w w'):SeV xv pbx xb p w':=⟨hold hb h.1,hold hb h.2⟩
theorem SeB.below {w w':World} {xv pbx xb p b5:Nat} {c0 c1 c2 c3 c4 c5:Value} (h:SeB xv pbx xb p b5 c0 c1 c2 c3 c4 c5 w) (hb:Below w.heap.size w w'):SeB xv pbx xb p b5 c0 c1 c2 c3 c4 c5 w' :=
 ⟨h.1.below hb,hold hb h.2.1,hold hb h.2.2.1,hold hb h.2.2.2.1,hold hb h.2.2.2.2.1,hold hb h.2.2.2.2.2.1,hold hb h.2.2.2.2.2.2⟩
theorem SeB.set {w:World} {xv pbx xb p b5:Nat} {c0 c1 c2 c3 c4 c5:Value} (h:SeB xv pbx xb p b5 c0 c1 c2 c3 c4 c5 w) (h1:xv≠xb) (h2:pbx≠xb) (h3:b5≠xb) (v:Value):SeB xv pbx xb p b5 c0 c1 c2 c3 c4 c5 (w.setCell ⟨xb,5,none⟩ v):=by
 have hg:=z07 w ⟨xb,5,none⟩ v
 exact ⟨⟨z08 hg h1 h.1.1,z08 hg h2 h.1.2⟩,z08 hg h3 h.2.1,z08 hg h3 h.2.2.1,z08 hg h3 h.2.2.2.1,z08 hg h3 h.2.2.2.2.1,z08 hg h3 h.2.2.2.2.2.1,z08 hg h3 h.2.2.2.2.2.2⟩
theorem CS.last {w0 w7 W:World} {lw p tb xv pbx xb base g cap d n:Nat} {k l:Int} {nm:ByteArray} {s:PS} {xs ys:List Ex} {L:List Value} (h:CS w0 lw p tb xv pbx xb base k l nm s xs w7) (hr:w7.heap[xb]?=some (.cells #[.int .i64 k,.int .i64 0,.int .i64 0,.int .i64 l,.string nm,.slice (some ⟨g,0,none⟩) n cap] 37 (0,0)))
  (hlen:ys.length=xs.length) (hg:w7.grownBy W (some g)) (hgb:base≤g) (ha:ArgG lw w0.heap.size base d W (.slice (some ⟨g,0,none⟩) n cap) ys L):CS w0 lw p tb xv pbx xb base k l nm s ys W:=by
 obtain ⟨h1,hlw,h2,h3,h4,h5,h6,h7,h8,h9,h10,h11⟩:=h.lo
 exact ⟨h.pa.other hg (by omega) (by omega),z08 hg (by omega) h.cv,z08 hg (by omega) h.cp,⟨_,_,_,d,L,z06 hg (by omega) hr,ha⟩,z0T h.gr hg (by omega),⟨h1,hlw,h2,h3,h4,h5,h6,h7,h8,Nat.le_trans h9 hg.size,h10,h11⟩,by have:=h.few; omega⟩
end Go.Proofs.YtkeihncfmbicnaaGreatDoor
namespace Go.Proofs.YtkeihncfmbicnaaGreatDoor
open Go.RowKit
end Go.Proofs.YtkeihncfmbicnaaGreatDoor
namespace Go.Proofs.YtkeihncfmbicnaaGreatDoor
open Go.RowKit
end Go.Proofs.YtkeihncfmbicnaaGreatDoor
namespace Go.Proofs.YtkeihncfmbicnaaGreatDoor
open Go.RowKit
end Go.Proofs.YtkeihncfmbicnaaGreatDoor
namespace Go.Proofs.YtkeihncfmbicnaaGreatDoor
open Go.RowKit
theorem XAt.kind {lo b:Nat} {w:World} {x:Ex} (h:XAt lo w b x):w.cell? ⟨b,0,none⟩=some (.int .i64 x.kind):=by
 obtain ⟨_,d,k,o,a,l,s,A,n,c,hr,hv⟩:=h
 obtain ⟨k',o',a',l',s',A',n',c',e,hk⟩:=z0z hv
 injection e with e
 injection e with e
 injection e with e0 e
 injection e with e1 e
 injection e with e2 e
 injection e with e3 e
 injection e with e4 e
 injection e with e5 _
 rw [hk k (by rw [e1,e2,e3,e4,e5])]
 exact cell_of_row _ _ 0 _ _ _ hr
end Go.Proofs.YtkeihncfmbicnaaGreatDoor
namespace Go.Proofs.YtkeihncfmbicnaaGreatDoor
open Go.RowKit
theorem z3E {P:Program} {w:World} {ops:Array Oper} {rest:List Oper} {d:Option Tmp} {ty:TypeId} {x y:Operand} {pos:String} {af:Array Edge} {gd:Option (Nat × Bool)} {a:Act} {Q:Exit→Act→World→Prop}
  (h:z0a (wpList P ops Q ({ dst:=d,op:=.store 37 x y,type:=ty,pos:=pos,after:=af,guard:=gd } :: rest) a w)):wpList P ops Q ({ dst:=d,op:=.store 37 x y,type:=ty,pos:=pos,after:=af,guard:=gd } :: rest) a w:=h
end Go.Proofs.YtkeihncfmbicnaaGreatDoor
namespace Go.Proofs.YtkeihncfmbicnaaGreatDoor
open Go.RowKit
def endP (s:PS):PS:=if (hdT s).kind=0 then s else z0r s
end Go.Proofs.YtkeihncfmbicnaaGreatDoor
namespace Go.Proofs.YtkeihncfmbicnaaGreatDoor
open Go.RowKit
def zcc:Nat→List Ex→Prop
 | 0,xs=>xs.length≤1000000
 | d+1,xs=>xs.length≤1000000∧∀ x∈xs,zcc d x.args
theorem zcc.le {d:Nat} {xs:List Ex} (h:zcc d xs):xs.length≤1000000:=by
 cases d with
 | zero=>exact h
 | succ d=>exact h.1
theorem zcj {a b:ByteArray} (h:a.data.toList=b.data.toList):a=b:=by
 cases a with
 | mk a=>cases b with
  | mk b=>congr 1; exact Array.toList_inj.1 h
end Go.Proofs.YtkeihncfmbicnaaGreatDoor
