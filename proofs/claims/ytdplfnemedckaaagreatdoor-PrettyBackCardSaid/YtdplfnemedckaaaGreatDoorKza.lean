/-
  Kza: PrLn, PrPl, PrSt, PrSu, PrSq, PrBo. Walks and laws that the statement's proof is made of. No condition of its own.
-/
import Derived.Test.YtdplfnemedckaaaGreatDoorKmd
import Derived.Test.YtdplfnemedckaaaGreatDoorKb
import Derived.Test.YtdplfnemedckaaaGreatDoorKxa
import Derived.Test.YtdplfnemedckaaaGreatDoorKr
import Derived.Deep.RegionWith
import Derived.Test.YtdplfnemedckaaaGreatDoorKg
namespace Go.Proofs.YtdplfnemedckaaaGreatDoor
open Go.RowKit
def ShQ (D:Nat):Nat→St→Prop
 | 0,_=>False
 | d+1,.mk k _ s es ts us=>s.size≤1000∧(∀ x∈es,ShP D x∧fmtE D x≠[])∧(∀ t∈ts,ShQ D d t)∧(∀ t∈us,ShQ D d t)∧1≤es.length∧es.length≤1000∧ts.length≤1000∧us.length≤1000 ∧
   (k=1∨k=2∨(k=3∧2≤es.length)∨k=6∨k=7∨k=8∨k=5∨k=4)
theorem Wri.deep {B p:Nat} {dp:Int} {l:z03} {W:World} (h:Wri B p dp l W) (dq:Int):Wri B p dq l (W.setCell ⟨p,2,none⟩ (.int .i64 dq))∧Wk B p W (W.setCell ⟨p,2,none⟩ (.int .i64 dq)):=by
 have hk:=Wk.set h.wr.le W 2 (.int .i64 dq)
 have key:∀ q,WrAt B p q dp (Lib.byteCells l) W→WrAt B p q dq (Lib.byteCells l) (W.setCell ⟨p,2,none⟩ (.int .i64 dq)):=fun q hq=>by
  obtain ⟨hB,v,hb,hown⟩:=hq
  have hne:=Lib.ownBlock_ne hown hb (by decide)
  refine ⟨hB,v,?_,?_⟩
  ·simp [World.setCell,Array.getElem?_modify,hb]
  ·exact hown.kept (row:=some p) ⟨rfl,rfl,rfl,by simp [World.setCell],fun k _ hk=>Below.heap_setCell _ _ _ _ (fun e=>hk (by simp [e]))⟩ (Or.inr hne)
 refine ⟨⟨?_,h.tab.next hk.bel h.gb,h.gb⟩,hk⟩
 rcases h.wr with h1 | h1
 ·exact .inl (key _ h1)
 ·exact .inr (key _ h1)
theorem Wri.dep {B p:Nat} {dp:Int} {l:z03} {W:World} (h:Wri B p dp l W):W.cell? ⟨p,2,none⟩=some (.int .i64 dp)∧W.frozen? ⟨p,2,none⟩=false:=by
 rcases h.wr with ⟨_,v,hb,_⟩ | ⟨_,v,hb,_⟩
 ·exact ⟨(cell_of_row _ _ 2 _ _ _ hb).trans rfl,Lib.frozen_of_heap hb 2⟩
 ·exact ⟨(cell_of_row _ _ 2 _ _ _ hb).trans rfl,Lib.frozen_of_heap hb 2⟩
def lnT (dn:Nat) (t:z03):z03:=List.replicate dn 9++(t++[10])
set_option maxRecDepth 100000 in
set_option maxHeartbeats 2000000 in
theorem zdc {B p dn:Nat} {l:z03} {W:World} (t:ByteArray) (h:Wri B p (dn:Int) l W) (hl:l.length+dn+t.size+10≤1099511627776) :
  Calls Tryz.prog 28 #[.pointer (some ⟨p,0,none⟩),.string t] W (z23 (.tuple #[]) B p dn (l++lnT dn t.data.toList) W):=by
 have H:=zhi h
 obtain ⟨d2,-⟩:=h.dep
 clear h
 go_enter Tryz.func28,Tryz.ntmps28
 go_wp2_with fail
 go_loopw [8] (fun i wr=>∃ k:Nat,k≤dn∧i=.int .i64 (k:Int)∧Hid (Wri B p dn (l++List.replicate k 9) wr)∧Hid (Wk B p W wr)) (fun i _=>dn - (intOf i).toNat)
 case atStart=>exact ⟨0,Nat.zero_le _,rfl,zhi (by simpa using H.out),zhi (Wk.refl _ _ _)⟩
 case round =>
  obtain ⟨k,hk,rfl,hw,hkk⟩:=hrel
  by_cases hlt:k<dn
  ·have HC:=zhi (z2r hw.out 9 9 rfl (by simp; omega))
   go_wp2_with fail
   refine HC.out.mono ?_
   rintro e w2 ⟨rfl,h2,k2⟩
   have e1:l++List.replicate k 9++[9]=l++List.replicate (k+1) (9:UInt8):=by rw [List.append_assoc,← List.replicate_succ']
   rw [e1] at h2
   clear e1 HC
   go_wp2_with fail
   exact ⟨⟨k+1,by omega,by go_num,h2,zhi (hkk.out.trans k2.out)⟩,by simp [intOf]; omega⟩
  ·obtain rfl:k=dn:=by omega
   have hz:t.data.toList.length=t.size:=by simp
   have HC:=zhi (z0C hw.out t (by simp; omega))
   have Hz:=zhi hz
   clear hz
   go_wp2_with fail
   refine HC.out.mono ?_
   rintro e w2 ⟨rfl,h2,k2⟩
   have HD:=zhi (z2r h2.out 10 10 rfl (by have:=Hz.out; simp only [List.length_append,List.length_replicate]; omega))
   have e1:l++List.replicate k 9++t.data.toList++[10]=l++lnT k t.data.toList:=by simp [lnT]
   rw [e1] at HD
   clear e1 HC h2
   go_wp2_with fail
   refine HD.out.mono ?_
   rintro e w3 ⟨rfl,h3,k3⟩
   have HK:=zhi ((hkk.out.trans k2.out).trans k3.out)
   clear HD k2 k3
   go_wp2_with fail
   go_end0
   exact ⟨rfl,h3,HK⟩
end Go.Proofs.YtdplfnemedckaaaGreatDoor
namespace Go.Proofs.YtdplfnemedckaaaGreatDoor
open Go.RowKit
theorem z4w {α:Type} {l:List α} {f g:α→z03} (h:∀ x∈l,f x=g x):l.flatMap f=l.flatMap g:=by
 induction l with
 | nil=>rfl
 | cons a r ih=>rw [List.flatMap_cons,List.flatMap_cons,h a (by simp),ih (fun x hx=>h x (by simp [hx]))]
theorem z4o:∀ (n:Nat) (x:Ex),fmtE n (rlX x)=fmtE n x
 | 0,_=>by simp [fmtE]
 | n+1,.mk k o a l s xs=>by
  have hm:(rlL xs).map (fmtE n)=xs.map (fmtE n):=by
   rw [z2V,List.map_map]
   exact List.map_congr_left (fun x _=>z4o n x)
  by_cases h1:k=1
  ·subst h1; simp [fmtE,rlX]
  by_cases h2:k=13∨k=2∨k=3
  ·rcases h2 with rfl | rfl | rfl <;> simp [fmtE,rlX]
  by_cases h3:k=12
  ·subst h3; simp [fmtE,rlX]
  by_cases h4:k=11
  ·subst h4; simp [fmtE,rlX]
  by_cases h5:k=9
  ·subst h5; simp [fmtE,rlX,hm]
  by_cases h6:k=10
  ·subst h6
   match xs,hm with
   | [],_=>simp [fmtE,rlX,rlL]
   | x :: r,hm =>
    simp only [rlL,List.map_cons,List.cons.injEq] at hm
    simp [fmtE,rlX,rlL,z4o n,z4I,hm.2]
  by_cases h7:k=4
  ·subst h7
   match xs with
   | []=>simp [fmtE,rlX,rlL]
   | [x]=>simp [fmtE,rlX,rlL,z4o n]
   | x :: y :: r=>simp [fmtE,rlX,rlL]
  by_cases h8:k=5
  ·subst h8
   match xs with
   | []=>simp [fmtE,rlX,rlL]
   | [x]=>simp [fmtE,rlX,rlL,z4o n,z4I]
   | x :: y :: r=>simp [fmtE,rlX,rlL]
  by_cases h9:k=6∨k=7∨k=8
  ·rcases h9 with rfl | rfl | rfl
   all_goals
    match xs with
    | []=>simp [fmtE,rlX,rlL]
    | [x]=>simp [fmtE,rlX,rlL]
    | [x,y]=>simp [fmtE,rlX,rlL,z4o n,z4I]
    | x :: y :: z :: r=>simp [fmtE,rlX,rlL]
  have e:∀ (l:Int) (ys:List Ex),fmtE (n+1) (.mk k o a l s ys)=[]:=fun l ys=>by
   simp only [fmtE,if_neg h1,if_neg h2,if_neg h3,if_neg h4]
   split
   ·exact absurd rfl h7
   ·exact absurd rfl h8
   ·exact absurd (.inl rfl) h9
   ·exact absurd (.inr (.inl rfl)) h9
   ·exact absurd (.inr (.inr rfl)) h9
   ·exact absurd rfl h5
   ·exact absurd rfl h6
   ·rfl
  rw [rlX,e,e]
theorem zeg:∀ (n:Nat) (x:Ex),Dp n x→fmtE (n+1) x=fmtE n x
 | 0,_,h=>h.elim
 | n+1,.mk k o a l s xs,h=>by
  have ih:∀ x∈xs,fmtE (n+1) x=fmtE n x:=fun x hx=>zeg n x (h x hx)
  have hm:xs.map (fmtE (n+1))=xs.map (fmtE n):=List.map_congr_left ih
  by_cases h1:k=1
  ·subst h1; simp [fmtE]
  by_cases h2:k=13∨k=2∨k=3
  ·rcases h2 with rfl | rfl | rfl <;> simp [fmtE]
  by_cases h3:k=12
  ·subst h3; simp [fmtE]
  by_cases h4:k=11
  ·subst h4; simp [fmtE]
  rw [fmtE.eq_def (n+1+1),fmtE.eq_def (n+1)]
  simp only [if_neg h1,if_neg h2,if_neg h3,if_neg h4]
  split
  ·rename_i x; simp only [ih x (by simp)]
  ·rename_i x; simp only [ih x (by simp)]
  ·rename_i x y; simp only [ih x (by simp),ih y (by simp)]
  ·rename_i x y; simp only [ih x (by simp),ih y (by simp)]
  ·rename_i x y; simp only [ih x (by simp),ih y (by simp)]
  ·rw [hm]
  ·rename_i x r
   simp only [List.map_cons,List.cons.injEq] at hm
   simp only [ih x (by simp),hm.2]
  ·rfl
theorem zgn:∀ (n:Nat) (x:Ex),Dp n x→Dp (n+1) x
 | 0,_,h=>h.elim
 | n+1,.mk _ _ _ _ _ _,h=>fun x hx=>zgn n x (h x hx)
theorem z5W {n:Nat} {x:Ex} (h:Dp n x):∀ k,fmtE (n+k) x=fmtE n x
 | 0=>rfl
 | k+1=>by
  have hd:∀ k,Dp (n+k) x:=fun k=>by
   induction k with
   | zero=>exact h
   | succ k ih=>exact zgn _ x ih
  rw [← Nat.add_assoc,zeg _ x (hd k),z5W h k]
theorem zhq (D:Nat) (es:List Ex) (i:Nat):valL D (rlL es) i=valL D es i:=by
 unfold valL
 rw [z2V,List.getElem?_map]
 cases es[i]? with
 | none=>rfl
 | some x=>exact z4o D x
theorem zfH (ts:List St):(rlM ts).length=ts.length:=by simp [z2W]
theorem zaH (D:Nat):∀ (d:Nat) (ts:List St) (ind:z03),fmtB D d (rlM ts) ind=fmtB D d ts ind
 | 0,_,_=>rfl
 | d+1,ts,ind=>by
  have h:∀ t∈ts,stL D (fmtB D d) ind (rlS t)=stL D (fmtB D d) ind t:=fun t _=>by
   obtain ⟨k,l,s,es,us,vs⟩:=t
   simp only [rlS,stL,zhq,zaH D d,zfH]
  rw [z2W]
  simp only [fmtB,List.flatMap_map]
  exact z4w h
theorem zeU (D d:Nat) (f:Fn):fmtF D d (rlF f)=fmtF D d f:=by simp only [fmtF,rlF,zaH]
theorem zeX {D d:Nat} {gl:List (ByteArray × Int)} {fl fm:List Fn} (h:fl.map rlF=fm.map rlF):fmtP D d gl fl=fmtP D d gl fm:=by
 have e:∀ l:List Fn,(l.map rlF).flatMap (fmtF D d)=l.flatMap (fmtF D d):=fun l=>by
  rw [List.flatMap_map]
  exact z4w (fun f _=>zeU D d f)
 unfold fmtP
 rw [← e fl,h,e fm]
theorem zhr {es:List Ex} (he:∀ x∈es,GE 2 x) (k i:Nat):valL (3+k) es i=valL 3 es i:=by
 unfold valL
 cases h:es[i]? with
 | none=>rfl
 | some x =>
  have hg:=he x (List.mem_of_getElem? h)
  have hd:=zd2 2 x hg
  rw [zf5 2 x hg] at hd
  exact z5W hd k
theorem z7z (k j:Nat):∀ (d:Nat) (ts:List St) (ind:z03),(∀ t∈ts,GSt d t)→fmtB (3+k) (d+j) ts ind=fmtB 3 d ts ind
 | 0,ts,ind,h=>by
  have:ts=[]:=by
   cases ts with
   | nil=>rfl
   | cons a r=>exact (h a (by simp)).elim
  subst this
  cases j with
  | zero=>rfl
  | succ j=>simp [fmtB]
 | d+1,ts,ind,h=>by
  have e:d+1+j=d+j+1:=by omega
  rw [e]
  simp only [fmtB]
  refine z4w (fun t ht=>?_)
  have hg:=h t ht
  obtain ⟨kk,l,s,es,us,vs⟩:=t
  obtain ⟨_,he,hu,hv,_⟩:=hg
  simp only [stL,zhr he,z7z k j d us _ hu,z7z k j d vs _ hv]
theorem zeZ {gl:List (ByteArray × Int)} {fl:List Fn} (h:∀ f∈fl,GF 2 f) (k j:Nat):fmtP (3+k) (3+j) gl fl=fmtP 3 3 gl fl:=by
 unfold fmtP
 congr 1
 refine z4w (fun f hf=>?_)
 simp only [fmtF,z7z k j 3 f.body _ (h f hf).2.2.2.1]
theorem zeu:∀ (n:Nat) (x y:Ex),rlX x=rlX y→ShP n x→ShP n y
 | 0,_,_,_,h=>h
 | n+1,.mk k o a l s xs,.mk k' o' a' l' s' ys,e,h=>by
  simp only [rlX,Ex.mk.injEq] at e
  obtain ⟨rfl,rfl,rfl,_,rfl,e⟩:=e
  have hl:ys.length=xs.length:=by simpa [z2V] using (congrArg List.length e).symm
  obtain ⟨h1,h2,h3,h4,h5,h6,h7,h8⟩:=h
  refine ⟨by omega,h2,h3,h4,h5,h6,fun y hy=>?_,by rw [hl]; exact h8⟩
  obtain ⟨i,hi,e2⟩:=List.mem_iff_getElem.1 hy
  have e3:=congrArg (fun l:List Ex=>l[i]?) e
  simp only [z2V,List.getElem?_map,List.getElem?_eq_getElem hi,List.getElem?_eq_getElem (show i<xs.length by omega),Option.map_some,Option.some.injEq] at e3
  rw [← e2]
  exact zeu n _ _ e3 (h7 _ (List.getElem_mem _))
theorem zev:∀ (n:Nat) (x:Ex),ShP n x→ShP (n+1) x
 | 0,_,h=>h.elim
 | n+1,.mk _ _ _ _ _ _,⟨h1,h2,h3,h4,h5,h6,h7,h8⟩=>⟨h1,h2,h3,h4,h5,h6,fun x hx=>zev n x (h7 x hx),h8⟩
theorem z8S {n:Nat} {x:Ex} (h:ShP n x):∀ k,ShP (n+k) x
 | 0=>h
 | k+1=>zev _ x (z8S h k)
theorem zgw:∀ (d:Nat) (x:Ex),GE d x→ShP (d+1) x:=by
 intro d
 induction d with
 | zero =>
  rintro ⟨k,o,a,l,s,xs⟩ ⟨_,h1,h2,h3,h4,h5,rfl,hk⟩
  exact ⟨by simp,by omega,h3,h4,h1,h2,fun x hx=>by simp at hx,by rcases hk with h | ⟨h,_⟩ | h | ⟨h,_⟩ <;> simp [h]⟩
 | succ d ih =>
  rintro ⟨k,o,a,l,s,xs⟩ ⟨_,h1,h2,h3,h4,h5,⟨rfl,hk⟩ | ⟨hx,hk⟩⟩
  ·exact ⟨by simp,by omega,h3,h4,h1,h2,fun x hx=>by simp at hx,by rcases hk with h | ⟨h,_⟩ | h | ⟨h,_⟩ <;> simp [h]⟩
  ·refine ⟨?_,by omega,h3,h4,h1,h2,fun x hm=>ih x (hx x hm),?_⟩
   ·rcases hk with ⟨_,_,_,h⟩ | ⟨_,_,h⟩ | ⟨_,h⟩ | ⟨_,h⟩ | ⟨_,_,h⟩ | ⟨_,_,h⟩ | ⟨_,_,h⟩ <;> omega
   ·rcases hk with ⟨h,_,_,h'⟩ | ⟨h,_,h'⟩ | ⟨h,h'⟩ | ⟨h,h'⟩ | ⟨h,_,h'⟩ | ⟨h,h',_⟩ | ⟨h,h',_⟩ <;> simp [h,h']
end Go.Proofs.YtdplfnemedckaaaGreatDoor
namespace Go.Proofs.YtdplfnemedckaaaGreatDoor
open Go.RowKit
def BlC (D d:Nat):Prop:=∀ (F:Nat→Prop) (ts:List St) (A:Option Addr) (n c B p dn:Nat) (l:z03) (W:World),RowS F W D d ts A c→ts.length=n→(∀ q,F q→q<B)→(∀ t∈ts,ShQ D d t)→n≤1000→Wri B p (dn:Int) l W→dn≤1000000000000→l.length+(fmtB D d ts (List.replicate (dn+1) 9)).length≤1000000000000 →
 Calls Tryz.prog 31 #[.pointer (some ⟨p,0,none⟩),.slice A n c] W (z23 (.tuple #[]) B p dn (l++fmtB D d ts (List.replicate (dn+1) 9)) W)
def StC (D d:Nat):Prop:=∀ (F:Nat→Prop) (x:St) (v:Value) (B p dn:Nat) (l:z03) (W:World),StV F W D (d+1) x v→(∀ q,F q→q<B)→ShQ D (d+1) x→Wri B p (dn:Int) l W→l.length+(stL D (fmtB D d) (List.replicate dn 9) x).length≤1000000000000 →
 Calls Tryz.prog 59 #[.pointer (some ⟨p,0,none⟩),v] W (z23 (.tuple #[]) B p dn (l++stL D (fmtB D d) (List.replicate dn 9) x) W)
structure StB (F:Nat→Prop) (D d:Nat) (k ln:Int) (s:ByteArray) (es:List Ex) (ts us:List St) (eA tA uA:Option Addr) (ec tc uc n1 n2 n3 B p b dn:Nat) (l:z03) (W w:World):Prop where
 wri:Wri B p (dn:Int) l w
 row:w.heap[b]?=some (.cells #[.int .i64 k,.int .i64 ln,.string s,.slice eA n1 ec,.slice tA n2 tc,.slice uA n3 uc] 84 (0,0))
 re:RowE F w D es eA ec
 rt:RowS F w D d ts tA tc
 ru:RowS F w D d us uA uc
 hF:∀ q,F q→q<B
 ne:b≠p
 wk:Wk B p W w
section
variable {F:Nat→Prop} {D d:Nat} {k ln:Int} {s:ByteArray} {es:List Ex} {ts us:List St} {eA tA uA:Option Addr} {ec tc uc n1 n2 n3 B p b dn:Nat} {l l':z03} {W w w':World}
theorem StB.wrote (h:StB F D d k ln s es ts us eA tA uA ec tc uc n1 n2 n3 B p b dn l W w) (h1:Wri B p (dn:Int) l' w') (h2:Wk B p w w'):StB F D d k ln s es ts us eA tA uA ec tc uc n1 n2 n3 B p b dn l' W w' :=
 ⟨h1,(h2.oth b _ _ _ h.row (by decide) h.ne).trans h.row,z8O h.re h.hF h2,RowS.keep (fun _ h=>h) (fun q hq=>h2.bel.block q (h.hF q hq)) h.rt,RowS.keep (fun _ h=>h) (fun q hq=>h2.bel.block q (h.hF q hq)) h.ru,h.hF,h.ne,h.wk.trans h2⟩
theorem StB.next (h:StB F D d k ln s es ts us eA tA uA ec tc uc n1 n2 n3 B p b dn l W w) (h1:Below w.heap.size w w'):StB F D d k ln s es ts us eA tA uA ec tc uc n1 n2 n3 B p b dn l W w' :=
 h.wrote (h.wri.next h1) (Wk.same h1 h.wri.le)
theorem StB.cells (h:StB F D d k ln s es ts us eA tA uA ec tc uc n1 n2 n3 B p b dn l W w):w.cell? ⟨b,0,none⟩=some (.int .i64 k)∧w.cell? ⟨b,2,none⟩=some (.string s)∧w.cell? ⟨b,3,none⟩=some (.slice eA n1 ec)∧w.cell? ⟨b,4,none⟩=some (.slice tA n2 tc)∧w.cell? ⟨b,5,none⟩=some (.slice uA n3 uc) :=
 ⟨cell_of_row _ _ 0 _ _ _ h.row,cell_of_row _ _ 2 _ _ _ h.row,cell_of_row _ _ 3 _ _ _ h.row,cell_of_row _ _ 4 _ _ _ h.row,cell_of_row _ _ 5 _ _ _ h.row⟩
end
theorem StB.box {F:Nat→Prop} {D d:Nat} {k ln:Int} {s:ByteArray} {es:List Ex} {ts us:List St} {eA tA uA:Option Addr} {ec tc uc n1 n2 n3 B p dn:Nat} {l:z03} {W:World} (h:Wri B p (dn:Int) l W) (he:RowE F W D es eA ec) (ht:RowS F W D d ts tA tc) (hu:RowS F W D d us uA uc) (hF:∀ q,F q→q<B) :
  StB F D d k ln s es ts us eA tA uA ec tc uc n1 n2 n3 B p W.heap.size dn l W (W.alloc (.cells #[.int .i64 k,.int .i64 ln,.string s,.slice eA n1 ec,.slice tA n2 tc,.slice uA n3 uc] 84)):=by
 have hb0:=(Below.refl _ W).alloc (Nat.le_refl _) (.cells #[.int .i64 k,.int .i64 ln,.string s,.slice eA n1 ec,.slice tA n2 tc,.slice uA n3 uc] 84)
 have hlt:=h.wr.lt
 have hk:Wk B p W (W.alloc (.cells #[.int .i64 k,.int .i64 ln,.string s,.slice eA n1 ec,.slice tA n2 tc,.slice uA n3 uc] 84)):=Wk.same hb0 h.le
 exact ⟨h.next hb0,heap_alloc_new W _,z8O he hF hk,RowS.keep (fun _ h=>h) (fun q hq=>hk.bel.block q (hF q hq)) ht,RowS.keep (fun _ h=>h) (fun q hq=>hk.bel.block q (hF q hq)) hu,hF,by omega,hk⟩
theorem zaC {F:Nat→Prop} {D:Nat} {es:List Ex} {A:Option Addr} {c n i B p:Nat} {dp:Int} {l:z03} {w:World} (h:RowE F w D es A c) (hn:es.length=n) (hi:i<n) (hF:∀ q,F q→q<B) (hw:Wri B p dp l w) (hs:∀ x∈es,ShP D x∧fmtE D x≠[]) (hl:(valL D es i).length≤1099511627776) (z:Int) (hz:z=(i:Int)) :
  ∃ v,Calls Tryz.prog 46 #[.slice A n c,.int .i64 z] w (RetV v w)∧∀ W,Below w.heap.size w W→Calls Tryz.prog 11 #[v] W (z39 (valL D es i) W):=by
 obtain ⟨x,hx⟩:∃ x,es[i]?=some x:=⟨es[i]'(by omega),List.getElem?_eq_getElem _⟩
 have hv:valL D es i=fmtE D x:=by unfold valL; rw [hx]
 rw [hv] at hl ⊢
 obtain ⟨h1,h2⟩:=hs x (List.mem_of_getElem? hx)
 obtain ⟨g,off,k,o,a,ln,s,A',m',c',rfl,hk⟩:=z2v h hx
 have hle:=hw.le
 exact ⟨_,hk.at_ n c z hz hi,fun W hW=>z5D F D x k o a ln s A' m' c' W (hk.ex.keep (G:=F) (fun _ h=>h) (fun q hq=>hW.block q (by have:=hF q hq; omega))) (fun q hq=>by have:=hF q hq; have:=hW.size; omega) h1 (hw.tab.next (hW.mono hle) hw.gb) (by have:=hw.gb; have:=hW.size; omega) hl h2⟩
end Go.Proofs.YtdplfnemedckaaaGreatDoor
namespace Go.Proofs.YtdplfnemedckaaaGreatDoor
open Go.RowKit
theorem zfV {D:Nat} {Bf:List St→z03→z03} {ind:z03} {k ln:Int} {s:ByteArray} {es:List Ex} {ts us:List St} (hk:k=1∨k=2∨(k=3∧2≤es.length)∨k=6∨k=7∨k=8∨k=5∨k=4):ind.length+(valL D es 0).length≤(stL D Bf ind (.mk k ln s es ts us)).length:=by
 rcases hk with rfl | rfl | ⟨rfl,_⟩ | rfl | rfl | rfl | rfl | rfl <;> simp [stL] <;> omega
theorem z8X (D:Nat) (Bf:List St→z03→z03) (ind:z03) (ln:Int) (s:ByteArray) (es:List Ex) (ts us:List St):stL D Bf ind (.mk 5 ln s es ts us)=ind++[119,104,105,108,101,32]++valL D es 0++[32,123,10]++Bf ts (ind++[9])++ind++[125,10]:=by simp [stL]
theorem zex (D:Nat) (Bf:List St→z03→z03) (ind:z03) (ln:Int) (s:ByteArray) (es:List Ex) (ts us:List St) (h:us.length=0):stL D Bf ind (.mk 4 ln s es ts us)=ind++[105,102,32]++valL D es 0++[32,123,10]++Bf ts (ind++[9])++ind++[125,10]:=by simp [stL,h]
theorem zey (D:Nat) (Bf:List St→z03→z03) (ind:z03) (ln:Int) (s:ByteArray) (es:List Ex) (ts us:List St) (h:us.length≠0):stL D Bf ind (.mk 4 ln s es ts us)=ind++[105,102,32]++valL D es 0++[32,123,10]++Bf ts (ind++[9])++ind++[125]++[32,101,108,115,101,32,123,10]++Bf us (ind++[9])++ind++[125,10]:=by simp [stL,h]
theorem z5w (dn:Nat):List.replicate dn (9:UInt8)++[9]=List.replicate (dn+1) 9:=by rw [← List.replicate_succ']
def LnC (B p dn:Nat) (l:z03) (w:World):Prop:=∀ t:ByteArray,l.length+dn+t.size≤1000000010000→Calls Tryz.prog 28 #[.pointer (some ⟨p,0,none⟩),.string t] w (z23 (.tuple #[]) B p dn (l++lnT dn t.data.toList) w)
theorem lnC {B p dn:Nat} {l:z03} {w:World} (h:Wri B p (dn:Int) l w):LnC B p dn l w:=fun t ht=>zdc t h (by omega)
set_option maxRecDepth 100000 in
set_option maxHeartbeats 4000000 in
theorem zc9 {D d:Nat} (hB:BlC D d):StC D d:=by
 intro F x v B p dn l W hx hF hs hw hl
 obtain ⟨k,ln,s,es,ts,us⟩:=x
 obtain ⟨eA,ec,tA,tc,uA,uc,rfl,he,ht,hu⟩:=hx
 obtain ⟨hs1,hs2,hs3,hs4,hs5,hs6,hs7,hs8,hk⟩:=hs
 have hv0:l.length+(dn+(valL D es 0).length)≤1000000000000:=by
  have h:=Nat.le_trans (Nat.add_le_add_left (zfV (D:=D) (Bf:=fmtB D d) (ind:=List.replicate dn 9) (ln:=ln) (s:=s) (ts:=ts) (us:=us) hk) l.length) hl
  rwa [List.length_replicate] at h
 obtain ⟨n1,hn1⟩:∃ n,es.length=n:=⟨_,rfl⟩
 obtain ⟨n2,hn2⟩:∃ n,ts.length=n:=⟨_,rfl⟩
 obtain ⟨n3,hn3⟩:∃ n,us.length=n:=⟨_,rfl⟩
 have hec:n1≤ec:=by rw [← hn1]; exact he.1
 rw [hn1,hn2,hn3]
 have h0:=StB.box (k:=k) (ln:=ln) (s:=s) (n1:=n1) (n2:=n2) (n3:=n3) (ec:=ec) (tc:=tc) (uc:=uc) hw he ht hu hF
 obtain ⟨x0,hat,hex⟩:=zaC h0.re hn1 (i:=0) (by omega) hF h0.wri hs2 (by omega) 0 rfl
 obtain ⟨W1,hW1⟩:∃ W1,W.alloc (.cells #[.int .i64 k,.int .i64 ln,.string s,.slice eA n1 ec,.slice tA n2 tc,.slice uA n3 uc] 84)=W1:=⟨_,rfl⟩
 obtain ⟨b,hb⟩:∃ b,W.heap.size=b:=⟨_,rfl⟩
 rw [hW1] at h0 hat hex
 rw [hb] at h0
 have H0:=zhi h0
 have Hat:=zhi hat
 have Hex:=zhi hex
 have Hs2:=zhi hs2
 have Hs3:=zhi hs3
 have Hs4:=zhi hs4
 have Hn1:=zhi hn1
 have Hn2:=zhi hn2
 have Hn3:=zhi hn3
 have HB:=zhi hB
 have HL:=zhi hl
 obtain ⟨j0,j2,j3,j4,j5⟩:=h0.cells
 rw [hn1] at hk
 rw [hn2] at hs7
 rw [hn3] at hs8
 clear h0 hat hex he ht hu hw hF hs2 hs3 hs4 hs5 hs6 hn1 hn2 hn3 hB hl
 go_enter Tryz.func59,Tryz.ntmps59
 go_upto_region 1 with fail
 clear hW1 hb
 go_wp2_with fail
 refine Hat.out.mono ?_
 rintro e w2 ⟨rfl,hb2⟩
 have HE2:=zhi (Hex.out w2 hb2)
 have Hb2:=zhi hb2
 clear hb2 Hex Hat j0 j2 j3 j4 j5
 go_wp2_with fail
 refine HE2.out.mono ?_
 rintro e w3 ⟨X,rfl,hX,hb3⟩
 have hXz:l.length+dn+X.size≤1000000000000:=by rw [z0V hX.out]; omega
 have h3:=H0.out.next (Hb2.out.trans (hb3.mono Hb2.out.size))
 obtain ⟨j0,j2,j3,j4,j5⟩:=h3.cells
 have H3:=zhi h3
 have HLn:=zhi (lnC h3.wri)
 clear h3 hb3 Hb2 HE2 H0 hv0
 rcases hk with rfl | rfl | ⟨rfl,hk⟩ | rfl | rfl | rfl | rfl | rfl
 ·have HT:Hid (∀ t:ByteArray,t.data.toList=[118,97,114,32]++s.data.toList++[32,61,32]++valL D es 0++[59]→l++lnT dn t.data.toList=l++stL D (fmtB D d) (List.replicate dn 9) (.mk 1 ln s es ts us)):=zhi (fun t ht=>by rw [ht]; simp [lnT,stL])
  go_wp2_with fail
  refine (HLn.out _ (by simp only [ByteArray.size_append]; show l.length+dn+(4+s.size+3+X.size+1)≤_; omega)).mono ?_
  rintro e w4 ⟨rfl,h4,k4⟩
  rw [HT.out _ (by simp [hX.out])] at h4
  have HK:=zhi (H3.out.wk.trans k4.out)
  clear HT HLn H3 k4 hX
  go_wp2_with fail
  go_end0
  exact ⟨rfl,h4,HK⟩
 ·have HT:Hid (∀ t:ByteArray,t.data.toList=s.data.toList++[32,61,32]++valL D es 0++[59]→l++lnT dn t.data.toList=l++stL D (fmtB D d) (List.replicate dn 9) (.mk 2 ln s es ts us)):=zhi (fun t ht=>by rw [ht]; simp [lnT,stL])
  go_wp2_with fail
  refine (HLn.out _ (by simp only [ByteArray.size_append]; show l.length+dn+(s.size+3+X.size+1)≤_; omega)).mono ?_
  rintro e w4 ⟨rfl,h4,k4⟩
  rw [HT.out _ (by simp [hX.out])] at h4
  have HK:=zhi (H3.out.wk.trans k4.out)
  clear HT HLn H3 k4 hX
  go_wp2_with fail
  go_end0
  exact ⟨rfl,h4,HK⟩
 ·have hv1:(valL D es 1).length≤1000000000000:=by
   have h:=HL.out
   simp [stL] at h
   omega
  have hd3:=H3.out.next (Below.refl _ w3).drew
  obtain ⟨x1,hat,hex⟩:=zaC hd3.re Hn1.out (i:=1) (by omega) hd3.hF hd3.wri Hs2.out (by omega) 1 rfl
  have Hat:=zhi hat
  have Hex:=zhi hex
  have HD3:=zhi hd3
  have HT:Hid (∀ t:ByteArray,t.data.toList=s.data.toList++[91]++valL D es 0++[93,32,61,32]++valL D es 1++[59]→l++lnT dn t.data.toList=l++stL D (fmtB D d) (List.replicate dn 9) (.mk 3 ln s es ts us)):=zhi (fun t ht=>by rw [ht]; simp [lnT,stL])
  have hX1:l.length+dn+X.size+(valL D es 1).length≤1000000000000:=by
   have h:=HL.out
   have h2:=z0V hX.out
   simp [stL] at h
   omega
  have HX1:=zhi hX1
  clear hat hex hv1 hd3 hX1 HLn H3
  have hS0:w3.drew.cell? ⟨b,2,none⟩=some (.string s)∧w3.drew.cell? ⟨b,3,none⟩=some (.slice eA n1 ec):=⟨HD3.out.cells.2.1,HD3.out.cells.2.2.1⟩
  have hf3:(9223372036854775807<s.size+1)=False:=z1o (m:=1001) (by omega) (by decide)
  have hf5:(9223372036854775807<s.size+1+X.size)=False:=z1o (m:=1000000001001) (by omega) (by decide)
  have hf6:(9223372036854775807<s.size+1+X.size+4)=False:=z1o (m:=1000000001005) (by omega) (by decide)
  clear j4 j5 hs7 hs8 hk
  go_upto_region 8 with fail
  go_region_held3 (fun w'=>w'.cell? ⟨b,2,none⟩=some (.string s)∧w'.cell? ⟨b,3,none⟩=some (.slice eA n1 ec))
   (first | (with_reducible exact hS0) | (with_reducible exact hS4) | (with_reducible exact hS5) | (with_reducible exact hS6))
   (first
    | (go_at_call 46; refine Hat.out.mono ?_; rintro e w4 ⟨rfl,hb4⟩; have HE4:=zhi (Hex.out w4 hb4); have H4:=zhi (HD3.out.next hb4); have hS4:w4.cell? ⟨b,2,none⟩=some (.string s)∧w4.cell? ⟨b,3,none⟩=some (.slice eA n1 ec):=⟨H4.out.cells.2.1,H4.out.cells.2.2.1⟩; clear hb4)
    | (go_at_call 11; refine HE4.out.mono ?_; rintro e w5 ⟨Y,rfl,hY,hb5⟩; have H5:=zhi (H4.out.next hb5); have hYz:l.length+dn+X.size+Y.size≤1000000000000:=(by rw [z0V hY.out]; exact HX1.out); have HLn:=zhi (lnC H5.out.wri); have hf11:(9223372036854775807<s.size+1+X.size+4+Y.size)=False:=z1o (m:=1000000001005) (by omega) (by decide); have hf12:(9223372036854775807<s.size+1+X.size+4+Y.size+1)=False:=z1o (m:=1000000001006) (by omega) (by decide); have hS5:w5.cell? ⟨b,2,none⟩=some (.string s)∧w5.cell? ⟨b,3,none⟩=some (.slice eA n1 ec):=⟨H5.out.cells.2.1,H5.out.cells.2.2.1⟩; clear hb5)
    | (go_at_call 28; refine (HLn.out _ (by simp only [ByteArray.size_append]; show l.length+dn+(s.size+1+X.size+4+Y.size+1)≤_; omega)).mono ?_; rintro e w6 ⟨rfl,h6,k6⟩; have H6:=zhi (H5.out.wrote h6.out k6.out); have hS6:w6.cell? ⟨b,2,none⟩=some (.string s)∧w6.cell? ⟨b,3,none⟩=some (.slice eA n1 ec):=⟨H6.out.cells.2.1,H6.out.cells.2.2.1⟩; rw [HT.out _ (by simp [hX.out,hY.out])] at h6))
  clear HT Hat Hex hf3 hf5 hf6 hf11 hf12
  go_wp2_with fail
  go_end0
  exact ⟨rfl,h6,zhi H6.out.wk⟩
 ·have HT:Hid (∀ t:ByteArray,t.data.toList=[114,101,116,117,114,110,32]++valL D es 0++[59]→l++lnT dn t.data.toList=l++stL D (fmtB D d) (List.replicate dn 9) (.mk 6 ln s es ts us)):=zhi (fun t ht=>by rw [ht]; simp [lnT,stL])
  go_wp2_with fail
  refine (HLn.out _ (by simp only [ByteArray.size_append]; show l.length+dn+(7+X.size+1)≤_; omega)).mono ?_
  rintro e w4 ⟨rfl,h4,k4⟩
  rw [HT.out _ (by simp [hX.out])] at h4
  have HK:=zhi (H3.out.wk.trans k4.out)
  clear HT HLn H3 k4 hX
  go_wp2_with fail
  go_end0
  exact ⟨rfl,h4,HK⟩
 ·have HT:Hid (∀ t:ByteArray,t.data.toList=[112,114,105,110,116,32]++valL D es 0++[59]→l++lnT dn t.data.toList=l++stL D (fmtB D d) (List.replicate dn 9) (.mk 7 ln s es ts us)):=zhi (fun t ht=>by rw [ht]; simp [lnT,stL])
  go_wp2_with fail
  refine (HLn.out _ (by simp only [ByteArray.size_append]; show l.length+dn+(6+X.size+1)≤_; omega)).mono ?_
  rintro e w4 ⟨rfl,h4,k4⟩
  rw [HT.out _ (by simp [hX.out])] at h4
  have HK:=zhi (H3.out.wk.trans k4.out)
  clear HT HLn H3 k4 hX
  go_wp2_with fail
  go_end0
  exact ⟨rfl,h4,HK⟩
 ·have HT:Hid (∀ t:ByteArray,t.data.toList=[99,97,108,108,32]++valL D es 0++[59]→l++lnT dn t.data.toList=l++stL D (fmtB D d) (List.replicate dn 9) (.mk 8 ln s es ts us)):=zhi (fun t ht=>by rw [ht]; simp [lnT,stL])
  go_wp2_with fail
  refine (HLn.out _ (by simp only [ByteArray.size_append]; show l.length+dn+(5+X.size+1)≤_; omega)).mono ?_
  rintro e w4 ⟨rfl,h4,k4⟩
  rw [HT.out _ (by simp [hX.out])] at h4
  have HK:=zhi (H3.out.wk.trans k4.out)
  clear HT HLn H3 k4 hX
  go_wp2_with fail
  go_end0
  exact ⟨rfl,h4,HK⟩
 ·have hl:=HL.out
  rw [z8X] at hl
  simp only [List.length_append,List.length_replicate,List.length_cons,List.length_nil,z5w] at hl
  go_wp2_with fail
  refine (HLn.out _ (by simp only [ByteArray.size_append]; show l.length+dn+(6+X.size+2)≤_; omega)).mono ?_
  rintro e w4 ⟨rfl,h4,k4⟩
  have e4:(⟨#[119,104,105,108,101,32]⟩++X++⟨#[32,123]⟩:ByteArray).data.toList=[119,104,105,108,101,32]++valL D es 0++[32,123]:=by simp [hX.out]
  rw [e4] at h4
  have h5:=H3.out.wrote h4.out k4.out
  obtain ⟨i0,i2,i3,i4,i5⟩:=h5.cells
  have HC:=zhi (HB.out F ts tA n2 tc B p dn _ w4 h5.rt Hn2.out h5.hF Hs3.out hs7 h5.wri (by omega) (by simp only [lnT,List.length_append,List.length_replicate,List.length_cons,List.length_nil]; omega))
  have H5:=zhi h5
  clear e4 h5 h4 k4 HLn H3 j0 j2 j3 j4 j5
  go_wp2_with fail
  refine HC.out.mono ?_
  rintro e w5 ⟨rfl,h6,k6⟩
  have HD:=zhi (lnC h6.out ⟨#[125]⟩ (by simp only [lnT,List.length_append,List.length_replicate,List.length_cons,List.length_nil]; show _+1≤_; omega))
  have HK5:=zhi (H5.out.wk.trans k6.out)
  clear HC h6 k6 H5 i0 i2 i3 i4 i5
  go_wp2_with fail
  refine HD.out.mono ?_
  rintro e w6 ⟨rfl,h7,k7⟩
  have e7:l++lnT dn ([119,104,105,108,101,32]++valL D es 0++[32,123])++fmtB D d ts (List.replicate (dn+1) 9)++lnT dn (⟨#[125]⟩:ByteArray).data.toList=l++stL D (fmtB D d) (List.replicate dn 9) (.mk 5 ln s es ts us):=by
   rw [z8X,z5w]
   simp [lnT]
  rw [e7] at h7
  have HK:=zhi (HK5.out.trans k7.out)
  clear HD k7 HK5 hX HL
  go_wp2_with fail
  go_end0
  exact ⟨rfl,h7,HK⟩
 ·by_cases hu:n3=0
  ·subst hu
   have hl:=HL.out
   rw [zex _ _ _ _ _ _ _ _ Hn3.out] at hl
   simp only [List.length_append,List.length_replicate,List.length_cons,List.length_nil,z5w] at hl
   go_wp2_with fail
   refine (HLn.out _ (by simp only [ByteArray.size_append]; show l.length+dn+(3+X.size+2)≤_; omega)).mono ?_
   rintro e w4 ⟨rfl,h4,k4⟩
   have e4:(⟨#[105,102,32]⟩++X++⟨#[32,123]⟩:ByteArray).data.toList=[105,102,32]++valL D es 0++[32,123]:=by simp [hX.out]
   rw [e4] at h4
   have h5:=H3.out.wrote h4.out k4.out
   obtain ⟨i0,i2,i3,i4,i5⟩:=h5.cells
   have HC:=zhi (HB.out F ts tA n2 tc B p dn _ w4 h5.rt Hn2.out h5.hF Hs3.out hs7 h5.wri (by omega) (by simp only [lnT,List.length_append,List.length_replicate,List.length_cons,List.length_nil]; omega))
   have H5:=zhi h5
   clear e4 h5 h4 k4 HLn H3 j0 j2 j3 j4 j5
   go_wp2_with fail
   refine HC.out.mono ?_
   rintro e w5 ⟨rfl,h6,k6⟩
   have HD:=zhi (lnC h6.out ⟨#[125]⟩ (by simp only [lnT,List.length_append,List.length_replicate,List.length_cons,List.length_nil]; show _+1≤_; omega))
   have h8:=H5.out.wrote h6.out k6.out
   obtain ⟨a0,a2,a3,a4,a5⟩:=h8.cells
   have HK5:=zhi h8.wk
   clear HC h6 k6 H5 i0 i2 i3 i4 i5 h8
   go_wp2_with fail
   refine HD.out.mono ?_
   rintro e w6 ⟨rfl,h7,k7⟩
   have e7:l++lnT dn ([105,102,32]++valL D es 0++[32,123])++fmtB D d ts (List.replicate (dn+1) 9)++lnT dn (⟨#[125]⟩:ByteArray).data.toList=l++stL D (fmtB D d) (List.replicate dn 9) (.mk 4 ln s es ts us):=by
    rw [zex _ _ _ _ _ _ _ _ Hn3.out,z5w]
    simp [lnT]
   rw [e7] at h7
   have HK:=zhi (HK5.out.trans k7.out)
   clear HD k7 HK5 hX HL a0 a2 a3 a4 a5
   go_wp2_with fail
   go_end0
   exact ⟨rfl,h7,HK⟩
  ·have hl:=HL.out
   rw [zey _ _ _ _ _ _ _ _ (by rw [Hn3.out]; exact hu)] at hl
   simp only [List.length_append,List.length_replicate,List.length_cons,List.length_nil,z5w] at hl
   have hu0:0<n3:=by omega
   clear hu
   go_wp2_with fail
   refine (HLn.out _ (by simp only [ByteArray.size_append]; show l.length+dn+(3+X.size+2)≤_; omega)).mono ?_
   rintro e w4 ⟨rfl,h4,k4⟩
   have e4:(⟨#[105,102,32]⟩++X++⟨#[32,123]⟩:ByteArray).data.toList=[105,102,32]++valL D es 0++[32,123]:=by simp [hX.out]
   rw [e4] at h4
   have h5:=H3.out.wrote h4.out k4.out
   obtain ⟨i0,i2,i3,i4,i5⟩:=h5.cells
   have HC:=zhi (HB.out F ts tA n2 tc B p dn _ w4 h5.rt Hn2.out h5.hF Hs3.out hs7 h5.wri (by omega) (by simp only [lnT,List.length_append,List.length_replicate,List.length_cons,List.length_nil]; omega))
   have H5:=zhi h5
   clear e4 h5 h4 k4 HLn H3 j0 j2 j3 j4 j5
   go_wp2_with fail
   refine HC.out.mono ?_
   rintro e w5 ⟨rfl,h6,k6⟩
   have HD:=zhi (lnC h6.out ⟨#[125,32,101,108,115,101,32,123]⟩ (by simp only [lnT,List.length_append,List.length_replicate,List.length_cons,List.length_nil]; show _+8≤_; omega))
   have h8:=H5.out.wrote h6.out k6.out
   obtain ⟨a0,a2,a3,a4,a5⟩:=h8.cells
   have H8:=zhi h8
   clear HC h6 k6 H5 i0 i2 i3 i4 i5 h8
   go_wp2_with fail
   refine HD.out.mono ?_
   rintro e w6 ⟨rfl,h7,k7⟩
   have h9:=H8.out.wrote h7.out k7.out
   obtain ⟨b0,b2,b3,b4,b5⟩:=h9.cells
   have HE:=zhi (HB.out F us uA n3 uc B p dn _ w6 h9.ru Hn3.out h9.hF Hs4.out hs8 h9.wri (by omega) (by simp only [lnT,List.length_append,List.length_replicate,List.length_cons,List.length_nil]; show _+(dn+(8+1))+_≤_; omega))
   have H9:=zhi h9
   clear HD k7 h7 H8 h9 a0 a2 a3 a4 a5
   go_wp2_with fail
   refine HE.out.mono ?_
   rintro e w7 ⟨rfl,ha,ka⟩
   have HG:=zhi (lnC ha.out ⟨#[125]⟩ (by simp only [lnT,List.length_append,List.length_replicate,List.length_cons,List.length_nil]; show _+1≤_; omega))
   have HK7:=zhi (H9.out.wk.trans ka.out)
   clear HE ha ka H9 b0 b2 b3 b4 b5
   go_wp2_with fail
   refine HG.out.mono ?_
   rintro e w8 ⟨rfl,hc8,kc⟩
   have e7:l++lnT dn ([105,102,32]++valL D es 0++[32,123])++fmtB D d ts (List.replicate (dn+1) 9)++lnT dn (⟨#[125,32,101,108,115,101,32,123]⟩:ByteArray).data.toList++fmtB D d us (List.replicate (dn+1) 9)++lnT dn (⟨#[125]⟩:ByteArray).data.toList=l++stL D (fmtB D d) (List.replicate dn 9) (.mk 4 ln s es ts us):=by
    rw [zey _ _ _ _ _ _ _ _ (by rw [Hn3.out]; omega),z5w]
    simp [lnT]
   rw [e7] at hc8
   have HK:=zhi (HK7.out.trans kc.out)
   clear HG kc HK7 hX HL
   go_wp2_with fail
   go_end0
   exact ⟨rfl,hc8,HK⟩
end Go.Proofs.YtdplfnemedckaaaGreatDoor
namespace Go.Proofs.YtdplfnemedckaaaGreatDoor
open Go.RowKit
theorem z3G {xs ys:List St} (h:rlM xs=rlM ys):xs.length=ys.length:=by simpa [z2W] using congrArg List.length h
theorem z6q {xs ys:List St} (h:rlM xs=rlM ys) {i:Nat} {x:St} (hx:xs[i]?=some x):∃ y,ys[i]?=some y∧rlS x=rlS y:=by
 have e:=congrArg (fun l:List St=>l[i]?) h
 simp only [z2W,List.getElem?_map,hx,Option.map_some] at e
 cases hy:ys[i]? with
 | none=>rw [hy] at e; cases e
 | some y =>
  rw [hy] at e
  injection e with e
  exact ⟨y,rfl,e⟩
theorem zc8 {F:Nat→Prop} {w:World} {D d k:Nat} {xs:List St} {A:Option Addr} {c:Nat} {x:St} (h:RowS F w D d xs A c) (hx:xs[k]?=some x):∃ g off kk ll ss es ts us eA ec tA tc uA uc,A=some ⟨g,off,none⟩∧F g∧x=.mk kk ll ss es ts us∧w.cell? ⟨g,off+k * 6,none⟩=some (.int .i64 kk)∧w.cell? ⟨g,off+k * 6+1,none⟩=some (.int .i64 ll)∧w.cell? ⟨g,off+k * 6+2,none⟩=some (.string ss)∧w.cell? ⟨g,off+k * 6+3,none⟩=some (.slice eA es.length ec)∧w.cell? ⟨g,off+k * 6+4,none⟩=some (.slice tA ts.length tc)∧w.cell? ⟨g,off+k * 6+5,none⟩=some (.slice uA us.length uc)∧StV F w D d x (.agg #[.int .i64 kk,.int .i64 ll,.string ss,.slice eA es.length ec,.slice tA ts.length tc,.slice uA us.length uc]):=by
 cases d with
 | zero =>
  obtain ⟨_,_,_,_,_,_,_,_,_,_,_,_,_,_,_,_,hv⟩:=h.2 k x hx
  exact hv.elim
 | succ d =>
  obtain ⟨g,off,c0,c1,c2,c3,c4,c5,hA,hF,h0,h1,h2,h3,h4,h5,hv⟩:=h.2 k x hx
  have hv0:=hv
  match x,hv,hv0 with
  | .mk kk ll ss es ts us,⟨eA,ec,tA,tc,uA,uc,hv,hr,ht,hu⟩,hv0 =>
   injection hv with hv
   injection hv with hv
   injection hv with e0 hv
   injection hv with e1 hv
   injection hv with e2 hv
   injection hv with e3 hv
   injection hv with e4 hv
   injection hv with e5 _
   subst e0 e1 e2 e3 e4 e5
   exact ⟨g,off,kk,ll,ss,es,ts,us,eA,ec,tA,tc,uA,uc,hA,hF,rfl,h0,h1,h2,h3,h4,h5,hv0⟩
def SmSt (D d:Nat):Prop:=∀ (F G:Nat→Prop) (x y:St) (vx vy:Value) (W:World),StV F W D d x vx→StV G W D d y vy→rlS x=rlS y→(∀ q,F q→q<W.heap.size)→(∀ q,G q→q<W.heap.size)→ShQ D d x→Calls Tryz.prog 76 #[vx,vy] W (RetV (.bool true) W)
set_option maxRecDepth 100000 in
set_option maxHeartbeats 2000000 in
theorem zcQ {D d:Nat} (ih:SmSt D d) (F G:Nat→Prop) (xs ys:List St) (hxy:rlM xs=rlM ys) (A1 A2:Option Addr) (c1 c2 m:Nat) (W:World) (h1:RowS F W D d xs A1 c1) (h2:RowS G W D d ys A2 c2) (hF:∀ q,F q→q<W.heap.size) (hG:∀ q,G q→q<W.heap.size) (hs:∀ x∈xs,ShQ D d x) (hm:xs.length=m) (hm1:m≤1000) :
  Calls Tryz.prog 75 #[.slice A1 m c1,.slice A2 m c2,.func (.func 76) #[] #[]] W (RetV (.bool true) W):=by
 have hc1:m≤c1:=by have:=h1.1; omega
 have hc2:m≤c2:=by have:=h2.1; rw [← z3G hxy] at this; omega
 have HXY:=zhi hxy
 have H1:=zhi h1
 have H2:=zhi h2
 have HF:=zhi hF
 have HG:=zhi hG
 have HS:=zhi hs
 have HM:=zhi hm
 have Ih:=zhi ih
 clear h1 h2 hF hG hs hm ih hxy
 go_enter Tryz.func75,Tryz.ntmps75
 go_wp2_with fail
 go_loopw [17] (fun i wr=>∃ k:Nat,k≤m∧i=.int .i64 (k:Int)∧Below W.heap.size W wr) (fun i _=>m - (intOf i).toNat)
 case atStart=>exact ⟨0,Nat.zero_le _,rfl,Below.refl _ _⟩
 case round =>
  obtain ⟨k,hk,rfl,hb⟩:=hrel
  have Hb:=zhi hb
  have hsz:=hb.size
  clear hb
  by_cases hlt:k<m
  ·obtain ⟨x,hx⟩:∃ x,xs[k]?=some x:=⟨xs[k]'(by rw [HM.out]; exact hlt),List.getElem?_eq_getElem _⟩
   obtain ⟨y,hy0,hxy⟩:=z6q HXY.out hx
   have hsx:=HS.out x (List.mem_of_getElem? hx)
   obtain ⟨g,off,kk,ll,ss,es,ts,us,eA,ec,tA,tc,uA,uc,rfl,hg,-,e0,e1,e2,e3,e4,e5,hv⟩:=zc8 H1.out hx
   obtain ⟨g2,off2,kk2,ll2,ss2,es2,ts2,us2,eB,ec2,tB,tc2,uB,uc2,rfl,hg2,-,u0,u1,u2,u3,u4,u5,hv2⟩:=zc8 H2.out hy0
   have q1:=HF.out g hg
   have q2:=HG.out g2 hg2
   have d0:=hold Hb.out e0
   have d1:=hold Hb.out e1
   have d2:=hold Hb.out e2
   have d3:=hold Hb.out e3
   have d4:=hold Hb.out e4
   have d5:=hold Hb.out e5
   have v0:=hold Hb.out u0
   have v1:=hold Hb.out u1
   have v2:=hold Hb.out u2
   have v3:=hold Hb.out u3
   have v4:=hold Hb.out u4
   have v5:=hold Hb.out u5
   have hb1:=(Below.refl _ wr).alloc (Nat.le_refl _) (.cells #[.int .i64 kk,.int .i64 ll,.string ss,.slice eA es.length ec,.slice tA ts.length tc,.slice uA us.length uc] 84)
   have hb2:=hb1.alloc (by simp) (.cells #[.int .i64 kk2,.int .i64 ll2,.string ss2,.slice eB es2.length ec2,.slice tB ts2.length tc2,.slice uB us2.length uc2] 84)
   have hbw:=z0d Hb.out hb2
   have HC:=zhi (Ih.out F G x y _ _ _ (StV.keep (fun _ h=>h) (fun q hq=>hbw.block q (HF.out q hq)) _ _ _ hv) (StV.keep (fun _ h=>h) (fun q hq=>hbw.block q (HG.out q hq)) _ _ _ hv2) hxy (fun q hq=>Nat.lt_of_lt_of_le (HF.out q hq) hbw.size) (fun q hq=>Nat.lt_of_lt_of_le (HG.out q hq) hbw.size) hsx)
   have HBW:=zhi hbw
   have z0:=hold hb1 v0
   have z1:=hold hb1 v1
   have z2:=hold hb1 v2
   have z3:=hold hb1 v3
   have z4:=hold hb1 v4
   have z5:=hold hb1 v5
   clear e0 e1 e2 e3 e4 e5 u0 u1 u2 u3 u4 u5 hv hv2 hx hy0 hxy hsx hg hg2 hb1 hb2 hbw
   go_wp2_with fail
   refine HC.out.mono ?_
   rintro e w3 ⟨rfl,hb3⟩
   have hbe:=z0d HBW.out hb3
   clear HC HBW hb3 z0 z1 z2 z3 z4 z5 d0 d1 d2 d3 d4 d5 v0 v1 v2 v3 v4 v5
   go_wp2_with fail
   exact ⟨⟨k+1,by omega,by go_num,hbe⟩,by simp [intOf]; omega⟩
  ·go_wp2_with fail
   go_ret
   exact ⟨rfl,Hb.out⟩
theorem z57 {D d:Nat} (ih:SmSt D d) (F G:Nat→Prop) (xs ys:List St) (hxy:rlM xs=rlM ys) (A1 A2:Option Addr) (c1 c2 m:Nat) (W:World) (h1:RowS F W D d xs A1 c1) (h2:RowS G W D d ys A2 c2) (hF:∀ q,F q→q<W.heap.size) (hG:∀ q,G q→q<W.heap.size) (hs:∀ x∈xs,ShQ D d x) (hm:xs.length=m) (hm1:m≤1000) :
  Calls Tryz.prog 39 #[.slice A1 m c1,.slice A2 m c2] W (RetV (.bool true) W):=by
 have HE:=zhi (zcQ ih F G xs ys hxy A1 A2 c1 c2 m W h1 h2 hF hG hs hm hm1)
 clear ih hxy h1 h2 hF hG hs hm hm1
 go_enter Tryz.func39,Tryz.ntmps39
 go_wp2_with fail
 refine HE.out.mono ?_
 rintro e w3 ⟨rfl,hb3⟩
 have HB3:=zhi hb3
 clear hb3 HE
 go_wp2_with fail
 go_ret
 exact ⟨rfl,HB3.out⟩
set_option maxRecDepth 100000 in
set_option maxHeartbeats 2000000 in
theorem zdR {D d:Nat} (ih:SmSt D d):SmSt D (d+1):=by
 intro F G x y vx vy W hx hy hxy hF hG hs
 obtain ⟨k,ln,s,es,ts,us⟩:=x
 obtain ⟨k',ln',s',es',ts',us'⟩:=y
 simp only [rlS,St.mk.injEq] at hxy
 obtain ⟨rfl,_,rfl,hes,hts,hus⟩:=hxy
 obtain ⟨eA,ec,tA,tc,uA,uc,rfl,he1,ht1,hu1⟩:=hx
 obtain ⟨eB,ec2,tB,tc2,uB,uc2,rfl,he2,ht2,hu2⟩:=hy
 obtain ⟨-,hs2,hs3,hs4,-,hn1,hn2,hn3,-⟩:=hs
 rw [← z6p hes,← z3G hts,← z3G hus]
 obtain ⟨n1,hn1e⟩:∃ n,es.length=n:=⟨_,rfl⟩
 obtain ⟨n2,hn2e⟩:∃ n,ts.length=n:=⟨_,rfl⟩
 obtain ⟨n3,hn3e⟩:∃ n,us.length=n:=⟨_,rfl⟩
 rw [hn1e] at hn1 ⊢
 rw [hn2e] at hn2 ⊢
 rw [hn3e] at hn3 ⊢
 obtain ⟨C1,hC1⟩:∃ C:Array Value,C=#[.int .i64 k,.int .i64 ln,.string s,.slice eA n1 ec,.slice tA n2 tc,.slice uA n3 uc]:=⟨_,rfl⟩
 obtain ⟨C2,hC2⟩:∃ C:Array Value,C=#[.int .i64 k,.int .i64 ln',.string s,.slice eB n1 ec2,.slice tB n2 tc2,.slice uB n3 uc2]:=⟨_,rfl⟩
 have hb1:=(Below.refl _ W).alloc (Nat.le_refl _) (.cells C1 84)
 have hb2:=hb1.alloc (by simp) (.cells C2 84)
 have q1:=z0G W (.cells C1 84) (.cells C2 84)
 have q2:=z0F W (.cells C1 84) (.cells C2 84)
 have HE:=zhi (fun V (hV:Below W.heap.size W V)=>z8m (zc3 D) F G es es' hes eA eB ec ec2 n1 V (he1.keep (G:=F) (fun _ h=>h) (fun q hq=>hV.block q (hF q hq))) (he2.keep (G:=G) (fun _ h=>h) (fun q hq=>hV.block q (hG q hq))) (fun q hq=>Nat.lt_of_lt_of_le (hF q hq) hV.size) (fun q hq=>Nat.lt_of_lt_of_le (hG q hq) hV.size) (fun x hx=>(hs2 x hx).1) hn1e hn1)
 have HT:=zhi (fun V (hV:Below W.heap.size W V)=>z57 ih F G ts ts' hts tA tB tc tc2 n2 V (RowS.keep (fun _ h=>h) (fun q hq=>hV.block q (hF q hq)) ht1) (RowS.keep (fun _ h=>h) (fun q hq=>hV.block q (hG q hq)) ht2) (fun q hq=>Nat.lt_of_lt_of_le (hF q hq) hV.size) (fun q hq=>Nat.lt_of_lt_of_le (hG q hq) hV.size) hs3 hn2e hn2)
 have HU:=zhi (fun V (hV:Below W.heap.size W V)=>z57 ih F G us us' hus uA uB uc uc2 n3 V (RowS.keep (fun _ h=>h) (fun q hq=>hV.block q (hF q hq)) hu1) (RowS.keep (fun _ h=>h) (fun q hq=>hV.block q (hG q hq)) hu2) (fun q hq=>Nat.lt_of_lt_of_le (hF q hq) hV.size) (fun q hq=>Nat.lt_of_lt_of_le (hG q hq) hV.size) hs4 hn3e hn3)
 have HB:=zhi hb2
 have Q1:=zhi q1
 have Q2:=zhi q2
 subst hC1 hC2
 obtain ⟨a0,a1,a2,a3,a4,a5⟩:=cl6 q1
 obtain ⟨b0,b1,b2,b3,b4,b5⟩:=cl6 q2
 clear hb1 hb2 q1 q2 he1 he2 ht1 ht2 hu1 hu2 hF hG hs2 hs3 hs4 hn1e hn2e hn3e ih hes hts hus
 go_enter Tryz.func76,Tryz.ntmps76
 go_wp2_with fail
 refine (HE.out _ HB.out).mono ?_
 rintro e w3 ⟨rfl,hb3⟩
 have HB3:=zhi (z0d HB.out hb3)
 have r1:=(hb3.block _ (Array.getElem?_eq_some_iff.1 Q1.out).1).trans Q1.out
 have r2:=(hb3.block _ (Array.getElem?_eq_some_iff.1 Q2.out).1).trans Q2.out
 clear HE HB Q1 Q2 hb3 a0 a1 a2 a3 a4 a5 b0 b1 b2 b3 b4 b5
 have R1:=zhi r1
 have R2:=zhi r2
 have a4:=cell_of_row _ _ 4 _ _ _ r1
 have b4:=cell_of_row _ _ 4 _ _ _ r2
 clear r1 r2
 go_wp2_with fail
 refine (HT.out _ HB3.out).mono ?_
 rintro e w4 ⟨rfl,hb4⟩
 have HB4:=zhi (z0d HB3.out hb4)
 have r1:=(hb4.block _ (Array.getElem?_eq_some_iff.1 R1.out).1).trans R1.out
 have r2:=(hb4.block _ (Array.getElem?_eq_some_iff.1 R2.out).1).trans R2.out
 clear HT HB3 R1 R2 hb4 a4 b4
 have a5:=cell_of_row _ _ 5 _ _ _ r1
 have b5:=cell_of_row _ _ 5 _ _ _ r2
 clear r1 r2
 go_wp2_with fail
 refine (HU.out _ HB4.out).mono ?_
 rintro e w5 ⟨rfl,hb5⟩
 have HB5:=zhi (z0d HB4.out hb5)
 clear HU HB4 hb5 a5 b5
 go_wp2_with fail
 go_ret
 exact ⟨rfl,HB5.out⟩
theorem zc4 (D:Nat):∀ d,SmSt D d
 | 0=>fun _ _ _ _ _ _ _ _ _ _ _ _ hs=>hs.elim
 | d+1=>zdR (zc4 D d)
end Go.Proofs.YtdplfnemedckaaaGreatDoor
namespace Go.Proofs.YtdplfnemedckaaaGreatDoor
open Go.RowKit
theorem z3N {α:Type} (f:α→z03):∀ (l:List α) (k:Nat) (x:α),l[k]?=some x→((l.take k).flatMap f).length+(f x).length≤(l.flatMap f).length
 | [],_,_,h=>by simp at h
 | a :: r,0,x,h=>by
  simp at h
  subst h
  simp
 | a :: r,k+1,x,h=>by
  have:=z3N f r k x (by simpa using h)
  simp only [List.take_succ_cons,List.flatMap_cons,List.length_append]
  omega
theorem z4U {α:Type} (f:α→z03) {l:List α} {k:Nat} {x:α} (h:l[k]?=some x):(l.take (k+1)).flatMap f=(l.take k).flatMap f++f x:=by
 rw [List.take_add_one,h]
 simp
set_option maxRecDepth 100000 in
set_option maxHeartbeats 4000000 in
theorem z9b {D d:Nat} (hS:StC D d):BlC D (d+1):=by
 intro F ts A n c B p dn l W hr hn hF hs hn1 hw hd hl
 have hc:n≤c:=by rw [← hn]; exact hr.1
 obtain ⟨d2,f2⟩:=hw.dep
 obtain ⟨hw1,hk1⟩:=hw.deep ((dn:Int)+1)
 have e1:((dn:Int)+1)=((dn+1:Nat):Int):=by omega
 obtain ⟨W1,hW1⟩:∃ W1,W.setCell ⟨p,2,none⟩ (.int .i64 ((dn:Int)+1))=W1:=⟨_,rfl⟩
 rw [hW1] at hw1 hk1
 rw [e1] at hw1
 have hrr:∀ w',Wk B p W w'→RowS F w' D (d+1) ts A c:=fun w' h=>RowS.keep (fun _ h=>h) (fun q hq=>h.bel.block q (hF q hq)) hr
 have Hrr:=zhi hrr
 have HW1:=zhi hw1
 have HK1:=zhi hk1
 have Hn:=zhi hn
 have HF:=zhi hF
 have Hs:=zhi hs
 have HS:=zhi hS
 have HL:=zhi hl
 have hpl:=hw.wr.lt
 clear hr hn hF hs hw hS hl hrr hw1 hk1 e1
 go_enter Tryz.func31,Tryz.ntmps31
 go_wp2_with fail
 clear hW1 d2 f2
 go_loopw [15] (fun i wr=>∃ k:Nat,k≤n∧i=.int .i64 (k:Int)∧Hid (Wri B p ((dn+1:Nat):Int) (l++(ts.take k).flatMap (stL D (fmtB D d) (List.replicate (dn+1) 9))) wr)∧Hid (Wk B p W wr)) (fun i _=>n - (intOf i).toNat)
 case atStart=>exact ⟨0,Nat.zero_le _,rfl,zhi (by simpa using HW1.out),HK1⟩
 case round =>
  obtain ⟨k,hk,rfl,hw,hkk⟩:=hrel
  by_cases hlt:k<n
  ·obtain ⟨x,hx⟩:∃ x,ts[k]?=some x:=⟨ts[k]'(by rw [Hn.out]; exact hlt),List.getElem?_eq_getElem _⟩
   obtain ⟨g,off,kk,ll,ss,es,us,vs,eA,ec,tA,tc,uA,uc,rfl,hg,-,e0,e1,e2,e3,e4,e5,hv⟩:=zc8 (Hrr.out wr hkk.out) hx
   have hgB:=HF.out g hg
   have hle:=hw.out.le
   have hb1:=(Below.refl _ wr).alloc (Nat.le_refl _) (.cells #[.int .i64 kk,.int .i64 ll,.string ss,.slice eA es.length ec,.slice tA us.length tc,.slice uA vs.length uc] 84)
   have hft:=z3N (stL D (fmtB D d) (List.replicate (dn+1) 9)) ts k x hx
   have hl2:(l++(ts.take k).flatMap (stL D (fmtB D d) (List.replicate (dn+1) 9))).length+(stL D (fmtB D d) (List.replicate (dn+1) 9) x).length≤1000000000000:=by
    have h9:=HL.out
    simp only [fmtB] at h9
    rw [List.length_append]
    omega
   have HC:=zhi (HS.out F x _ B p (dn+1) _ _ (StV.keep (fun _ h=>h) (fun q hq=>hb1.block q (by have:=HF.out q hq; omega)) _ _ _ hv) HF.out (Hs.out x (List.mem_of_getElem? hx)) (hw.out.next hb1) hl2)
   have HE:=zhi (z4U (stL D (fmtB D d) (List.replicate (dn+1) 9)) hx)
   have HKB:=zhi (hkk.out.trans (Wk.same (p:=p) hb1 hle))
   clear hx hv hb1 hft hl2 hg
   go_wp2_with fail
   refine HC.out.mono ?_
   rintro e w2 ⟨rfl,h2,k2⟩
   have HW2:Hid (Wri B p ((dn+1:Nat):Int) (l++(ts.take (k+1)).flatMap (stL D (fmtB D d) (List.replicate (dn+1) 9))) w2):=zhi (by rw [HE.out,← List.append_assoc]; exact h2.out)
   have HK2:=zhi (HKB.out.trans k2.out)
   clear HC HE HKB h2 k2 e0 e1 e2 e3 e4 e5
   go_wp2_with fail
   exact ⟨⟨k+1,by omega,by go_num,HW2,HK2⟩,by simp [intOf]; omega⟩
  ·obtain rfl:k=n:=by omega
   obtain ⟨d2,f2⟩:=hw.out.dep
   obtain ⟨hw1,hk1⟩:=hw.out.deep (dn:Int)
   have HW3:Hid (Wri B p (dn:Int) (l++fmtB D (d+1) ts (List.replicate (dn+1) 9)) (wr.setCell ⟨p,2,none⟩ (.int .i64 (dn:Int)))):=zhi (by
    rw [List.take_of_length_le (by rw [Hn.out]; exact Nat.le_refl _)] at hw1
    exact hw1)
   have HK3:=zhi (hkk.out.trans hk1)
   have e1:(((dn+1:Nat):Int))=(dn:Int)+1:=by omega
   have hpl:=hw.out.wr.lt
   rw [e1] at d2
   clear hw1 hk1 e1
   go_wp2_with fail
   go_end0
   exact ⟨rfl,HW3,HK3⟩
theorem zeM (D:Nat):BlC D 0:=by
 intro F ts A n c B p dn l W hr hn hF hs hn1 hw hd hl
 have h0:ts=[]:=by
  cases ts with
  | nil=>rfl
  | cons a r=>exact (hs a (by simp)).elim
 subst h0
 simp only [List.length_nil] at hn
 subst hn
 obtain ⟨d2,f2⟩:=hw.dep
 obtain ⟨hw1,hk1⟩:=hw.deep ((dn:Int)+1)
 obtain ⟨d3,f3⟩:=hw1.dep
 obtain ⟨hw2,hk2⟩:=hw1.deep (dn:Int)
 have HW2:=zhi hw2
 have HK2:=zhi (hk1.trans hk2)
 have hpl:=hw.wr.lt
 have hpl1:=hw1.wr.lt
 clear hw hw1 hw2 hk1 hk2 hr hF hs hl
 go_enter Tryz.func31,Tryz.ntmps31
 go_wp2_with fail
 go_loopw [15] (fun i wr=>i=.int .i64 0∧wr=W.setCell ⟨p,2,none⟩ (.int .i64 ((dn:Int)+1))) (fun _ _=>0)
 case atStart=>exact ⟨rfl,rfl⟩
 case round =>
  obtain ⟨rfl,rfl⟩:=hrel
  go_wp2_with fail
  go_end0
  exact ⟨rfl,zhi (by simpa [fmtB] using HW2.out),HK2⟩
theorem ze8 (D:Nat):∀ d,BlC D d
 | 0=>zeM D
 | d+1=>z9b (zc9 (ze8 D d))
end Go.Proofs.YtdplfnemedckaaaGreatDoor
