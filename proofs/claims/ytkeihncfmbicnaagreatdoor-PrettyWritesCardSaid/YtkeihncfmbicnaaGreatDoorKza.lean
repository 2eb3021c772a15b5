/-
  Kza: PrLn, PrSt, PrSu, PrBo. Walks and laws that the statement's proof is made of. No condition of its own.
-/
import Derived.Test.YtkeihncfmbicnaaGreatDoorKmd
import Derived.Test.YtkeihncfmbicnaaGreatDoorKb
import Derived.Test.YtkeihncfmbicnaaGreatDoorKr
import Derived.Deep.RegionWith
namespace Go.Proofs.YtkeihncfmbicnaaGreatDoor
open Go.RowKit
def ShQ (D:Nat):Nat→St→Prop
 | 0,_=>False
 | d+1,.mk k _ s es ts us=>s.size≤1000∧(∀ x∈es,ShP D x∧fmtE D x≠[])∧(∀ t∈ts,ShQ D d t)∧(∀ t∈us,ShQ D d t)∧1≤es.length∧es.length≤1000∧ts.length≤1000∧us.length≤1000 ∧
   (k=1∨k=2∨(k=3∧2≤es.length)∨k=6∨k=7∨k=8∨k=5∨k=4)
theorem Wri.deep {B p:Nat} {dp:Int} {l:z04} {W:World} (h:Wri B p dp l W) (dq:Int):Wri B p dq l (W.setCell ⟨p,2,none⟩ (.int .i64 dq))∧Wk B p W (W.setCell ⟨p,2,none⟩ (.int .i64 dq)):=by
 have hk:=Wk.set h.wr.le W 2 (.int .i64 dq)
 have key:∀ q,WrAt B p q dp (Lib.byteCells l) W→WrAt B p q dq (Lib.byteCells l) (W.setCell ⟨p,2,none⟩ (.int .i64 dq)):=fun q hq=>by
  obtain ⟨hB,v,hb,hown⟩:=hq
  have hne:=Lib.ownBlock_ne hown hb (by decide)
  refine ⟨hB,v,?_,?_⟩
  ·simp [World.setCell,Array.getElem?_modify,hb]
  ·exact hown.kept (row:=some p) ⟨rfl,rfl,rfl,by simp [World.setCell],fun k _ hk=>Below.heap_setCell _ _ _ _ (fun e=>hk (by simp [e]))⟩ (Or.inr hne)
 refine ⟨⟨?_,h.tab.next hk.bel h.gb,h.gb⟩,hk⟩
 rcases h.wr with h1 | h1
 ·exact .inl (key _ h1)
 ·exact .inr (key _ h1)
theorem Wri.dep {B p:Nat} {dp:Int} {l:z04} {W:World} (h:Wri B p dp l W):W.cell? ⟨p,2,none⟩=some (.int .i64 dp)∧W.frozen? ⟨p,2,none⟩=false:=by
 rcases h.wr with ⟨_,v,hb,_⟩ | ⟨_,v,hb,_⟩
 ·exact ⟨(cell_of_row _ _ 2 _ _ _ hb).trans rfl,Lib.frozen_of_heap hb 2⟩
 ·exact ⟨(cell_of_row _ _ 2 _ _ _ hb).trans rfl,Lib.frozen_of_heap hb 2⟩
def lnT (dn:Nat) (t:z04):z04:=List.replicate dn 9++(t++[10])
set_option maxRecDepth 100000 in
set_option maxHeartbeats 2000000 in
theorem zaP {B p dn:Nat} {l:z04} {W:World} (t:ByteArray) (h:Wri B p (dn:Int) l W) (hl:l.length+dn+t.size+10≤1099511627776) :
  Calls Tryz.prog 40 #[.pointer (some ⟨p,0,none⟩),.string t] W (z1r (.tuple #[]) B p dn (l++lnT dn t.data.toList) W):=by
 have H:=zhi h
 obtain ⟨d2,-⟩:=h.dep
 clear h
 go_enter Tryz.func40,Tryz.ntmps40
 go_wp2_with fail
 go_loopw [8] (fun i wr=>∃ k:Nat,k≤dn∧i=.int .i64 (k:Int)∧Hid (Wri B p dn (l++List.replicate k 9) wr)∧Hid (Wk B p W wr)) (fun i _=>dn - (intOf i).toNat)
 case atStart=>exact ⟨0,Nat.zero_le _,rfl,zhi (by simpa using H.out),zhi (Wk.refl _ _ _)⟩
 case round =>
  obtain ⟨k,hk,rfl,hw,hkk⟩:=hrel
  by_cases hlt:k<dn
  ·have HC:=zhi (z1G hw.out 9 9 rfl (by simp; omega))
   go_wp2_with fail
   refine HC.out.mono ?_
   rintro e w2 ⟨rfl,h2,k2⟩
   have e1:l++List.replicate k 9++[9]=l++List.replicate (k+1) (9:UInt8):=by rw [List.append_assoc,← List.replicate_succ']
   rw [e1] at h2
   clear e1 HC
   go_wp2_with fail
   exact ⟨⟨k+1,by omega,by go_num,h2,zhi (hkk.out.trans k2.out)⟩,by simp [intOf]; omega⟩
  ·obtain rfl:k=dn:=by omega
   have hz:t.data.toList.length=t.size:=by simp
   have HC:=zhi (z0v hw.out t (by simp; omega))
   have Hz:=zhi hz
   clear hz
   go_wp2_with fail
   refine HC.out.mono ?_
   rintro e w2 ⟨rfl,h2,k2⟩
   have HD:=zhi (z1G h2.out 10 10 rfl (by have:=Hz.out; simp only [List.length_append,List.length_replicate]; omega))
   have e1:l++List.replicate k 9++t.data.toList++[10]=l++lnT k t.data.toList:=by simp [lnT]
   rw [e1] at HD
   clear e1 HC h2
   go_wp2_with fail
   refine HD.out.mono ?_
   rintro e w3 ⟨rfl,h3,k3⟩
   have HK:=zhi ((hkk.out.trans k2.out).trans k3.out)
   clear HD k2 k3
   go_wp2_with fail
   go_end0
   exact ⟨rfl,h3,HK⟩
end Go.Proofs.YtkeihncfmbicnaaGreatDoor
namespace Go.Proofs.YtkeihncfmbicnaaGreatDoor
open Go.RowKit
def BlC (D d:Nat):Prop:=∀ (F:Nat→Prop) (ts:List St) (A:Option Addr) (n c B p dn:Nat) (l:z04) (W:World),RowS F W D d ts A c→ts.length=n→(∀ q,F q→q<B)→(∀ t∈ts,ShQ D d t)→n≤1000→Wri B p (dn:Int) l W→dn≤1000000000000→l.length+(fmtB D d ts (List.replicate (dn+1) 9)).length≤1000000000000 →
 Calls Tryz.prog 43 #[.pointer (some ⟨p,0,none⟩),.slice A n c] W (z1r (.tuple #[]) B p dn (l++fmtB D d ts (List.replicate (dn+1) 9)) W)
def StC (D d:Nat):Prop:=∀ (F:Nat→Prop) (x:St) (v:Value) (B p dn:Nat) (l:z04) (W:World),StV F W D (d+1) x v→(∀ q,F q→q<B)→ShQ D (d+1) x→Wri B p (dn:Int) l W→l.length+(stL D (fmtB D d) (List.replicate dn 9) x).length≤1000000000000 →
 Calls Tryz.prog 68 #[.pointer (some ⟨p,0,none⟩),v] W (z1r (.tuple #[]) B p dn (l++stL D (fmtB D d) (List.replicate dn 9) x) W)
structure StB (F:Nat→Prop) (D d:Nat) (k ln:Int) (s:ByteArray) (es:List Ex) (ts us:List St) (eA tA uA:Option Addr) (ec tc uc n1 n2 n3 B p b dn:Nat) (l:z04) (W w:World):Prop where
 wri:Wri B p (dn:Int) l w
 row:w.heap[b]?=some (.cells #[.int .i64 k,.int .i64 ln,.string s,.slice eA n1 ec,.slice tA n2 tc,.slice uA n3 uc] 86 (0,0))
 re:RowE F w D es eA ec
 rt:RowS F w D d ts tA tc
 ru:RowS F w D d us uA uc
 hF:∀ q,F q→q<B
 ne:b≠p
 wk:Wk B p W w
section
variable {F:Nat→Prop} {D d:Nat} {k ln:Int} {s:ByteArray} {es:List Ex} {ts us:List St} {eA tA uA:Option Addr} {ec tc uc n1 n2 n3 B p b dn:Nat} {l l':z04} {W w w':World}
theorem StB.wrote (h:StB F D d k ln s es ts us eA tA uA ec tc uc n1 n2 n3 B p b dn l W w) (h1:Wri B p (dn:Int) l' w') (h2:Wk B p w w'):StB F D d k ln s es ts us eA tA uA ec tc uc n1 n2 n3 B p b dn l' W w' :=
 ⟨h1,(h2.oth b _ _ _ h.row (by decide) h.ne).trans h.row,z7k h.re h.hF h2,RowS.keep (fun _ h=>h) (fun q hq=>h2.bel.block q (h.hF q hq)) h.rt,RowS.keep (fun _ h=>h) (fun q hq=>h2.bel.block q (h.hF q hq)) h.ru,h.hF,h.ne,h.wk.trans h2⟩
theorem StB.next (h:StB F D d k ln s es ts us eA tA uA ec tc uc n1 n2 n3 B p b dn l W w) (h1:Below w.heap.size w w'):StB F D d k ln s es ts us eA tA uA ec tc uc n1 n2 n3 B p b dn l W w' :=
 h.wrote (h.wri.next h1) (Wk.same h1 h.wri.le)
theorem StB.cells (h:StB F D d k ln s es ts us eA tA uA ec tc uc n1 n2 n3 B p b dn l W w):w.cell? ⟨b,0,none⟩=some (.int .i64 k)∧w.cell? ⟨b,2,none⟩=some (.string s)∧w.cell? ⟨b,3,none⟩=some (.slice eA n1 ec)∧w.cell? ⟨b,4,none⟩=some (.slice tA n2 tc)∧w.cell? ⟨b,5,none⟩=some (.slice uA n3 uc) :=
 ⟨cell_of_row _ _ 0 _ _ _ h.row,cell_of_row _ _ 2 _ _ _ h.row,cell_of_row _ _ 3 _ _ _ h.row,cell_of_row _ _ 4 _ _ _ h.row,cell_of_row _ _ 5 _ _ _ h.row⟩
end
theorem StB.box {F:Nat→Prop} {D d:Nat} {k ln:Int} {s:ByteArray} {es:List Ex} {ts us:List St} {eA tA uA:Option Addr} {ec tc uc n1 n2 n3 B p dn:Nat} {l:z04} {W:World} (h:Wri B p (dn:Int) l W) (he:RowE F W D es eA ec) (ht:RowS F W D d ts tA tc) (hu:RowS F W D d us uA uc) (hF:∀ q,F q→q<B) :
  StB F D d k ln s es ts us eA tA uA ec tc uc n1 n2 n3 B p W.heap.size dn l W (W.alloc (.cells #[.int .i64 k,.int .i64 ln,.string s,.slice eA n1 ec,.slice tA n2 tc,.slice uA n3 uc] 86)):=by
 have hb0:=(Below.refl _ W).alloc (Nat.le_refl _) (.cells #[.int .i64 k,.int .i64 ln,.string s,.slice eA n1 ec,.slice tA n2 tc,.slice uA n3 uc] 86)
 have hlt:=h.wr.lt
 have hk:Wk B p W (W.alloc (.cells #[.int .i64 k,.int .i64 ln,.string s,.slice eA n1 ec,.slice tA n2 tc,.slice uA n3 uc] 86)):=Wk.same hb0 h.le
 exact ⟨h.next hb0,heap_alloc_new W _,z7k he hF hk,RowS.keep (fun _ h=>h) (fun q hq=>hk.bel.block q (hF q hq)) ht,RowS.keep (fun _ h=>h) (fun q hq=>hk.bel.block q (hF q hq)) hu,hF,by omega,hk⟩
theorem z8w {F:Nat→Prop} {D:Nat} {es:List Ex} {A:Option Addr} {c n i B p:Nat} {dp:Int} {l:z04} {w:World} (h:RowE F w D es A c) (hn:es.length=n) (hi:i<n) (hF:∀ q,F q→q<B) (hw:Wri B p dp l w) (hs:∀ x∈es,ShP D x∧fmtE D x≠[]) (hl:(valL D es i).length≤1099511627776) (z:Int) (hz:z=(i:Int)) :
  ∃ v,Calls Tryz.prog 51 #[.slice A n c,.int .i64 z] w (RetV v w)∧∀ W,Below w.heap.size w W→Calls Tryz.prog 11 #[v] W (z0L (valL D es i) W):=by
 obtain ⟨x,hx⟩:∃ x,es[i]?=some x:=⟨es[i]'(by omega),List.getElem?_eq_getElem _⟩
 have hv:valL D es i=fmtE D x:=by unfold valL; rw [hx]
 rw [hv] at hl ⊢
 obtain ⟨h1,h2⟩:=hs x (List.mem_of_getElem? hx)
 obtain ⟨g,off,k,o,a,ln,s,A',m',c',rfl,hk⟩:=z1J h hx
 have hle:=hw.le
 exact ⟨_,hk.at_ n c z hz hi,fun W hW=>z3b F D x k o a ln s A' m' c' W (hk.ex.keep (G:=F) (fun _ h=>h) (fun q hq=>hW.block q (by have:=hF q hq; omega))) (fun q hq=>by have:=hF q hq; have:=hW.size; omega) h1 (hw.tab.next (hW.mono hle) hw.gb) (by have:=hw.gb; have:=hW.size; omega) hl h2⟩
end Go.Proofs.YtkeihncfmbicnaaGreatDoor
namespace Go.Proofs.YtkeihncfmbicnaaGreatDoor
open Go.RowKit
theorem zd3 {D:Nat} {Bf:List St→z04→z04} {ind:z04} {k ln:Int} {s:ByteArray} {es:List Ex} {ts us:List St} (hk:k=1∨k=2∨(k=3∧2≤es.length)∨k=6∨k=7∨k=8∨k=5∨k=4):ind.length+(valL D es 0).length≤(stL D Bf ind (.mk k ln s es ts us)).length:=by
 rcases hk with rfl | rfl | ⟨rfl,_⟩ | rfl | rfl | rfl | rfl | rfl <;> simp [stL] <;> omega
theorem z7u (D:Nat) (Bf:List St→z04→z04) (ind:z04) (ln:Int) (s:ByteArray) (es:List Ex) (ts us:List St):stL D Bf ind (.mk 5 ln s es ts us)=ind++[119,104,105,108,101,32]++valL D es 0++[32,123,10]++Bf ts (ind++[9])++ind++[125,10]:=by simp [stL]
theorem zc3 (D:Nat) (Bf:List St→z04→z04) (ind:z04) (ln:Int) (s:ByteArray) (es:List Ex) (ts us:List St) (h:us.length=0):stL D Bf ind (.mk 4 ln s es ts us)=ind++[105,102,32]++valL D es 0++[32,123,10]++Bf ts (ind++[9])++ind++[125,10]:=by simp [stL,h]
theorem zc4 (D:Nat) (Bf:List St→z04→z04) (ind:z04) (ln:Int) (s:ByteArray) (es:List Ex) (ts us:List St) (h:us.length≠0):stL D Bf ind (.mk 4 ln s es ts us)=ind++[105,102,32]++valL D es 0++[32,123,10]++Bf ts (ind++[9])++ind++[125]++[32,101,108,115,101,32,123,10]++Bf us (ind++[9])++ind++[125,10]:=by simp [stL,h]
theorem z4x (dn:Nat):List.replicate dn (9:UInt8)++[9]=List.replicate (dn+1) 9:=by rw [← List.replicate_succ']
def LnC (B p dn:Nat) (l:z04) (w:World):Prop:=∀ t:ByteArray,l.length+dn+t.size≤1000000010000→Calls Tryz.prog 40 #[.pointer (some ⟨p,0,none⟩),.string t] w (z1r (.tuple #[]) B p dn (l++lnT dn t.data.toList) w)
theorem lnC {B p dn:Nat} {l:z04} {w:World} (h:Wri B p (dn:Int) l w):LnC B p dn l w:=fun t ht=>zaP t h (by omega)
set_option maxRecDepth 100000 in
set_option maxHeartbeats 4000000 in
theorem za1 {D d:Nat} (hB:BlC D d):StC D d:=by
 intro F x v B p dn l W hx hF hs hw hl
 obtain ⟨k,ln,s,es,ts,us⟩:=x
 obtain ⟨eA,ec,tA,tc,uA,uc,rfl,he,ht,hu⟩:=hx
 obtain ⟨hs1,hs2,hs3,hs4,hs5,hs6,hs7,hs8,hk⟩:=hs
 have hv0:l.length+(dn+(valL D es 0).length)≤1000000000000:=by
  have h:=Nat.le_trans (Nat.add_le_add_left (zd3 (D:=D) (Bf:=fmtB D d) (ind:=List.replicate dn 9) (ln:=ln) (s:=s) (ts:=ts) (us:=us) hk) l.length) hl
  rwa [List.length_replicate] at h
 obtain ⟨n1,hn1⟩:∃ n,es.length=n:=⟨_,rfl⟩
 obtain ⟨n2,hn2⟩:∃ n,ts.length=n:=⟨_,rfl⟩
 obtain ⟨n3,hn3⟩:∃ n,us.length=n:=⟨_,rfl⟩
 have hec:n1≤ec:=by rw [← hn1]; exact he.1
 rw [hn1,hn2,hn3]
 have h0:=StB.box (k:=k) (ln:=ln) (s:=s) (n1:=n1) (n2:=n2) (n3:=n3) (ec:=ec) (tc:=tc) (uc:=uc) hw he ht hu hF
 obtain ⟨x0,hat,hex⟩:=z8w h0.re hn1 (i:=0) (by omega) hF h0.wri hs2 (by omega) 0 rfl
 obtain ⟨W1,hW1⟩:∃ W1,W.alloc (.cells #[.int .i64 k,.int .i64 ln,.string s,.slice eA n1 ec,.slice tA n2 tc,.slice uA n3 uc] 86)=W1:=⟨_,rfl⟩
 obtain ⟨b,hb⟩:∃ b,W.heap.size=b:=⟨_,rfl⟩
 rw [hW1] at h0 hat hex
 rw [hb] at h0
 have H0:=zhi h0
 have Hat:=zhi hat
 have Hex:=zhi hex
 have Hs2:=zhi hs2
 have Hs3:=zhi hs3
 have Hs4:=zhi hs4
 have Hn1:=zhi hn1
 have Hn2:=zhi hn2
 have Hn3:=zhi hn3
 have HB:=zhi hB
 have HL:=zhi hl
 obtain ⟨j0,j2,j3,j4,j5⟩:=h0.cells
 rw [hn1] at hk
 rw [hn2] at hs7
 rw [hn3] at hs8
 clear h0 hat hex he ht hu hw hF hs2 hs3 hs4 hs5 hs6 hn1 hn2 hn3 hB hl
 go_enter Tryz.func68,Tryz.ntmps68
 go_upto_region 1 with fail
 clear hW1 hb
 go_wp2_with fail
 refine Hat.out.mono ?_
 rintro e w2 ⟨rfl,hb2⟩
 have HE2:=zhi (Hex.out w2 hb2)
 have Hb2:=zhi hb2
 clear hb2 Hex Hat j0 j2 j3 j4 j5
 go_wp2_with fail
 refine HE2.out.mono ?_
 rintro e w3 ⟨X,rfl,hX,hb3⟩
 have hXz:l.length+dn+X.size≤1000000000000:=by rw [z0c hX.out]; omega
 have h3:=H0.out.next (Hb2.out.trans (hb3.mono Hb2.out.size))
 obtain ⟨j0,j2,j3,j4,j5⟩:=h3.cells
 have H3:=zhi h3
 have HLn:=zhi (lnC h3.wri)
 clear h3 hb3 Hb2 HE2 H0 hv0
 rcases hk with rfl | rfl | ⟨rfl,hk⟩ | rfl | rfl | rfl | rfl | rfl
 ·have HT:Hid (∀ t:ByteArray,t.data.toList=[118,97,114,32]++s.data.toList++[32,61,32]++valL D es 0++[59]→l++lnT dn t.data.toList=l++stL D (fmtB D d) (List.replicate dn 9) (.mk 1 ln s es ts us)):=zhi (fun t ht=>by rw [ht]; simp [lnT,stL])
  go_wp2_with fail
  refine (HLn.out _ (by simp only [ByteArray.size_append]; show l.length+dn+(4+s.size+3+X.size+1)≤_; omega)).mono ?_
  rintro e w4 ⟨rfl,h4,k4⟩
  rw [HT.out _ (by simp [hX.out])] at h4
  have HK:=zhi (H3.out.wk.trans k4.out)
  clear HT HLn H3 k4 hX
  go_wp2_with fail
  go_end0
  exact ⟨rfl,h4,HK⟩
 ·have HT:Hid (∀ t:ByteArray,t.data.toList=s.data.toList++[32,61,32]++valL D es 0++[59]→l++lnT dn t.data.toList=l++stL D (fmtB D d) (List.replicate dn 9) (.mk 2 ln s es ts us)):=zhi (fun t ht=>by rw [ht]; simp [lnT,stL])
  go_wp2_with fail
  refine (HLn.out _ (by simp only [ByteArray.size_append]; show l.length+dn+(s.size+3+X.size+1)≤_; omega)).mono ?_
  rintro e w4 ⟨rfl,h4,k4⟩
  rw [HT.out _ (by simp [hX.out])] at h4
  have HK:=zhi (H3.out.wk.trans k4.out)
  clear HT HLn H3 k4 hX
  go_wp2_with fail
  go_end0
  exact ⟨rfl,h4,HK⟩
 ·have hv1:(valL D es 1).length≤1000000000000:=by
   have h:=HL.out
   simp [stL] at h
   omega
  have hd3:=H3.out.next (Below.refl _ w3).drew
  obtain ⟨x1,hat,hex⟩:=z8w hd3.re Hn1.out (i:=1) (by omega) hd3.hF hd3.wri Hs2.out (by omega) 1 rfl
  have Hat:=zhi hat
  have Hex:=zhi hex
  have HD3:=zhi hd3
  have HT:Hid (∀ t:ByteArray,t.data.toList=s.data.toList++[91]++valL D es 0++[93,32,61,32]++valL D es 1++[59]→l++lnT dn t.data.toList=l++stL D (fmtB D d) (List.replicate dn 9) (.mk 3 ln s es ts us)):=zhi (fun t ht=>by rw [ht]; simp [lnT,stL])
  have hX1:l.length+dn+X.size+(valL D es 1).length≤1000000000000:=by
   have h:=HL.out
   have h2:=z0c hX.out
   simp [stL] at h
   omega
  have HX1:=zhi hX1
  clear hat hex hv1 hd3 hX1 HLn H3
  have hS0:w3.drew.cell? ⟨b,2,none⟩=some (.string s)∧w3.drew.cell? ⟨b,3,none⟩=some (.slice eA n1 ec):=⟨HD3.out.cells.2.1,HD3.out.cells.2.2.1⟩
  have hf3:(9223372036854775807<s.size+1)=False:=z12 (m:=1001) (by omega) (by decide)
  have hf5:(9223372036854775807<s.size+1+X.size)=False:=z12 (m:=1000000001001) (by omega) (by decide)
  have hf6:(9223372036854775807<s.size+1+X.size+4)=False:=z12 (m:=1000000001005) (by omega) (by decide)
  clear j4 j5 hs7 hs8 hk
  go_upto_region 8 with fail
  go_region_held3 (fun w'=>w'.cell? ⟨b,2,none⟩=some (.string s)∧w'.cell? ⟨b,3,none⟩=some (.slice eA n1 ec))
   (first | (with_reducible exact hS0) | (with_reducible exact hS4) | (with_reducible exact hS5) | (with_reducible exact hS6))
   (first
    | (go_at_call 51; refine Hat.out.mono ?_; rintro e w4 ⟨rfl,hb4⟩; have HE4:=zhi (Hex.out w4 hb4); have H4:=zhi (HD3.out.next hb4); have hS4:w4.cell? ⟨b,2,none⟩=some (.string s)∧w4.cell? ⟨b,3,none⟩=some (.slice eA n1 ec):=⟨H4.out.cells.2.1,H4.out.cells.2.2.1⟩; clear hb4)
    | (go_at_call 11; refine HE4.out.mono ?_; rintro e w5 ⟨Y,rfl,hY,hb5⟩; have H5:=zhi (H4.out.next hb5); have hYz:l.length+dn+X.size+Y.size≤1000000000000:=(by rw [z0c hY.out]; exact HX1.out); have HLn:=zhi (lnC H5.out.wri); have hf11:(9223372036854775807<s.size+1+X.size+4+Y.size)=False:=z12 (m:=1000000001005) (by omega) (by decide); have hf12:(9223372036854775807<s.size+1+X.size+4+Y.size+1)=False:=z12 (m:=1000000001006) (by omega) (by decide); have hS5:w5.cell? ⟨b,2,none⟩=some (.string s)∧w5.cell? ⟨b,3,none⟩=some (.slice eA n1 ec):=⟨H5.out.cells.2.1,H5.out.cells.2.2.1⟩; clear hb5)
    | (go_at_call 40; refine (HLn.out _ (by simp only [ByteArray.size_append]; show l.length+dn+(s.size+1+X.size+4+Y.size+1)≤_; omega)).mono ?_; rintro e w6 ⟨rfl,h6,k6⟩; have H6:=zhi (H5.out.wrote h6.out k6.out); have hS6:w6.cell? ⟨b,2,none⟩=some (.string s)∧w6.cell? ⟨b,3,none⟩=some (.slice eA n1 ec):=⟨H6.out.cells.2.1,H6.out.cells.2.2.1⟩; rw [HT.out _ (by simp [hX.out,hY.out])] at h6))
  clear HT Hat Hex hf3 hf5 hf6 hf11 hf12
  go_wp2_with fail
  go_end0
  exact ⟨rfl,h6,zhi H6.out.wk⟩
 ·have HT:Hid (∀ t:ByteArray,t.data.toList=[114,101,116,117,114,110,32]++valL D es 0++[59]→l++lnT dn t.data.toList=l++stL D (fmtB D d) (List.replicate dn 9) (.mk 6 ln s es ts us)):=zhi (fun t ht=>by rw [ht]; simp [lnT,stL])
  go_wp2_with fail
  refine (HLn.out _ (by simp only [ByteArray.size_append]; show l.length+dn+(7+X.size+1)≤_; omega)).mono ?_
  rintro e w4 ⟨rfl,h4,k4⟩
  rw [HT.out _ (by simp [hX.out])] at h4
  have HK:=zhi (H3.out.wk.trans k4.out)
  clear HT HLn H3 k4 hX
  go_wp2_with fail
  go_end0
  exact ⟨rfl,h4,HK⟩
 ·have HT:Hid (∀ t:ByteArray,t.data.toList=[112,114,105,110,116,32]++valL D es 0++[59]→l++lnT dn t.data.toList=l++stL D (fmtB D d) (List.replicate dn 9) (.mk 7 ln s es ts us)):=zhi (fun t ht=>by rw [ht]; simp [lnT,stL])
  go_wp2_with fail
  refine (HLn.out _ (by simp only [ByteArray.size_append]; show l.length+dn+(6+X.size+1)≤_; omega)).mono ?_
  rintro e w4 ⟨rfl,h4,k4⟩
  rw [HT.out _ (by simp [hX.out])] at h4
  have HK:=zhi (H3.out.wk.trans k4.out)
  clear HT HLn H3 k4 hX
  go_wp2_with fail
  go_end0
  exact ⟨rfl,h4,HK⟩
 ·have HT:Hid (∀ t:ByteArray,t.data.toList=[99,97,108,108,32]++valL D es 0++[59]→l++lnT dn t.data.toList=l++stL D (fmtB D d) (List.replicate dn 9) (.mk 8 ln s es ts us)):=zhi (fun t ht=>by rw [ht]; simp [lnT,stL])
  go_wp2_with fail
  refine (HLn.out _ (by simp only [ByteArray.size_append]; show l.length+dn+(5+X.size+1)≤_; omega)).mono ?_
  rintro e w4 ⟨rfl,h4,k4⟩
  rw [HT.out _ (by simp [hX.out])] at h4
  have HK:=zhi (H3.out.wk.trans k4.out)
  clear HT HLn H3 k4 hX
  go_wp2_with fail
  go_end0
  exact ⟨rfl,h4,HK⟩
 ·have hl:=HL.out
  rw [z7u] at hl
  simp only [List.length_append,List.length_replicate,List.length_cons,List.length_nil,z4x] at hl
  go_wp2_with fail
  refine (HLn.out _ (by simp only [ByteArray.size_append]; show l.length+dn+(6+X.size+2)≤_; omega)).mono ?_
  rintro e w4 ⟨rfl,h4,k4⟩
  have e4:(⟨#[119,104,105,108,101,32]⟩++X++⟨#[32,123]⟩:ByteArray).data.toList=[119,104,105,108,101,32]++valL D es 0++[32,123]:=by simp [hX.out]
  rw [e4] at h4
  have h5:=H3.out.wrote h4.out k4.out
  obtain ⟨i0,i2,i3,i4,i5⟩:=h5.cells
  have HC:=zhi (HB.out F ts tA n2 tc B p dn _ w4 h5.rt Hn2.out h5.hF Hs3.out hs7 h5.wri (by omega) (by simp only [lnT,List.length_append,List.length_replicate,List.length_cons,List.length_nil]; omega))
  have H5:=zhi h5
  clear e4 h5 h4 k4 HLn H3 j0 j2 j3 j4 j5
  go_wp2_with fail
  refine HC.out.mono ?_
  rintro e w5 ⟨rfl,h6,k6⟩
  have HD:=zhi (lnC h6.out ⟨#[125]⟩ (by simp only [lnT,List.length_append,List.length_replicate,List.length_cons,List.length_nil]; show _+1≤_; omega))
  have HK5:=zhi (H5.out.wk.trans k6.out)
  clear HC h6 k6 H5 i0 i2 i3 i4 i5
  go_wp2_with fail
  refine HD.out.mono ?_
  rintro e w6 ⟨rfl,h7,k7⟩
  have e7:l++lnT dn ([119,104,105,108,101,32]++valL D es 0++[32,123])++fmtB D d ts (List.replicate (dn+1) 9)++lnT dn (⟨#[125]⟩:ByteArray).data.toList=l++stL D (fmtB D d) (List.replicate dn 9) (.mk 5 ln s es ts us):=by
   rw [z7u,z4x]
   simp [lnT]
  rw [e7] at h7
  have HK:=zhi (HK5.out.trans k7.out)
  clear HD k7 HK5 hX HL
  go_wp2_with fail
  go_end0
  exact ⟨rfl,h7,HK⟩
 ·by_cases hu:n3=0
  ·subst hu
   have hl:=HL.out
   rw [zc3 _ _ _ _ _ _ _ _ Hn3.out] at hl
   simp only [List.length_append,List.length_replicate,List.length_cons,List.length_nil,z4x] at hl
   go_wp2_with fail
   refine (HLn.out _ (by simp only [ByteArray.size_append]; show l.length+dn+(3+X.size+2)≤_; omega)).mono ?_
   rintro e w4 ⟨rfl,h4,k4⟩
   have e4:(⟨#[105,102,32]⟩++X++⟨#[32,123]⟩:ByteArray).data.toList=[105,102,32]++valL D es 0++[32,123]:=by simp [hX.out]
   rw [e4] at h4
   have h5:=H3.out.wrote h4.out k4.out
   obtain ⟨i0,i2,i3,i4,i5⟩:=h5.cells
   have HC:=zhi (HB.out F ts tA n2 tc B p dn _ w4 h5.rt Hn2.out h5.hF Hs3.out hs7 h5.wri (by omega) (by simp only [lnT,List.length_append,List.length_replicate,List.length_cons,List.length_nil]; omega))
   have H5:=zhi h5
   clear e4 h5 h4 k4 HLn H3 j0 j2 j3 j4 j5
   go_wp2_with fail
   refine HC.out.mono ?_
   rintro e w5 ⟨rfl,h6,k6⟩
   have HD:=zhi (lnC h6.out ⟨#[125]⟩ (by simp only [lnT,List.length_append,List.length_replicate,List.length_cons,List.length_nil]; show _+1≤_; omega))
   have h8:=H5.out.wrote h6.out k6.out
   obtain ⟨a0,a2,a3,a4,a5⟩:=h8.cells
   have HK5:=zhi h8.wk
   clear HC h6 k6 H5 i0 i2 i3 i4 i5 h8
   go_wp2_with fail
   refine HD.out.mono ?_
   rintro e w6 ⟨rfl,h7,k7⟩
   have e7:l++lnT dn ([105,102,32]++valL D es 0++[32,123])++fmtB D d ts (List.replicate (dn+1) 9)++lnT dn (⟨#[125]⟩:ByteArray).data.toList=l++stL D (fmtB D d) (List.replicate dn 9) (.mk 4 ln s es ts us):=by
    rw [zc3 _ _ _ _ _ _ _ _ Hn3.out,z4x]
    simp [lnT]
   rw [e7] at h7
   have HK:=zhi (HK5.out.trans k7.out)
   clear HD k7 HK5 hX HL a0 a2 a3 a4 a5
   go_wp2_with fail
   go_end0
   exact ⟨rfl,h7,HK⟩
  ·have hl:=HL.out
   rw [zc4 _ _ _ _ _ _ _ _ (by rw [Hn3.out]; exact hu)] at hl
   simp only [List.length_append,List.length_replicate,List.length_cons,List.length_nil,z4x] at hl
   have hu0:0<n3:=by omega
   clear hu
   go_wp2_with fail
   refine (HLn.out _ (by simp only [ByteArray.size_append]; show l.length+dn+(3+X.size+2)≤_; omega)).mono ?_
   rintro e w4 ⟨rfl,h4,k4⟩
   have e4:(⟨#[105,102,32]⟩++X++⟨#[32,123]⟩:ByteArray).data.toList=[105,102,32]++valL D es 0++[32,123]:=by simp [hX.out]
   rw [e4] at h4
   have h5:=H3.out.wrote h4.out k4.out
   obtain ⟨i0,i2,i3,i4,i5⟩:=h5.cells
   have HC:=zhi (HB.out F ts tA n2 tc B p dn _ w4 h5.rt Hn2.out h5.hF Hs3.out hs7 h5.wri (by omega) (by simp only [lnT,List.length_append,List.length_replicate,List.length_cons,List.length_nil]; omega))
   have H5:=zhi h5
   clear e4 h5 h4 k4 HLn H3 j0 j2 j3 j4 j5
   go_wp2_with fail
   refine HC.out.mono ?_
   rintro e w5 ⟨rfl,h6,k6⟩
   have HD:=zhi (lnC h6.out ⟨#[125,32,101,108,115,101,32,123]⟩ (by simp only [lnT,List.length_append,List.length_replicate,List.length_cons,List.length_nil]; show _+8≤_; omega))
   have h8:=H5.out.wrote h6.out k6.out
   obtain ⟨a0,a2,a3,a4,a5⟩:=h8.cells
   have H8:=zhi h8
   clear HC h6 k6 H5 i0 i2 i3 i4 i5 h8
   go_wp2_with fail
   refine HD.out.mono ?_
   rintro e w6 ⟨rfl,h7,k7⟩
   have h9:=H8.out.wrote h7.out k7.out
   obtain ⟨b0,b2,b3,b4,b5⟩:=h9.cells
   have HE:=zhi (HB.out F us uA n3 uc B p dn _ w6 h9.ru Hn3.out h9.hF Hs4.out hs8 h9.wri (by omega) (by simp only [lnT,List.length_append,List.length_replicate,List.length_cons,List.length_nil]; show _+(dn+(8+1))+_≤_; omega))
   have H9:=zhi h9
   clear HD k7 h7 H8 h9 a0 a2 a3 a4 a5
   go_wp2_with fail
   refine HE.out.mono ?_
   rintro e w7 ⟨rfl,ha,ka⟩
   have HG:=zhi (lnC ha.out ⟨#[125]⟩ (by simp only [lnT,List.length_append,List.length_replicate,List.length_cons,List.length_nil]; show _+1≤_; omega))
   have HK7:=zhi (H9.out.wk.trans ka.out)
   clear HE ha ka H9 b0 b2 b3 b4 b5
   go_wp2_with fail
   refine HG.out.mono ?_
   rintro e w8 ⟨rfl,hc8,kc⟩
   have e7:l++lnT dn ([105,102,32]++valL D es 0++[32,123])++fmtB D d ts (List.replicate (dn+1) 9)++lnT dn (⟨#[125,32,101,108,115,101,32,123]⟩:ByteArray).data.toList++fmtB D d us (List.replicate (dn+1) 9)++lnT dn (⟨#[125]⟩:ByteArray).data.toList=l++stL D (fmtB D d) (List.replicate dn 9) (.mk 4 ln s es ts us):=by
    rw [zc4 _ _ _ _ _ _ _ _ (by rw [Hn3.out]; omega),z4x]
    simp [lnT]
   rw [e7] at hc8
   have HK:=zhi (HK7.out.trans kc.out)
   clear HG kc HK7 hX HL
   go_wp2_with fail
   go_end0
   exact ⟨rfl,hc8,HK⟩
end Go.Proofs.YtkeihncfmbicnaaGreatDoor
namespace Go.Proofs.YtkeihncfmbicnaaGreatDoor
open Go.RowKit
theorem zd2 {F:Nat→Prop} {w:World} {D d k:Nat} {xs:List St} {A:Option Addr} {c:Nat} {x:St} (h:RowS F w D d xs A c) (hx:xs[k]?=some x):∃ g off kk ll ss es ts us eA ec tA tc uA uc,A=some ⟨g,off,none⟩∧F g∧x=.mk kk ll ss es ts us∧w.cell? ⟨g,off+k * 6,none⟩=some (.int .i64 kk)∧w.cell? ⟨g,off+k * 6+1,none⟩=some (.int .i64 ll)∧w.cell? ⟨g,off+k * 6+2,none⟩=some (.string ss)∧w.cell? ⟨g,off+k * 6+3,none⟩=some (.slice eA es.length ec)∧w.cell? ⟨g,off+k * 6+4,none⟩=some (.slice tA ts.length tc)∧w.cell? ⟨g,off+k * 6+5,none⟩=some (.slice uA us.length uc)∧StV F w D d x (.agg #[.int .i64 kk,.int .i64 ll,.string ss,.slice eA es.length ec,.slice tA ts.length tc,.slice uA us.length uc]):=by
 cases d with
 | zero =>
  obtain ⟨_,_,_,_,_,_,_,_,_,_,_,_,_,_,_,_,hv⟩:=h.2 k x hx
  exact hv.elim
 | succ d =>
  obtain ⟨g,off,c0,c1,c2,c3,c4,c5,hA,hF,h0,h1,h2,h3,h4,h5,hv⟩:=h.2 k x hx
  have hv0:=hv
  match x,hv,hv0 with
  | .mk kk ll ss es ts us,⟨eA,ec,tA,tc,uA,uc,hv,hr,ht,hu⟩,hv0 =>
   injection hv with hv
   injection hv with hv
   injection hv with e0 hv
   injection hv with e1 hv
   injection hv with e2 hv
   injection hv with e3 hv
   injection hv with e4 hv
   injection hv with e5 _
   subst e0 e1 e2 e3 e4 e5
   exact ⟨g,off,kk,ll,ss,es,ts,us,eA,ec,tA,tc,uA,uc,hA,hF,rfl,h0,h1,h2,h3,h4,h5,hv0⟩
theorem z2I {α:Type} (f:α→z04):∀ (l:List α) (k:Nat) (x:α),l[k]?=some x→((l.take k).flatMap f).length+(f x).length≤(l.flatMap f).length
 | [],_,_,h=>by simp at h
 | a :: r,0,x,h=>by
  simp at h
  subst h
  simp
 | a :: r,k+1,x,h=>by
  have:=z2I f r k x (by simpa using h)
  simp only [List.take_succ_cons,List.flatMap_cons,List.length_append]
  omega
theorem z3P {α:Type} (f:α→z04) {l:List α} {k:Nat} {x:α} (h:l[k]?=some x):(l.take (k+1)).flatMap f=(l.take k).flatMap f++f x:=by
 rw [List.take_add_one,h]
 simp
set_option maxRecDepth 100000 in
set_option maxHeartbeats 4000000 in
theorem z7B {D d:Nat} (hS:StC D d):BlC D (d+1):=by
 intro F ts A n c B p dn l W hr hn hF hs hn1 hw hd hl
 have hc:n≤c:=by rw [← hn]; exact hr.1
 obtain ⟨d2,f2⟩:=hw.dep
 obtain ⟨hw1,hk1⟩:=hw.deep ((dn:Int)+1)
 have e1:((dn:Int)+1)=((dn+1:Nat):Int):=by omega
 obtain ⟨W1,hW1⟩:∃ W1,W.setCell ⟨p,2,none⟩ (.int .i64 ((dn:Int)+1))=W1:=⟨_,rfl⟩
 rw [hW1] at hw1 hk1
 rw [e1] at hw1
 have hrr:∀ w',Wk B p W w'→RowS F w' D (d+1) ts A c:=fun w' h=>RowS.keep (fun _ h=>h) (fun q hq=>h.bel.block q (hF q hq)) hr
 have Hrr:=zhi hrr
 have HW1:=zhi hw1
 have HK1:=zhi hk1
 have Hn:=zhi hn
 have HF:=zhi hF
 have Hs:=zhi hs
 have HS:=zhi hS
 have HL:=zhi hl
 have hpl:=hw.wr.lt
 clear hr hn hF hs hw hS hl hrr hw1 hk1 e1
 go_enter Tryz.func43,Tryz.ntmps43
 go_wp2_with fail
 clear hW1 d2 f2
 go_loopw [15] (fun i wr=>∃ k:Nat,k≤n∧i=.int .i64 (k:Int)∧Hid (Wri B p ((dn+1:Nat):Int) (l++(ts.take k).flatMap (stL D (fmtB D d) (List.replicate (dn+1) 9))) wr)∧Hid (Wk B p W wr)) (fun i _=>n - (intOf i).toNat)
 case atStart=>exact ⟨0,Nat.zero_le _,rfl,zhi (by simpa using HW1.out),HK1⟩
 case round =>
  obtain ⟨k,hk,rfl,hw,hkk⟩:=hrel
  by_cases hlt:k<n
  ·obtain ⟨x,hx⟩:∃ x,ts[k]?=some x:=⟨ts[k]'(by rw [Hn.out]; exact hlt),List.getElem?_eq_getElem _⟩
   obtain ⟨g,off,kk,ll,ss,es,us,vs,eA,ec,tA,tc,uA,uc,rfl,hg,-,e0,e1,e2,e3,e4,e5,hv⟩:=zd2 (Hrr.out wr hkk.out) hx
   have hgB:=HF.out g hg
   have hle:=hw.out.le
   have hb1:=(Below.refl _ wr).alloc (Nat.le_refl _) (.cells #[.int .i64 kk,.int .i64 ll,.string ss,.slice eA es.length ec,.slice tA us.length tc,.slice uA vs.length uc] 86)
   have hft:=z2I (stL D (fmtB D d) (List.replicate (dn+1) 9)) ts k x hx
   have hl2:(l++(ts.take k).flatMap (stL D (fmtB D d) (List.replicate (dn+1) 9))).length+(stL D (fmtB D d) (List.replicate (dn+1) 9) x).length≤1000000000000:=by
    have h9:=HL.out
    simp only [fmtB] at h9
    rw [List.length_append]
    omega
   have HC:=zhi (HS.out F x _ B p (dn+1) _ _ (StV.keep (fun _ h=>h) (fun q hq=>hb1.block q (by have:=HF.out q hq; omega)) _ _ _ hv) HF.out (Hs.out x (List.mem_of_getElem? hx)) (hw.out.next hb1) hl2)
   have HE:=zhi (z3P (stL D (fmtB D d) (List.replicate (dn+1) 9)) hx)
   have HKB:=zhi (hkk.out.trans (Wk.same (p:=p) hb1 hle))
   clear hx hv hb1 hft hl2 hg
   go_wp2_with fail
   refine HC.out.mono ?_
   rintro e w2 ⟨rfl,h2,k2⟩
   have HW2:Hid (Wri B p ((dn+1:Nat):Int) (l++(ts.take (k+1)).flatMap (stL D (fmtB D d) (List.replicate (dn+1) 9))) w2):=zhi (by rw [HE.out,← List.append_assoc]; exact h2.out)
   have HK2:=zhi (HKB.out.trans k2.out)
   clear HC HE HKB h2 k2 e0 e1 e2 e3 e4 e5
   go_wp2_with fail
   exact ⟨⟨k+1,by omega,by go_num,HW2,HK2⟩,by simp [intOf]; omega⟩
  ·obtain rfl:k=n:=by omega
   obtain ⟨d2,f2⟩:=hw.out.dep
   obtain ⟨hw1,hk1⟩:=hw.out.deep (dn:Int)
   have HW3:Hid (Wri B p (dn:Int) (l++fmtB D (d+1) ts (List.replicate (dn+1) 9)) (wr.setCell ⟨p,2,none⟩ (.int .i64 (dn:Int)))):=zhi (by
    rw [List.take_of_length_le (by rw [Hn.out]; exact Nat.le_refl _)] at hw1
    exact hw1)
   have HK3:=zhi (hkk.out.trans hk1)
   have e1:(((dn+1:Nat):Int))=(dn:Int)+1:=by omega
   have hpl:=hw.out.wr.lt
   rw [e1] at d2
   clear hw1 hk1 e1
   go_wp2_with fail
   go_end0
   exact ⟨rfl,HW3,HK3⟩
theorem zch (D:Nat):BlC D 0:=by
 intro F ts A n c B p dn l W hr hn hF hs hn1 hw hd hl
 have h0:ts=[]:=by
  cases ts with
  | nil=>rfl
  | cons a r=>exact (hs a (by simp)).elim
 subst h0
 simp only [List.length_nil] at hn
 subst hn
 obtain ⟨d2,f2⟩:=hw.dep
 obtain ⟨hw1,hk1⟩:=hw.deep ((dn:Int)+1)
 obtain ⟨d3,f3⟩:=hw1.dep
 obtain ⟨hw2,hk2⟩:=hw1.deep (dn:Int)
 have HW2:=zhi hw2
 have HK2:=zhi (hk1.trans hk2)
 have hpl:=hw.wr.lt
 have hpl1:=hw1.wr.lt
 clear hw hw1 hw2 hk1 hk2 hr hF hs hl
 go_enter Tryz.func43,Tryz.ntmps43
 go_wp2_with fail
 go_loopw [15] (fun i wr=>i=.int .i64 0∧wr=W.setCell ⟨p,2,none⟩ (.int .i64 ((dn:Int)+1))) (fun _ _=>0)
 case atStart=>exact ⟨rfl,rfl⟩
 case round =>
  obtain ⟨rfl,rfl⟩:=hrel
  go_wp2_with fail
  go_end0
  exact ⟨rfl,zhi (by simpa [fmtB] using HW2.out),HK2⟩
theorem zbI (D:Nat):∀ d,BlC D d
 | 0=>zch D
 | d+1=>z7B (za1 (zbI D d))
end Go.Proofs.YtkeihncfmbicnaaGreatDoor
