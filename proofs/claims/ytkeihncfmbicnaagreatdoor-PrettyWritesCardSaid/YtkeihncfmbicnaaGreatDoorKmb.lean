/-
  Kmb: PrW. Walks and laws that the statement's proof is made of. No condition of its own.
-/
import Derived.Test.YtkeihncfmbicnaaGreatDoorRows
import Derived.Test.YtkeihncfmbicnaaGreatDoorKa
import Derived.Shelf.Strings.Builder1
import Derived.Test.YtkeihncfmbicnaaGreatDoorKb
import Derived.Test.YtkeihncfmbicnaaGreatDoorKab
import Derived.StillTailTactics
import Derived.Lib.LaidTab
namespace Go.Proofs.YtkeihncfmbicnaaGreatDoor
open Go.RowKit
def WrAt (B p:Nat) (q:Value) (d:Int) (bs:List Value) (w:World):Prop :=
 B≤p∧∃ v,w.heap[p]?=some (.cells #[q,v,.int .i64 d] 69 (0,0))∧w.ownsRow B 5 1 v bs.length bs
def IsWr (B p:Nat) (d:Int) (bs:List Value) (w:World):Prop:=WrAt B p (.pointer none) d bs w∨WrAt B p (.pointer (some ⟨p,0,none⟩)) d bs w
structure Wk (B p:Nat) (w w':World):Prop where
 bel:Below B w w'
 oth:∀ k cs T fr,w.heap[k]?=some (.cells cs T fr)→T≠5→k≠p→w'.heap[k]?=w.heap[k]?
theorem Wk.refl (B p:Nat) (w:World):Wk B p w w:=⟨Below.refl _ _,fun _ _ _ _ _ _ _=>rfl⟩
theorem Wk.trans {B p:Nat} {a b c:World} (h:Wk B p a b) (k:Wk B p b c):Wk B p a c:=⟨h.bel.trans k.bel,fun i cs T fr h1 h2 h3=>by
 have e:=h.oth i cs T fr h1 h2 h3
 exact (k.oth i cs T fr (e.trans h1) h2 h3).trans e⟩
theorem Wk.set {B p:Nat} (hB:B≤p) (w:World) (i:Nat) (v:Value):Wk B p w (w.setCell ⟨p,i,none⟩ v):=⟨(Below.refl B w).setCell (p:=⟨p,i,none⟩) hB _,fun k _ _ _ _ _ hk=>Below.heap_setCell _ _ _ _ (fun e=>hk (by simpa using e))⟩
theorem Wk.alloc {B p:Nat} {w w':World} (h:Wk B p w w') (hB:B≤w'.heap.size) (o:Obj):Wk B p w (w'.alloc o):=⟨h.bel.alloc hB o,fun k cs T fr h1 h2 h3=>by
 have e:=h.oth k cs T fr h1 h2 h3
 have hlt:k<w'.heap.size:=(Array.getElem?_eq_some_iff.1 (e.trans h1)).1
 exact (Lib.alloc_old w' o k hlt).trans e⟩
theorem Wk.drew {B p:Nat} {w w':World} (h:Wk B p w w'):Wk B p w w'.drew:=⟨h.bel.drew,h.oth⟩
theorem Wk.same {B p:Nat} {w w':World} (h:Below w.heap.size w w') (hB:B≤w.heap.size):Wk B p w w':=⟨h.mono hB,fun k _ _ _ h1 _ _=>h.block k (Array.getElem?_eq_some_iff.1 h1).1⟩
theorem WrAt.lt {B p:Nat} {q:Value} {d:Int} {bs:List Value} {w:World} (h:WrAt B p q d bs w):p<w.heap.size:=by
 obtain ⟨_,v,hb,_⟩:=h
 exact (Array.getElem?_eq_some_iff.1 hb).1
theorem IsWr.lt {B p:Nat} {d:Int} {bs:List Value} {w:World} (h:IsWr B p d bs w):p<w.heap.size:=by
 rcases h with h | h <;> exact h.lt
theorem IsWr.le {B p:Nat} {d:Int} {bs:List Value} {w:World} (h:IsWr B p d bs w):B≤p:=by
 rcases h with h | h <;> exact h.1
theorem WrAt.next {B p:Nat} {q:Value} {d:Int} {bs:List Value} {w w':World} (h:WrAt B p q d bs w) (hb:Below w.heap.size w w'):WrAt B p q d bs w':=by
 have hlt:=h.lt
 obtain ⟨hB,v,hk,hown⟩:=h
 refine ⟨hB,v,(hb.block p hlt).trans hk,hown.kept (row:=none) ⟨hb.os,hb.tape,hb.output,hb.size,fun k hk _=>hb.block k hk⟩ ?_⟩
 cases hq:v.ownBlock with
 | none=>exact .inl rfl
 | some k=>exact .inr (by simp)
theorem IsWr.next {B p:Nat} {d:Int} {bs:List Value} {w w':World} (h:IsWr B p d bs w) (hb:Below w.heap.size w w'):IsWr B p d bs w':=by
 rcases h with h | h
 ·exact .inl (h.next hb)
 ·exact .inr (h.next hb)
theorem IsWr.drew {B p:Nat} {d:Int} {bs:List Value} {w:World} (h:IsWr B p d bs w):IsWr B p d bs w.drew:=h
theorem WrAt.put {B p:Nat} {q v v':Value} {d:Int} {bs':List Value} {w:World} (hB:B≤p) (hb:w.heap[p]?=some (.cells #[q,v,.int .i64 d] 69 (0,0))) (hown:w.ownsRow B 5 1 v' bs'.length bs') :
  WrAt B p q d bs' (w.setCell ⟨p,1,none⟩ v'):=by
 have hne:=Lib.ownBlock_ne hown hb (by decide)
 refine ⟨hB,v',?_,?_⟩
 ·simp [World.setCell,Array.getElem?_modify,hb]
 ·exact hown.kept (row:=some p) ⟨rfl,rfl,rfl,by simp [World.setCell],fun k _ hk=>Below.heap_setCell _ _ _ _ (fun e=>hk (by simp [e]))⟩ (Or.inr hne)
theorem WrAt.used {B p:Nat} {q:Value} {d:Int} {bs:List Value} {w:World} (h:WrAt B p q d bs w) (q':Value):WrAt B p q' d bs (w.setCell ⟨p,0,none⟩ q'):=by
 obtain ⟨hB,v,hb,hown⟩:=h
 have hne:=Lib.ownBlock_ne hown hb (by decide)
 refine ⟨hB,v,?_,?_⟩
 ·simp [World.setCell,Array.getElem?_modify,hb]
 ·exact hown.kept (row:=some p) ⟨rfl,rfl,rfl,by simp [World.setCell],fun k _ hk=>Below.heap_setCell _ _ _ _ (fun e=>hk (by simp [e]))⟩ (Or.inr hne)
theorem z9X:(Tryz.prog.info? 67).map (·.size)=some 2:=by kernel_rfl
theorem zcD:liesAt Tryz.prog Tryz.prog.depth 69 (3 / Tryz.prog.cellsOf 69) 0 67 1=true:=by kernel_rfl
theorem infoByte:(Tryz.prog.info? 5).map (fun i=>(i.zero,i.size,i.bytes))=some (some (.int .u8 0),1,1):=by kernel_rfl
set_option maxHeartbeats 1000000 in
set_option maxRecDepth 100000 in
theorem z5t (p:Nat) (w:World) (h0:w.cell? ⟨p,0,none⟩=some (.pointer (some ⟨p,0,none⟩))) :
  Calls Tryz.prog 76 #[.pointer (some ⟨p,0,none⟩)] w fun e w'=>e=.returned (.tuple #[])∧w'=w:=by
 obtain ⟨j,hj,_⟩:=Option.map_eq_some_iff.1 z9X
 go_enter Tryz.func76,Tryz.ntmps76
 go_wp2
 rw [Lib.run_neq_ptr_same w _ Tryz.underlying65 hj]
 go_wp2
 go_end0
 exact ⟨rfl,rfl⟩
set_option maxHeartbeats 1000000 in
set_option maxRecDepth 100000 in
theorem z4k (p:Nat) (w:World) (h0:w.cell? ⟨p,0,none⟩=some (.pointer none)) (hsh:w.shape? p=some (69,3)) (hfz:w.frozen? ⟨p,0,none⟩=false) :
  Calls Tryz.prog 76 #[.pointer (some ⟨p,0,none⟩)] w fun e w'=>e=.returned (.tuple #[])∧w'=w.setCell ⟨p,0,none⟩ (.pointer (some ⟨p,0,none⟩)):=by
 obtain ⟨j,hj,hjs⟩:=Option.map_eq_some_iff.1 z9X
 go_enter Tryz.func76,Tryz.ntmps76
 go_wp2
 rw [Lib.run_to_unsafe w ⟨p,0,none⟩ Tryz.underlying65 Tryz.underlying135 hj (by rw [hjs]; decide) hsh (Nat.zero_lt_succ 2)]
 simp only [Result.andThen]
 rw [Oper.upon_value]
 go_wp2
 rw [run_callFunc_extern Tryz.func86 (by kernel_rfl) (by kernel_rfl) (by kernel_rfl) (e:=Extern.AbiNoEscape.same) (by kernel_rfl)]
 rw [Lib.run_noEscape]
 simp only [Result.andThen]
 rw [Oper.upon_value]
 go_wp2
 rw [Lib.run_from_unsafe w ⟨p,0,none⟩ Tryz.underlying135 Tryz.underlying65 hj hsh zcD]
 simp only [Result.andThen]
 rw [Oper.upon_value]
 go_wp2
 go_end0
 exact ⟨rfl,rfl⟩
theorem z7y (B p:Nat) (d:Int) (bs:List Value) (w:World) (h:IsWr B p d bs w) :
  Calls Tryz.prog 76 #[.pointer (some ⟨p,0,none⟩)] w fun e w'=>e=.returned (.tuple #[])∧(WrAt B p (.pointer (some ⟨p,0,none⟩)) d bs w'∧Wk B p w w'):=by
 rcases h with h | h
 ·obtain ⟨hB,v,hb,hown⟩:=id h
  refine (z4k p w (by rw [Lib.cell_of_heap hb]; rfl) (by simp [World.shape?,hb]) (by simp [World.frozen?,hb])).mono ?_
  rintro e w' ⟨rfl,rfl⟩
  exact ⟨rfl,h.used _,Wk.set hB _ _ _⟩
 ·obtain ⟨hB,v,hb,hown⟩:=id h
  refine (z5t p w (by rw [Lib.cell_of_heap hb]; rfl)).mono ?_
  rintro e w' ⟨rfl,rfl⟩
  exact ⟨rfl,h,Wk.refl _ _ _⟩
def zbH (B p:Nat) (d:Int) (bs:List Value) (w:World) (r:Ending) (e:Ending) (w':World):Prop:=e=r∧WrAt B p (.pointer (some ⟨p,0,none⟩)) d bs w'∧Wk B p w w'
set_option maxHeartbeats 2000000 in
set_option maxRecDepth 100000 in
theorem zdg (B p:Nat) (d:Int) (bs:List Value) (c:Int) (w:World) (h:IsWr B p d bs w) (hlen:bs.length+1≤140737488355328) (hBw:B≤w.heap.size) :
  Calls Tryz.prog 65 #[.pointer (some ⟨p,0,none⟩),.int .u8 c] w (zbH B p d (bs++[.int .u8 c]) w (.returned .nilIface)):=by
 obtain ⟨i0,hi,hz0,hz1,hz2⟩:=info_parts infoByte
 have HC:=zhi (z7y B p d bs w h)
 clear h
 go_enter Tryz.func65,Tryz.ntmps65
 go_wp2_with fail
 refine HC.out.mono ?_
 rintro e w1 ⟨rfl,h1,hw1⟩
 obtain ⟨hB,v,hbk,hown⟩:=h1
 have hne:=Lib.ownBlock_ne hown hbk (by decide)
 have hb1:=hw1.bel
 have c0:w1.cell? ⟨p,0,none⟩=some (.pointer (some ⟨p,0,none⟩)):=by rw [Lib.cell_of_heap hbk]; rfl
 have c1:w1.cell? ⟨p,1,none⟩=some v:=by rw [Lib.cell_of_heap hbk]; rfl
 go_wp2_with (at_builtin; refine wpList_append_own _ rfl _ _ 22 rfl B 5 i0 (.int .u8 0) 1 1 Tryz.underlying22 hi hz0 hz1 hz2 rfl (by decide) _ _ _ rfl (hown.alloc _) ⟨w1.heap.size,0,none⟩ 1 1 [.int .u8 c] rfl rfl ?c1 ?c2 ?c3 ?c4 ?c5 ?_)
 case c1 =>
  intro j u hj
  match j,hj with
  | 0,hj=>simp at hj; subst hj; simp [Addr.add]
 case c2=>intro u hu; simp at hu; subst hu; rfl
 case c3=>unfold maxLen; omega
 case c4=>omega
 case c5=>have:=hb1.size; simp; omega
 intro v' w2 hown' hgrow _
 have hlt:p<w1.heap.size:=(Array.getElem?_eq_some_iff.1 hbk).1
 have hb2:w2.heap[p]?=some (.cells #[.pointer (some ⟨p,0,none⟩),v,.int .i64 d] 69 (0,0)):=by
  rw [hgrow.block p (by simp; omega) (fun e=>hne e.symm),Lib.alloc_old w1 _ p hlt]
  exact hbk
 have d0:w2.cell? ⟨p,0,none⟩=some (.pointer (some ⟨p,0,none⟩)):=by rw [Lib.cell_of_heap hb2]; rfl
 have d1:w2.cell? ⟨p,1,none⟩=some v:=by rw [Lib.cell_of_heap hb2]; rfl
 have f1:w2.frozen? ⟨p,1,none⟩=false:=Lib.frozen_of_heap hb2 1
 obtain ⟨g,cap,rfl⟩:∃ g cap,v'=.slice (some ⟨g,0,none⟩) (bs.length+1) cap:=by
  rcases hown'.2 with ⟨_,h0⟩ | ⟨g,cap,cur,hv,_⟩
  ·omega
  ·exact ⟨g,cap,hv⟩
 have HW:=zhi (show WrAt B p (.pointer (some ⟨p,0,none⟩)) d (bs++[.int .u8 c]) _ from WrAt.put hB hb2 (bs':=bs++[.int .u8 c]) (by simpa using hown'))
 have HK:Hid (Wk B p w (w2.setCell ⟨p,1,none⟩ (.slice (some ⟨g,0,none⟩) (bs.length+1) cap))):=zhi (by
  refine (hw1.trans ((Wk.refl B p w1).alloc (by have:=hb1.size; omega) (.cells #[.int .u8 c] 5))).trans (Wk.trans (b:=w2) ⟨?_,fun k cs T fr h1 h2 h3=>?_⟩ (Wk.set hB _ _ _))
  ·exact (Below.refl B _).grown hgrow (by have:=hb1.size; simp; omega) (fun k hk=>(hown.lt k hk).1)
  ·exact hgrow.block k (Array.getElem?_eq_some_iff.1 h1).1 (fun e=>by
    have:=Lib.ownBlock_ne (hown.alloc _) h1 h2
    exact this e.symm))
 clear hown hown' hgrow hb2 hbk hw1 hb1 HC
 go_wp2_with fail
 go_ret
 exact ⟨rfl,HW.out,HK.out⟩
set_option maxHeartbeats 2000000 in
set_option maxRecDepth 100000 in
theorem zaf (B p:Nat) (d:Int) (bs:List Value) (s:ByteArray) (w:World) (h:IsWr B p d bs w) (hlen:bs.length+s.size≤140737488355328) (hBw:B≤w.heap.size) :
  Calls Tryz.prog 50 #[.pointer (some ⟨p,0,none⟩),.string s] w (zbH B p d (bs++Lib.strCells s) w (.returned (.tuple #[.int .i64 s.size,.nilIface]))):=by
 obtain ⟨i0,hi,hz0,hz1,hz2⟩:=info_parts infoByte
 have HC:=zhi (z7y B p d bs w h)
 clear h
 go_enter Tryz.func50,Tryz.ntmps50
 go_wp2_with fail
 refine HC.out.mono ?_
 rintro e w1 ⟨rfl,h1,hw1⟩
 obtain ⟨hB,v,hbk,hown⟩:=h1
 have hne:=Lib.ownBlock_ne hown hbk (by decide)
 have hb1:=hw1.bel
 have c0:w1.cell? ⟨p,0,none⟩=some (.pointer (some ⟨p,0,none⟩)):=by rw [Lib.cell_of_heap hbk]; rfl
 have c1:w1.cell? ⟨p,1,none⟩=some v:=by rw [Lib.cell_of_heap hbk]; rfl
 go_wp2_with (at_builtin; refine Lib.wpList_append_own_string _ rfl _ _ 22 9 rfl B 5 i0 Tryz.underlying22 Tryz.underlying9 hi hz0 hz1 hz2 _ _ _ rfl hown s rfl ?c3 ?c4 ?c5 ?_)
 case c3=>unfold maxLen; omega
 case c4=>omega
 case c5=>have:=hb1.size; omega
 intro v' w2 hown' hgrow _
 have hlt:p<w1.heap.size:=(Array.getElem?_eq_some_iff.1 hbk).1
 have hb2:w2.heap[p]?=some (.cells #[.pointer (some ⟨p,0,none⟩),v,.int .i64 d] 69 (0,0)):=by
  rw [hgrow.block p hlt (fun e=>hne e.symm)]
  exact hbk
 have d0:w2.cell? ⟨p,0,none⟩=some (.pointer (some ⟨p,0,none⟩)):=by rw [Lib.cell_of_heap hb2]; rfl
 have d1:w2.cell? ⟨p,1,none⟩=some v:=by rw [Lib.cell_of_heap hb2]; rfl
 have f1:w2.frozen? ⟨p,1,none⟩=false:=Lib.frozen_of_heap hb2 1
 obtain ⟨ao,n',cap,rfl⟩:∃ ao n' cap,v'=.slice ao n' cap:=by
  rcases hown'.2 with ⟨hv,_⟩ | ⟨g,cap,cur,hv,_⟩
  ·exact ⟨_,_,_,hv⟩
  ·exact ⟨_,_,_,hv⟩
 have HW:=zhi (show WrAt B p (.pointer (some ⟨p,0,none⟩)) d (bs++Lib.strCells s) _ from WrAt.put hB hb2 (bs':=bs++Lib.strCells s) (by simpa [Lib.strCells_length] using hown'))
 have HK:Hid (Wk B p w (w2.setCell ⟨p,1,none⟩ (.slice ao n' cap))):=zhi (by
  refine hw1.trans (Wk.trans (b:=w2) ⟨?_,fun k cs T fr h1 h2 h3=>?_⟩ (Wk.set hB _ _ _))
  ·exact (Below.refl B _).grown hgrow (by have:=hb1.size; omega) (fun k hk=>(hown.lt k hk).1)
  ·exact hgrow.block k (Array.getElem?_eq_some_iff.1 h1).1 (fun e=>by
    have:=Lib.ownBlock_ne hown h1 h2
    exact this e.symm))
 clear hown hown' hgrow hb2 hbk hw1 hb1 HC
 go_wp2_with fail
 go_ret2
 exact ⟨rfl,HW.out,HK.out⟩
set_option maxHeartbeats 1000000 in
set_option maxRecDepth 100000 in
theorem zag (B p:Nat) (d:Int) (l:List UInt8) (w:World) (h:IsWr B p d (Lib.byteCells l) w) (h0:l≠[]) :
  Calls Tryz.prog 25 #[.pointer (some ⟨p,0,none⟩)] w fun e w'=>e=.returned (.string ⟨l.toArray⟩)∧Below B w w':=by
 obtain ⟨q,hB,v,hbk,hown⟩:∃ q,WrAt B p q d (Lib.byteCells l) w:=by
  rcases h with h | h
  ·exact ⟨_,h⟩
  ·exact ⟨_,h⟩
 have hl0:l.length≠0:=by simpa using h0
 rw [Lib.byteCells_length] at hown
 obtain ⟨g,cap,cur,rfl,hbg,hg,hnc,hcm,hcs,htake⟩:∃ g cap cur,v=.slice (some ⟨g,0,none⟩) l.length cap∧B≤g∧w.heap[g]?=some (.cells cur 5 (0,0))∧l.length≤cap∧cap≤maxLen∧cur.size=cap * 1∧cur.toList.take (l.length * 1)=Lib.byteCells l:=by
  rcases hown.2 with ⟨_,hz⟩ | ⟨g,cap,cur,hv,r⟩
  ·exact absurd hz hl0
  ·exact ⟨g,cap,cur,hv,r⟩
 have c1:w.drew.cell? ⟨p,1,none⟩=some (.slice (some ⟨g,0,none⟩) l.length cap):=by
  have:w.drew.heap[p]?=some (.cells #[q,.slice (some ⟨g,0,none⟩) l.length cap,.int .i64 d] 69 (0,0)):=hbk
  rw [Lib.cell_of_heap this]; rfl
 have hSD:(Builtin.unsafeSliceData_ #[22] 96 #[.slice (some ⟨g,0,none⟩) l.length cap]).run Tryz.prog w.drew=.ok (.pointer (some ⟨g,0,none⟩)) w.drew :=
  Lib.run_unsafeSliceData_row _ _ _ _ _ _ (by omega)
 have hUS:(Builtin.unsafeString_ #[96,3] 9 #[.pointer (some ⟨g,0,none⟩),.int .i64 l.length]).run Tryz.prog w.drew=.ok (.string ⟨l.toArray⟩) (w.drew.freeze ⟨g,0,none⟩ l.length):=by
  refine Lib.run_unsafeString_row w.drew 96 3 9 5 Tryz.underlying96 (by kernel_rfl) g cur.size (by have hg':w.drew.heap[g]?=some (.cells cur 5 (0,0)):=hg; simp [World.shape?,hg']) l h0 (by omega) (by unfold maxLen at hcm; omega) ?_
  intro j x hx
  have:=hown.cells (g:=g) rfl j (.int .u8 x.toNat) (by simp [Lib.byteCells,hx])
  exact this
 clear htake hcs hnc hcm hg hown hbk
 go_enter Tryz.func25,Tryz.ntmps25
 go_wp2
 go_region
 all_goals (go_wp2; go_ret; exact ⟨rfl,Lib.below_freeze (Below.drew (Below.refl B w)) (p:=⟨g,0,none⟩) hbg _⟩)
end Go.Proofs.YtkeihncfmbicnaaGreatDoor
namespace Go.Proofs.YtkeihncfmbicnaaGreatDoor
open Go.RowKit
def IRow (w:World) (A:Option Addr) (l:List Int):Prop:=∀ i x,l[i]?=some x→∃ g,A=some ⟨g,0,none⟩∧w.cell? ⟨g,i,none⟩=some (.int .i64 x)
def zeE (b:Bool) (w:World) (e:Ending) (w':World):Prop:=∃ i:Int,e=.returned (.int .i64 i)∧w=w'∧decide (0≤i)=b
set_option maxRecDepth 10000 in
theorem z92 (b:Bool) (s:Int) (l:List Int) (A:Option Addr) (n c:Nat) (w:World) (hb:l.contains s=b) (hn:l.length=n) (_hc:n≤c) (hn2:n≤1000) (hr:IRow w A l) :
  Calls Tryz.prog 94 #[.slice A n c,.int .i64 s] w (zeE b w):=by
 have HB:=zhi hb
 clear hb
 have Hr:=zhi hr
 have Hn:=zhi hn
 clear hr hn
 go_enter Tryz.func94,Tryz.ntmps94
 go_wp2_with fail
 go_loop [8] (fun i=>∃ k:Nat,k≤n∧i=.int .i64 (k:Int)∧Hid (∀ j,j<k→l[j]?≠some s)) (fun i=>n - (intOf i).toNat)
 case atStart=>exact ⟨0,Nat.zero_le _,rfl,zhi (fun j hj=>by omega)⟩
 case round =>
  obtain ⟨k,hk,rfl,H⟩:=hrel
  by_cases hlt:k<n
  ·obtain ⟨x,hx⟩:∃ x,l[k]?=some x:=⟨l[k]'(by rw [Hn.out]; exact hlt),List.getElem?_eq_getElem _⟩
   obtain ⟨g,rfl,d0⟩:=Hr.out k x hx
   have Hx:=zhi hx
   clear hx
   by_cases he:s=x
   ·subst he
    have HP:Hid (l.contains s=true):=zhi (by rw [List.contains_iff_mem]; exact List.mem_of_getElem? Hx.out)
    clear H Hx
    go_wp2_with fail
    go_ret
    exact ⟨_,rfl,rfl,by rw [← HB.out,HP.out]; simp⟩
   ·have H2:Hid (∀ j,j<k+1→l[j]?≠some s):=zhi (fun j hj=>by
     rcases Nat.lt_or_ge j k with h | h
     ·exact H.out j h
     ·obtain rfl:j=k:=by omega
      rw [Hx.out]
      intro e
      injection e with e
      exact he e.symm)
    have he2:(s == x)=false:=by simpa using he
    clear H Hx
    go_wp2_with fail
    exact ⟨⟨k+1,by omega,by go_num,H2⟩,by simp [intOf]; omega⟩
  ·have HP:Hid (l.contains s=false):=zhi (by
    rw [← Bool.not_eq_true,List.contains_iff_mem]
    intro hm
    obtain ⟨j,hj,e⟩:=List.mem_iff_getElem.1 hm
    exact H.out j (by have:=Hn.out; omega) (by rw [List.getElem?_eq_getElem hj,e]))
   clear H
   go_wp2_with fail
   go_ret
   exact ⟨_,rfl,rfl,by rw [← HB.out,HP.out]; rfl⟩
theorem z5D (b:Bool) (s:Int) (l:List Int) (A:Option Addr) (n c:Nat) (w:World) (hb:l.contains s=b) (hn:l.length=n) (hc:n≤c) (hn2:n≤1000) (hr:IRow w A l) :
  Calls Tryz.prog 87 #[.slice A n c,.int .i64 s] w (RetB b w):=by
 have hx:=zhi (z92 b s l A n c w hb hn hc hn2 hr)
 clear hb hn hc hn2 hr
 go_enter Tryz.func87,Tryz.ntmps87
 go_wp2_with fail
 refine hx.out.mono ?_
 rintro e w1 ⟨i,rfl,rfl,hi⟩
 have Hi:=zhi hi
 clear hi hx
 go_wp2_with fail
 go_ret
 exact ⟨by rw [← Hi.out]; simp,rfl⟩
theorem IRow.next {w w':World} {A:Option Addr} {l:List Int} (h:IRow w A l) (hb:Below w.heap.size w w'):IRow w' A l:=fun i x hx=>by
 obtain ⟨g,hA,hc⟩:=h i x hx
 exact ⟨g,hA,hold hb hc⟩
def RetV (v:Value) (w:World) (e:Ending) (w':World):Prop:=e=.returned v∧Below w.heap.size w w'
theorem zbW (b:Bool) (k o a l:Int) (s:ByteArray) (A:Option Addr) (n c:Nat) (ks:List Int) (A2:Option Addr) (m c2:Nat) (w:World) (hb:ks.contains k=b) (hn:ks.length=m) (hc:m≤c2) (hn2:m≤1000) (hr:IRow w A2 ks) :
  Calls Tryz.prog 77 #[.agg #[.int .i64 k,.int .i64 o,.int .i64 a,.int .i64 l,.string s,.slice A n c],.slice A2 m c2] w (RetV (.bool b) w):=by
 have hb0:=(Below.refl _ w).alloc (Nat.le_refl _) (.cells #[.int .i64 k,.int .i64 o,.int .i64 a,.int .i64 l,.string s,.slice A n c] 37)
 have hx:=zhi (z5D b k ks A2 m c2 (w.alloc (.cells #[.int .i64 k,.int .i64 o,.int .i64 a,.int .i64 l,.string s,.slice A n c] 37)) hb hn hc hn2 (hr.next hb0))
 have f0:(w.alloc (.cells #[.int .i64 k,.int .i64 o,.int .i64 a,.int .i64 l,.string s,.slice A n c] 37)).cell? ⟨w.heap.size,0,none⟩=some (.int .i64 k):=by rw [cell_of_row _ _ _ _ _ _ (heap_alloc_new w _)]; rfl
 have HB:=zhi hb0
 clear hb hn hc hn2 hr hb0
 go_enter Tryz.func77,Tryz.ntmps77
 go_wp2_with fail
 refine hx.out.mono ?_
 rintro e w1 ⟨rfl,rfl⟩
 clear hx
 go_wp2_with fail
 go_ret
 exact ⟨rfl,HB.out⟩
theorem z9A {P:Program} {w:World} {ops:Array Oper} {rest:List Oper} {d:Option Tmp} {ty:TypeId} {x y:Operand} {pos:String} {af:Array Edge} {gd:Option (Nat × Bool)} {a:Act} {Q:Exit→Act→World→Prop}
  (h:z0a (wpList P ops Q ({ dst:=d,op:=.store 37 x y,type:=ty,pos:=pos,after:=af,guard:=gd } :: rest) a w)):wpList P ops Q ({ dst:=d,op:=.store 37 x y,type:=ty,pos:=pos,after:=af,guard:=gd } :: rest) a w:=h
set_option maxRecDepth 10000 in
theorem zdp (g off n c i:Nat) (k o a l:Int) (s:ByteArray) (A:Option Addr) (m cc:Nat) (w:World) (hi:i<n) (e0:w.cell? ⟨g,off+i * 6,none⟩=some (.int .i64 k)) (e1:w.cell? ⟨g,off+i * 6+1,none⟩=some (.int .i64 o)) (e2:w.cell? ⟨g,off+i * 6+2,none⟩=some (.int .i64 a)) (e3:w.cell? ⟨g,off+i * 6+3,none⟩=some (.int .i64 l)) (e4:w.cell? ⟨g,off+i * 6+4,none⟩=some (.string s)) (e5:w.cell? ⟨g,off+i * 6+5,none⟩=some (.slice A m cc)) :
  Calls Tryz.prog 51 #[.slice (some ⟨g,off,none⟩) n c,.int .i64 (i:Int)] w (RetV (.agg #[.int .i64 k,.int .i64 o,.int .i64 a,.int .i64 l,.string s,.slice A m cc]) w):=by
 have hb0:=(Below.refl _ w).alloc (Nat.le_refl _) (.cells #[.int .i64 0,.int .i64 0,.int .i64 0,.int .i64 0,.string { data:=#[] },.slice none 0 0] 37)
 have HZ:=zhi (heap_alloc_new w (.cells #[.int .i64 0,.int .i64 0,.int .i64 0,.int .i64 0,.string { data:=#[] },.slice none 0 0] 37))
 have d0:=hold hb0 e0
 have d1:=hold hb0 e1
 have d2:=hold hb0 e2
 have d3:=hold hb0 e3
 have d4:=hold hb0 e4
 have d5:=hold hb0 e5
 have HB:=zhi hb0
 clear hb0 e0 e1 e2 e3 e4 e5
 go_enter Tryz.func51,Tryz.ntmps51
 go_wp2_with (with_reducible refine z9A ?_)
 refine z0a.of (z00 _ rfl _ _ _ rfl w.heap.size _ rfl (by rfl) _ _ HZ.out (by kernel_rfl) (by rfl) (by simp [Value.oneCell']) ?_)
 intro w9 hrow9 hg9
 obtain ⟨j0,j1,j2,j3,j4,j5⟩:=cl6 hrow9
 have HH:Hid (RetV (.agg #[.int .i64 k,.int .i64 o,.int .i64 a,.int .i64 l,.string s,.slice A m cc]) w (.returned (.agg #[.int .i64 k,.int .i64 o,.int .i64 a,.int .i64 l,.string s,.slice A m cc])) w9):=zhi ⟨rfl,HB.out.trans (z09 hg9 (fun k hk=>by injection hk with hk; omega) (by have:=HB.out.size; omega))⟩
 clear hrow9 hg9 d0 d1 d2 d3 d4 d5
 go_wp2_with fail
 exact bodyPost_ret (by simp [results,Tryz.results51,go_sem,j0,j1,j2,j3,j4,j5]) rfl HH.out
def sgnK (k o:Int):z04:=if k=7 then [38,38] else if k=8 then [124,124] else z0U o
set_option maxRecDepth 10000 in
set_option maxHeartbeats 2000000 in
theorem z3G (k o a l:Int) (s:ByteArray) (A:Option Addr) (n c:Nat) (w:World) (h0:0≤o) (h11:o≤11) :
  Calls Tryz.prog 52 #[.agg #[.int .i64 k,.int .i64 o,.int .i64 a,.int .i64 l,.string s,.slice A n c]] w (z0L (sgnK k o) w):=by
 have HB:=zhi ((Below.refl _ w).alloc (Nat.le_refl _) (.cells #[.int .i64 k,.int .i64 o,.int .i64 a,.int .i64 l,.string s,.slice A n c] 37))
 have f0:(w.alloc (.cells #[.int .i64 k,.int .i64 o,.int .i64 a,.int .i64 l,.string s,.slice A n c] 37)).cell? ⟨w.heap.size,0,none⟩=some (.int .i64 k):=by rw [cell_of_row _ _ _ _ _ _ (heap_alloc_new w _)]; rfl
 have f1:(w.alloc (.cells #[.int .i64 k,.int .i64 o,.int .i64 a,.int .i64 l,.string s,.slice A n c] 37)).cell? ⟨w.heap.size,1,none⟩=some (.int .i64 o):=by rw [cell_of_row _ _ _ _ _ _ (heap_alloc_new w _)]; rfl
 by_cases h7:k=7
 ·subst h7
  clear h0 h11
  go_enter Tryz.func52,Tryz.ntmps52
  go_wp2_with fail
  go_ret
  exact z0x rfl HB.out
 by_cases h8:k=8
 ·subst h8
  clear h0 h11 h7
  go_enter Tryz.func52,Tryz.ntmps52
  go_wp2_with fail
  go_ret
  exact z0x rfl HB.out
 have hk7:(k == 7)=false:=by simpa using h7
 have hk8:(k == 8)=false:=by simpa using h8
 have hs:sgnK k o=z0U o:=by rw [sgnK,if_neg h7,if_neg h8]
 rw [hs]
 have hc:o=0∨o=1∨o=2∨o=3∨o=4∨o=5∨o=6∨o=7∨o=8∨o=9∨o=10∨o=11:=by omega
 clear h0 h11 h7 h8 hs
 rcases hc with rfl | rfl | rfl | rfl | rfl | rfl | rfl | rfl | rfl | rfl | rfl | rfl
 all_goals
  go_enter Tryz.func52,Tryz.ntmps52
  go_wp2_with fail
  go_ret
  exact z0x rfl HB.out
end Go.Proofs.YtkeihncfmbicnaaGreatDoor
namespace Go.Proofs.YtkeihncfmbicnaaGreatDoor
open Go.RowKit
theorem gTab : Tryz.prog.globalNamed "internal/strconv.uint64pow10" = some 0 := by kernel_rfl
def PowT (w : World) : Prop := Lib.TabIs Tryz.prog w "internal/strconv.uint64pow10" .u64 Lib.pow10Tab
theorem PowT.next {B:Nat} {w w':World} (h:PowT w) (hb:Below B w w') (hB:0<B):PowT w':=by
 unfold PowT Lib.TabIs World.var? at h ⊢
 rw [gTab] at h ⊢
 simp only [Option.bind_some] at h ⊢
 rw [hb.block _ hB]
 exact h
structure Wri (B p:Nat) (dp:Int) (l:z04) (W:World):Prop where
 wr:IsWr B p dp (Lib.byteCells l) W
 tab:PowT W
 gb:0<B
theorem Wri.le {B p:Nat} {dp:Int} {l:z04} {W:World} (h:Wri B p dp l W):B≤W.heap.size:=by
 have:=h.wr.le
 have:=h.wr.lt
 omega
theorem Wri.next {B p:Nat} {dp:Int} {l:z04} {w w':World} (h:Wri B p dp l w) (hb:Below w.heap.size w w'):Wri B p dp l w':=⟨h.wr.next hb,h.tab.next (hb.mono h.le) h.gb,h.gb⟩
theorem Wri.drew {B p:Nat} {dp:Int} {l:z04} {w:World} (h:Wri B p dp l w):Wri B p dp l w.drew:=⟨h.wr.drew,h.tab,h.gb⟩
def z1r (r:Value) (B p:Nat) (dp:Int) (l:z04) (w:World) (e:Ending) (w':World):Prop:=e=.returned r∧Hid (Wri B p dp l w')∧Hid (Wk B p w w')
theorem z6G (s:ByteArray):Lib.strCells s=Lib.byteCells s.data.toList:=Lib.strCells_eq s
theorem z0v {B p:Nat} {dp:Int} {l:z04} {W:World} (h:Wri B p dp l W) (s:ByteArray) (hl:l.length+s.size≤2199023255552) :
  Calls Tryz.prog 50 #[.pointer (some ⟨p,0,none⟩),.string s] W (z1r (.tuple #[.int .i64 s.size,.nilIface]) B p dp (l++s.data.toList) W):=by
 refine (zaf B p dp (Lib.byteCells l) s W h.wr (by rw [Lib.byteCells_length]; omega) h.le).mono ?_
 rintro e w' ⟨rfl,h1,h2⟩
 rw [z6G,← Lib.byteCells_append] at h1
 exact ⟨rfl,zhi ⟨.inr h1,h.tab.next h2.bel h.gb,h.gb⟩,zhi h2⟩
theorem z1G {B p:Nat} {dp:Int} {l:z04} {W:World} (h:Wri B p dp l W) (c:UInt8) (z:Int) (hz:z=(c.toNat:Int)) (hl:l.length+1≤2199023255552) :
  Calls Tryz.prog 65 #[.pointer (some ⟨p,0,none⟩),.int .u8 z] W (z1r .nilIface B p dp (l++[c]) W):=by
 subst hz
 refine (zdg B p dp (Lib.byteCells l) (c.toNat:Int) W h.wr (by rw [Lib.byteCells_length]; omega) h.le).mono ?_
 rintro e w' ⟨rfl,h1,h2⟩
 have e1:Lib.byteCells l++[Value.int .u8 (c.toNat:Int)]=Lib.byteCells (l++[c]):=by rw [Lib.byteCells_append]; rfl
 rw [e1] at h1
 exact ⟨rfl,zhi ⟨.inr h1,h.tab.next h2.bel h.gb,h.gb⟩,zhi h2⟩
theorem ExV.wk {F:Nat→Prop} {B p n:Nat} {w w':World} {x:Ex} {v:Value} (h:ExV F w n x v) (hF:∀ q,F q→q<B) (hk:Wk B p w w'):ExV F w' n x v:=h.keep (fun _ h=>h) (fun q hq=>hk.bel.block q (hF q hq)) n x v
def ShP:Nat→Ex→Prop
 | 0,_=>False
 | d+1,.mk k o a _ s xs=>xs.length≤1000∧s.size≤1000∧0≤a∧a<9223372036854775808∧0≤o∧o≤11∧(∀ x∈xs,ShP d x) ∧
   (k=1∨k=13∨k=2∨k=3∨k=12∨k=11∨(k=4∧xs.length=1)∨(k=5∧xs.length=1)∨(k=6∧xs.length=2)∨(k=7∧xs.length=2)∨(k=8∧xs.length=2)∨k=9∨(k=10∧1≤xs.length))
def PrC (n:Nat):Prop:=∀ (F:Nat→Prop) (x:Ex) (v:Value) (B p:Nat) (dp:Int) (l:z04) (W:World),ExV F W n x v→(∀ q,F q→q<B)→ShP n x→Wri B p dp l W→l.length+(fmtE n x).length≤1099511627776 →
 Calls Tryz.prog 30 #[.pointer (some ⟨p,0,none⟩),v] W (z1r (.tuple #[]) B p dp (l++fmtE n x) W)
def opk (n:Nat) (b:Bool) (x:Ex):z04:=if b then 40 :: (fmtE n x++[41]) else fmtE n x
theorem z74 (W:World) (l:List Int) (T:TypeId):IRow (W.alloc (.cells (l.map (Value.int .i64)).toArray T)) (some ⟨W.heap.size,0,none⟩) l:=fun i x hx=>⟨_,rfl,by
 rw [cell_of_row _ _ i _ _ _ (heap_alloc_new W _)]
 simp [hx]⟩
structure PrS (F:Nat→Prop) (n:Nat) (x:Ex) (k o a ln:Int) (s:ByteArray) (A:Option Addr) (m c:Nat) (B p b:Nat) (dp:Int) (l:z04) (W w:World):Prop where
 wri:Wri B p dp l w
 ex:ExV F w n x (.agg #[.int .i64 k,.int .i64 o,.int .i64 a,.int .i64 ln,.string s,.slice A m c])
 hF:∀ q,F q→q<B
 row:w.heap[b]?=some (.cells #[.int .i64 k,.int .i64 o,.int .i64 a,.int .i64 ln,.string s,.slice A m c] 37 (0,0))
 ne:b≠p
 wk:Wk B p W w
theorem PrS.wrote {F:Nat→Prop} {n:Nat} {x:Ex} {k o a ln:Int} {s:ByteArray} {A:Option Addr} {m c B p b:Nat} {dp:Int} {l l':z04} {W w w':World} (h:PrS F n x k o a ln s A m c B p b dp l W w) (h1:Wri B p dp l' w') (h2:Wk B p w w'):PrS F n x k o a ln s A m c B p b dp l' W w' :=
 ⟨h1,ExV.wk h.ex h.hF h2,h.hF,(h2.oth b _ _ _ h.row (by decide) h.ne).trans h.row,h.ne,h.wk.trans h2⟩
theorem PrS.next {F:Nat→Prop} {n:Nat} {x:Ex} {k o a ln:Int} {s:ByteArray} {A:Option Addr} {m c B p b:Nat} {dp:Int} {l:z04} {W w w':World} (h:PrS F n x k o a ln s A m c B p b dp l W w) (h1:Below w.heap.size w w'):PrS F n x k o a ln s A m c B p b dp l W w' :=
 h.wrote (h.wri.next h1) (Wk.same h1 h.wri.le)
theorem PrS.box {F:Nat→Prop} {n:Nat} {x:Ex} {k o a ln:Int} {s:ByteArray} {A:Option Addr} {m c B p:Nat} {dp:Int} {l:z04} {W:World} (h:Wri B p dp l W) (hx:ExV F W n x (.agg #[.int .i64 k,.int .i64 o,.int .i64 a,.int .i64 ln,.string s,.slice A m c])) (hF:∀ q,F q→q<B) :
  PrS F n x k o a ln s A m c B p W.heap.size dp l W (W.alloc (.cells #[.int .i64 k,.int .i64 o,.int .i64 a,.int .i64 ln,.string s,.slice A m c] 37)):=by
 have hb0:=(Below.refl _ W).alloc (Nat.le_refl _) (.cells #[.int .i64 k,.int .i64 o,.int .i64 a,.int .i64 ln,.string s,.slice A m c] 37)
 have hlt:=h.wr.lt
 exact ⟨h.next hb0,ExV.wk hx hF (Wk.same (p:=p) hb0 h.le),hF,heap_alloc_new W _,by omega,Wk.same hb0 h.le⟩
theorem PrS.cells {F:Nat→Prop} {n:Nat} {x:Ex} {k o a ln:Int} {s:ByteArray} {A:Option Addr} {m c B p b:Nat} {dp:Int} {l:z04} {W w:World} (h:PrS F n x k o a ln s A m c B p b dp l W w) :
  w.cell? ⟨b,0,none⟩=some (.int .i64 k)∧w.cell? ⟨b,1,none⟩=some (.int .i64 o)∧w.cell? ⟨b,2,none⟩=some (.int .i64 a)∧w.cell? ⟨b,3,none⟩=some (.int .i64 ln)∧w.cell? ⟨b,4,none⟩=some (.string s)∧w.cell? ⟨b,5,none⟩=some (.slice A m c) :=
 ⟨cell_of_row _ _ 0 _ _ _ h.row,cell_of_row _ _ 1 _ _ _ h.row,cell_of_row _ _ 2 _ _ _ h.row,cell_of_row _ _ 3 _ _ _ h.row,cell_of_row _ _ 4 _ _ _ h.row,cell_of_row _ _ 5 _ _ _ h.row⟩
set_option maxRecDepth 100000 in
set_option maxHeartbeats 4000000 in
theorem z0Y {n:Nat} (ih:PrC n) (F:Nat→Prop) (x:Ex) (k o a ln:Int) (s:ByteArray) (A:Option Addr) (m c:Nat) (B p:Nat) (dp:Int) (l:z04) (W:World) (ks:List Int) (A2:Option Addr) (m2 c2:Nat) (b:Bool)
  (hx:ExV F W n x (.agg #[.int .i64 k,.int .i64 o,.int .i64 a,.int .i64 ln,.string s,.slice A m c])) (hF:∀ q,F q→q<B) (hs:ShP n x) (hw:Wri B p dp l W) (hl:l.length+(opk n b x).length≤1099511627776)
  (hk:ks.length=m2) (hmc:m2≤c2) (hm2:m2≤1000) (hr:IRow W A2 ks) (hb:(z0l k||ks.contains k)=b) :
  Calls Tryz.prog 53 #[.pointer (some ⟨p,0,none⟩),.agg #[.int .i64 k,.int .i64 o,.int .i64 a,.int .i64 ln,.string s,.slice A m c],.slice A2 m2 c2] W (z1r (.tuple #[]) B p dp (l++opk n b x) W):=by
 have h0:=PrS.box hw hx hF
 have H0:=zhi h0
 have hb0:=(Below.refl _ W).alloc (Nat.le_refl _) (.cells #[.int .i64 k,.int .i64 o,.int .i64 a,.int .i64 ln,.string s,.slice A m c] 37)
 have HI0:=zhi (hr.next hb0)
 have HB:=zhi hb
 have HS:=zhi hs
 have Ih:=zhi ih
 have HKs:=zhi hk
 obtain ⟨j0,j1,j2,j3,j4,j5⟩:=h0.cells
 clear hb0 h0 hx hF hs hw hr hb ih hk
 go_enter Tryz.func53,Tryz.ntmps53
 go_upto_region 1 with fail
 generalize W.alloc (.cells #[.int .i64 k,.int .i64 o,.int .i64 a,.int .i64 ln,.string s,.slice A m c] 37)=W1 at *
 generalize W.heap.size=q at *
 have hcm:([5,6,7,8]:List Int).contains k=z0l k:=by simp [z0l,Bool.or_assoc]
 obtain ⟨Z,hZ⟩:∃ Z:Obj,Z=.cells #[.int .i64 5,.int .i64 6,.int .i64 7,.int .i64 8] 3:=⟨_,rfl⟩
 have hz:=(Below.refl _ W1).alloc (Nat.le_refl _) Z
 have I1:=zhi (zbW (z0l k) k o a ln s A m c [5,6,7,8] (some ⟨W1.heap.size,0,none⟩) 4 4 (W1.alloc Z) hcm rfl (by decide) (by decide) (by rw [hZ]; exact z74 W1 [5,6,7,8] _))
 have HZ:=zhi hz
 subst hZ
 clear hcm hz
 go_wp2_with fail
 refine I1.out.mono ?_
 rintro e w2 ⟨rfl,hb2⟩
 have hb3:=z02 HZ.out hb2
 have H:=zhi (H0.out.next hb3)
 have HI:=zhi (HI0.out.next hb3)
 obtain ⟨i0,i1,i2,i3,i4,i5⟩:=H.out.cells
 clear hb2 hb3 I1 HZ H0 HI0 j0 j1 j2 j3 j4 j5
 cases hC:z0l k with
 | true =>
  have HE:Hid (b=true):=zhi (by rw [← HB.out,hC]; rfl)
  clear hC
  have HC:=zhi (z1G H.out.wri 40 40 rfl (by omega))
  have hlp:l.length+(fmtE n x).length+2≤1099511627776:=by
   have h2:=hl
   rw [HE.out] at h2
   simp [opk] at h2
   omega
  go_wp2_with fail
  refine HC.out.mono ?_
  rintro e w3 ⟨rfl,hw3,hk3⟩
  have H3:=zhi (H.out.wrote hw3.out hk3.out)
  have HX:=zhi (Ih.out F x _ B p dp _ w3 H3.out.ex H3.out.hF HS.out H3.out.wri (by simp; omega))
  obtain ⟨j0,j1,j2,j3,j4,j5⟩:=H3.out.cells
  clear hw3 hk3 HC H
  go_wp2_with fail
  refine HX.out.mono ?_
  rintro e w4 ⟨rfl,hw4,hk4⟩
  have H4:=zhi (H3.out.wrote hw4.out hk4.out)
  have HD:=zhi (z1G H4.out.wri 41 41 rfl (by simp; omega))
  clear hw4 hk4 HX H3 j0 j1 j2 j3 j4 j5
  go_wp2_with fail
  refine HD.out.mono ?_
  rintro e w5 ⟨rfl,hw5,hk5⟩
  have H5:=zhi (H4.out.wrote hw5.out hk5.out)
  clear hw5 hk5 HD H4
  go_wp2_with fail
  go_end0
  exact ⟨rfl,zhi (by rw [HE.out]; have:=H5.out.wri; simpa [opk] using this),zhi H5.out.wk⟩
 | false =>
  have HCk:=zhi hC
  clear hC
  have I2:=zhi (zbW (ks.contains k) k o a ln s A m c ks A2 m2 c2 w2 rfl HKs.out hmc hm2 HI.out)
  go_wp2_with fail
  refine I2.out.mono ?_
  rintro e w6 ⟨rfl,hb6⟩
  have H6:=zhi (H.out.next hb6)
  clear I2 hb6 HI i0 i1 i2 i3 i4 i5 H
  rename Hid (PrS F n x k o a ln s A m c B p q dp l W w6)=>H
  obtain ⟨i0,i1,i2,i3,i4,i5⟩:=H.out.cells
  cases hD:ks.contains k with
  | true =>
   have HE:Hid (b=true):=zhi (by rw [← HB.out,HCk.out,hD]; rfl)
   clear hD
   have HC:=zhi (z1G H.out.wri 40 40 rfl (by omega))
   have hlp:l.length+(fmtE n x).length+2≤1099511627776:=by
    have h2:=hl
    rw [HE.out] at h2
    simp [opk] at h2
    omega
   go_wp2_with fail
   refine HC.out.mono ?_
   rintro e w3 ⟨rfl,hw3,hk3⟩
   have H3:=zhi (H.out.wrote hw3.out hk3.out)
   have HX:=zhi (Ih.out F x _ B p dp _ w3 H3.out.ex H3.out.hF HS.out H3.out.wri (by simp; omega))
   obtain ⟨j0,j1,j2,j3,j4,j5⟩:=H3.out.cells
   clear hw3 hk3 HC H
   go_wp2_with fail
   refine HX.out.mono ?_
   rintro e w4 ⟨rfl,hw4,hk4⟩
   have H4:=zhi (H3.out.wrote hw4.out hk4.out)
   have HD:=zhi (z1G H4.out.wri 41 41 rfl (by simp; omega))
   clear hw4 hk4 HX H3 j0 j1 j2 j3 j4 j5
   go_wp2_with fail
   refine HD.out.mono ?_
   rintro e w5 ⟨rfl,hw5,hk5⟩
   have H5:=zhi (H4.out.wrote hw5.out hk5.out)
   clear hw5 hk5 HD H4
   go_wp2_with fail
   go_end0
   exact ⟨rfl,zhi (by rw [HE.out]; have:=H5.out.wri; simpa [opk] using this),zhi H5.out.wk⟩
  | false =>
   have HE:Hid (b=false):=zhi (by rw [← HB.out,HCk.out,hD]; rfl)
   clear hD
   have HX:=zhi (Ih.out F x _ B p dp _ w6 H.out.ex H.out.hF HS.out H.out.wri (by
    have h2:=hl
    rw [HE.out] at h2
    exact h2))
   go_wp2_with fail
   refine HX.out.mono ?_
   rintro e w7 ⟨rfl,hw7,hk7⟩
   have H7:=zhi (H.out.wrote hw7.out hk7.out)
   clear hw7 hk7 HX H
   go_wp2_with fail
   go_end0
   exact ⟨rfl,zhi (by rw [HE.out]; have:=H7.out.wri; simpa [opk] using this),zhi H7.out.wk⟩
def cmB (l:List z04):z04:=([44,32]:z04).intercalate l
theorem zbN (sep x y:z04) (r:List z04):sep.intercalate (x :: y :: r)=x++sep++sep.intercalate (y :: r):=by simp [List.intercalate,List.intersperse]
theorem zbM (sep:z04):∀ (l:List z04) (a:z04),sep.intercalate (l++[a])=if l=[] then a else sep.intercalate l++sep++a
 | [],a=>by simp [List.intercalate]
 | [x],a=>by simp [List.intercalate,List.intersperse]
 | x :: y :: r,a=>by
  have ih:sep.intercalate (y :: (r++[a]))=sep.intercalate (y :: r)++sep++a:=by
   have:=zbM sep (y :: r) a
   rwa [if_neg (by simp)] at this
  rw [if_neg (by simp)]
  show sep.intercalate (x :: y :: (r++[a]))=_
  rw [zbN,zbN,ih]
  simp
theorem z8p (l:List z04) (a:z04):cmB (l++[a])=if l=[] then a else cmB l++[44,32]++a:=zbM _ l a
theorem z8q (l:List z04):∀ k,(cmB (l.take k)).length≤(cmB l).length:=by
 have key:∀ n k,k+n=l.length→(cmB (l.take k)).length≤(cmB l).length:=by
  intro n
  induction n with
  | zero=>intro k hk; rw [List.take_of_length_le (by omega)]; exact Nat.le_refl _
  | succ n ih =>
   intro k hk
   have h1:=ih (k+1) (by omega)
   rw [List.take_succ_eq_append_getElem (by omega),z8p] at h1
   split at h1
   ·rename_i h; rw [h]; simp [cmB,List.intercalate]
   ·simp at h1; omega
 intro k
 by_cases hk:k≤l.length
 ·exact key (l.length - k) k (by omega)
 ·rw [List.take_of_length_le (by omega)]; exact Nat.le_refl _
theorem zdt (l:List z04) (k:Nat) (a:z04) (h:l[k]?=some a):(cmB (l.take (k+1))).length≤(cmB l).length∧cmB (l.take (k+1))=if k=0 then a else cmB (l.take k)++[44,32]++a:=by
 have hlt:k<l.length:=by
  rcases Nat.lt_or_ge k l.length with h' | h'
  ·exact h'
  ·rw [List.getElem?_eq_none h'] at h; cases h
 rw [List.getElem?_eq_getElem hlt] at h
 injection h with h
 refine ⟨z8q l _,?_⟩
 rw [List.take_succ_eq_append_getElem hlt,h,z8p]
 by_cases h0:k=0
 ·subst h0; simp
 ·rw [if_neg h0,if_neg (by intro hh; have:=congrArg List.length hh; rw [List.length_take,List.length_nil] at this; omega)]
theorem z9M {F:Nat→Prop} {w:World} {n k:Nat} {xs:List Ex} {A:Option Addr} {c:Nat} {x:Ex} (h:RowE F w n xs A c) (hx:xs[k]?=some x) :
  ∃ g off k' o a ln s A' m' c',A=some ⟨g,off,none⟩∧F g∧w.cell? ⟨g,off+k * 6,none⟩=some (.int .i64 k')∧w.cell? ⟨g,off+k * 6+1,none⟩=some (.int .i64 o)∧w.cell? ⟨g,off+k * 6+2,none⟩=some (.int .i64 a)∧w.cell? ⟨g,off+k * 6+3,none⟩=some (.int .i64 ln)∧w.cell? ⟨g,off+k * 6+4,none⟩=some (.string s)∧w.cell? ⟨g,off+k * 6+5,none⟩=some (.slice A' m' c')∧ExV F w n x (.agg #[.int .i64 k',.int .i64 o,.int .i64 a,.int .i64 ln,.string s,.slice A' m' c'])∧x.kind=k':=by
 obtain ⟨g,off,c0,c1,c2,c3,c4,c5,hA,hg,h0,h1,h2,h3,h4,h5,hv⟩:=h.2 k x hx
 obtain ⟨k',o,a,ln,s,A',m',c',e,hk⟩:=z0z hv
 have hkk:=hk k' e
 injection e with e
 injection e with e
 injection e with e0 e
 injection e with e1 e
 injection e with e2 e
 injection e with e3 e
 injection e with e4 e
 injection e with e5 _
 subst e0 e1 e2 e3 e4 e5
 exact ⟨g,off,k',o,a,ln,s,A',m',c',hA,hg,h0,h1,h2,h3,h4,h5,hv,hkk⟩
set_option maxRecDepth 100000 in
set_option maxHeartbeats 4000000 in
theorem z1S {n:Nat} (ih:PrC n) (F:Nat→Prop) (xs:List Ex) (A:Option Addr) (c m:Nat) (B p:Nat) (dp:Int) (l:z04) (W:World) (hr:RowE F W n xs A c) (hF:∀ q,F q→q<B) (hs:∀ x∈xs,ShP n x) (hm:xs.length=m) (hm1:m≤1000) (hw:Wri B p dp l W) (hl:l.length+(lst n xs).length≤1099511627776) :
  Calls Tryz.prog 54 #[.pointer (some ⟨p,0,none⟩),.slice A m c] W (z1r (.tuple #[]) B p dp (l++lst n xs) W):=by
 have hmc:m≤c:=by have:=hr.1; omega
 have HL:Hid (lst n xs=40 :: (cmB (xs.map (fmtE n))++[41])):=zhi rfl
 rw [HL.out] at hl ⊢
 have HR:=zhi hr
 have HF:=zhi hF
 have HS:=zhi hs
 have HM:=zhi hm
 have Ih:=zhi ih
 have HC:=zhi (z1G hw 40 40 rfl (by simp at hl; omega))
 clear hr hF hs hm ih hw HL
 go_enter Tryz.func54,Tryz.ntmps54
 go_wp2_with fail
 refine HC.out.mono ?_
 rintro e w1 ⟨rfl,hw1,hk1⟩
 clear HC
 simp only [List.length_cons,List.length_append,List.length_nil] at hl
 go_wp2_with fail
 go_loopw [12] (fun i wr=>∃ k:Nat,k≤m∧i=.int .i64 (k:Int)∧Hid (Wri B p dp (l++40 :: cmB ((xs.map (fmtE n)).take k)) wr)∧Hid (Wk B p W wr)) (fun i _=>m - (intOf i).toNat)
 case atStart=>exact ⟨0,Nat.zero_le _,rfl,by simpa [cmB,List.intercalate] using hw1,hk1⟩
 case round =>
  obtain ⟨k,hk,rfl,hwr,hkr⟩:=hrel
  have hct:=z8q (xs.map (fmtE n)) k
  by_cases hlt:k<m
  ·obtain ⟨x,hx⟩:∃ x,xs[k]?=some x:=⟨xs[k]'(by rw [HM.out]; exact hlt),List.getElem?_eq_getElem _⟩
   obtain ⟨g,off,k',o,a,ln,s,A',m',c',rfl,hg,e0,e1,e2,e3,e4,e5,hv,hkk⟩:=z9M HR.out hx
   have hh:∀ (j:Nat) (v:Value),W.cell? ⟨g,j,none⟩=some v→wr.cell? ⟨g,j,none⟩=some v:=fun j v hv=>(World.cell?_of_block (hkr.out.bel.block g (HF.out g hg))).trans hv
   have d0:=hh _ _ e0
   have d1:=hh _ _ e1
   have d2:=hh _ _ e2
   have d3:=hh _ _ e3
   have d4:=hh _ _ e4
   have d5:=hh _ _ e5
   have HX:=zhi (PrS.box (F:=F) (n:=n) (x:=x) hwr.out (ExV.wk hv HF.out hkr.out) HF.out)
   have hcg:=zdt (xs.map (fmtE n)) k (fmtE n x) (by simp [hx])
   have HSx:=zhi (HS.out x (List.mem_of_getElem? hx))
   have hle:=hcg.1
   have hsz:List.length l+((cmB ((xs.map (fmtE n)).take k)).length+1)+2+(fmtE n x).length≤1099511627776∨k=0∧List.length l+((cmB ((xs.map (fmtE n)).take k)).length+1)+(fmtE n x).length≤1099511627776:=by
    rw [hcg.2] at hle
    by_cases h0:k=0
    ·subst h0
     simp only [if_true] at hle
     exact .inr ⟨rfl,by simp [cmB,List.intercalate] at hl hle ⊢; omega⟩
    ·rw [if_neg h0] at hle
     simp only [List.length_append,List.length_cons,List.length_nil] at hle
     exact .inl (by omega)
   clear e0 e1 e2 e3 e4 e5 hv hkk hh hx hg hle hwr hct
   go_upto_region 4 with fail
   generalize wr.alloc (.cells #[.int .i64 k',.int .i64 o,.int .i64 a,.int .i64 ln,.string s,.slice A' m' c'] 37)=w2 at *
   generalize wr.heap.size=q at *
   have HCg:=zhi hcg.2
   by_cases h0:k=0
   ·subst h0
    have hz:List.length l+((cmB ((xs.map (fmtE n)).take 0)).length+1)+(fmtE n x).length≤1099511627776:=by
     rcases hsz with h | h
     ·omega
     ·exact h.2
    have HE:=zhi (Ih.out F x _ B p dp _ w2 HX.out.ex HX.out.hF HSx.out HX.out.wri (by simp only [List.length_append,List.length_cons]; omega))
    obtain ⟨i0,i1,i2,i3,i4,i5⟩:=HX.out.cells
    clear hsz hz hcg d0 d1 d2 d3 d4 d5
    go_wp2_with fail
    refine HE.out.mono ?_
    rintro e w3 ⟨rfl,hw3,hk3⟩
    have H3:=zhi (HX.out.wrote hw3.out hk3.out)
    have HW3:Hid (Wri B p dp (l++40 :: cmB ((xs.map (fmtE n)).take (0+1))) w3):=zhi (by rw [HCg.out]; simpa [cmB,List.intercalate] using H3.out.wri)
    have HK3:=zhi (hkr.out.trans H3.out.wk)
    clear hw3 hk3 HE HX H3 i0 i1 i2 i3 i4 i5
    go_wp2_with fail
    exact ⟨⟨0+1,by omega,by go_num,HW3,HK3⟩,by simp [intOf]; omega⟩
   ·have hz:List.length l+((cmB ((xs.map (fmtE n)).take k)).length+1)+2+(fmtE n x).length≤1099511627776:=by
     rcases hsz with h | h
     ·exact h
     ·exact absurd h.1 h0
    have hkp:0<k:=by omega
    have HG2:Hid (cmB ((xs.map (fmtE n)).take (k+1))=cmB ((xs.map (fmtE n)).take k)++[44,32]++fmtE n x):=zhi (by rw [HCg.out,if_neg h0])
    have HE:=zhi (z0v HX.out.wri ⟨#[44,32]⟩ (by
     have:(⟨#[44,32]⟩:ByteArray).size=2:=rfl
     rw [this]
     simp only [List.length_append,List.length_cons]
     omega))
    clear hsz hcg d0 d1 d2 d3 d4 d5 HCg h0
    go_wp2_with fail
    refine HE.out.mono ?_
    rintro e w3 ⟨rfl,hw3,hk3⟩
    have H3:=zhi (HX.out.wrote hw3.out hk3.out)
    have HE2:=zhi (Ih.out F x _ B p dp _ w3 H3.out.ex H3.out.hF HSx.out H3.out.wri (by simp only [List.length_append,List.length_cons,List.length_nil]; omega))
    obtain ⟨i0,i1,i2,i3,i4,i5⟩:=H3.out.cells
    clear hw3 hk3 HE HX hz
    go_wp2_with fail
    refine HE2.out.mono ?_
    rintro e w4 ⟨rfl,hw4,hk4⟩
    have H4:=zhi (H3.out.wrote hw4.out hk4.out)
    have HW3:Hid (Wri B p dp (l++40 :: cmB ((xs.map (fmtE n)).take (k+1))) w4):=zhi (by rw [HG2.out]; simpa using H4.out.wri)
    have HK3:=zhi (hkr.out.trans H4.out.wk)
    clear hw4 hk4 HE2 H3 H4 i0 i1 i2 i3 i4 i5 HG2
    go_wp2_with fail
    exact ⟨⟨k+1,by omega,by go_num,HW3,HK3⟩,by simp [intOf]; omega⟩
  ·obtain rfl:k=m:=by omega
   have HW2:Hid (Wri B p dp (l++40 :: cmB (xs.map (fmtE n))) wr):=zhi (by
    have:=hwr.out
    rwa [List.take_of_length_le (by simp; rw [HM.out]; exact Nat.le_refl _)] at this)
   have HE:=zhi (z1G HW2.out 41 41 rfl (by simp only [List.length_append,List.length_cons]; omega))
   clear hwr hct
   go_wp2_with fail
   refine HE.out.mono ?_
   rintro e w3 ⟨rfl,hw3,hk3⟩
   have HK3:=zhi (hkr.out.trans hk3.out)
   clear hk3 HE
   go_wp2_with fail
   go_end0
   exact ⟨rfl,zhi (by simpa using hw3.out),HK3⟩
end Go.Proofs.YtkeihncfmbicnaaGreatDoor
