/-
  Mo: Yq, Yr, OpI. Part of the proof. No condition.
-/
import Derived.Test.YtleicdfkagejoaaMb
import Derived.Lib.AppendZerosOnto
import Derived.Test.YtleicdfkagejoaaMm
import Derived.Test.YtleicdfkagejoaaKb
namespace Go.Proofs.Ytleicdfkagejoaa
open Go.RowKit
theorem z31 (n:Nat):(Builtin.zeroCells #[Value.int .i64 0] n).toList=(List.replicate n (0:Int)).map (Value.int .i64):=by
 unfold Builtin.zeroCells
 apply List.ext_getElem
 ·simp
 ·intro i h1 h2
  simp [Nat.mod_one]
theorem z4C {w:World} {base n cap:Nat} {xs:List Int} (hb:base≤w.heap.size) (hn:xs.length=n) (hc:n≤cap) (hm:cap≤maxLen) (cells:Array Value) (hs:cells.size=cap) (ht:cells.toList.take n=xs.map (Value.int .i64)) :
  (w.drew.alloc (.cells cells 3)).ownsRow base 3 1 (.slice (some ⟨w.heap.size,0,none⟩) n cap) n (xs.map (Value.int .i64)) :=
 ⟨by simp [hn],.inr ⟨w.heap.size,cap,cells,rfl,hb,heap_alloc_new w.drew _,hc,hm,by rw [hs,Nat.mul_one],by rw [Nat.mul_one]; exact ht⟩⟩
set_option maxRecDepth 10000 in
theorem zdp {w:World} (ty:TypeId) (base n c:Nat) (A:Option Addr) (xs:List Int) (k:Nat) (hown:w.ownsRow base 3 1 (.slice A n c) n (xs.map (Value.int .i64))) (h0:0<k) (hk:n+k≤100000) (hb:base≤w.heap.size) :
  ∃ g cap w',(Builtin.append_ #[23,3] ty #[.slice A n c,.int .i64 (k:Int)]).run Try.prog w=.ok (.slice (some ⟨g,0,none⟩) (n+k) cap) w'∧w'.ownsRow base 3 1 (.slice (some ⟨g,0,none⟩) (n+k) cap) (n+k) ((xs++List.replicate k 0).map (Value.int .i64))∧w.grownBy w' (Value.slice A n c).ownBlock:=by
 obtain ⟨i,hi,hz,hsz,hby⟩:=info_parts z2G
 have hx:xs.length=n:=by have:=hown.1; simpa using this
 have hzc:(Value.int .i64 0).cells=#[Value.int .i64 0]:=rfl
 have hcell:∀ cap,n+k≤cap→∀ pre:Array Value,pre.toList=xs.map (Value.int .i64)→(pre++Builtin.zeroCells (Value.int .i64 0).cells k++Builtin.zeroCells (Value.int .i64 0).cells (cap - (n+k))).size=cap∧(pre++Builtin.zeroCells (Value.int .i64 0).cells k++Builtin.zeroCells (Value.int .i64 0).cells (cap - (n+k))).toList.take (n+k)=(xs++List.replicate k 0).map (Value.int .i64):=by
  intro cap hcap pre hpre
  have hps:pre.size=n:=by rw [← Array.length_toList,hpre,List.length_map,hx]
  refine ⟨by simp [size_zeroCells,hzc,hps]; omega,?_⟩
  rw [hzc,Array.toList_append,Array.toList_append,hpre,z31,z31,← List.map_append]
  exact List.take_left' (by simp [hx])
 rcases hown.2 with ⟨e,h00⟩ | ⟨g,cap,cur,e,hbg,hg,hnc,hcm,hcs,htk⟩
 ·injection e with e1 e2 e3
  subst e1 e2 e3
  have hxn:xs=[]:=List.eq_nil_of_length_eq_zero hx
  have hr:=Lib.run_append_nil_zeros (P:=Try.prog) w 23 3 ty 3 i (.int .i64 0) .i64 .i64 Try.underlying23 Try.underlying3 hi hz k h0 (by omega) (by omega) (by rw [hby]; omega)
  have hge:=grownCap_ge w k 0 3
  obtain ⟨q1,q2⟩:=hcell (grownCap w k 0 3) (by omega) #[] (by rw [hxn]; rfl)
  simp only [Nat.zero_add,Array.empty_append] at q1 q2 ⊢
  exact ⟨_,_,_,hr,z4C hb (by simp [hxn]) hge (grownCap_le_maxLen w k 0 _ (by unfold maxLen; omega)) _ q1 q2,⟨rfl,rfl,rfl,by simp,fun b hb' _=>heap_alloc_old w.drew _ (show b<w.drew.heap.size from hb')⟩⟩
 ·injection e with e1 e2 e3
  subst e1 e3
  rw [Nat.mul_one] at hcs htk
  by_cases hroom:n+k≤c
  ·have hnews:(Builtin.zeroCells (Value.int .i64 0).cells k).toList=(List.replicate k (0:Int)).map (Value.int .i64):=by rw [hzc]; exact z31 k
   have hst:=run_storeCells_at Try.prog g (n * i.size) 3 ((List.replicate k (0:Int)).map (Value.int .i64)) 0 cur w hg (by simp [hsz]; omega) (fun u hu=>by
    obtain ⟨x,_,rfl⟩:=List.mem_map.1 hu
    rfl)
   have hw:IntKind.i64.wrap (k:Int)=k:=by rw [IntKind.wrap_i64]; omega
   have h48i:¬ (281474976710656<(k:Int) * (i.bytes:Int)):=by rw [hby]; omega
   have hneg:¬ ((k:Int)<0):=by omega
   have hns:¬ (k * i.size=0):=by rw [hsz]; omega
   refine ⟨g,c,w.setRow g (cur.toList.take (n * i.size)++((List.replicate k (0:Int)).map (Value.int .i64))++cur.toList.drop (n * i.size+((List.replicate k (0:Int)).map (Value.int .i64)).length)).toArray,?_,⟨by simp [hx],.inr ⟨g,c,_,rfl,hbg,setRow_heap w g cur _ 3 _ hg,hroom,hcm,?_,?_⟩⟩,⟨rfl,rfl,rfl,by simp,fun b _ hk=>setRow_other w g b _ (fun e=>hk (by simp [Value.ownBlock,e]))⟩⟩
   ·simp only [Nat.add_zero,List.map_replicate,List.length_replicate,List.append_assoc] at hst
    simp [Builtin.append_,run_underlying Try.underlying23,run_underlying Try.underlying3,sizeOf,typeInfo,zeroValue,hi,hz,asInt,asIntOf,hw,hroom,hneg,hns,h48i,Addr.add_lit,hnews,hst]
   ·simp [hsz]
    omega
   ·rw [hsz,Nat.mul_one,Nat.mul_one,htk,← List.map_append]
    exact List.take_left' (by simp [hx])
  ·have holds:∀ j u,(xs.map (Value.int .i64))[j]?=some u→w.cell? ((⟨g,0,none⟩:Addr).add j)=some u:=hown.cells (g:=g) rfl
   have hf:=run_firstCells_some (P:=Try.prog) w.drew i.size n ⟨g,0,none⟩ n c (xs.map (Value.int .i64)) (by simp [hx,hsz]) holds
   have hr:=Lib.run_append_grow_zeros (P:=Try.prog) w 23 3 ty 3 i (.int .i64 0) .i64 .i64 Try.underlying23 Try.underlying3 hi hz (some ⟨g,0,none⟩) n c (xs.map (Value.int .i64)) hf k h0 (by omega) (by omega) (by omega) (by rw [hby]; omega) (growslice_fits (by omega) (by rw [hby]; omega))
   have hge:=grownCap_ge w (n+k) c 3
   obtain ⟨q1,q2⟩:=hcell (grownCap w (n+k) c 3) hge (xs.map (Value.int .i64)).toArray rfl
   exact ⟨_,_,_,hr,z4C hb (by simp [hx]) hge (grownCap_le_maxLen w (n+k) c _ (by unfold maxLen; omega)) _ q1 q2,⟨rfl,rfl,rfl,by simp,fun b hb' _=>heap_alloc_old w.drew _ (show b<w.drew.heap.size from hb')⟩⟩
set_option maxRecDepth 10000 in
theorem zdo {w:World} (ty:TypeId) (base n c:Nat) (A:Option Addr) (xs ys:List Int) (B:Option Addr) (m d:Nat) (hown:w.ownsRow base 3 1 (.slice A n c) n (xs.map (Value.int .i64))) (hy:ys.length=m) (hrd:Rd w B (ys.map (Value.int .i64))) (hd:B=none→d=0) (hk:n+m≤100000) (hb:base≤w.heap.size) :
  ∃ A' cap w',(Builtin.append_ #[23,23] ty #[.slice A n c,.slice B m d]).run Try.prog w=.ok (.slice A' (n+m) cap) w'∧w'.ownsRow base 3 1 (.slice A' (n+m) cap) (n+m) ((xs++ys).map (Value.int .i64))∧w.grownBy w' (Value.slice A n c).ownBlock:=by
 obtain ⟨i,hi,hz,hsz,hby⟩:=info_parts z2G
 cases B with
 | none =>
  have hm:ys=[]:=by
   cases ys with
   | nil=>rfl
   | cons y l =>
    obtain ⟨ad,e,_⟩:=hrd 0 (.int .i64 y) rfl
    cases e
  subst hm
  have hm0:m=0:=by simpa using hy.symm
  subst hm0
  rw [hd rfl]
  exact ⟨A,c,w,run_append_owned_none (P:=Try.prog) w base 23 ty 3 i 1 Try.underlying23 hi _ n _ hown,by simpa using hown,⟨rfl,rfl,rfl,Nat.le_refl _,fun _ _ _=>rfl⟩⟩
 | some ad =>
  obtain ⟨v',w',hr,ho,hg,_,_⟩:=run_append_own_at (P:=Try.prog) w base 23 ty 3 i _ 1 8 Try.underlying23 hi hz hsz hby rfl (by decide) (.slice A n c) n (xs.map (Value.int .i64)) hown ad m d (ys.map (Value.int .i64)) (by simp [hy]) (fun j u hu=>by
   obtain ⟨a2,e,hc⟩:=hrd j u hu
   injection e with e
   subst e
   exact hc) (fun u hu=>by
   obtain ⟨x,_,rfl⟩:=List.mem_map.1 hu
   rfl) (by unfold maxLen; omega) (by omega) hb
  obtain ⟨lA,lc,rfl⟩:=z0t ho
  exact ⟨lA,lc,w',hr,by simpa using ho,hg⟩
end Go.Proofs.Ytleicdfkagejoaa
namespace Go.Proofs.Ytleicdfkagejoaa
open Go.RowKit
def InAz (st:Int) (a b:List Int):Prop:=∃ j:Nat,700 - st≤(j:Int)∧b=a++List.replicate j 0
theorem zei (st:Int) (a b:List Int) (h:InAz st a b):InAz (st+1) a b:=by
 obtain ⟨j,h1,h2⟩:=h
 exact ⟨j,by omega,h2⟩
theorem zej (ls:Int) (hl:ls≤600) (st:Int) (a b:List Int) (hs:st<ls) (h:InAz st a b):a.headD 0=b.headD 0∧InAz (st+1) a.tail b.tail:=by
 obtain ⟨j,h1,rfl⟩:=h
 cases a with
 | nil =>
  obtain ⟨q,rfl⟩:∃ q,j=q+1:=⟨j - 1,by omega⟩
  exact ⟨by simp [List.replicate_succ],q,by omega,by simp [List.replicate_succ]⟩
 | cons x r=>exact ⟨rfl,j,by omega,rfl⟩
def InBz (m:List Int) (st:Int) (a b:List Int):Prop:=700 - st≤(a.length:Int)∧b=a++m
theorem zek (m:List Int) (st:Int) (a b:List Int) (h:InBz m st a b):InBz m (st+1) a b:=⟨by have:=h.1; omega,h.2⟩
theorem zem (m:List Int) (ls:Int) (hl:ls≤600) (st:Int) (a b:List Int) (hs:st<ls) (h:InBz m st a b):a.headD 0=b.headD 0∧InBz m (st+1) a.tail b.tail:=by
 obtain ⟨h1,rfl⟩:=h
 cases a with
 | nil=>simp at h1; omega
 | cons x r =>
  refine ⟨rfl,?_,rfl⟩
  simp at h1 ⊢
  omega
theorem zcA {d:Int} {gl:GlL} {fl:List Fn} (inp more:List Int):((zSrc 600 d gl fl inp).1=(zSrc 600 d gl fl (inp++List.replicate 700 0)).1∧(zSrc 600 d gl fl inp).2.st=(zSrc 600 d gl fl (inp++List.replicate 700 0)).2.st∧(zSrc 600 d gl fl inp).2.out=(zSrc 600 d gl fl (inp++List.replicate 700 0)).2.out) ∧
  ((zSrc 600 d gl fl (inp++List.replicate 700 0)).1=(zSrc 600 d gl fl (inp++List.replicate 700 0++more)).1∧(zSrc 600 d gl fl (inp++List.replicate 700 0)).2.st=(zSrc 600 d gl fl (inp++List.replicate 700 0++more)).2.st∧(zSrc 600 d gl fl (inp++List.replicate 700 0)).2.out=(zSrc 600 d gl fl (inp++List.replicate 700 0++more)).2.out) :=
 ⟨z5T (I:=InAz) zei (zej 600 (by decide)) ⟨700,by omega,rfl⟩,z5T (I:=InBz more) (zek more) (zem more 600 (by decide)) ⟨by rw [List.length_append,List.length_replicate]; omega,rfl⟩⟩
theorem MdZ.other {gl:GlL} {fl:List Fn} {gA fA iA jA:Option Addr} {gc fc ic jc B:Nat} {inp jnp:List Int} {w:World} (h:MdZ gl fl gA gc fA fc inp iA ic B w) (hi:Rd w jA (jnp.map (Value.int .i64))) (hb:∀ ad,jA=some ad→ad.block<w.heap.size) (hl:jnp.length≤jc∧jnp.length≤1000000):MdZ gl fl gA gc fA fc jnp jA jc w.heap.size w :=
 ⟨h.ok,h.gg,h.gf,z39 h.g (fun _ hb'=>⟨Nat.lt_of_lt_of_le hb' h.b,rfl⟩),z38 h.f (fun _ hb'=>⟨Nat.lt_of_lt_of_le hb' h.b,rfl⟩),hi,hb,hl,Nat.le_refl _⟩
theorem zbX {w:World} {base n c:Nat} {A:Option Addr} {xs:List Int} (h:w.ownsRow base 3 1 (.slice A n c) n (xs.map (Value.int .i64))):xs.length=n∧n≤c∧Rd w A (xs.map (Value.int .i64))∧(∀ ad,A=some ad→base≤ad.block∧ad.block<w.heap.size)∧(A=none→c=0):=by
 have hx:xs.length=n:=by have:=h.1; simpa using this
 rcases h.2 with ⟨e,h0⟩ | ⟨g,cap,cur,e,hb,hh,hc,_,hsz,htk⟩
 ·injection e with e1 e2 e3
  subst e1 e2 e3
  have hn:xs=[]:=List.eq_nil_of_length_eq_zero hx
  subst hn
  exact ⟨rfl,Nat.le_refl _,fun j u hu=>by simp at hu,fun ad e=>(by cases e),fun _=>rfl⟩
 ·injection e with e1 e2 e3
  subst e1 e3
  refine ⟨hx,hc,fun j u hu=>⟨_,rfl,?_⟩,fun ad e=>?_,fun e=>(by cases e)⟩
  ·rw [Addr.add_lit,Nat.zero_add,cell_of_row _ _ j _ _ _ hh]
   have h2:(cur.toList.take (n * 1))[j]?=some u:=by rw [htk]; exact hu
   have hlt:=(List.getElem?_eq_some_iff.1 hu).1
   rw [List.length_map] at hlt
   rw [List.getElem?_take,if_pos (by omega)] at h2
   simpa using h2
  ·injection e with e
   subst e
   exact ⟨hb,(Array.getElem?_eq_some_iff.1 hh).1⟩
theorem z7W {ops:Array Oper} {o:Oper} {a:Act} {K:Act→World→Prop} {Q:Exit→Act→World→Prop} {E:Prop} (w:World) (hgd:o.guard=none) (s x:Operand)
  (ho:o.op=.call { callee:=.builtin .append,args:=#[s,x],argTypes:=#[23,23] }) (base n c:Nat) (A:Option Addr) (xs ys:List Int) (B:Option Addr) (m d:Nat) (hs:a.eval s=.slice A n c) (hx:a.eval x=.slice B m d) (hown:w.ownsRow base 3 1 (.slice A n c) n (xs.map (Value.int .i64))) (hy:ys.length=m) (hrd:Rd w B (ys.map (Value.int .i64))) (hd:B=none→d=0) (hk:n+m≤100000) (hb:base≤w.heap.size)
  (hK:∀ A' cap w',w'.ownsRow base 3 1 (.slice A' (n+m) cap) (n+m) ((xs++ys).map (Value.int .i64))→w.grownBy w' (Value.slice A n c).ownBlock→K (a.put o.dst (.slice A' (n+m) cap)) w') :
  if Region.wanted o (yielded ops a.tmps)=true then Oper.wp Try.prog o a w K Q else E:=by
 have hw:Region.wanted o (yielded ops a.tmps)=true:=by simp [Region.wanted,hgd]
 rw [if_pos hw]
 obtain ⟨A',cap,w',hr,h1,h2⟩:=zdo o.type base n c A xs ys B m d hown hy hrd hd hk hb
 exact Lib.wp_append_run w s x _ _ ho _ _ hs hx _ _ hr (hK A' cap w' h1 h2)
set_option maxRecDepth 100000 in
set_option maxHeartbeats 1000000 in
theorem z97 (A0:Option Addr) (m c0:Nat) (A1:Option Addr) (k c1:Nat) (w:World) (hk:50<k) :
  Calls Try.prog 3 #[.slice A0 m c0,.slice A1 k c1] w fun e w'=>e=.returned (.bool true)∧Below w.heap.size w w':=by
 have ha:=zhi (z8f w)
 go_enter Try.func3,Try.ntmps3
 go_wp2_with fail
 refine ha.out.mono ?_
 rintro e w1 ⟨rfl,hb1⟩
 have Hb1:=zhi hb1
 clear ha hb1
 have i1:(50<(k:Int))=True:=by simp; omega
 go_wp2_with fail
 go_ret
 exact ⟨rfl,Hb1.out⟩
end Go.Proofs.Ytleicdfkagejoaa
namespace Go.Proofs.Ytleicdfkagejoaa
open Go.ChangeShapes Go.WideShapes Go.ChangeAt Go.RowKit
section
variable {H:Type} {enc:TypeId × Value→H} {P:Program}
theorem open_i64s {W:World} {base:Nat} {T E:TypeId} {v:Value} {d:DataW H} {p:List MemPlace} (hT:P.underlying T=some (.slice E)) (hE:P.underlying E=some (.int .i64)) (hc:P.cellsOf E=1) (hv:Value.okWide P W .any base T v)
  (h:DataW.Trod enc P W 0 (fun _=>true) true T v d p):∃ (A:Option Addr) (l:List Int) (k c:Nat),v=.slice A k c∧l.length=k∧Rd W A (l.map (Value.int .i64))∧k≤c∧c≤maxLen∧(A=none→c=0)∧(∀ ad,A=some ad→l≠[]→ad.block<W.heap.size):=by
 obtain ⟨a0,len,cap,rfl⟩:=okWide_slice hT hv
 obtain ⟨fuel,hf⟩:=h
 rcases open_ints hT hE hc hf with ⟨hcs,_⟩ | ⟨a,len',cap',zs,hcs,_,hl,hm,hz,_,hcell,_⟩
 ·simp [Value.cells] at hcs
  obtain ⟨rfl,rfl,rfl⟩:=hcs
  exact ⟨none,[],0,0,rfl,rfl,Rd.nil,Nat.le_refl _,by simp,fun _=>rfl,fun ad e=>(by cases e)⟩
 ·simp [Value.cells] at hcs
  obtain ⟨rfl,rfl,rfl⟩:=hcs
  simp only [if_true] at hz
  have hlen:(zs.take len).length=len:=by simp; omega
  refine ⟨some a,zs.take len,len,cap,rfl,hlen,?_,hl,hm,(fun h=>by cases h),fun ad e hne=>?_⟩
  ·refine Rd.of_cells fun j u hu=>?_
   rw [List.getElem?_map,Option.map_eq_some_iff] at hu
   obtain ⟨z,hz1,rfl⟩:=hu
   have hj:j<len:=by
    have:=(List.getElem?_eq_some_iff.1 hz1).1
    omega
   rw [List.getElem?_take_of_lt hj] at hz1
   rw [hcell j (by omega)]
   simp only [List.getD_eq_getElem?_getD,hz1,Option.getD_some]
  ·injection e with e
   subst e
   have h0:0<len:=by
    rcases Nat.eq_zero_or_pos len with e | e
    ·exact absurd (List.eq_nil_of_length_eq_zero (by omega)) hne
    ·exact e
   have:=hcell 0 (by omega)
   have:=World.block_lt_of_cell? _ _ this
   rwa [z0C] at this
end
end Go.Proofs.Ytleicdfkagejoaa
