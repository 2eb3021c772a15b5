/-
  La: RsA, RsB, RsC, RsD. Walks and laws that the statement's proof is made of. No condition of its own.
-/
import Derived.Test.YtleicdfkagejoaaKb
import Derived.Test.YtleicdfkagejoaaKc
import Derived.Test.YtleicdfkagejoaaKh
import Derived.Test.YtleicdfkagejoaaKd
import Derived.Deep.QuietTactic
import Derived.BigQuiet
import Derived.Deep.RegionLaw
import Derived.Laws.Cover1
import Derived.Deep.RegionWith
import Derived.Deep.AppendLies
namespace Go.Proofs.Ytleicdfkagejoaa
open Go.RowKit
abbrev GlL:=List (ByteArray × Int)
theorem z0m.keepR {F G:Nat→Prop} {w w':World} {l:List (ByteArray × Int)} {A:Option Addr} {c:Nat} (h:z0m F w l A c) (hFG:∀ b,F b→G b) (hk:∀ b,F b→w'.heap[b]?=w.heap[b]?):z0m G w' l A c :=
 ⟨h.1,fun i x hi=>by
  obtain ⟨r,hA,hr,e0,e1⟩:=h.2 i x hi
  exact ⟨r,hA,hFG r hr,(World.cell?_of_block (hk r hr)).trans e0,(World.cell?_of_block (hk r hr)).trans e1⟩⟩
theorem z0q.keepR {F G:Nat→Prop} {w w':World} {l:List ByteArray} {A:Option Addr} {c:Nat} (h:z0q F w l A c) (hFG:∀ b,F b→G b) (hk:∀ b,F b→w'.heap[b]?=w.heap[b]?):z0q G w' l A c :=
 ⟨h.1,fun i x hi=>by
  obtain ⟨r,hA,hr,e0⟩:=h.2 i x hi
  exact ⟨r,hA,hFG r hr,(World.cell?_of_block (hk r hr)).trans e0⟩⟩
theorem z0X.keepR {F G:Nat→Prop} {w w':World} {D d:Nat} {l:List Fn} {A:Option Addr} {c:Nat} (h:z0X F w D d l A c) (hFG:∀ b,F b→G b) (hk:∀ b,F b→w'.heap[b]?=w.heap[b]?):z0X G w' D d l A c :=
 ⟨h.1,fun i x hi=>by
  obtain ⟨r,pA,pc,bA,bc,hA,hr,e0,e1,e2,e3,hp,hb⟩:=h.2 i x hi
  exact ⟨r,pA,pc,bA,bc,hA,hFG r hr,(World.cell?_of_block (hk r hr)).trans e0,(World.cell?_of_block (hk r hr)).trans e1,(World.cell?_of_block (hk r hr)).trans e2,(World.cell?_of_block (hk r hr)).trans e3,hp.keepR hFG hk,RowS.keep hFG hk hb⟩⟩
theorem z62 {F:Nat→Prop} {w:World} {base:Nat} {A:Option Addr} {n c:Nat} {xs:List ByteArray} (h:w.ownsRow base 9 1 (.slice A n c) xs.length (xs.map Value.string)) (hF:∀ b,base≤b→b<w.heap.size→F b):n=xs.length∧z0q F w xs A c:=by
 rcases h.2 with ⟨e,h0⟩ | ⟨g',cap,cur,e,hb,hh,hc,_⟩
 ·injection e with e1 e2 e3
  subst e1 e2 e3
  exact ⟨h0.symm,by rw [h0]; exact Nat.le_refl _,fun i x hi=>by rw [List.eq_nil_of_length_eq_zero h0] at hi; simp at hi⟩
 ·injection e with e1 e2 e3
  subst e1 e2 e3
  refine ⟨rfl,hc,fun i x hi=>⟨g',rfl,hF g' hb (Array.getElem?_eq_some_iff.1 hh).1,?_⟩⟩
  have hi2:i<xs.length:=by
   rcases Nat.lt_or_ge i xs.length with h' | h'
   ·exact h'
   ·rw [List.getElem?_eq_none h'] at hi; cases hi
  rw [h.cellAt i (by omega),List.getElem?_map,hi]
  rfl
def z1l (l:List ByteArray) (s:ByteArray):Option Nat:=l.findIdx? fun x=>x.data.toList == s.data.toList
def intO:Option Nat→Int | some i=>(i:Int) | none=>-1
theorem z55 {l:List ByteArray} {s:ByteArray} {k:Nat} (h:l[k]?=some s) (hl:∀ j,j<k→l[j]?≠some s):z1l l s=some k:=by
 have hk:k<l.length:=by
  rcases Nat.lt_or_ge k l.length with h' | h'
  ·exact h'
  ·rw [List.getElem?_eq_none h'] at h; cases h
 unfold z1l
 rw [List.findIdx?_eq_some_iff_getElem]
 refine ⟨hk,?_,fun j hj=>?_⟩
 ·have:l[k]=s:=by rw [List.getElem?_eq_getElem hk] at h; injection h
  rw [this]; simp
 ·have hj':j<l.length:=by omega
  intro e
  have e1:l[j].data.toList=s.data.toList:=by simpa using e
  exact hl j hj (by rw [List.getElem?_eq_getElem hj',z1x e1])
theorem z8Y {l:List ByteArray} {s:ByteArray} (hl:∀ j,j<l.length→l[j]?≠some s):z1l l s=none:=by
 unfold z1l
 rw [List.findIdx?_eq_none_iff]
 intro x hx
 obtain ⟨j,hj,rfl⟩:=List.getElem_of_mem hx
 rw [beq_eq_false_iff_ne]
 intro e
 exact hl j hj (by rw [List.getElem?_eq_getElem hj,z1x e])
theorem z8X {l:List ByteArray} {s:ByteArray} {k:Nat} (h:z1l l s=some k):l[k]?=some s:=by
 unfold z1l at h
 rw [List.findIdx?_eq_some_iff_getElem] at h
 obtain ⟨hk,e,_⟩:=h
 have e1:l[k].data.toList=s.data.toList:=by simpa using e
 rw [List.getElem?_eq_getElem hk,z1x e1]
theorem z6I {x s:ByteArray} (he:x≠s):(x.toList == s.toList)=false:=by
 rw [beq_eq_false_iff_ne]
 intro e
 rw [Lib.toList_data,Lib.toList_data] at e
 exact he (z1x e)
theorem z3v {l:List ByteArray} {s x:ByteArray} {k:Nat} (H:∀ j,j<k→l[j]?≠some s) (hx:l[k]?=some x) (he:x≠s):∀ j,j<k+1→l[j]?≠some s:=fun j hj=>by
 rcases Nat.lt_or_ge j k with h | h
 ·exact H j h
 ·obtain rfl:j=k:=by omega
  rw [hx]
  intro e
  injection e with e
  exact he e
set_option maxRecDepth 10000 in
set_option maxHeartbeats 1000000 in
theorem zdx {F:Nat→Prop} (s:ByteArray) (xs:List ByteArray) (A:Option Addr) (n c:Nat) (w:World) (hn:xs.length=n) (hr:z0q F w xs A c) (hn2:n≤1000000) :
  Calls Try.prog 26 #[.slice A n c,.string s] w (RetB (hasB xs s) w):=by
 have Hr:=zhi hr
 have Hn:=zhi hn
 have hc:n≤c:=by rw [← hn]; exact hr.1
 clear hr hn
 go_enter Try.func26,Try.ntmps26
 go_wp2_with fail
 go_loop [5] (fun i=>∃ k:Nat,k≤n∧i=.int .i64 (k:Int)∧Hid (∀ j,j<k→xs[j]?≠some s)) (fun i=>n - (intOf i).toNat)
 case atStart=>exact ⟨0,Nat.zero_le _,rfl,zhi (fun j hj=>by omega)⟩
 case round =>
  obtain ⟨k,hk,rfl,H⟩:=hrel
  by_cases hlt:k<n
  ·obtain ⟨x,hx⟩:∃ x,xs[k]?=some x:=⟨xs[k]'(by rw [Hn.out]; exact hlt),List.getElem?_eq_getElem _⟩
   obtain ⟨g,rfl,_,d0⟩:=Hr.out.2 _ _ hx
   have Hx:=zhi hx
   clear hx
   by_cases he:x=s
   ·subst he
    have HP:Hid (hasB xs x=true):=zhi (z51 Hx.out)
    clear H Hx
    go_wp2_with fail
    go_ret
    exact retB HP.out.symm
   ·have H2:=zhi (z3v H.out Hx.out he)
    have he2:=z6I he
    clear H Hx
    go_wp2_with fail
    exact ⟨⟨k+1,by omega,by go_num,H2⟩,by simp [intOf]; omega⟩
  ·have HP:Hid (hasB xs s=false):=zhi (z50 (fun j hj=>H.out j (by have:=Hn.out; omega)))
   clear H
   go_wp2_with fail
   go_ret
   exact retB HP.out.symm
def IntR (z:Int) (w:World) (e:Ending) (w':World):Prop:=e=.returned (.int .i64 z)∧Below w.heap.size w w'
set_option maxRecDepth 10000 in
set_option maxHeartbeats 1000000 in
theorem z4Y {F:Nat→Prop} (s:ByteArray) (gl:List (ByteArray × Int)) (A:Option Addr) (n c:Nat) (fv:Value) (w:World) (hn:gl.length=n) (hr:z0m F w gl A c) (hF:∀ b,F b→b<w.heap.size) (hn2:n≤1000000) (fA:Option Addr) (fm fc:Nat) (hfv:fv=.slice fA fm fc) :
  Calls Try.prog 22 #[.agg #[.slice A n c,fv],.string s] w (IntR (intO (z1l (gl.map (·.1)) s)) w):=by
 subst hfv
 have hb1:=(Below.refl _ w).alloc (Nat.le_refl _) (.cells #[.slice A n c,.slice fA fm fc] 30)
 have hr1:z0m F (w.alloc (.cells #[.slice A n c,.slice fA fm fc] 30)) gl A c:=hr.keepR (fun _ h=>h) (fun b hb=>hb1.block _ (hF b hb))
 have Hr:=zhi hr1
 have HB:=zhi hb1
 have Hn:=zhi hn
 have hc:n≤c:=by rw [← hn]; exact hr.1
 clear hr hn hr1 hb1
 go_enter Try.func22,Try.ntmps22
 go_wp2_with fail
 go_loop [5] (fun i=>∃ k:Nat,k≤n∧i=.int .i64 (k:Int)∧Hid (∀ j,j<k→(gl.map (·.1))[j]?≠some s)) (fun i=>n - (intOf i).toNat)
 case atStart=>exact ⟨0,Nat.zero_le _,rfl,zhi (fun j hj=>by omega)⟩
 case round =>
  obtain ⟨k,hk,rfl,H⟩:=hrel
  by_cases hlt:k<n
  ·obtain ⟨x,hx⟩:∃ x,gl[k]?=some x:=⟨gl[k]'(by rw [Hn.out]; exact hlt),List.getElem?_eq_getElem _⟩
   obtain ⟨g,rfl,_,d0,_⟩:=Hr.out.2 _ _ hx
   obtain ⟨x,z⟩:=x
   have Hx:Hid ((gl.map (·.1))[k]?=some x):=zhi (by simp [hx])
   clear hx
   dsimp only at d0
   by_cases he:x=s
   ·subst he
    have HP:Hid (intO (z1l (gl.map (·.1)) x)=(k:Int)):=zhi (by rw [z55 Hx.out H.out]; rfl)
    clear H Hx
    go_wp2_with fail
    go_ret
    exact ⟨by rw [HP.out]; rfl,HB.out⟩
   ·have H2:=zhi (z3v H.out Hx.out he)
    have he2:=z6I he
    clear H Hx
    go_wp2_with fail
    exact ⟨⟨k+1,by omega,by go_num,H2⟩,by simp [intOf]; omega⟩
  ·have HP:Hid (intO (z1l (gl.map (·.1)) s)=-1):=zhi (by rw [z8Y (fun j hj=>H.out j (by have:=Hn.out; simp at hj; omega))]; rfl)
   clear H
   go_wp2_with fail
   go_ret
   exact ⟨by rw [HP.out]; rfl,HB.out⟩
set_option maxRecDepth 10000 in
set_option maxHeartbeats 1000000 in
theorem z8G {F:Nat→Prop} {D d:Nat} (s:ByteArray) (fl:List Fn) (A:Option Addr) (n c:Nat) (gv:Value) (w:World) (hn:fl.length=n) (hr:z0X F w D d fl A c) (hF:∀ b,F b→b<w.heap.size) (hn2:n≤1000000) (gA:Option Addr) (gm gc:Nat) (hgv:gv=.slice gA gm gc) :
  Calls Try.prog 23 #[.agg #[gv,.slice A n c],.string s] w (IntR (intO (z1l (fl.map (·.name)) s)) w):=by
 subst hgv
 have hb1:=(Below.refl _ w).alloc (Nat.le_refl _) (.cells #[.slice gA gm gc,.slice A n c] 30)
 have hr1:z0X F (w.alloc (.cells #[.slice gA gm gc,.slice A n c] 30)) D d fl A c:=hr.keepR (fun _ h=>h) (fun b hb=>hb1.block _ (hF b hb))
 have Hr:=zhi hr1
 have HB:=zhi hb1
 have Hn:=zhi hn
 have hc:n≤c:=by rw [← hn]; exact hr.1
 clear hr hn hr1 hb1
 go_enter Try.func23,Try.ntmps23
 go_wp2_with fail
 go_loop [5] (fun i=>∃ k:Nat,k≤n∧i=.int .i64 (k:Int)∧Hid (∀ j,j<k→(fl.map (·.name))[j]?≠some s)) (fun i=>n - (intOf i).toNat)
 case atStart=>exact ⟨0,Nat.zero_le _,rfl,zhi (fun j hj=>by omega)⟩
 case round =>
  obtain ⟨k,hk,rfl,H⟩:=hrel
  by_cases hlt:k<n
  ·obtain ⟨x,hx⟩:∃ x,fl[k]?=some x:=⟨fl[k]'(by rw [Hn.out]; exact hlt),List.getElem?_eq_getElem _⟩
   obtain ⟨g,_,_,_,_,rfl,_,d0,_⟩:=Hr.out.2 _ _ hx
   have Hx:Hid ((fl.map (·.name))[k]?=some x.name):=zhi (by simp [hx])
   clear hx
   generalize x.name=y at d0 Hx
   by_cases he:y=s
   ·subst he
    have HP:Hid (intO (z1l (fl.map (·.name)) y)=(k:Int)):=zhi (by rw [z55 Hx.out H.out]; rfl)
    clear H Hx
    go_wp2_with fail
    go_ret
    exact ⟨by rw [HP.out]; rfl,HB.out⟩
   ·have H2:=zhi (z3v H.out Hx.out he)
    have he2:=z6I he
    clear H Hx
    go_wp2_with fail
    exact ⟨⟨k+1,by omega,by go_num,H2⟩,by simp [intOf]; omega⟩
  ·have HP:Hid (intO (z1l (fl.map (·.name)) s)=-1):=zhi (by rw [z8Y (fun j hj=>H.out j (by have:=Hn.out; simp at hj; omega))]; rfl)
   clear H
   go_wp2_with fail
   go_ret
   exact ⟨by rw [HP.out]; rfl,HB.out⟩
structure SrcR (F:Nat→Prop) (w:World) (D d:Nat) (gl:GlL) (fl:List Fn) (gA:Option Addr) (gc:Nat) (fA:Option Addr) (fc:Nat):Prop where
 gs:z0m F w gl gA gc
 fs:z0X F w D d fl fA fc
 gn:gl.length≤1000000
 fn:fl.length≤1000000
theorem SrcR.keep {F G:Nat→Prop} {w w':World} {D d:Nat} {gl:GlL} {fl:List Fn} {gA:Option Addr} {gc:Nat} {fA:Option Addr} {fc:Nat} (hFG:∀ b,F b→G b) (hk:∀ b,F b→w'.heap[b]?=w.heap[b]?) (h:SrcR F w D d gl fl gA gc fA fc):SrcR G w' D d gl fl gA gc fA fc :=
 ⟨h.gs.keepR hFG hk,h.fs.keepR hFG hk,h.gn,h.fn⟩
def z12 (gl:GlL) (fl:List Fn) (s:ByteArray):Int :=
 match z1l (gl.map (·.1)) s with
 | some k=>if 0<((gl[k]?).map (·.2)).getD 0 then 3 else 2
 | none=>match z1l (fl.map (·.name)) s with | some _=>4 | none=>0
set_option maxRecDepth 10000 in
set_option maxHeartbeats 1000000 in
theorem z9y {F:Nat→Prop} {D d:Nat} (s:ByteArray) (gl:GlL) (fl:List Fn) (gA:Option Addr) (n gc:Nat) (fA:Option Addr) (m fc:Nat) (w:World) (hn:gl.length=n) (hm:fl.length=m) (h:SrcR F w D d gl fl gA gc fA fc) (hF:∀ b,F b→b<w.heap.size) :
  Calls Try.prog 27 #[.agg #[.slice gA n gc,.slice fA m fc],.string s] w (IntR (z12 gl fl s) w):=by
 have hb1:=(Below.refl _ w).alloc (Nat.le_refl _) (.cells #[.slice gA n gc,.slice fA m fc] 30)
 have hrow1:=heap_alloc_new w (.cells #[.slice gA n gc,.slice fA m fc] 30)
 have h1:SrcR F (w.alloc (.cells #[.slice gA n gc,.slice fA m fc] 30)) D d gl fl gA gc fA fc:=h.keep (fun _ h=>h) (fun b hb=>hb1.block _ (hF b hb))
 have hF1:∀ b,F b→b<(w.alloc (.cells #[.slice gA n gc,.slice fA m fc] 30)).heap.size:=fun b hb=>Nat.lt_of_lt_of_le (hF b hb) hb1.size
 have HG:=zhi (z4Y s gl gA n gc _ _ hn h1.gs hF1 (by rw [← hn]; exact h1.gn) fA m fc rfl)
 have HFn:=zhi (fun (w1:World) (hb:Below (w.alloc (.cells #[.slice gA n gc,.slice fA m fc] 30)).heap.size (w.alloc (.cells #[.slice gA n gc,.slice fA m fc] 30)) w1)=>z8G s fl fA m fc _ w1 hm (h1.keep (fun _ h=>h) (fun b hb'=>hb.block _ (hF1 b hb'))).fs (fun b hb'=>Nat.lt_of_lt_of_le (hF1 b hb') hb.size) (by rw [← hm]; exact h1.fn) gA n gc rfl)
 have H1:=zhi h1
 have HF1:=zhi hF1
 have HB1:=zhi hb1
 have HR1:=zhi hrow1
 have hnc:n≤gc:=by rw [← hn]; exact h.gs.1
 have hn2:n≤1000000:=by rw [← hn]; exact h.gn
 have Hn:=zhi hn
 have hlt1:w.heap.size<(w.alloc (.cells #[.slice gA n gc,.slice fA m fc] 30)).heap.size:=by simp
 clear h1 hF1 hb1 hrow1 h hF hn hm
 cases hi:z1l (gl.map (·.1)) s with
 | some k =>
  obtain ⟨x,hx⟩:∃ x,gl[k]?=some x:=by
   have:=z8X hi
   rw [List.getElem?_map] at this
   cases hg:gl[k]? with
   | none=>rw [hg] at this; cases this
   | some x=>exact ⟨x,rfl⟩
  have hkn:k<n:=by
   rw [← Hn.out]
   rcases Nat.lt_or_ge k gl.length with h' | h'
   ·exact h'
   ·rw [List.getElem?_eq_none h'] at hx; cases hx
  obtain ⟨y,z⟩:=x
  have HO:Hid (z12 gl fl s=if 0<z then 3 else 2):=zhi (by unfold z12; rw [hi]; simp [hx])
  have HX:=zhi hx
  rw [hi] at HG
  have HG:Hid (Calls Try.prog 22 #[.agg #[.slice gA n gc,.slice fA m fc],.string s] _ (IntR (k:Int) _)):=HG
  clear hi hx HFn
  go_enter Try.func27,Try.ntmps27
  go_wp2_with fail
  refine HG.out.mono ?_
  rintro e w1 ⟨rfl,hb⟩
  have hrow:=(hb.block _ hlt1).trans HR1.out
  have c0:=cell_of_row _ _ 0 _ _ _ hrow
  have h1:=H1.out.keep (G:=F) (fun _ h=>h) (fun b hb'=>hb.block _ (HF1.out b hb'))
  obtain ⟨g,rfl,_,_,d1⟩:=h1.gs.2 _ _ HX.out
  dsimp only at d1
  have HE:=zhi (z0b HB1.out hb)
  clear hb hrow h1 HG H1 HF1 HB1 HR1 HX
  by_cases hz:0<z
  ·go_wp2_with fail
   go_ret
   exact ⟨by rw [HO.out,if_pos hz]; rfl,HE.out⟩
  ·go_wp2_with fail
   go_ret
   exact ⟨by rw [HO.out,if_neg (by omega)]; rfl,HE.out⟩
 | none =>
  rw [hi] at HG
  have HG:Hid (Calls Try.prog 22 #[.agg #[.slice gA n gc,.slice fA m fc],.string s] _ (IntR (-1) _)):=HG
  have HO:Hid (z12 gl fl s=match z1l (fl.map (·.name)) s with | some _=>4 | none=>0):=zhi (by unfold z12; rw [hi])
  clear hi
  go_enter Try.func27,Try.ntmps27
  go_wp2_with fail
  refine HG.out.mono ?_
  rintro e w1 ⟨rfl,hb⟩
  have hrow:=(hb.block _ hlt1).trans HR1.out
  obtain ⟨c0,c1⟩:=cl2 hrow
  have HF:=zhi (HFn.out w1 hb)
  have HB:=zhi (z0b HB1.out hb)
  clear hb hrow HG H1 HF1 HB1 HR1 HFn
  cases hi2:z1l (fl.map (·.name)) s with
  | some k =>
   rw [hi2] at HF HO
   have HF:Hid (Calls Try.prog 23 #[.agg #[.slice gA n gc,.slice fA m fc],.string s] w1 (IntR (k:Int) w1)):=HF
   clear hi2
   go_wp2_with fail
   refine HF.out.mono ?_
   rintro e w2 ⟨rfl,hb⟩
   have HE:=zhi (z0b HB.out hb)
   clear hb
   go_wp2_with fail
   go_ret
   exact ⟨by rw [HO.out]; rfl,HE.out⟩
  | none =>
   rw [hi2] at HF HO
   have HF:Hid (Calls Try.prog 23 #[.agg #[.slice gA n gc,.slice fA m fc],.string s] w1 (IntR (-1) w1)):=HF
   clear hi2
   go_wp2_with fail
   refine HF.out.mono ?_
   rintro e w2 ⟨rfl,hb⟩
   have HE:=zhi (z0b HB.out hb)
   clear hb
   go_wp2_with fail
   go_ret
   exact ⟨by rw [HO.out]; rfl,HE.out⟩
def ScR (F:Nat→Prop) (base:Nat) (D d:Nat) (gl:GlL) (fl:List Fn) (p:Nat) (ls:List ByteArray) (w:World):Prop :=
 ∃ gA gc fA fc v,SrcR F w D d gl fl gA gc fA fc∧(∀ b,F b→b<base)∧base≤p∧base≤w.heap.size ∧
  w.heap[p]?=some (.cells #[.slice gA gl.length gc,.slice fA fl.length fc,v,.int .i64 0,.int .i64 0] 82 (0,0))∧w.ownsRow base 9 1 v ls.length (ls.map Value.string)∧v.ownBlock≠some p∧ls.length≤1000000
theorem z1g {w w':World} {base n size:Nat} {T:TypeId} {v:Value} {xs:List Value} (h:w.ownsRow base T size v n xs) (hk:∀ b,v.ownBlock=some b→w'.heap[b]?=w.heap[b]?):w'.ownsRow base T size v n xs:=by
 rcases h.2 with hn | ⟨g',cap,cur,e,hb',hh,rest⟩
 ·exact ⟨h.1,.inl hn⟩
 ·exact ⟨h.1,.inr ⟨g',cap,cur,e,hb',(hk g' (by rw [e]; rfl)).trans hh,rest⟩⟩
theorem ScR.below {F:Nat→Prop} {base D d:Nat} {gl:GlL} {fl:List Fn} {p:Nat} {ls:List ByteArray} {w w':World} (h:ScR F base D d gl fl p ls w) (hb:Below w.heap.size w w'):ScR F base D d gl fl p ls w':=by
 obtain ⟨gA,gc,fA,fc,v,h1,h2,h3,h4,h5,h6,h7,h8⟩:=h
 have hlt:=(Array.getElem?_eq_some_iff.1 h5).1
 exact ⟨gA,gc,fA,fc,v,h1.keep (fun _ h=>h) (fun b hb'=>hb.block b (Nat.lt_of_lt_of_le (h2 b hb') h4)),h2,h3,Nat.le_trans h4 hb.size,(hb.block p hlt).trans h5,z1g h6 (fun b hb'=>hb.block b (h6.lt b hb').2),h7,h8⟩
theorem ScR.plt {F:Nat→Prop} {base D d:Nat} {gl:GlL} {fl:List Fn} {p:Nat} {ls:List ByteArray} {w:World} (h:ScR F base D d gl fl p ls w):p<w.heap.size:=by
 obtain ⟨gA,gc,fA,fc,v,h1,h2,h3,h4,h5,h6,h7,h8⟩:=h
 exact (Array.getElem?_eq_some_iff.1 h5).1
def z0w (gl:GlL) (fl:List Fn) (ls:List ByteArray) (s:ByteArray):Int:=if hasB ls s then 1 else z12 gl fl s
set_option maxRecDepth 10000 in
set_option maxHeartbeats 1000000 in
theorem z67 {F:Nat→Prop} {base D d:Nat} {gl:GlL} {fl:List Fn} {p:Nat} {ls:List ByteArray} (s:ByteArray) (w:World) (h:ScR F base D d gl fl p ls w) :
  Calls Try.prog 44 #[.pointer (some ⟨p,0,none⟩),.string s] w (IntR (z0w gl fl ls s) w):=by
 obtain ⟨gA,gc,fA,fc,v,h1,h2,h3,h4,h5,h6,h7,h8⟩:=h
 obtain ⟨lA,lc,rfl⟩:=z0t h6
 have HH:=zhi (zdx s ls lA ls.length lc w rfl (z62 (F:=fun _=>True) h6 (fun _ _ _=>trivial)).2 h8)
 have HO:=zhi (z9y s gl fl gA gl.length gc fA fl.length fc w rfl rfl h1 (fun b hb=>Nat.lt_of_lt_of_le (h2 b hb) h4))
 obtain ⟨c0,c1,c2⟩:=cl3 h5
 have HW:Hid (z0w gl fl ls s=if hasB ls s then 1 else z12 gl fl s):=zhi rfl
 clear h1 h2 h3 h4 h5 h6 h7 h8
 cases hv:hasB ls s with
 | true =>
  rw [hv] at HH HW
  clear hv
  go_enter Try.func44,Try.ntmps44
  go_wp2_with fail
  refine HH.out.mono ?_
  rintro e w1 ⟨rfl,rfl⟩
  go_wp2_with fail
  go_ret
  exact ⟨by rw [HW.out]; rfl,Below.refl _ _⟩
 | false =>
  rw [hv] at HH HW
  clear hv
  go_enter Try.func44,Try.ntmps44
  go_wp2_with fail
  refine HH.out.mono ?_
  rintro e w1 ⟨rfl,rfl⟩
  go_wp2_with fail
  refine HO.out.mono ?_
  rintro e w1 ⟨rfl,hb⟩
  have HB:=zhi hb
  clear hb
  go_wp2_with fail
  go_ret
  exact ⟨by rw [HW.out]; rfl,HB.out⟩
end Go.Proofs.Ytleicdfkagejoaa
namespace Go.Proofs.Ytleicdfkagejoaa
open Go.RowKit
theorem z1z {P:Program} {w:World} {ops:Array Oper} {rest:List Oper} {d:Option Tmp} {ty:TypeId} {x y:Operand} {pos:String} {af:Array Edge} {gd:Option (Nat × Bool)} {a:Act} {Q:Exit→Act→World→Prop}
  (h:z08 (wpList P ops Q ({ dst:=d,op:=.store 112 x y,type:=ty,pos:=pos,after:=af,guard:=gd } :: rest) a w)):wpList P ops Q ({ dst:=d,op:=.store 112 x y,type:=ty,pos:=pos,after:=af,guard:=gd } :: rest) a w:=h
def vrX (gl:GlL) (fl:List Fn) (ls:List ByteArray) (s:ByteArray) (l:Int):Ex:=.mk (if z0w gl fl ls s=1 then 2 else 3) 0 0 l s []
mutual
def rsX (gl:GlL) (fl:List Fn) (ls:List ByteArray):Ex→Ex
 | .mk k o a l s xs=>if k=13 then vrX gl fl ls s l else if k=9∧z0w gl fl ls s≤2 then .mk 10 0 0 l ⟨#[]⟩ (vrX gl fl ls s l :: rsL gl fl ls xs) else .mk k o a l s (rsL gl fl ls xs)
def rsL (gl:GlL) (fl:List Fn) (ls:List ByteArray):List Ex→List Ex
 | []=>[]
 | x :: xs=>rsX gl fl ls x :: rsL gl fl ls xs
end
theorem z1t {gl:GlL} {fl:List Fn} {ls:List ByteArray}:∀ (xs:List Ex),(rsL gl fl ls xs).length=xs.length
 | []=>rfl
 | x :: xs=>by simp [rsL,z1t xs]
theorem z6z {gl:GlL} {fl:List Fn} {ls:List ByteArray}:∀ (xs ys:List Ex),rsL gl fl ls (xs++ys)=rsL gl fl ls xs++rsL gl fl ls ys
 | [],_=>rfl
 | x :: xs,ys=>by simp [rsL,z6z xs]
def okN (gl:GlL) (fl:List Fn) (ls:List ByteArray) (k:Int) (s:ByteArray) (n:Nat):Prop :=
 (k=13→z0w gl fl ls s=1∨z0w gl fl ls s=2)∧(k=4→z0w gl fl ls s=3)∧(k=11→z0w gl fl ls s=4) ∧
 (k=9→(z0w gl fl ls s=4∧∃ j f,z1l (fl.map (·.name)) s=some j∧fl[j]?=some f∧f.params.length=n)∨z0w gl fl ls s=1∨z0w gl fl ls s=2)∧n≤3
mutual
def okX (gl:GlL) (fl:List Fn) (ls:List ByteArray):Ex→Prop
 | .mk k _ _ _ s xs=>okN gl fl ls k s xs.length∧okL gl fl ls xs
def okL (gl:GlL) (fl:List Fn) (ls:List ByteArray):List Ex→Prop
 | []=>True
 | x :: xs=>okX gl fl ls x∧okL gl fl ls xs
end
theorem z9s {gl:GlL} {fl:List Fn} {ls:List ByteArray}:∀ {xs:List Ex} {i:Nat} {x:Ex},okL gl fl ls xs→xs[i]?=some x→okX gl fl ls x
 | [],_,_,_,h=>by simp at h
 | y :: ys,0,x,h,hi=>by
  simp at hi
  subst hi
  exact h.1
 | y :: ys,i+1,x,h,hi=>z9s h.2 (by simpa using hi)
def zeg (w:World) (e:Ending) (w':World):Prop:=(∃ v,e=.returned v)∧Below w.heap.size w w'
set_option maxRecDepth 10000 in
set_option maxHeartbeats 1000000 in
theorem zag {F:Nat→Prop} {base D d:Nat} {gl:GlL} {fl:List Fn} {p:Nat} {ls:List ByteArray} (k o a l:Int) (s:ByteArray) (A:Option Addr) (n c:Nat) (x y:Int) (w:World) (h:ScR F base D d gl fl p ls w)
  (hc:(x=1∧y=2∧z0w gl fl ls s=1)∨(x=1∧y=2∧z0w gl fl ls s=2)∨(x=3∧y=3∧z0w gl fl ls s=3)∨(x=4∧y=4∧z0w gl fl ls s=4)) :
  Calls Try.prog 59 #[.pointer (some ⟨p,0,none⟩),.agg #[.int .i64 k,.int .i64 o,.int .i64 a,.int .i64 l,.string s,.slice A n c],.int .i64 x,.int .i64 y] w (zeg w):=by
 have hb0:=(Below.refl _ w).alloc (Nat.le_refl _) (.cells #[.int .i64 k,.int .i64 o,.int .i64 a,.int .i64 l,.string s,.slice A n c] 112)
 have HW:=zhi (z67 s _ (h.below hb0))
 have HB:=zhi hb0
 clear h hb0
 generalize z0w gl fl ls s=zz at HW hc
 rcases hc with ⟨rfl,rfl,rfl⟩ | ⟨rfl,rfl,rfl⟩ | ⟨rfl,rfl,rfl⟩ | ⟨rfl,rfl,rfl⟩
 all_goals
  go_enter Try.func59,Try.ntmps59
  go_wp2_with fail
  refine HW.out.mono ?_
  rintro e w1 ⟨rfl,hb⟩
  have HE:=zhi (z0b HB.out hb)
  clear hb HW
  go_wp2_with fail
  exact bodyPost_ret (results_none rfl _ _ _) rfl ⟨⟨_,rfl⟩,HE.out⟩
def ValR (k l:Int) (s:ByteArray) (w:World) (e:Ending) (w':World):Prop:=e=.returned (.agg #[.int .i64 k,.int .i64 0,.int .i64 0,.int .i64 l,.string s,.slice none 0 0])∧Below w.heap.size w w'
set_option maxRecDepth 10000 in
set_option maxHeartbeats 1000000 in
theorem zdY {F:Nat→Prop} {base D d:Nat} {gl:GlL} {fl:List Fn} {p:Nat} {ls:List ByteArray} (s:ByteArray) (l:Int) (w:World) (h:ScR F base D d gl fl p ls w) :
  Calls Try.prog 60 #[.pointer (some ⟨p,0,none⟩),.string s,.int .i64 l] w (ValR (if z0w gl fl ls s=1 then 2 else 3) l s w):=by
 have hb0:=(Below.refl _ w).alloc (Nat.le_refl _) (.cells #[.int .i64 0,.int .i64 0,.int .i64 0,.int .i64 0,.string { data:=#[] },.slice none 0 0] 112)
 have hr0:=heap_alloc_new w (.cells #[.int .i64 0,.int .i64 0,.int .i64 0,.int .i64 0,.string { data:=#[] },.slice none 0 0] 112)
 have hlt:w.heap.size<(w.alloc (.cells #[.int .i64 0,.int .i64 0,.int .i64 0,.int .i64 0,.string { data:=#[] },.slice none 0 0] 112)).heap.size:=by simp
 have HW:=zhi (z67 s _ (h.below hb0))
 have HB:=zhi hb0
 have HR:=zhi hr0
 clear h hb0 hr0
 generalize z0w gl fl ls s=zz at HW ⊢
 by_cases hz:zz=1
 ·rw [if_pos hz]
  subst hz
  go_enter Try.func60,Try.ntmps60
  go_wp2_with fail
  refine HW.out.mono ?_
  rintro e w1 ⟨rfl,hb⟩
  have HE:=zhi (z0b HB.out hb)
  have HR1:=zhi ((hb.block _ hlt).trans HR.out)
  have hsz:=hb.size
  clear hb HW HR HB
  go_wp2_with (with_reducible refine z1z ?_)
  refine z08.of (z00 _ rfl _ _ _ rfl w.heap.size _ rfl (by rfl) _ _ HR1.out (by kernel_rfl) (by rfl) (by simp [Value.oneCell']) ?_)
  intro w9 hrow9 hg9
  obtain ⟨j0,j1,j2,j3,j4,j5⟩:=cl6 hrow9
  have HH:=zhi (HE.out.trans (z07 hg9 (fun k hk=>by injection hk with hk; omega) (by omega):Below w.heap.size _ w9))
  clear hrow9 hg9
  go_wp2_with fail
  exact bodyPost_ret (v:=.agg #[.int .i64 2,.int .i64 0,.int .i64 0,.int .i64 l,.string s,.slice none 0 0]) (by simp [results,Try.results60,go_sem,j0,j1,j2,j3,j4,j5]) rfl ⟨rfl,HH.out⟩
 ·rw [if_neg hz]
  have hz2:(zz != 1)=true:=by simp [hz]
  have Hz:=zhi hz
  clear hz
  go_enter Try.func60,Try.ntmps60
  go_wp2_with fail
  refine HW.out.mono ?_
  rintro e w1 ⟨rfl,hb⟩
  have HE:=zhi (z0b HB.out hb)
  have HR1:=zhi ((hb.block _ hlt).trans HR.out)
  have hsz:=hb.size
  clear hb HW HR HB
  go_wp2_with (with_reducible refine z1z ?_)
  refine z08.of (z00 _ rfl _ _ _ rfl w.heap.size _ rfl (by rfl) _ _ HR1.out (by kernel_rfl) (by rfl) (by simp [Value.oneCell']) ?_)
  intro w9 hrow9 hg9
  obtain ⟨j0,j1,j2,j3,j4,j5⟩:=cl6 hrow9
  have HH:=zhi (HE.out.trans (z07 hg9 (fun k hk=>by injection hk with hk; omega) (by omega):Below w.heap.size _ w9))
  clear hrow9 hg9
  go_wp2_with fail
  exact bodyPost_ret (v:=.agg #[.int .i64 3,.int .i64 0,.int .i64 0,.int .i64 l,.string s,.slice none 0 0]) (by simp [results,Try.results60,go_sem,j0,j1,j2,j3,j4,j5]) rfl ⟨rfl,HH.out⟩
end Go.Proofs.Ytleicdfkagejoaa
namespace Go.Proofs.Ytleicdfkagejoaa
open Go.RowKit
def PXr (d:Nat) (x:Ex) (w:World) (e:Ending) (w':World):Prop:=∃ k o a l s A n c,e=.returned (.agg #[.int .i64 k,.int .i64 o,.int .i64 a,.int .i64 l,.string s,.slice A n c])∧ExV (fun b=>w.heap.size≤b∧b<w'.heap.size) w' d x (.agg #[.int .i64 k,.int .i64 o,.int .i64 a,.int .i64 l,.string s,.slice A n c])∧Below w.heap.size w w'
def PXsr (d:Nat) (xs:List Ex) (w:World) (e:Ending) (w':World):Prop:=∃ A m c L,e=.returned (.slice A m c)∧m=xs.length∧z0o w.heap.size d w' (.slice A m c) xs L∧(xs=[]→A=none∧c=0)∧Below w.heap.size w w'
def zc9 (d:Nat):Prop:=∀ (F:Nat→Prop) (base D dd:Nat) (gl:GlL) (fl:List Fn) (p:Nat) (ls:List ByteArray) (x:Ex) (v:Value) (w:World),ScR F base D dd gl fl p ls w→ExV F w d x v→okX gl fl ls x→Calls Try.prog 43 #[.pointer (some ⟨p,0,none⟩),v] w (PXr (d+1) (rsX gl fl ls x) w)
def zbI (d:Nat):Prop:=∀ (F:Nat→Prop) (base D dd:Nat) (gl:GlL) (fl:List Fn) (p:Nat) (ls:List ByteArray) (xs:List Ex) (A:Option Addr) (n c:Nat) (w:World),ScR F base D dd gl fl p ls w→RowE F w d xs A c→n=xs.length→okL gl fl ls xs→n≤3→Calls Try.prog 61 #[.pointer (some ⟨p,0,none⟩),.slice A n c] w (PXsr (d+1) (rsL gl fl ls xs) w)
theorem ScR.low {F:Nat→Prop} {base D d:Nat} {gl:GlL} {fl:List Fn} {p:Nat} {ls:List ByteArray} {w:World} (h:ScR F base D d gl fl p ls w):(∀ b,F b→b<w.heap.size):=by
 obtain ⟨gA,gc,fA,fc,v,h1,h2,h3,h4,h5,h6,h7,h8⟩:=h
 exact fun b hb=>Nat.lt_of_lt_of_le (h2 b hb) h4
theorem z4s {base d:Nat} {w:World} {v:Value} {xs:List Ex} {L:List Value} (h:z0o base d w v xs L):∃ A c,v=.slice A xs.length c:=by
 rcases h.own.2 with ⟨e,h0⟩ | ⟨g,cap,cur,e,_⟩
 ·exact ⟨none,0,by rw [h0]; exact e⟩
 ·exact ⟨_,_,e⟩
theorem z3s {base d:Nat} {w w':World} {v:Value} {xs:List Ex} {L:List Value} (h:z0o base d w v xs L) (hb:Below w.heap.size w w'):z0o base d w' v xs L:=by
 refine ⟨z1g h.own (fun b hb'=>hb.block b (h.own.lt b hb').2),fun j x hj=>?_⟩
 obtain ⟨c0,c1,c2,c3,c4,c5,e0,e1,e2,e3,e4,e5,hx⟩:=h.at_ j x hj
 exact ⟨c0,c1,c2,c3,c4,c5,e0,e1,e2,e3,e4,e5,hx.keep (fun b hb'=>⟨hb'.1,Nat.lt_of_lt_of_le hb'.2.1 hb.size,hb'.2.2⟩) (fun b hb'=>hb.block b hb'.2.1)⟩
theorem z3t {w wa w':World} {base n size:Nat} {T:TypeId} {v:Value} {xs:List Value} (ho:wa.ownsRow base T size v n xs) (hg:wa.grownBy w' v.ownBlock) (hw:w.heap.size≤base) (hs:w.heap.size≤wa.heap.size):Below w.heap.size wa w' :=
 z07 hg (fun b hb=>Nat.le_trans hw (ho.lt b hb).1) hs
def zar (gl:GlL) (fl:List Fn) (ls:List ByteArray) (xs:List Ex) (d:Nat) (w:World) (v i:Value) (wr:World):Prop:=∃ ys zs L,xs=ys++zs∧i=.int .i64 (ys.length:Int)∧z0o w.heap.size d wr v (rsL gl fl ls ys) L∧(ys=[]→v=.slice none 0 0)∧Below w.heap.size w wr
set_option maxRecDepth 10000 in
set_option maxHeartbeats 2000000 in
theorem zcr {d:Nat} (hE:zc9 d):zbI d:=by
 intro F base D dd gl fl p ls xs A n c w hs hr hn hok hn2
 have HE:=zhi hE
 have HS:=zhi hs
 have Hr:=zhi hr
 have Hn:=zhi hn
 have Hok:=zhi hok
 have HF:=zhi hs.low
 have hc:n≤c:=by rw [hn]; exact hr.1
 clear hE hr hn hok hs
 go_enter Try.func61,Try.ntmps61
 go_wp2_with fail
 go_loopw [5,6] (fun v i wr=>zar gl fl ls xs (d+1) w v i wr) (fun _ i _=>n - (intOf i).toNat)
 case atStart=>exact ⟨[],xs,[],rfl,rfl,z0o.nil _ _ _,fun _=>rfl,Below.refl _ _⟩
 case round =>
  obtain ⟨ys,zs,L,hxs,rfl,har,hnil,hb⟩:=hrel
  obtain ⟨vA,vc,rfl⟩:=z4s har
  have hyn:ys.length≤n:=by rw [Hn.out,hxs]; simp
  have HB:=zhi hb
  have HAR:=zhi har
  have HXS:=zhi hxs
  have HNil:=zhi hnil
  have Hlen:=zhi (z1t (gl:=gl) (fl:=fl) (ls:=ls) ys)
  clear har hb hnil
  cases zs with
  | nil =>
   have hyn2:n≤ys.length:=by rw [Hn.out,hxs]; simp
   have HR:Hid (PXsr (d+1) (rsL gl fl ls xs) w (.returned (.slice vA (rsL gl fl ls ys).length vc)) _):=zhi ⟨vA,_,vc,L,rfl,by rw [hxs,List.append_nil],by rw [hxs,List.append_nil]; exact HAR.out,fun e=>by
    rw [hxs,List.append_nil] at e
    have h0:ys=[]:=by
     have:=Hlen.out
     rw [e] at this
     exact List.eq_nil_of_length_eq_zero this.symm
    have:=HNil.out h0
    injection this with h1 h2 h3
    exact ⟨h1,h3⟩,HB.out⟩
   clear hxs HAR
   go_wp2_with fail
   go_ret
   exact HR.out
  | cons z zs =>
   have hlt:ys.length<n:=by rw [Hn.out,hxs]; simp
   have hz:xs[ys.length]?=some z:=by rw [hxs]; simp
   obtain ⟨g,off,c0,c1,c2,c3,c4,c5,rfl,hFg,e0,e1,e2,e3,e4,e5,hv⟩:=Hr.out.2 _ _ hz
   have hk:∀ o,World.cell? _ ⟨g,o,none⟩=World.cell? w ⟨g,o,none⟩:=fun o=>World.cell?_of_block (HB.out.block g (HF.out g hFg))
   have d0:=(hk _).trans e0
   have d1:=(hk _).trans e1
   have d2:=(hk _).trans e2
   have d3:=(hk _).trans e3
   have d4:=(hk _).trans e4
   have d5:=(hk _).trans e5
   have HX:=zhi (HE.out F base D dd gl fl p ls z _ _ (HS.out.below HB.out) (hv.keep (fun _ h=>h) (fun b hb=>HB.out.block b (HF.out b hb))) (z9s Hok.out hz))
   have hszB:=HB.out.size
   clear e0 e1 e2 e3 e4 e5 hv hk hxs hz hFg
   go_wp2_with fail
   refine HX.out.mono ?_
   rintro e w1 ⟨k,o,a,l,s,A1,n1,c1',rfl,hx,hb1⟩
   have hsz1:=hb1.size
   have HAR1:=zhi (z3s HAR.out hb1)
   have HB1:=zhi (HB.out.trans (hb1.mono hszB))
   have HV1:=zhi hx
   have hown:=HAR.out.own
   have HOB:Hid (∀ b,wr.heap.size≤b→(Value.slice vA (rsL gl fl ls ys).length vc).ownBlock≠some b):=zhi (fun b hb e=>absurd (hown.lt b e).2 (Nat.not_lt.2 hb))
   clear hx hb1 HX HAR HB d0 d1 d2 d3 d4 d5 hown
   go_wp2_with (at_builtin; refine z08.out ?_)
   refine z08.of (z0O w1 rfl (.tmp 13) (.tmp 20) rfl w.heap.size (d+1) (.slice vA (rsL gl fl ls ys).length vc) (rsL gl fl ls ys) L (rsX gl fl ls z) _ _ _ _ _ _ _ _ _ rfl rfl HAR1.out (by rw [Hlen.out]; omega) (by omega) HV1.out (fun b hb=>⟨by omega,hb.2,HOB.out b hb.1⟩) ?_)
   intro g7 cap w7 har7 hg7
   have HS7:Hid (zar gl fl ls xs (d+1) w (.slice (some ⟨g7,0,none⟩) ((rsL gl fl ls ys).length+1) cap) (.int .i64 ((ys.length:Int)+1)) w7):=zhi ⟨ys++[z],zs,_,by rw [HXS.out]; simp,by simp,by rw [z6z]; exact har7,fun e=>by simp at e,HB1.out.trans (z3t HAR1.out.own hg7 (Nat.le_refl _) (by omega))⟩
   clear har7 hg7 HAR1 HB1 HV1 HOB
   go_wp2_with fail
   exact ⟨HS7.out,by simp [intOf]; omega⟩
set_option maxRecDepth 10000 in
theorem z3F {ops:Array Oper} {o:Oper} {a:Act} {K:Act→World→Prop} {Q:Exit→Act→World→Prop} {E:Prop} (w:World) (hgd:o.guard=none) (s x:Operand)
  (ho:o.op=.call { callee:=.builtin .append,args:=#[s,x],argTypes:=#[107,107] }) (lo b d n:Nat) (A:Option Addr) (c:Nat) (xs:List Ex) (L:List Value) (y:Ex) (c0 c1 c2 c3 c4 c5:Value) (F:Nat→Prop)
  (hs:a.eval s=.slice (some ⟨b,0,none⟩) 1 1) (hx:a.eval x=.slice A n c) (hn:n=xs.length) (hown:w.ownsRow lo 112 6 (.slice (some ⟨b,0,none⟩) 1 1) 1 [c0,c1,c2,c3,c4,c5]) (hr:w.ownsRow lo 112 6 (.slice A n c) n L) (hnil:xs=[]→A=none∧c=0)
  (hat:∀ (j:Nat) (z:Ex),xs[j]?=some z→∃ e0 e1 e2 e3 e4 e5,L[j * 6]?=some e0∧L[j * 6+1]?=some e1∧L[j * 6+2]?=some e2∧L[j * 6+3]?=some e3∧L[j * 6+4]?=some e4∧L[j * 6+5]?=some e5∧ExV F w d z (.agg #[e0,e1,e2,e3,e4,e5])) (hy:ExV F w d y (.agg #[c0,c1,c2,c3,c4,c5])) (hF:∀ q,F q→lo≤q∧q<w.heap.size∧q≠b) (hlen:n≤1000000) (hlo:lo≤w.heap.size)
  (hk:∀ A' c' w',RowE (fun q=>lo≤q∧q<w'.heap.size) w' d (y :: xs) A' c'→w.grownBy w' (some b)→K (a.put o.dst (.slice A' (n+1) c')) w') :
  if Region.wanted o (yielded ops a.tmps)=true then Oper.wp Try.prog o a w K Q else E:=by
 obtain ⟨i,hi,hz,hsz,hby⟩:=info_parts z3a
 have h1:∀ u∈L,u.oneCell'=true:=by
  intro u hu
  obtain ⟨p,hp,rfl⟩:=List.mem_iff_getElem.1 hu
  have hpl:p<n * 6:=by rw [← hr.1]; exact hp
  have hj:p / 6<xs.length:=by omega
  obtain ⟨e0,e1,e2,e3,e4,e5,g0,g1,g2,g3,g4,g5,hz⟩:=hat (p / 6) _ (List.getElem?_eq_getElem hj)
  obtain ⟨k,o,a,l,s,A,n,c,hv,_⟩:=z0I hz
  injection hv with hv
  injection hv with hv
  simp only [List.cons.injEq,and_true] at hv
  obtain ⟨rfl,rfl,rfl,rfl,rfl,rfl⟩:=hv
  have hp2:p=p / 6 * 6+p % 6:=by omega
  have hm:p % 6=0∨p % 6=1∨p % 6=2∨p % 6=3∨p % 6=4∨p % 6=5:=by omega
  have hget:L[p]?=some L[p]:=List.getElem?_eq_getElem hp
  generalize L[p]=u at hget ⊢
  rcases hm with e | e | e | e | e | e
  ·have:p=p / 6 * 6:=by omega
   rw [this,g0] at hget; injection hget with hget; rw [← hget]; rfl
  ·have:p=p / 6 * 6+1:=by omega
   rw [this,g1] at hget; injection hget with hget; rw [← hget]; rfl
  ·have:p=p / 6 * 6+2:=by omega
   rw [this,g2] at hget; injection hget with hget; rw [← hget]; rfl
  ·have:p=p / 6 * 6+3:=by omega
   rw [this,g3] at hget; injection hget with hget; rw [← hget]; rfl
  ·have:p=p / 6 * 6+4:=by omega
   rw [this,g4] at hget; injection hget with hget; rw [← hget]; rfl
  ·have:p=p / 6 * 6+5:=by omega
   rw [this,g5] at hget; injection hget with hget; rw [← hget]; rfl
 have hrow:∀ g cap w',w'.ownsRow lo 112 6 (.slice (some ⟨g,0,none⟩) (1+n) cap) (1+n) ([c0,c1,c2,c3,c4,c5]++L)→w.grownBy w' (some b)→RowE (fun q=>lo≤q∧q<w'.heap.size) w' d (y :: xs) (some ⟨g,0,none⟩) cap:=fun g cap w' h2 hg=>by
  have hgl:=h2.lt g rfl
  have hcap:1+n≤cap:=by
   rcases h2.2 with ⟨e,h0⟩ | ⟨g',cap',cur,e,_,_,hc,_⟩
   ·cases e
   ·injection e with e1 e2 e3
    subst e3
    exact hc
  have hcell:∀ j u,([c0,c1,c2,c3,c4,c5]++L)[j]?=some u→w'.cell? ⟨g,j,none⟩=some u:=fun j u hu=>by
   have hj:j<([c0,c1,c2,c3,c4,c5]++L).length:=by
    rcases Nat.lt_or_ge j ([c0,c1,c2,c3,c4,c5]++L).length with h' | h'
    ·exact h'
    ·rw [List.getElem?_eq_none h'] at hu; cases hu
   exact (h2.cellAt j (by rw [h2.1] at hj; exact hj)).trans hu
  have hk:∀ {z:Ex} {v:Value},ExV F w d z v→ExV (fun q=>lo≤q∧q<w'.heap.size) w' d z v:=fun hz=>hz.keep (fun q hq=>⟨(hF q hq).1,Nat.lt_of_lt_of_le (hF q hq).2.1 hg.size⟩) (fun q hq=>hg.block q (hF q hq).2.1 (fun e=>(hF q hq).2.2 (by injection e)))
  refine ⟨by rw [List.length_cons,← hn]; omega,fun j z hz=>?_⟩
  cases j with
  | zero =>
   simp at hz
   subst hz
   exact ⟨g,0,c0,c1,c2,c3,c4,c5,rfl,hgl,hcell 0 _ rfl,hcell 1 _ rfl,hcell 2 _ rfl,hcell 3 _ rfl,hcell 4 _ rfl,hcell 5 _ rfl,hk hy⟩
  | succ j =>
   simp only [List.getElem?_cons_succ] at hz
   obtain ⟨e0,e1,e2,e3,e4,e5,g0,g1,g2,g3,g4,g5,hz⟩:=hat j z hz
   have hL:∀ q u,L[q]?=some u→w'.cell? ⟨g,0+(q+6),none⟩=some u:=fun q u hu=>by
    rw [Nat.zero_add]
    exact hcell _ _ (by rw [List.getElem?_append_right (by simp)]; simpa using hu)
   exact ⟨g,0,e0,e1,e2,e3,e4,e5,rfl,hgl,by rw [show (j+1) * 6=j * 6+6 by omega]; exact hL _ _ g0,by rw [show 0+(j+1) * 6+1=0+(j * 6+1+6) by omega]; exact hL _ _ g1,by rw [show 0+(j+1) * 6+2=0+(j * 6+2+6) by omega]; exact hL _ _ g2,by rw [show 0+(j+1) * 6+3=0+(j * 6+3+6) by omega]; exact hL _ _ g3,by rw [show 0+(j+1) * 6+4=0+(j * 6+4+6) by omega]; exact hL _ _ g4,by rw [show 0+(j+1) * 6+5=0+(j * 6+5+6) by omega]; exact hL _ _ g5,hk hz⟩
 cases xs with
 | nil =>
  obtain ⟨rfl,rfl⟩:=hnil rfl
  have hn0:n=0:=hn
  subst hn0
  have hL0:L=[]:=List.eq_nil_of_length_eq_zero (by rw [hr.1])
  subst hL0
  have hrun:(Builtin.append_ #[107,107] o.type #[.slice (some ⟨b,0,none⟩) 1 1,.slice none 0 0]).run Try.prog w=.ok (.slice (some ⟨b,0,none⟩) 1 1) w:=by
   simp [Builtin.append_,run_underlying Try.underlying107,sizeOf,typeInfo,hi,Builtin.lenOf,Builtin.firstCells,storeCells]
  rw [if_pos (by simp [Region.wanted,hgd])]
  unfold Oper.wp
  simp [execOp,ho,resolve,invoke,builtin,hs,hx,hrun,Result.andThen]
  exact hk _ _ _ (hrow b 1 w hown (z02 (Below.refl _ w) (some b))) (z02 (Below.refl _ w) (some b))
 | cons z zs =>
  rcases hr.2 with ⟨e,h0⟩ | ⟨g,cap,cur,e,hb,hh,hc,_⟩
  ·rw [hn] at h0; simp at h0
  ·injection e with e1 e2 e3
   subst e1 e3
   refine step_append_lies w hgd s x _ ho lo 112 i _ 6 72 Try.underlying107 hi hz hsz hby rfl (by decide) (.slice (some ⟨b,0,none⟩) 1 1) 1 [c0,c1,c2,c3,c4,c5] hs hown ⟨g,0,none⟩ n c L hx hr.1 (fun j u hu=>?_) h1 (by rw [hn]; simp) (by unfold maxLen; omega) (by omega) hlo _ rfl fun g' cap' w' q1 q2 q3 _=>?_
   ·rw [Addr.add_lit,Nat.zero_add]
    have hj:j<L.length:=by
     rcases Nat.lt_or_ge j L.length with h' | h'
     ·exact h'
     ·rw [List.getElem?_eq_none h'] at hu; cases hu
    exact (hr.cellAt j (by rw [hr.1] at hj; exact hj)).trans hu
   ·rw [Nat.add_comm 1 n] at q1 ⊢
    rw [Nat.add_comm n 1] at q1
    exact hk _ _ _ (hrow g' cap' w' q1 q2) q2
end Go.Proofs.Ytleicdfkagejoaa
namespace Go.Proofs.Ytleicdfkagejoaa
open Go.RowKit
theorem z9P {gl:GlL} {fl:List Fn} {ls:List ByteArray} {k o a l:Int} {s:ByteArray} {xs:List Ex} (h:k≠13) (h9:k=9→¬ z0w gl fl ls s≤2):rsX gl fl ls (.mk k o a l s xs)=.mk k o a l s (rsL gl fl ls xs):=by
 unfold rsX
 rw [if_neg h,if_neg (fun e=>h9 e.1 e.2)]
theorem zba {gl:GlL} {fl:List Fn} {ls:List ByteArray} {o a l:Int} {s:ByteArray} {xs:List Ex}:rsX gl fl ls (.mk 13 o a l s xs)=vrX gl fl ls s l:=by
 unfold rsX
 rw [if_pos rfl]
theorem zb9 {gl:GlL} {fl:List Fn} {ls:List ByteArray} {o a l:Int} {s:ByteArray} {xs:List Ex} (h:z0w gl fl ls s≤2):rsX gl fl ls (.mk 9 o a l s xs)=.mk 10 0 0 l ⟨#[]⟩ (vrX gl fl ls s l :: rsL gl fl ls xs):=by
 unfold rsX
 rw [if_neg (by decide),if_pos ⟨rfl,h⟩]
structure XW (F:Nat→Prop) (base D dd:Nat) (gl:GlL) (fl:List Fn) (p:Nat) (ls:List ByteArray) (d:Nat) (k o a l:Int) (s:ByteArray) (xs:List Ex) (A:Option Addr) (n c:Nat) (w w1:World):Prop where
 sc:ScR F base D dd gl fl p ls w1
 row:RowE F w1 d xs A c
 x:w1.heap[w.heap.size]?=some (.cells #[.int .i64 k,.int .i64 o,.int .i64 a,.int .i64 l,.string s,.slice A n c] 112 (0,0))
 z:w1.heap[w.heap.size+1]?=some (.cells #[.int .i64 0,.int .i64 0,.int .i64 0,.int .i64 0,.string { data:=#[] },.slice none 0 0] 112 (0,0))
 lo:Below w.heap.size w w1
theorem XW.below {F:Nat→Prop} {base D dd:Nat} {gl:GlL} {fl:List Fn} {p:Nat} {ls:List ByteArray} {d:Nat} {k o a l:Int} {s:ByteArray} {xs:List Ex} {A:Option Addr} {n c:Nat} {w w1 w2:World} (h:XW F base D dd gl fl p ls d k o a l s xs A n c w w1) (hb:Below w1.heap.size w1 w2):XW F base D dd gl fl p ls d k o a l s xs A n c w w2 :=
 ⟨h.sc.below hb,h.row.keep (fun _ h=>h) (fun b hb'=>hb.block b (h.sc.low b hb')),(hb.block _ (Array.getElem?_eq_some_iff.1 h.x).1).trans h.x,(hb.block _ (Array.getElem?_eq_some_iff.1 h.z).1).trans h.z,h.lo.trans (hb.mono h.lo.size)⟩
structure z88 (w0 w:World) (b d n:Nat) (A:Option Addr) (c:Nat) (xs:List Ex) (L:List Value) (y:Ex) (c0 c1 c2 c3 c4 c5:Value):Prop where
 own:w.ownsRow (w0.heap.size+2) 112 6 (.slice (some ⟨b,0,none⟩) 1 1) 1 [c0,c1,c2,c3,c4,c5]
 row:w.ownsRow (w0.heap.size+2) 112 6 (.slice A n c) n L
 nl:n=xs.length
 ln:n≤3
 nil:xs=[]→A=none∧c=0
 at_:∃ F:Nat→Prop,(∀ (j:Nat) (z:Ex),xs[j]?=some z→∃ e0 e1 e2 e3 e4 e5,L[j * 6]?=some e0∧L[j * 6+1]?=some e1∧L[j * 6+2]?=some e2∧L[j * 6+3]?=some e3∧L[j * 6+4]?=some e4∧L[j * 6+5]?=some e5∧ExV F w d z (.agg #[e0,e1,e2,e3,e4,e5]))∧ExV F w d y (.agg #[c0,c1,c2,c3,c4,c5])∧∀ q,F q→w0.heap.size+2≤q∧q<w.heap.size∧q≠b
 z:w.heap[w0.heap.size+1]?=some (.cells #[.int .i64 0,.int .i64 0,.int .i64 0,.int .i64 0,.string { data:=#[] },.slice none 0 0] 112 (0,0))
 lo:Below w0.heap.size w0 w
theorem z4l {ops:Array Oper} {o:Oper} {a:Act} {K:Act→World→Prop} {Q:Exit→Act→World→Prop} {E:Prop} {w0 w:World} {b d n:Nat} {A:Option Addr} {c:Nat} {xs:List Ex} {L:List Value} {y:Ex} {c0 c1 c2 c3 c4 c5:Value} (h:z88 w0 w b d n A c xs L y c0 c1 c2 c3 c4 c5) (hgd:o.guard=none) (s x:Operand)
  (ho:o.op=.call { callee:=.builtin .append,args:=#[s,x],argTypes:=#[107,107] }) (hs:a.eval s=.slice (some ⟨b,0,none⟩) 1 1) (hx:a.eval x=.slice A n c)
  (hk:∀ A' c' w',RowE (fun q=>w0.heap.size+2≤q∧q<w'.heap.size) w' d (y :: xs) A' c'→w'.heap[w0.heap.size+1]?=some (.cells #[.int .i64 0,.int .i64 0,.int .i64 0,.int .i64 0,.string { data:=#[] },.slice none 0 0] 112 (0,0))→Below w0.heap.size w0 w'→(∀ (o:Nat) (v:Value),w.cell? ⟨w0.heap.size,o,none⟩=some v→w'.cell? ⟨w0.heap.size,o,none⟩=some v)→K (a.put o.dst (.slice A' (n+1) c')) w') :
  if Region.wanted o (yielded ops a.tmps)=true then Oper.wp Try.prog o a w K Q else E:=by
 obtain ⟨F,h1,h2,h3⟩:=h.at_
 have hb:=(h.own.lt b rfl).1
 have hz:=(Array.getElem?_eq_some_iff.1 h.z).1
 exact z3F w hgd s x ho (w0.heap.size+2) b d n A c xs L y c0 c1 c2 c3 c4 c5 F hs hx h.nl h.own h.row h.nil h1 h2 h3 (by have:=h.ln; omega) (by omega) fun A' c' w' q1 q2=>hk A' c' w' q1 (z04 q2 (by omega) h.z) (h.lo.trans (z07 q2 (fun k hk=>by injection hk with hk; omega) h.lo.size)) (fun _ _=>z0a q2 (by omega))
theorem z52 {w0 w1 w:World} {b d n lo1:Nat} {A:Option Addr} {c:Nat} {xs:List Ex} {L:List Value} {k l:Int} {s:ByteArray} (hown:w.ownsRow (w0.heap.size+2) 112 6 (.slice (some ⟨b,0,none⟩) 1 1) 1 [.int .i64 k,.int .i64 0,.int .i64 0,.int .i64 l,.string s,.slice none 0 0])
  (har:z0o lo1 (d+1) w1 (.slice A n c) xs L) (hn:n=xs.length) (hl:n≤3) (hnil:xs=[]→A=none∧c=0) (hb:Below w1.heap.size w1 w) (hlo:w0.heap.size+2≤lo1) (hbn:w1.heap.size≤b∨b<lo1)
  (hz:w.heap[w0.heap.size+1]?=some (.cells #[.int .i64 0,.int .i64 0,.int .i64 0,.int .i64 0,.string { data:=#[] },.slice none 0 0] 112 (0,0))) (hw:Below w0.heap.size w0 w) :
  z88 w0 w b (d+1) n A c xs L (.mk k 0 0 l s []) (.int .i64 k) (.int .i64 0) (.int .i64 0) (.int .i64 l) (.string s) (.slice none 0 0):=by
 subst hn
 refine ⟨hown,z2J (z1g har.own (fun b hb'=>hb.block b (har.own.lt b hb').2)) hlo,rfl,hl,hnil,⟨fun q=>lo1≤q∧q<w1.heap.size,fun j z hj=>?_,z2c,fun q hq=>⟨by omega,Nat.lt_of_lt_of_le hq.2 hb.size,by omega⟩⟩,hz,hw⟩
 obtain ⟨e0,e1,e2,e3,e4,e5,g0,g1,g2,g3,g4,g5,hv⟩:=har.at_ j z hj
 exact ⟨e0,e1,e2,e3,e4,e5,g0,g1,g2,g3,g4,g5,hv.keep (fun q hq=>⟨hq.1,hq.2.1⟩) (fun q hq=>hb.block q hq.2.1)⟩
theorem z8T {l:Int} {w w2 w3:World} {d n c3:Nat} {A3:Option Addr} {xs:List Ex} {L3:List Value} {gl:GlL} {fl:List Fn} {ls:List ByteArray} (hz:w2.heap[w.heap.size+1]?=some (.cells #[.int .i64 0,.int .i64 0,.int .i64 0,.int .i64 0,.string { data:=#[] },.slice none 0 0] 112 (0,0))) (hv:Below w.heap.size w w2)
  (zk0:Int) (s0:ByteArray) (hb:Below (w2.alloc (.cells #[.int .i64 zk0,.int .i64 0,.int .i64 0,.int .i64 l,.string s0,.slice none 0 0] 112)).heap.size (w2.alloc (.cells #[.int .i64 zk0,.int .i64 0,.int .i64 0,.int .i64 l,.string s0,.slice none 0 0] 112)) w3) (har:z0o (w2.alloc (.cells #[.int .i64 zk0,.int .i64 0,.int .i64 0,.int .i64 l,.string s0,.slice none 0 0] 112)).heap.size (d+1) w3 (.slice A3 (rsL gl fl ls xs).length c3) (rsL gl fl ls xs) L3) (hn:n=xs.length) (h3:n≤3) (hnil:rsL gl fl ls xs=[]→A3=none∧c3=0) :
  z88 w w3 w2.heap.size (d+1) (rsL gl fl ls xs).length A3 c3 (rsL gl fl ls xs) L3 (.mk zk0 0 0 l s0 []) (.int .i64 zk0) (.int .i64 0) (.int .i64 0) (.int .i64 l) (.string s0) (.slice none 0 0):=by
 have hz2:=(Array.getElem?_eq_some_iff.1 hz).1
 have hB:=z0b (hv.alloc hv.size _) hb
 have hlit:(w2.alloc (.cells #[.int .i64 zk0,.int .i64 0,.int .i64 0,.int .i64 l,.string s0,.slice none 0 0] 112)).ownsRow w2.heap.size 112 6 (.slice (some ⟨w2.heap.size,0,none⟩) 1 1) 1 [.int .i64 zk0,.int .i64 0,.int .i64 0,.int .i64 l,.string s0,.slice none 0 0]:=World.ownsRow_lit w2 _ 1 (Nat.le_refl _) (by unfold maxLen; omega) (by simp)
 exact z52 (z2J (z1g hlit (fun b hb'=>hb.block b (hlit.lt b hb').2)) (by omega)) har rfl (by rw [z1t]; omega) hnil (Below.refl _ _) (by simp; omega) (.inr (by simp)) ((hb.block _ (by simp; omega)).trans ((heap_alloc_old w2 _ hz2).trans hz)) hB
theorem z8U {l:Int} {w w2 w3:World} {d n c3:Nat} {A3:Option Addr} {xs:List Ex} {L3:List Value} {gl:GlL} {fl:List Fn} {ls:List ByteArray} (hz:w2.heap[w.heap.size+1]?=some (.cells #[.int .i64 0,.int .i64 0,.int .i64 0,.int .i64 0,.string { data:=#[] },.slice none 0 0] 112 (0,0))) (hv:Below w.heap.size w w2)
  (hb:Below w2.heap.size w2 w3) (har:z0o w2.heap.size (d+1) w3 (.slice A3 (rsL gl fl ls xs).length c3) (rsL gl fl ls xs) L3) (hn:n=xs.length) (h3:n≤3) (hnil:rsL gl fl ls xs=[]→A3=none∧c3=0) (zk:Int) (s:ByteArray) :
  z88 w (w3.alloc (.cells #[.int .i64 zk,.int .i64 0,.int .i64 0,.int .i64 l,.string s,.slice none 0 0] 112)) w3.heap.size (d+1) (rsL gl fl ls xs).length A3 c3 (rsL gl fl ls xs) L3 (.mk zk 0 0 l s []) (.int .i64 zk) (.int .i64 0) (.int .i64 0) (.int .i64 l) (.string s) (.slice none 0 0):=by
 have hz2:=(Array.getElem?_eq_some_iff.1 hz).1
 have hs2:=hb.size
 have hB:=z0b hv hb
 have hlit:(w3.alloc (.cells #[.int .i64 zk,.int .i64 0,.int .i64 0,.int .i64 l,.string s,.slice none 0 0] 112)).ownsRow w3.heap.size 112 6 (.slice (some ⟨w3.heap.size,0,none⟩) 1 1) 1 [.int .i64 zk,.int .i64 0,.int .i64 0,.int .i64 l,.string s,.slice none 0 0]:=World.ownsRow_lit w3 _ 1 (Nat.le_refl _) (by unfold maxLen; omega) (by simp)
 exact z52 (z2J hlit (by omega)) har rfl (by rw [z1t]; omega) hnil ((Below.refl _ w3).alloc (Nat.le_refl _) _) (by omega) (.inl (Nat.le_refl _)) ((heap_alloc_old w3 _ (by omega)).trans ((hb.block _ hz2).trans hz)) (hB.alloc hB.size _)
theorem z8S {l:Int} {w w2 w3:World} {d n c3:Nat} {A3:Option Addr} {xs:List Ex} {L3:List Value} {gl:GlL} {fl:List Fn} {ls:List ByteArray} (hz:w2.heap[w.heap.size+1]?=some (.cells #[.int .i64 0,.int .i64 0,.int .i64 0,.int .i64 0,.string { data:=#[] },.slice none 0 0] 112 (0,0))) (hv:Below w.heap.size w w2)
  (hb:Below w2.heap.size w2 w3) (har:z0o w2.heap.size (d+1) w3 (.slice A3 (rsL gl fl ls xs).length c3) (rsL gl fl ls xs) L3) (hn:n=xs.length) (h3:n≤3) (hnil:rsL gl fl ls xs=[]→A3=none∧c3=0) (zk:Int) (s:ByteArray) :
  ∀ w4,Below w3.heap.size w3 w4→z88 w (w4.alloc (.cells #[.int .i64 zk,.int .i64 0,.int .i64 0,.int .i64 l,.string s,.slice none 0 0] 112)) w4.heap.size (d+1) (rsL gl fl ls xs).length A3 c3 (rsL gl fl ls xs) L3 (.mk zk 0 0 l s []) (.int .i64 zk) (.int .i64 0) (.int .i64 0) (.int .i64 l) (.string s) (.slice none 0 0):=fun w4 h4=>by
 have hz2:=(Array.getElem?_eq_some_iff.1 hz).1
 have hs2:=hb.size
 have hs4:=h4.size
 have hB:=z0b (z0b hv hb) h4
 have hlit:(w4.alloc (.cells #[.int .i64 zk,.int .i64 0,.int .i64 0,.int .i64 l,.string s,.slice none 0 0] 112)).ownsRow w4.heap.size 112 6 (.slice (some ⟨w4.heap.size,0,none⟩) 1 1) 1 [.int .i64 zk,.int .i64 0,.int .i64 0,.int .i64 l,.string s,.slice none 0 0]:=World.ownsRow_lit w4 _ 1 (Nat.le_refl _) (by unfold maxLen; omega) (by simp)
 exact z52 (z2J hlit (by omega)) har rfl (by rw [z1t]; omega) hnil (h4.alloc h4.size _) (by omega) (.inl hs4) ((heap_alloc_old w4 _ (by omega)).trans ((h4.block _ (by omega)).trans ((hb.block _ hz2).trans hz))) (hB.alloc hB.size _)
abbrev S9 (w:World) (l:Int) (s:ByteArray) (A:Option Addr) (n c:Nat) (w':World):Prop:=w'.cell? ⟨w.heap.size,3,none⟩=some (.int .i64 l)∧w'.cell? ⟨w.heap.size,4,none⟩=some (.string s)∧w'.cell? ⟨w.heap.size,5,none⟩=some (.slice A n c)∧Below w.heap.size w w'
theorem z2M {w w1 w2:World} {l:Int} {s:ByteArray} {A:Option Addr} {n c:Nat} (h:S9 w l s A n c w1) (hb:Below w1.heap.size w1 w2):S9 w l s A n c w2:=⟨hold hb h.1,hold hb h.2.1,hold hb h.2.2.1,z0b h.2.2.2 hb⟩
theorem z3j {w w1:World} {l:Int} {s:ByteArray} {A:Option Addr} {n c:Nat} (o:Obj) (h:S9 w l s A n c w1):S9 w l s A n c (w1.alloc o):=z2M h ((Below.refl _ w1).alloc (Nat.le_refl _) o)
theorem z9S {w w1 w2:World} {l:Int} {s:ByteArray} {A:Option Addr} {n c:Nat} (h:S9 w l s A n c w1) (hk:∀ (o:Nat) (v:Value),w1.cell? ⟨w.heap.size,o,none⟩=some v→w2.cell? ⟨w.heap.size,o,none⟩=some v) (hb:Below w.heap.size w w2):S9 w l s A n c w2:=⟨hk _ _ h.1,hk _ _ h.2.1,hk _ _ h.2.2.1,hb⟩
theorem z9T {w w1:World} {l:Int} {s:ByteArray} {A:Option Addr} {n c:Nat} {v0 v1 v2 v3 v4 v5:Value} (h:S9 w l s A n c w1):S9 w l s A n c ((((((w1.setCell ⟨w.heap.size+1,0,none⟩ v0).setCell ⟨w.heap.size+1,1,none⟩ v1).setCell ⟨w.heap.size+1,2,none⟩ v2).setCell ⟨w.heap.size+1,3,none⟩ v3).setCell ⟨w.heap.size+1,4,none⟩ v4).setCell ⟨w.heap.size+1,5,none⟩ v5):=by
 have hg:w1.grownBy ((((((w1.setCell ⟨w.heap.size+1,0,none⟩ v0).setCell ⟨w.heap.size+1,1,none⟩ v1).setCell ⟨w.heap.size+1,2,none⟩ v2).setCell ⟨w.heap.size+1,3,none⟩ v3).setCell ⟨w.heap.size+1,4,none⟩ v4).setCell ⟨w.heap.size+1,5,none⟩ v5) (some (w.heap.size+1)):=(((((z05 w1 ⟨w.heap.size+1,0,none⟩ v0).trans (z05 _ ⟨w.heap.size+1,1,none⟩ v1)).trans (z05 _ ⟨w.heap.size+1,2,none⟩ v2)).trans (z05 _ ⟨w.heap.size+1,3,none⟩ v3)).trans (z05 _ ⟨w.heap.size+1,4,none⟩ v4)).trans (z05 _ ⟨w.heap.size+1,5,none⟩ v5)
 exact ⟨z0a hg (by omega) h.1,z0a hg (by omega) h.2.1,z0a hg (by omega) h.2.2.1,h.2.2.2.trans (z07 hg (fun k hk=>by injection hk with hk; omega) h.2.2.2.size)⟩
set_option maxRecDepth 10000 in
set_option maxHeartbeats 4000000 in
theorem zdt {d:Nat} (hE:zbI d):zc9 (d+1):=by
 intro F base D dd gl fl p ls x v w hs hv hok
 obtain ⟨k,o,a,l,s,xs⟩:=x
 obtain ⟨A,c,rfl,hr⟩:=z1K.1 hv
 obtain ⟨⟨k13,k4,k11,k9,hn3⟩,hok2⟩:=hok
 obtain ⟨n,hn⟩:∃ n,n=xs.length:=⟨_,rfl⟩
 have hb0:=((Below.refl _ w).alloc (Nat.le_refl _) (.cells #[.int .i64 k,.int .i64 o,.int .i64 a,.int .i64 l,.string s,.slice A xs.length c] 112)).alloc (by simp) (.cells #[.int .i64 0,.int .i64 0,.int .i64 0,.int .i64 0,.string { data:=#[] },.slice none 0 0] 112)
 have hZ:=z0Y w (.cells #[.int .i64 k,.int .i64 o,.int .i64 a,.int .i64 l,.string s,.slice A xs.length c] 112) (.cells #[.int .i64 0,.int .i64 0,.int .i64 0,.int .i64 0,.string { data:=#[] },.slice none 0 0] 112)
 have hX:=z0Z w (.cells #[.int .i64 k,.int .i64 o,.int .i64 a,.int .i64 l,.string s,.slice A xs.length c] 112) (.cells #[.int .i64 0,.int .i64 0,.int .i64 0,.int .i64 0,.string { data:=#[] },.slice none 0 0] 112)
 have hW0:XW F base D dd gl fl p ls d k o a l s xs A xs.length c w ((w.alloc (.cells #[.int .i64 k,.int .i64 o,.int .i64 a,.int .i64 l,.string s,.slice A xs.length c] 112)).alloc (.cells #[.int .i64 0,.int .i64 0,.int .i64 0,.int .i64 0,.string { data:=#[] },.slice none 0 0] 112)) :=
  ⟨hs.below hb0,hr.keep (fun _ h=>h) (fun b hb=>hb0.block b (hs.low b hb)),hX,hZ,hb0⟩
 rw [← hn] at hW0 hn3 k9 ⊢
 have HW:=zhi hW0
 have HSc:=zhi hs
 have HRw:=zhi hr
 have HE:=zhi hE
 have Hn:=zhi hn
 have Hok:=zhi hok2
 have K13:=zhi k13
 have K4:=zhi k4
 have K11:=zhi k11
 have K9:=zhi k9
 have hxc:n≤c:=by rw [hn]; exact hr.1
 clear hb0 hZ hX hW0 hs hv hr hok2 hE hn k13 k4 k11 k9
 by_cases e13:k=13
 ·subst e13
  have hz:z0w gl fl ls s=1∨z0w gl fl ls s=2:=K13.out rfl
  have Hz:=zhi hz
  clear hz
  go_enter Try.func43,Try.ntmps43
  go_upto_region 1 with fail
  obtain ⟨W0,hW0⟩:∃ W0,W0=((w.alloc (.cells #[.int .i64 13,.int .i64 o,.int .i64 a,.int .i64 l,.string s,.slice A n c] 112)).alloc (.cells #[.int .i64 0,.int .i64 0,.int .i64 0,.int .i64 0,.string { data:=#[] },.slice none 0 0] 112)):=⟨_,rfl⟩
  rw [← hW0] at HW ⊢
  clear hW0
  have hwa:=zhi (zag 13 o a l s A n c 1 2 W0 HW.out.sc (Hz.out.elim (fun h=>.inl ⟨rfl,rfl,h⟩) (fun h=>.inr (.inl ⟨rfl,rfl,h⟩))))
  obtain ⟨q0,q1,q2,q3,q4,q5⟩:=cl6 HW.out.x
  go_wp2_with fail
  refine hwa.out.mono ?_
  rintro e w1 ⟨⟨v1,rfl⟩,hb1⟩
  replace HW:=zhi (HW.out.below hb1)
  clear hb1 hwa q0 q1 q2 q3 q4 q5
  have hva:=zhi (zdY s l w1 HW.out.sc)
  obtain ⟨zk,hzk⟩:∃ zk:Int,zk=(if z0w gl fl ls s=1 then 2 else 3):=⟨_,rfl⟩
  rw [← hzk] at hva
  have HZK:=zhi hzk
  clear hzk
  have q3:=cell_of_row _ _ 3 _ _ _ HW.out.x
  have q4:=cell_of_row _ _ 4 _ _ _ HW.out.x
  go_wp2_with fail
  refine hva.out.mono ?_
  rintro e w2 ⟨rfl,hb2⟩
  replace HW:=zhi (HW.out.below hb2)
  clear hb2 hva q3 q4
  have hsz:=(Array.getElem?_eq_some_iff.1 HW.out.z).1
  go_wp2_with (with_reducible refine z1z ?_)
  refine z08.of (z00 _ rfl _ _ _ rfl (w.heap.size+1) _ rfl (by rfl) _ _ HW.out.z (by kernel_rfl) (by rfl) (by simp [Value.oneCell']) ?_)
  intro w9 hrow9 hg9
  obtain ⟨j0,j1,j2,j3,j4,j5⟩:=cl6 hrow9
  have HH:Hid (PXr (d+1+1) (rsX gl fl ls (.mk 13 o a l s xs)) w (.returned (.agg #[.int .i64 zk,.int .i64 0,.int .i64 0,.int .i64 l,.string s,.slice none 0 0])) w9):=zhi ⟨_,0,0,l,s,none,0,0,rfl,by
   rw [zba,HZK.out]
   exact z2c,HW.out.lo.trans (z07 hg9 (fun k hk=>by injection hk with hk; omega) HW.out.lo.size)⟩
  clear hrow9 hg9
  go_wp2_with fail
  exact bodyPost_ret (by simp [results,Try.results43,go_sem,j0,j1,j2,j3,j4,j5]) rfl HH.out
 by_cases e9:k=9∧z0w gl fl ls s≤2
 ·obtain ⟨rfl,hz2⟩:=e9
  have hz:z0w gl fl ls s=1∨z0w gl fl ls s=2:=by
   rcases K9.out rfl with ⟨h,_⟩ | h
   ·omega
   ·exact h
  have HRX:Hid (rsX gl fl ls (.mk 9 o a l s xs)=.mk 10 0 0 l ⟨#[]⟩ (vrX gl fl ls s l :: rsL gl fl ls xs)):=zhi (zb9 hz2)
  obtain ⟨zk,hzk⟩:∃ zk:Int,zk=(if z0w gl fl ls s=1 then 2 else 3):=⟨_,rfl⟩
  have HZK:=zhi hzk
  obtain ⟨zz,hzz⟩:∃ zz:Int,zz=z0w gl fl ls s:=⟨_,rfl⟩
  have Hzz:=zhi hzz
  have t0:(zz == 0)=false:=by rw [beq_eq_false_iff_ne]; omega
  have t3:(zz == 3)=false:=by rw [beq_eq_false_iff_ne]; omega
  have t4:(zz == 4)=false:=by rw [beq_eq_false_iff_ne]; omega
  clear hz2 hz hzk hzz e13
  go_enter Try.func43,Try.ntmps43
  go_upto_region 1 with fail
  obtain ⟨W0,hW0⟩:∃ W0,W0=((w.alloc (.cells #[.int .i64 9,.int .i64 o,.int .i64 a,.int .i64 l,.string s,.slice A n c] 112)).alloc (.cells #[.int .i64 0,.int .i64 0,.int .i64 0,.int .i64 0,.string { data:=#[] },.slice none 0 0] 112)):=⟨_,rfl⟩
  rw [← hW0] at HW ⊢
  clear hW0
  have hwa:=zhi (z67 s W0 HW.out.sc)
  rw [← Hzz.out] at hwa
  have q0:=cell_of_row _ _ 0 _ _ _ HW.out.x
  have q4:=cell_of_row _ _ 4 _ _ _ HW.out.x
  go_wp2_with fail
  refine hwa.out.mono ?_
  rintro e w1 ⟨rfl,hb1⟩
  replace HW:=zhi (HW.out.below hb1)
  clear hb1 hwa q0 q4
  have q5:=cell_of_row _ _ 5 _ _ _ HW.out.x
  go_upto_region 13 with fail
  have HV:Hid (∀ W,Below w.heap.size w W→Calls Try.prog 60 #[.pointer (some ⟨p,0,none⟩),.string s,.int .i64 l] W (ValR zk l s W)):=zhi (fun W hb=>by rw [HZK.out]; exact zdY s l W (HSc.out.below hb))
  have HXs:Hid (∀ W,Below w.heap.size w W→Calls Try.prog 61 #[.pointer (some ⟨p,0,none⟩),.slice A n c] W (PXsr (d+1) (rsL gl fl ls xs) W)):=zhi (fun W hb=>HE.out F base D dd gl fl p ls xs A n c W (HSc.out.below hb) (HRw.out.keep (fun _ h=>h) (fun b hb'=>hb.block b (HSc.out.low b hb'))) Hn.out Hok.out hn3)
  have hS0:S9 w l s A n c w1.drew:=⟨cell_of_row _ _ 3 _ _ _ HW.out.x,cell_of_row _ _ 4 _ _ _ HW.out.x,cell_of_row _ _ 5 _ _ _ HW.out.x,HW.out.lo.drew⟩
  have hz0:w1.drew.heap[w.heap.size+1]?=some (.cells #[.int .i64 0,.int .i64 0,.int .i64 0,.int .i64 0,.string { data:=#[] },.slice none 0 0] 112 (0,0)):=HW.out.z
  have HS0:=zhi hS0
  have HZ0:=zhi hz0
  have HZL:=zhi (Array.getElem?_eq_some_iff.1 hz0).1
  clear q5 hS0 hz0 t0 t3 t4
  go_region_held3 (fun w'=>w'.cell? ⟨w.heap.size,3,none⟩=some (.int .i64 l)∧w'.cell? ⟨w.heap.size,4,none⟩=some (.string s)∧w'.cell? ⟨w.heap.size,5,none⟩=some (.slice A n c)∧Below w.heap.size w w')
   (first | (with_reducible exact HS0.out) | (with_reducible exact HS2.out) | (with_reducible exact z3j _ HS2.out) | (with_reducible exact HS3.out) | (with_reducible exact z3j _ HS3.out) | (with_reducible exact HS4.out) | (with_reducible exact z9T HS4.out))
   (first
    | ((first | ((with_reducible refine z4l HSTc.out rfl (.tmp 51) (.tmp 55) rfl rfl rfl ?_); intro A4 c4 w4 hr4 hz4 hb4 hk4; have HS4:=zhi (z9S HS3.out hk4 hb4)) | ((with_reducible refine z4l HSTb.out rfl (.tmp 51) (.tmp 55) rfl rfl rfl ?_); intro A4 c4 w4 hr4 hz4 hb4 hk4; have HS4:=zhi (z9S (z3j _ HS3.out) hk4 hb4)) | ((with_reducible refine z4l HSTa.out rfl (.tmp 51) (.tmp 55) rfl rfl rfl ?_); intro A4 c4 w4 hr4 hz4 hb4 hk4; have HS4:=zhi (z9S (z3j _ HS2.out) hk4 hb4))); have HR4:=zhi hr4; have HZ4:=zhi hz4; have kk0:=cell_of_row _ _ 0 _ _ _ hz4; have kk1:=cell_of_row _ _ 1 _ _ _ hz4; have kk2:=cell_of_row _ _ 2 _ _ _ hz4; have kk3:=cell_of_row _ _ 3 _ _ _ hz4; have kk4:=cell_of_row _ _ 4 _ _ _ hz4; have kk5:=cell_of_row _ _ 5 _ _ _ hz4; have kf0:=z09 hz4 0; have kf1:=z09 hz4 1; have kf2:=z09 hz4 2; have kf3:=z09 hz4 3; have kf4:=z09 hz4 4; have kf5:=z09 hz4 5; clear hr4 hz4 hb4 hk4)
    | (go_at_call 60; (first | ((with_reducible refine (HV.out _ HS0.out.2.2.2).mono ?_); rintro e w2 ⟨rfl,hb2⟩; have HS2:=zhi (z2M HS0.out hb2); have HZ2:=zhi ((hb2.block _ HZL.out).trans HZ0.out); clear hb2) | ((with_reducible refine (HV.out _ HS3.out.2.2.2).mono ?_); rintro e w2 ⟨rfl,hb2⟩; have HS2:=zhi (z2M HS3.out hb2); have HSTa:=zhi (HSTo.out w2 hb2); clear hb2)))
    | (go_at_call 61; (first
     | ((with_reducible refine (HXs.out _ HS0.out.2.2.2).mono ?_); rintro e w3 ⟨A3,m3,c3,L3,rfl,rfl,har3,hn3a,hb3⟩; have HS3:=zhi (z2M HS0.out hb3); have HSTo:=zhi (z8S (l:=l) HZ0.out HS0.out.2.2.2 hb3 har3 Hn.out hn3 hn3a zk s); clear har3 hn3a hb3)
     | ((with_reducible refine (HXs.out _ HS2.out.2.2.2).mono ?_); rintro e w3 ⟨A3,m3,c3,L3,rfl,rfl,har3,hn3a,hb3⟩; have HS3:=zhi (z2M HS2.out hb3); have HSTb:=zhi (z8U (l:=l) HZ2.out HS2.out.2.2.2 hb3 har3 Hn.out hn3 hn3a zk s); clear har3 hn3a hb3)
     | ((with_reducible refine (HXs.out _ (HS2.out.2.2.2.alloc HS2.out.2.2.2.size _)).mono ?_); rintro e w3 ⟨A3,m3,c3,L3,rfl,rfl,har3,hn3a,hb3⟩; have HS3:=zhi (z2M (z3j _ HS2.out) hb3); have HSTc:=zhi (z8T (l:=l) HZ2.out HS2.out.2.2.2 zk s hb3 har3 Hn.out hn3 hn3a); clear har3 hn3a hb3))))
  all_goals
   have h6:=z1h (.int .i64 10) (.int .i64 0) (.int .i64 0) (.int .i64 l) (.string { data:=#[] }) (.slice A4 ((rsL gl fl ls xs).length+1) c4) HZ4.out
   have h7:=z9T (v0:=.int .i64 10) (v1:=.int .i64 0) (v2:=.int .i64 0) (v3:=.int .i64 l) (v4:=.string { data:=#[] }) (v5:=.slice A4 ((rsL gl fl ls xs).length+1) c4) HS4.out
   dsimp only [Exit.then,Exit.inBlock]
   generalize ((((((w4.setCell ⟨w.heap.size+1,0,none⟩ (.int .i64 10)).setCell ⟨w.heap.size+1,1,none⟩ (.int .i64 0)).setCell ⟨w.heap.size+1,2,none⟩ (.int .i64 0)).setCell ⟨w.heap.size+1,3,none⟩ (.int .i64 l)).setCell ⟨w.heap.size+1,4,none⟩ (.string { data:=#[] })).setCell ⟨w.heap.size+1,5,none⟩ (.slice A4 ((rsL gl fl ls xs).length+1) c4))=w9 at *
   obtain ⟨j0,j1,j2,j3,j4,j5⟩:=cl6 h6.1
   have HH:Hid (PXr (d+1+1) (rsX gl fl ls (.mk 9 o a l s xs)) w (.returned (.agg #[.int .i64 10,.int .i64 0,.int .i64 0,.int .i64 l,.string { data:=#[] },.slice A4 ((rsL gl fl ls xs).length+1) c4])) w9):=zhi ⟨10,0,0,l,_,A4,_,c4,rfl,by
    rw [HRX.out,vrX,← HZK.out]
    exact z1K.2 ⟨A4,c4,rfl,HR4.out.keep (fun b hb=>⟨by omega,Nat.lt_of_lt_of_le hb.2 h6.2.size⟩) (fun b hb=>h6.2.block b hb.2 (fun e=>by injection e with e; omega))⟩,h7.2.2.2⟩
   clear h6 h7 kk0 kk1 kk2 kk3 kk4 kk5 kf0 kf1 kf2 kf3 kf4 kf5
   go_wp2_with fail
   exact bodyPost_ret (by simp [results,Try.results43,go_sem,j0,j1,j2,j3,j4,j5]) rfl HH.out
 have HPl:Hid (rsX gl fl ls (.mk k o a l s xs)=.mk k o a l s (rsL gl fl ls xs)):=zhi (z9P e13 (fun h h2=>e9 ⟨h,h2⟩))
 by_cases e4:k=4
 ·subst e4
  have hz:=K4.out rfl
  have Hz:=zhi hz
  clear hz e13 e9
  go_enter Try.func43,Try.ntmps43
  go_upto_region 1 with fail
  obtain ⟨W0,hW0⟩:∃ W0,W0=((w.alloc (.cells #[.int .i64 4,.int .i64 o,.int .i64 a,.int .i64 l,.string s,.slice A n c] 112)).alloc (.cells #[.int .i64 0,.int .i64 0,.int .i64 0,.int .i64 0,.string { data:=#[] },.slice none 0 0] 112)):=⟨_,rfl⟩
  rw [← hW0] at HW ⊢
  clear hW0
  have hwa:=zhi (zag 4 o a l s A n c 3 3 W0 HW.out.sc (.inr (.inr (.inl ⟨rfl,rfl,Hz.out⟩))))
  obtain ⟨q0,q1,q2,q3,q4,q5⟩:=cl6 HW.out.x
  go_wp2_with fail
  refine hwa.out.mono ?_
  rintro e w1 ⟨⟨v1,rfl⟩,hb1⟩
  replace HW:=zhi (HW.out.below hb1)
  clear hb1 hwa q0 q1 q2 q3 q4 q5
  obtain ⟨k,hk⟩:∃ k:Int,k=4:=⟨_,rfl⟩
  rw [← hk] at HW HPl
  have HG:Hid (∀ e w9,PXr (d+1+1) (rsX gl fl ls (.mk k o a l s xs)) w e w9→PXr (d+1+1) (rsX gl fl ls (.mk 4 o a l s xs)) w e w9):=zhi (fun _ _ h=>by rw [hk] at h; exact h)
  clear hk
  have HS:=zhi (HE.out F base D dd gl fl p ls xs A n c _ HW.out.sc HW.out.row Hn.out Hok.out hn3)
  have hsz:=(Array.getElem?_eq_some_iff.1 HW.out.z).1
  have q3:=cell_of_row _ _ 3 _ _ _ HW.out.x
  have q5:=cell_of_row _ _ 5 _ _ _ HW.out.x
  go_wp2_with fail
  refine HS.out.mono ?_
  rintro e w2 ⟨A1,m1,c1,L1,rfl,hm1,hr1,_,hb1⟩
  have hW2:=HW.out.below hb1
  have f5:=z09 hW2.x 5
  have b5:=cell_of_row _ _ 5 _ _ _ hW2.x
  have hg2:w2.grownBy (w2.setCell ⟨w.heap.size,5,none⟩ (.slice A1 m1 c1)) (some w.heap.size):=z05 w2 ⟨w.heap.size,5,none⟩ _
  have row2:(w2.setCell ⟨w.heap.size,5,none⟩ (.slice A1 m1 c1)).heap[w.heap.size]?=some (.cells #[.int .i64 k,.int .i64 o,.int .i64 a,.int .i64 l,.string s,.slice A1 m1 c1] 112 (0,0)):=z0d (i:=5) _ hW2.x
  obtain ⟨a0,a1,a2,a3,a4,a5⟩:=cl6 row2
  have hsz1:=hb1.size
  have hs2:w2.heap.size≤(w2.setCell ⟨w.heap.size,5,none⟩ (.slice A1 m1 c1)).heap.size:=hg2.size
  have HZ2:=zhi ((hg2.block (w.heap.size+1) (by omega) (fun e=>by injection e with e; omega)).trans hW2.z)
  have HR2:=zhi ((hr1.row.2).keep (G:=fun b=>w.heap.size+2≤b∧b<(w2.setCell ⟨w.heap.size,5,none⟩ (.slice A1 m1 c1)).heap.size) (fun b hb=>⟨by omega,by omega⟩) (fun b hb=>hg2.block b hb.2 (fun e=>by injection e with e; omega)))
  have HB2:=zhi (hW2.lo.trans (z07 hg2 (fun k hk=>by injection hk with hk; omega) (by omega)))
  have HM:=zhi hm1
  clear hW2 row2 hr1 hb1 hg2 hm1 HS HW q3 q5
  go_wp2_with (with_reducible refine z1z ?_)
  obtain ⟨w3,hw3⟩:∃ w3,w3=w2.setCell ⟨w.heap.size,5,none⟩ (.slice A1 m1 c1):=⟨_,rfl⟩
  rw [← hw3] at HZ2 HR2 HB2 hs2 ⊢
  clear hw3 a0 a1 a2 a3 a4 a5 b5 f5
  refine z08.of (z00 _ rfl _ _ _ rfl (w.heap.size+1) _ rfl (by rfl) _ _ HZ2.out (by kernel_rfl) (by rfl) (by simp [Value.oneCell']) ?_)
  intro w9 hrow9 hg9
  obtain ⟨j0,j1,j2,j3,j4,j5⟩:=cl6 hrow9
  have HH:Hid (PXr (d+1+1) (rsX gl fl ls (.mk k o a l s xs)) w (.returned (.agg #[.int .i64 k,.int .i64 o,.int .i64 a,.int .i64 l,.string s,.slice A1 m1 c1])) w9):=zhi ⟨k,o,a,l,s,A1,m1,c1,rfl,by
   have hm:=HM.out
   subst hm
   rw [HPl.out]
   exact z1K.2 ⟨A1,c1,rfl,HR2.out.keep (fun b hb=>⟨by omega,Nat.lt_of_lt_of_le hb.2 hg9.size⟩) (fun b hb=>hg9.block b hb.2 (fun e=>by injection e with e; omega))⟩,HB2.out.trans (z07 hg9 (fun k hk=>by injection hk with hk; omega) (by omega))⟩
  clear hrow9 hg9
  go_wp2_with fail
  exact bodyPost_ret (by simp [results,Try.results43,go_sem,j0,j1,j2,j3,j4,j5]) rfl (HG.out _ _ HH.out)
 by_cases e11:k=11
 ·subst e11
  have hz:=K11.out rfl
  have Hz:=zhi hz
  clear hz e13 e9 e4
  go_enter Try.func43,Try.ntmps43
  go_upto_region 1 with fail
  obtain ⟨W0,hW0⟩:∃ W0,W0=((w.alloc (.cells #[.int .i64 11,.int .i64 o,.int .i64 a,.int .i64 l,.string s,.slice A n c] 112)).alloc (.cells #[.int .i64 0,.int .i64 0,.int .i64 0,.int .i64 0,.string { data:=#[] },.slice none 0 0] 112)):=⟨_,rfl⟩
  rw [← hW0] at HW ⊢
  clear hW0
  have hwa:=zhi (zag 11 o a l s A n c 4 4 W0 HW.out.sc (.inr (.inr (.inr ⟨rfl,rfl,Hz.out⟩))))
  obtain ⟨q0,q1,q2,q3,q4,q5⟩:=cl6 HW.out.x
  go_wp2_with fail
  refine hwa.out.mono ?_
  rintro e w1 ⟨⟨v1,rfl⟩,hb1⟩
  replace HW:=zhi (HW.out.below hb1)
  clear hb1 hwa q0 q1 q2 q3 q4 q5
  obtain ⟨k,hk⟩:∃ k:Int,k=11:=⟨_,rfl⟩
  rw [← hk] at HW HPl
  have HG:Hid (∀ e w9,PXr (d+1+1) (rsX gl fl ls (.mk k o a l s xs)) w e w9→PXr (d+1+1) (rsX gl fl ls (.mk 11 o a l s xs)) w e w9):=zhi (fun _ _ h=>by rw [hk] at h; exact h)
  clear hk
  have HS:=zhi (HE.out F base D dd gl fl p ls xs A n c _ HW.out.sc HW.out.row Hn.out Hok.out hn3)
  have hsz:=(Array.getElem?_eq_some_iff.1 HW.out.z).1
  have q3:=cell_of_row _ _ 3 _ _ _ HW.out.x
  have q5:=cell_of_row _ _ 5 _ _ _ HW.out.x
  go_wp2_with fail
  refine HS.out.mono ?_
  rintro e w2 ⟨A1,m1,c1,L1,rfl,hm1,hr1,_,hb1⟩
  have hW2:=HW.out.below hb1
  have f5:=z09 hW2.x 5
  have b5:=cell_of_row _ _ 5 _ _ _ hW2.x
  have hg2:w2.grownBy (w2.setCell ⟨w.heap.size,5,none⟩ (.slice A1 m1 c1)) (some w.heap.size):=z05 w2 ⟨w.heap.size,5,none⟩ _
  have row2:(w2.setCell ⟨w.heap.size,5,none⟩ (.slice A1 m1 c1)).heap[w.heap.size]?=some (.cells #[.int .i64 k,.int .i64 o,.int .i64 a,.int .i64 l,.string s,.slice A1 m1 c1] 112 (0,0)):=z0d (i:=5) _ hW2.x
  obtain ⟨a0,a1,a2,a3,a4,a5⟩:=cl6 row2
  have hsz1:=hb1.size
  have hs2:w2.heap.size≤(w2.setCell ⟨w.heap.size,5,none⟩ (.slice A1 m1 c1)).heap.size:=hg2.size
  have HZ2:=zhi ((hg2.block (w.heap.size+1) (by omega) (fun e=>by injection e with e; omega)).trans hW2.z)
  have HR2:=zhi ((hr1.row.2).keep (G:=fun b=>w.heap.size+2≤b∧b<(w2.setCell ⟨w.heap.size,5,none⟩ (.slice A1 m1 c1)).heap.size) (fun b hb=>⟨by omega,by omega⟩) (fun b hb=>hg2.block b hb.2 (fun e=>by injection e with e; omega)))
  have HB2:=zhi (hW2.lo.trans (z07 hg2 (fun k hk=>by injection hk with hk; omega) (by omega)))
  have HM:=zhi hm1
  clear hW2 row2 hr1 hb1 hg2 hm1 HS HW q3 q5
  go_wp2_with (with_reducible refine z1z ?_)
  obtain ⟨w3,hw3⟩:∃ w3,w3=w2.setCell ⟨w.heap.size,5,none⟩ (.slice A1 m1 c1):=⟨_,rfl⟩
  rw [← hw3] at HZ2 HR2 HB2 hs2 ⊢
  clear hw3 a0 a1 a2 a3 a4 a5 b5 f5
  refine z08.of (z00 _ rfl _ _ _ rfl (w.heap.size+1) _ rfl (by rfl) _ _ HZ2.out (by kernel_rfl) (by rfl) (by simp [Value.oneCell']) ?_)
  intro w9 hrow9 hg9
  obtain ⟨j0,j1,j2,j3,j4,j5⟩:=cl6 hrow9
  have HH:Hid (PXr (d+1+1) (rsX gl fl ls (.mk k o a l s xs)) w (.returned (.agg #[.int .i64 k,.int .i64 o,.int .i64 a,.int .i64 l,.string s,.slice A1 m1 c1])) w9):=zhi ⟨k,o,a,l,s,A1,m1,c1,rfl,by
   have hm:=HM.out
   subst hm
   rw [HPl.out]
   exact z1K.2 ⟨A1,c1,rfl,HR2.out.keep (fun b hb=>⟨by omega,Nat.lt_of_lt_of_le hb.2 hg9.size⟩) (fun b hb=>hg9.block b hb.2 (fun e=>by injection e with e; omega))⟩,HB2.out.trans (z07 hg9 (fun k hk=>by injection hk with hk; omega) (by omega))⟩
  clear hrow9 hg9
  go_wp2_with fail
  exact bodyPost_ret (by simp [results,Try.results43,go_sem,j0,j1,j2,j3,j4,j5]) rfl (HG.out _ _ HH.out)
 by_cases e10:k=10
 ·subst e10
  clear e13 e9 e4 e11
  go_enter Try.func43,Try.ntmps43
  go_upto_region 1 with fail
  obtain ⟨W0,hW0⟩:∃ W0,W0=((w.alloc (.cells #[.int .i64 10,.int .i64 o,.int .i64 a,.int .i64 l,.string s,.slice A n c] 112)).alloc (.cells #[.int .i64 0,.int .i64 0,.int .i64 0,.int .i64 0,.string { data:=#[] },.slice none 0 0] 112)):=⟨_,rfl⟩
  rw [← hW0] at HW ⊢
  clear hW0
  have q0:=cell_of_row _ _ 0 _ _ _ HW.out.x
  have q5:=cell_of_row _ _ 5 _ _ _ HW.out.x
  go_upto_region 24 with fail
  clear q0 q5
  obtain ⟨k,hk⟩:∃ k:Int,k=10:=⟨_,rfl⟩
  rw [← hk] at HW HPl
  have HG:Hid (∀ e w9,PXr (d+1+1) (rsX gl fl ls (.mk k o a l s xs)) w e w9→PXr (d+1+1) (rsX gl fl ls (.mk 10 o a l s xs)) w e w9):=zhi (fun _ _ h=>by rw [hk] at h; exact h)
  clear hk
  have HS:=zhi (HE.out F base D dd gl fl p ls xs A n c _ HW.out.sc HW.out.row Hn.out Hok.out hn3)
  have hsz:=(Array.getElem?_eq_some_iff.1 HW.out.z).1
  have q3:=cell_of_row _ _ 3 _ _ _ HW.out.x
  have q5:=cell_of_row _ _ 5 _ _ _ HW.out.x
  go_wp2_with fail
  refine HS.out.mono ?_
  rintro e w2 ⟨A1,m1,c1,L1,rfl,hm1,hr1,_,hb1⟩
  have hW2:=HW.out.below hb1
  have f5:=z09 hW2.x 5
  have b5:=cell_of_row _ _ 5 _ _ _ hW2.x
  have hg2:w2.grownBy (w2.setCell ⟨w.heap.size,5,none⟩ (.slice A1 m1 c1)) (some w.heap.size):=z05 w2 ⟨w.heap.size,5,none⟩ _
  have row2:(w2.setCell ⟨w.heap.size,5,none⟩ (.slice A1 m1 c1)).heap[w.heap.size]?=some (.cells #[.int .i64 k,.int .i64 o,.int .i64 a,.int .i64 l,.string s,.slice A1 m1 c1] 112 (0,0)):=z0d (i:=5) _ hW2.x
  obtain ⟨a0,a1,a2,a3,a4,a5⟩:=cl6 row2
  have hsz1:=hb1.size
  have hs2:w2.heap.size≤(w2.setCell ⟨w.heap.size,5,none⟩ (.slice A1 m1 c1)).heap.size:=hg2.size
  have HZ2:=zhi ((hg2.block (w.heap.size+1) (by omega) (fun e=>by injection e with e; omega)).trans hW2.z)
  have HR2:=zhi ((hr1.row.2).keep (G:=fun b=>w.heap.size+2≤b∧b<(w2.setCell ⟨w.heap.size,5,none⟩ (.slice A1 m1 c1)).heap.size) (fun b hb=>⟨by omega,by omega⟩) (fun b hb=>hg2.block b hb.2 (fun e=>by injection e with e; omega)))
  have HB2:=zhi (hW2.lo.trans (z07 hg2 (fun k hk=>by injection hk with hk; omega) (by omega)))
  have HM:=zhi hm1
  clear hW2 row2 hr1 hb1 hg2 hm1 HS HW q3 q5
  go_wp2_with (with_reducible refine z1z ?_)
  obtain ⟨w3,hw3⟩:∃ w3,w3=w2.setCell ⟨w.heap.size,5,none⟩ (.slice A1 m1 c1):=⟨_,rfl⟩
  rw [← hw3] at HZ2 HR2 HB2 hs2 ⊢
  clear hw3 a0 a1 a2 a3 a4 a5 b5 f5
  refine z08.of (z00 _ rfl _ _ _ rfl (w.heap.size+1) _ rfl (by rfl) _ _ HZ2.out (by kernel_rfl) (by rfl) (by simp [Value.oneCell']) ?_)
  intro w9 hrow9 hg9
  obtain ⟨j0,j1,j2,j3,j4,j5⟩:=cl6 hrow9
  have HH:Hid (PXr (d+1+1) (rsX gl fl ls (.mk k o a l s xs)) w (.returned (.agg #[.int .i64 k,.int .i64 o,.int .i64 a,.int .i64 l,.string s,.slice A1 m1 c1])) w9):=zhi ⟨k,o,a,l,s,A1,m1,c1,rfl,by
   have hm:=HM.out
   subst hm
   rw [HPl.out]
   exact z1K.2 ⟨A1,c1,rfl,HR2.out.keep (fun b hb=>⟨by omega,Nat.lt_of_lt_of_le hb.2 hg9.size⟩) (fun b hb=>hg9.block b hb.2 (fun e=>by injection e with e; omega))⟩,HB2.out.trans (z07 hg9 (fun k hk=>by injection hk with hk; omega) (by omega))⟩
  clear hrow9 hg9
  go_wp2_with fail
  exact bodyPost_ret (by simp [results,Try.results43,go_sem,j0,j1,j2,j3,j4,j5]) rfl (HG.out _ _ HH.out)
 by_cases e9b:k=9
 ·subst e9b
  obtain ⟨hz,j,f,hj,hf,hfn⟩:z0w gl fl ls s=4∧∃ j f,z1l (fl.map (·.name)) s=some j∧fl[j]?=some f∧f.params.length=n:=by
   rcases K9.out rfl with h | h
   ·exact h
   ·exact absurd ⟨rfl,by omega⟩ e9
  have Hz:=zhi hz
  have Hj:=zhi hj
  have Hf:=zhi hf
  have Hfn:=zhi hfn
  clear hz hj hf hfn e13 e9 e4 e11 e10
  go_enter Try.func43,Try.ntmps43
  go_upto_region 1 with fail
  obtain ⟨W0,hW0⟩:∃ W0,W0=((w.alloc (.cells #[.int .i64 9,.int .i64 o,.int .i64 a,.int .i64 l,.string s,.slice A n c] 112)).alloc (.cells #[.int .i64 0,.int .i64 0,.int .i64 0,.int .i64 0,.string { data:=#[] },.slice none 0 0] 112)):=⟨_,rfl⟩
  rw [← hW0] at HW ⊢
  clear hW0
  have hwa:=zhi (z67 s W0 HW.out.sc)
  rw [Hz.out] at hwa
  have q0:=cell_of_row _ _ 0 _ _ _ HW.out.x
  have q4:=cell_of_row _ _ 4 _ _ _ HW.out.x
  go_wp2_with fail
  refine hwa.out.mono ?_
  rintro e w1 ⟨rfl,hb1⟩
  replace HW:=zhi (HW.out.below hb1)
  clear hb1 hwa q0 q4
  go_upto_region 19 with fail
  obtain ⟨gA,gc,fA,fc,v,h1,h2,h3,h4,h5,h6,h7,h8⟩:=HW.out.sc
  obtain ⟨fg,pA,pc,bA,bc,rfl,hFg,e0,e1,e2,e3,hp,hb⟩:=h1.fs.2 j f Hf.out
  have hjm:j<fl.length:=(List.getElem?_eq_some_iff.1 Hf.out).1
  have hmc:fl.length≤fc:=h1.fs.1
  have hm6:fl.length≤1000000:=h1.fn
  rw [Hfn.out] at e2
  obtain ⟨m,hm⟩:∃ m,m=fl.length:=⟨_,rfl⟩
  rw [← hm] at hjm hmc hm6 h5
  have HFu:Hid (∀ W,Below w1.heap.size w1 W→Calls Try.prog 23 #[.agg #[.slice gA gl.length gc,.slice (some ⟨fg,0,none⟩) m fc],.string s] W (IntR (j:Int) W)):=zhi (fun W hb=>by
   have h:=z8G s fl (some ⟨fg,0,none⟩) m fc (.slice gA gl.length gc) W hm.symm ((h1.keep (fun _ h=>h) (fun b hb'=>hb.block b (Nat.lt_of_lt_of_le (h2 b hb') h4))).fs) (fun b hb'=>Nat.lt_of_lt_of_le (Nat.lt_of_lt_of_le (h2 b hb') h4) hb.size) hm6 gA gl.length gc rfl
   rw [Hj.out] at h
   exact h)
  have hS0:w1.drew.cell? ⟨p,0,none⟩=some (.slice gA gl.length gc)∧w1.drew.cell? ⟨p,1,none⟩=some (.slice (some ⟨fg,0,none⟩) m fc)∧w1.drew.cell? ⟨w.heap.size,4,none⟩=some (.string s)∧w1.drew.cell? ⟨w.heap.size,5,none⟩=some (.slice A n c)∧w1.drew.cell? ⟨fg,j * 4+2,none⟩=some (.slice pA n pc)∧Below w1.heap.size w1 w1.drew :=
   ⟨cell_of_row _ _ 0 _ _ _ h5,cell_of_row _ _ 1 _ _ _ h5,cell_of_row _ _ 4 _ _ _ HW.out.x,cell_of_row _ _ 5 _ _ _ HW.out.x,e2,(Below.refl _ _).drew⟩
  have HS0:=zhi hS0
  clear hm h1 h2 h3 h4 h5 h6 h7 h8 e0 e1 e2 e3 hp hb hFg hS0
  go_region_held3 (fun w'=>w'.cell? ⟨p,0,none⟩=some (.slice gA gl.length gc)∧w'.cell? ⟨p,1,none⟩=some (.slice (some ⟨fg,0,none⟩) m fc)∧w'.cell? ⟨w.heap.size,4,none⟩=some (.string s)∧w'.cell? ⟨w.heap.size,5,none⟩=some (.slice A n c)∧w'.cell? ⟨fg,j * 4+2,none⟩=some (.slice pA n pc)∧Below w1.heap.size w1 w')
   (first | (with_reducible exact HS0.out) | (with_reducible exact HS2.out))
   (first | (go_at_call 23; (with_reducible refine (HFu.out _ HS0.out.2.2.2.2.2).mono ?_); rintro e w2 ⟨rfl,hb2⟩; have HS2:=zhi (And.intro (hold hb2 HS0.out.1) (And.intro (hold hb2 HS0.out.2.1) (And.intro (hold hb2 HS0.out.2.2.1) (And.intro (hold hb2 HS0.out.2.2.2.1) (And.intro (hold hb2 HS0.out.2.2.2.2.1) (z0b HS0.out.2.2.2.2.2 hb2)))))); clear hb2))
  replace HW:=zhi (HW.out.below HS2.out.2.2.2.2.2)
  dsimp only [Exit.then,Exit.inBlock]
  obtain ⟨k,hk⟩:∃ k:Int,k=9:=⟨_,rfl⟩
  rw [← hk] at HW HPl
  have HG:Hid (∀ e w9,PXr (d+1+1) (rsX gl fl ls (.mk k o a l s xs)) w e w9→PXr (d+1+1) (rsX gl fl ls (.mk 9 o a l s xs)) w e w9):=zhi (fun _ _ h=>by rw [hk] at h; exact h)
  clear hk HS2 HS0 HFu
  have HS:=zhi (HE.out F base D dd gl fl p ls xs A n c _ HW.out.sc HW.out.row Hn.out Hok.out hn3)
  have hsz:=(Array.getElem?_eq_some_iff.1 HW.out.z).1
  have q3:=cell_of_row _ _ 3 _ _ _ HW.out.x
  have q5:=cell_of_row _ _ 5 _ _ _ HW.out.x
  go_wp2_with fail
  refine HS.out.mono ?_
  rintro e w2 ⟨A1,m1,c1,L1,rfl,hm1,hr1,_,hb1⟩
  have hW2:=HW.out.below hb1
  have f5:=z09 hW2.x 5
  have b5:=cell_of_row _ _ 5 _ _ _ hW2.x
  have hg2:w2.grownBy (w2.setCell ⟨w.heap.size,5,none⟩ (.slice A1 m1 c1)) (some w.heap.size):=z05 w2 ⟨w.heap.size,5,none⟩ _
  have row2:(w2.setCell ⟨w.heap.size,5,none⟩ (.slice A1 m1 c1)).heap[w.heap.size]?=some (.cells #[.int .i64 k,.int .i64 o,.int .i64 a,.int .i64 l,.string s,.slice A1 m1 c1] 112 (0,0)):=z0d (i:=5) _ hW2.x
  obtain ⟨a0,a1,a2,a3,a4,a5⟩:=cl6 row2
  have hsz1:=hb1.size
  have hs2:w2.heap.size≤(w2.setCell ⟨w.heap.size,5,none⟩ (.slice A1 m1 c1)).heap.size:=hg2.size
  have HZ2:=zhi ((hg2.block (w.heap.size+1) (by omega) (fun e=>by injection e with e; omega)).trans hW2.z)
  have HR2:=zhi ((hr1.row.2).keep (G:=fun b=>w.heap.size+2≤b∧b<(w2.setCell ⟨w.heap.size,5,none⟩ (.slice A1 m1 c1)).heap.size) (fun b hb=>⟨by omega,by omega⟩) (fun b hb=>hg2.block b hb.2 (fun e=>by injection e with e; omega)))
  have HB2:=zhi (hW2.lo.trans (z07 hg2 (fun k hk=>by injection hk with hk; omega) (by omega)))
  have HM:=zhi hm1
  clear hW2 row2 hr1 hb1 hg2 hm1 HS HW q3 q5
  go_wp2_with (with_reducible refine z1z ?_)
  obtain ⟨w3,hw3⟩:∃ w3,w3=w2.setCell ⟨w.heap.size,5,none⟩ (.slice A1 m1 c1):=⟨_,rfl⟩
  rw [← hw3] at HZ2 HR2 HB2 hs2 ⊢
  clear hw3 a0 a1 a2 a3 a4 a5 b5 f5
  refine z08.of (z00 _ rfl _ _ _ rfl (w.heap.size+1) _ rfl (by rfl) _ _ HZ2.out (by kernel_rfl) (by rfl) (by simp [Value.oneCell']) ?_)
  intro w9 hrow9 hg9
  obtain ⟨j0,j1,j2,j3,j4,j5⟩:=cl6 hrow9
  have HH:Hid (PXr (d+1+1) (rsX gl fl ls (.mk k o a l s xs)) w (.returned (.agg #[.int .i64 k,.int .i64 o,.int .i64 a,.int .i64 l,.string s,.slice A1 m1 c1])) w9):=zhi ⟨k,o,a,l,s,A1,m1,c1,rfl,by
   have hm:=HM.out
   subst hm
   rw [HPl.out]
   exact z1K.2 ⟨A1,c1,rfl,HR2.out.keep (fun b hb=>⟨by omega,Nat.lt_of_lt_of_le hb.2 hg9.size⟩) (fun b hb=>hg9.block b hb.2 (fun e=>by injection e with e; omega))⟩,HB2.out.trans (z07 hg9 (fun k hk=>by injection hk with hk; omega) (by omega))⟩
  clear hrow9 hg9
  go_wp2_with fail
  exact bodyPost_ret (by simp [results,Try.results43,go_sem,j0,j1,j2,j3,j4,j5]) rfl (HG.out _ _ HH.out)
 ·have b13:(k == 13)=false:=by simpa using e13
  have b4:(k == 4)=false:=by simpa using e4
  have b11:(k == 11)=false:=by simpa using e11
  have b10:(k == 10)=false:=by simpa using e10
  have b9:(k == 9)=false:=by simpa using e9b
  clear e13 e9 e4 e11 e10 e9b
  go_enter Try.func43,Try.ntmps43
  go_upto_region 1 with fail
  obtain ⟨W0,hW0⟩:∃ W0,W0=((w.alloc (.cells #[.int .i64 k,.int .i64 o,.int .i64 a,.int .i64 l,.string s,.slice A n c] 112)).alloc (.cells #[.int .i64 0,.int .i64 0,.int .i64 0,.int .i64 0,.string { data:=#[] },.slice none 0 0] 112)):=⟨_,rfl⟩
  rw [← hW0] at HW ⊢
  clear hW0
  have q0:=cell_of_row _ _ 0 _ _ _ HW.out.x
  go_upto_region 24 with fail
  clear q0 b13 b4 b11 b10 b9
  have HG:Hid (∀ e w9,PXr (d+1+1) (rsX gl fl ls (.mk k o a l s xs)) w e w9→PXr (d+1+1) (rsX gl fl ls (.mk k o a l s xs)) w e w9):=zhi (fun _ _ h=>h)
  have HS:=zhi (HE.out F base D dd gl fl p ls xs A n c _ HW.out.sc HW.out.row Hn.out Hok.out hn3)
  have hsz:=(Array.getElem?_eq_some_iff.1 HW.out.z).1
  have q3:=cell_of_row _ _ 3 _ _ _ HW.out.x
  have q5:=cell_of_row _ _ 5 _ _ _ HW.out.x
  go_wp2_with fail
  refine HS.out.mono ?_
  rintro e w2 ⟨A1,m1,c1,L1,rfl,hm1,hr1,_,hb1⟩
  have hW2:=HW.out.below hb1
  have f5:=z09 hW2.x 5
  have b5:=cell_of_row _ _ 5 _ _ _ hW2.x
  have hg2:w2.grownBy (w2.setCell ⟨w.heap.size,5,none⟩ (.slice A1 m1 c1)) (some w.heap.size):=z05 w2 ⟨w.heap.size,5,none⟩ _
  have row2:(w2.setCell ⟨w.heap.size,5,none⟩ (.slice A1 m1 c1)).heap[w.heap.size]?=some (.cells #[.int .i64 k,.int .i64 o,.int .i64 a,.int .i64 l,.string s,.slice A1 m1 c1] 112 (0,0)):=z0d (i:=5) _ hW2.x
  obtain ⟨a0,a1,a2,a3,a4,a5⟩:=cl6 row2
  have hsz1:=hb1.size
  have hs2:w2.heap.size≤(w2.setCell ⟨w.heap.size,5,none⟩ (.slice A1 m1 c1)).heap.size:=hg2.size
  have HZ2:=zhi ((hg2.block (w.heap.size+1) (by omega) (fun e=>by injection e with e; omega)).trans hW2.z)
  have HR2:=zhi ((hr1.row.2).keep (G:=fun b=>w.heap.size+2≤b∧b<(w2.setCell ⟨w.heap.size,5,none⟩ (.slice A1 m1 c1)).heap.size) (fun b hb=>⟨by omega,by omega⟩) (fun b hb=>hg2.block b hb.2 (fun e=>by injection e with e; omega)))
  have HB2:=zhi (hW2.lo.trans (z07 hg2 (fun k hk=>by injection hk with hk; omega) (by omega)))
  have HM:=zhi hm1
  clear hW2 row2 hr1 hb1 hg2 hm1 HS HW q3 q5
  go_wp2_with (with_reducible refine z1z ?_)
  obtain ⟨w3,hw3⟩:∃ w3,w3=w2.setCell ⟨w.heap.size,5,none⟩ (.slice A1 m1 c1):=⟨_,rfl⟩
  rw [← hw3] at HZ2 HR2 HB2 hs2 ⊢
  clear hw3 a0 a1 a2 a3 a4 a5 b5 f5
  refine z08.of (z00 _ rfl _ _ _ rfl (w.heap.size+1) _ rfl (by rfl) _ _ HZ2.out (by kernel_rfl) (by rfl) (by simp [Value.oneCell']) ?_)
  intro w9 hrow9 hg9
  obtain ⟨j0,j1,j2,j3,j4,j5⟩:=cl6 hrow9
  have HH:Hid (PXr (d+1+1) (rsX gl fl ls (.mk k o a l s xs)) w (.returned (.agg #[.int .i64 k,.int .i64 o,.int .i64 a,.int .i64 l,.string s,.slice A1 m1 c1])) w9):=zhi ⟨k,o,a,l,s,A1,m1,c1,rfl,by
   have hm:=HM.out
   subst hm
   rw [HPl.out]
   exact z1K.2 ⟨A1,c1,rfl,HR2.out.keep (fun b hb=>⟨by omega,Nat.lt_of_lt_of_le hb.2 hg9.size⟩) (fun b hb=>hg9.block b hb.2 (fun e=>by injection e with e; omega))⟩,HB2.out.trans (z07 hg9 (fun k hk=>by injection hk with hk; omega) (by omega))⟩
  clear hrow9 hg9
  go_wp2_with fail
  exact bodyPost_ret (by simp [results,Try.results43,go_sem,j0,j1,j2,j3,j4,j5]) rfl (HG.out _ _ HH.out)
theorem z5E:∀ d:Nat,zc9 d
 | 0=>fun _ _ _ _ _ _ _ _ _ _ _ _ h _=>h.elim
 | d+1=>zdt (zcr (z5E d))
end Go.Proofs.Ytleicdfkagejoaa
