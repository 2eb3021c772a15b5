/-
  La: RsA, RsB, RsC, RsD. Part of the proof. No condition.
-/
import Derived.Test.YtdflbhofmmlpgaaGreatKc
import Derived.Test.YtdflbhofmmlpgaaGreatKh
import Derived.Deep.RegionLaw
import Derived.Laws.Cover1
set_option maxRecDepth 100000
set_option maxHeartbeats 8000000
namespace Go.Proofs.YtdflbhofmmlpgaaGreat
open Go.RowKit
abbrev GlL:=List (Zb × Int)
theorem z0k.keepR {F G:Nat->Prop} {w w':World} {l:List (Zb × Int)} {A:Option Addr} {c:Nat} (h:z0k F w l A c) (hFG:∀ b,F b->G b) (hk:∀ b,F b->w'.heap[b]?=w.heap[b]?):z0k G w' l A c :=
 ⟨h.1,fun i x hi=>by
  obtain ⟨r,hA,hr,e0,e1⟩:=h.2 i x hi;exact ⟨r,hA,hFG r hr,(q_6 (hk r hr)).trans e0,(q_6 (hk r hr)).trans e1⟩⟩
theorem z0l.keepR {F G:Nat->Prop} {w w':World} {l:List Zb} {A:Option Addr} {c:Nat} (h:z0l F w l A c) (hFG:∀ b,F b->G b) (hk:∀ b,F b->w'.heap[b]?=w.heap[b]?):z0l G w' l A c :=
 ⟨h.1,fun i x hi=>by
  obtain ⟨r,hA,hr,e0⟩:=h.2 i x hi;exact ⟨r,hA,hFG r hr,(q_6 (hk r hr)).trans e0⟩⟩
theorem z0R.keepR {F G:Nat->Prop} {w w':World} {D d:Nat} {l:List Fn} {A:Option Addr} {c:Nat} (h:z0R F w D d l A c) (hFG:∀ b,F b->G b) (hk:∀ b,F b->w'.heap[b]?=w.heap[b]?):z0R G w' D d l A c :=
 ⟨h.1,fun i x hi=>by
  obtain ⟨r,pA,pc,bA,bc,hA,hr,e0,e1,e2,e3,hp,hb⟩:=h.2 i x hi;exact ⟨r,pA,pc,bA,bc,hA,hFG r hr,(q_6 (hk r hr)).trans e0,(q_6 (hk r hr)).trans e1,(q_6 (hk r hr)).trans e2,(q_6 (hk r hr)).trans e3,hp.keepR hFG hk,RowS.keep hFG hk hb⟩⟩
theorem z4j {F:Nat->Prop} {w:World} {base:Nat} {A:Option Addr} {n c:Nat} {xs:List Zb} (h:w.ownsRow base 9 1 (.slice A n c) xs.length (xs.map Value.string)) (hF:∀ b,base<=b->b<w.heap.size->F b):n=xs.length/\z0l F w xs A c:=by
 rcases h.2 with ⟨e,h0⟩ | ⟨g',cap,cur,e,hb,hh,hc,_⟩
 ·injection e with e1 e2 e3;subst e1 e2 e3;exact ⟨h0.symm,by rw [h0]; exact q_2 _,fun i x hi=>by rw [q_g h0] at hi; simp at hi⟩
 ·injection e with e1 e2 e3;subst e1 e2 e3;refine ⟨rfl,hc,fun i x hi=>⟨g',rfl,hF g' hb (q_0.1 hh).1,?_⟩⟩;have hi2:i<xs.length:=by
   rcases q_f i xs.length with h' | h'
   ·exact h'
   ·rw [q_j h'] at hi; cases hi
  rw [h.cellAt i (by omega),q_b,hi];rfl
def z0S (l:List Zb) (s:Zb):Option Nat:=l.findIdx? fun x=>x.data.toList == s.data.toList
def intO:Option Nat->Int | some i=>(i:Int) | none=>-1
theorem z3l {l:List Zb} {s:Zb} {k:Nat} (h:l[k]?=some s) (hl:∀ j,j<k->l[j]?≠some s):z0S l s=some k:=by
 have hk:k<l.length:=by
  rcases q_f k l.length with h' | h'
  ·exact h'
  ·rw [q_j h'] at h; cases h
 unfold z0S;rw [List.findIdx?_eq_some_iff_getElem];refine ⟨hk,?_,fun j hj=>?_⟩
 ·have:l[k]=s:=by rw [q_7 hk] at h; injection h
  rw [this]; simp
 ·have hj':j<l.length:=by omega
  intro e;have e1:l[j].data.toList=s.data.toList:=by simpa using e
  exact hl j hj (by rw [q_7 hj',z1A e1])
theorem z75 {l:List Zb} {s:Zb} (hl:∀ j,j<l.length->l[j]?≠some s):z0S l s=none:=by
 unfold z0S;rw [List.findIdx?_eq_none_iff];intro x hx;obtain ⟨j,hj,rfl⟩:=List.getElem_of_mem hx;rw [beq_eq_false_iff_ne];intro e;exact hl j hj (by rw [q_7 hj,z1A e])
theorem z40 {l:List Zb} {s:Zb} {k:Nat} (h:z0S l s=some k):l[k]?=some s:=by
 unfold z0S at h;rw [List.findIdx?_eq_some_iff_getElem] at h;obtain ⟨hk,e,_⟩:=h;have e1:l[k].data.toList=s.data.toList:=by simpa using e
 rw [q_7 hk,z1A e1]
theorem z5o {x s:Zb} (he:x≠s):(x.toList == s.toList)=false:=by
 rw [beq_eq_false_iff_ne];intro e;rw [Lib.toList_data,Lib.toList_data] at e;exact he (z1A e)
theorem z2F {l:List Zb} {s x:Zb} {k:Nat} (H:∀ j,j<k->l[j]?≠some s) (hx:l[k]?=some x) (he:x≠s):∀ j,j<k+1->l[j]?≠some s:=fun j hj=>by
 rcases q_f j k with h | h
 ·exact H j h
 ·obtain rfl:j=k:=by omega
  rw [hx];intro e;injection e with e;exact he e
theorem zdQ {F:Nat->Prop} (s:Zb) (xs:List Zb) (A:Option Addr) (n c:Nat) (w:World) (hn:xs.length=n) (hr:z0l F w xs A c) (hn2:n<=1000000) :
  Calls Tryz.prog 29 #[.slice A n c,.string s] w (RetB (hasB xs s) w):=by
 have Hr:=zhi hr;have Hn:=zhi hn;have hc:n<=c:=by rw [<- hn]; exact hr.1
 clear hr hn;go_enter Tryz.func29,Tryz.ntmps29;go_wp2_with fail
 go_loop [5] (fun i=>∃ k:Nat,k<=n/\i=.int .i64 (k:Int)/\Hid (∀ j,j<k->xs[j]?≠some s)) (fun i=>n - (intOf i).toNat)
 case atStart=>exact ⟨0,q_h _,rfl,zhi (fun j hj=>by omega)⟩
 case round =>
  obtain ⟨k,hk,rfl,H⟩:=hrel
  by_cases hlt:k<n
  ·obtain ⟨x,hx⟩:∃ x,xs[k]?=some x:=⟨xs[k]'(by rw [Hn.out]; exact hlt),q_7 _⟩;obtain ⟨g,rfl,_,d0⟩:=Hr.out.2 _ _ hx;have Hx:=zhi hx;clear hx
   by_cases he:x=s
   ·subst he;have HP:Hid (hasB xs x=true):=zhi (z4Z Hx.out);clear H Hx;go_wp2_with fail;go_ret;exact retB HP.out.symm
   ·have H2:=zhi (z2F H.out Hx.out he);have he2:=z5o he;clear H Hx;go_wp2_with fail;exact ⟨⟨k+1,by omega,by go_num,H2⟩,by simp [intOf]; omega⟩
  ·have HP:Hid (hasB xs s=false):=zhi (z4Y (fun j hj=>H.out j (by have:=Hn.out; omega)));clear H;go_wp2_with fail;go_ret;exact retB HP.out.symm
def IntR (z:Int) (w:World) (e:Ending) (w':World):Prop:=e=.returned (.int .i64 z)/\Below w.heap.size w w'
theorem z2D {F:Nat->Prop} (s:Zb) (gl:List (Zb × Int)) (A:Option Addr) (n c:Nat) (fv:Value) (w:World) (hn:gl.length=n) (hr:z0k F w gl A c) (hF:∀ b,F b->b<w.heap.size) (hn2:n<=1000000) (fA:Option Addr) (fm fc:Nat) (hfv:fv=.slice fA fm fc) :
  Calls Tryz.prog 25 #[.agg #[.slice A n c,fv],.string s] w (IntR (intO (z0S (gl.map (·.1)) s)) w):=by
 subst hfv;have hb1:=(q_i _ w).alloc (q_2 _) (.cells #[.slice A n c,.slice fA fm fc] 31);have hr1:z0k F (w.alloc (.cells #[.slice A n c,.slice fA fm fc] 31)) gl A c:=hr.keepR (fun _ h=>h) (fun b hb=>hb1.block _ (hF b hb));have Hr:=zhi hr1;have HB:=zhi hb1;have Hn:=zhi hn;have hc:n<=c:=by rw [<- hn]; exact hr.1
 clear hr hn hr1 hb1;go_enter Tryz.func25,Tryz.ntmps25;go_wp2_with fail
 go_loop [5] (fun i=>∃ k:Nat,k<=n/\i=.int .i64 (k:Int)/\Hid (∀ j,j<k->(gl.map (·.1))[j]?≠some s)) (fun i=>n - (intOf i).toNat)
 case atStart=>exact ⟨0,q_h _,rfl,zhi (fun j hj=>by omega)⟩
 case round =>
  obtain ⟨k,hk,rfl,H⟩:=hrel
  by_cases hlt:k<n
  ·obtain ⟨x,hx⟩:∃ x,gl[k]?=some x:=⟨gl[k]'(by rw [Hn.out]; exact hlt),q_7 _⟩;obtain ⟨g,rfl,_,d0,_⟩:=Hr.out.2 _ _ hx;obtain ⟨x,z⟩:=x;have Hx:Hid ((gl.map (·.1))[k]?=some x):=zhi (by simp [hx]);clear hx;dsimp only at d0
   by_cases he:x=s
   ·subst he;have HP:Hid (intO (z0S (gl.map (·.1)) x)=(k:Int)):=zhi (by rw [z3l Hx.out H.out]; rfl);clear H Hx;go_wp2_with fail;go_ret;exact ⟨by rw [HP.out]; rfl,HB.out⟩
   ·have H2:=zhi (z2F H.out Hx.out he);have he2:=z5o he;clear H Hx;go_wp2_with fail;exact ⟨⟨k+1,by omega,by go_num,H2⟩,by simp [intOf]; omega⟩
  ·have HP:Hid (intO (z0S (gl.map (·.1)) s)=-1):=zhi (by rw [z75 (fun j hj=>H.out j (by have:=Hn.out; simp at hj; omega))]; rfl);clear H;go_wp2_with fail;go_ret;exact ⟨by rw [HP.out]; rfl,HB.out⟩
theorem z5G {F:Nat->Prop} {D d:Nat} (s:Zb) (fl:List Fn) (A:Option Addr) (n c:Nat) (gv:Value) (w:World) (hn:fl.length=n) (hr:z0R F w D d fl A c) (hF:∀ b,F b->b<w.heap.size) (hn2:n<=1000000) (gA:Option Addr) (gm gc:Nat) (hgv:gv=.slice gA gm gc) :
  Calls Tryz.prog 26 #[.agg #[gv,.slice A n c],.string s] w (IntR (intO (z0S (fl.map (·.name)) s)) w):=by
 subst hgv;have hb1:=(q_i _ w).alloc (q_2 _) (.cells #[.slice gA gm gc,.slice A n c] 31);have hr1:z0R F (w.alloc (.cells #[.slice gA gm gc,.slice A n c] 31)) D d fl A c:=hr.keepR (fun _ h=>h) (fun b hb=>hb1.block _ (hF b hb));have Hr:=zhi hr1;have HB:=zhi hb1;have Hn:=zhi hn;have hc:n<=c:=by rw [<- hn]; exact hr.1
 clear hr hn hr1 hb1;go_enter Tryz.func26,Tryz.ntmps26;go_wp2_with fail
 go_loop [5] (fun i=>∃ k:Nat,k<=n/\i=.int .i64 (k:Int)/\Hid (∀ j,j<k->(fl.map (·.name))[j]?≠some s)) (fun i=>n - (intOf i).toNat)
 case atStart=>exact ⟨0,q_h _,rfl,zhi (fun j hj=>by omega)⟩
 case round =>
  obtain ⟨k,hk,rfl,H⟩:=hrel
  by_cases hlt:k<n
  ·obtain ⟨x,hx⟩:∃ x,fl[k]?=some x:=⟨fl[k]'(by rw [Hn.out]; exact hlt),q_7 _⟩;obtain ⟨g,_,_,_,_,rfl,_,d0,_⟩:=Hr.out.2 _ _ hx;have Hx:Hid ((fl.map (·.name))[k]?=some x.name):=zhi (by simp [hx]);clear hx;generalize x.name=y at d0 Hx
   by_cases he:y=s
   ·subst he;have HP:Hid (intO (z0S (fl.map (·.name)) y)=(k:Int)):=zhi (by rw [z3l Hx.out H.out]; rfl);clear H Hx;go_wp2_with fail;go_ret;exact ⟨by rw [HP.out]; rfl,HB.out⟩
   ·have H2:=zhi (z2F H.out Hx.out he);have he2:=z5o he;clear H Hx;go_wp2_with fail;exact ⟨⟨k+1,by omega,by go_num,H2⟩,by simp [intOf]; omega⟩
  ·have HP:Hid (intO (z0S (fl.map (·.name)) s)=-1):=zhi (by rw [z75 (fun j hj=>H.out j (by have:=Hn.out; simp at hj; omega))]; rfl);clear H;go_wp2_with fail;go_ret;exact ⟨by rw [HP.out]; rfl,HB.out⟩
structure SrcR (F:Nat->Prop) (w:World) (D d:Nat) (gl:GlL) (fl:List Fn) (gA:Option Addr) (gc:Nat) (fA:Option Addr) (fc:Nat):Prop where
 gs:z0k F w gl gA gc
 fs:z0R F w D d fl fA fc
 gn:gl.length<=1000000
 fn:fl.length<=1000000
theorem SrcR.keep {F G:Nat->Prop} {w w':World} {D d:Nat} {gl:GlL} {fl:List Fn} {gA:Option Addr} {gc:Nat} {fA:Option Addr} {fc:Nat} (hFG:∀ b,F b->G b) (hk:∀ b,F b->w'.heap[b]?=w.heap[b]?) (h:SrcR F w D d gl fl gA gc fA fc):SrcR G w' D d gl fl gA gc fA fc :=
 ⟨h.gs.keepR hFG hk,h.fs.keepR hFG hk,h.gn,h.fn⟩
def z0D (gl:GlL) (fl:List Fn) (s:Zb):Int :=
 match z0S (gl.map (·.1)) s with
 | some k=>if 0<((gl[k]?).map (·.2)).getD 0 then 3 else 2
 | none=>match z0S (fl.map (·.name)) s with | some _=>4 | none=>0
theorem z9B {F:Nat->Prop} {D d:Nat} (s:Zb) (gl:GlL) (fl:List Fn) (gA:Option Addr) (n gc:Nat) (fA:Option Addr) (m fc:Nat) (w:World) (hn:gl.length=n) (hm:fl.length=m) (h:SrcR F w D d gl fl gA gc fA fc) (hF:∀ b,F b->b<w.heap.size) :
  Calls Tryz.prog 30 #[.agg #[.slice gA n gc,.slice fA m fc],.string s] w (IntR (z0D gl fl s) w):=by
 have hb1:=(q_i _ w).alloc (q_2 _) (.cells #[.slice gA n gc,.slice fA m fc] 31);have hrow1:=q_4 w (.cells #[.slice gA n gc,.slice fA m fc] 31);have h1:SrcR F (w.alloc (.cells #[.slice gA n gc,.slice fA m fc] 31)) D d gl fl gA gc fA fc:=h.keep (fun _ h=>h) (fun b hb=>hb1.block _ (hF b hb));have hF1:∀ b,F b->b<(w.alloc (.cells #[.slice gA n gc,.slice fA m fc] 31)).heap.size:=fun b hb=>q_1 (hF b hb) hb1.size
 have HG:=zhi (z2D s gl gA n gc _ _ hn h1.gs hF1 (by rw [<- hn]; exact h1.gn) fA m fc rfl);have HFn:=zhi (fun (w1:World) (hb:Below (w.alloc (.cells #[.slice gA n gc,.slice fA m fc] 31)).heap.size (w.alloc (.cells #[.slice gA n gc,.slice fA m fc] 31)) w1)=>z5G s fl fA m fc _ w1 hm (h1.keep (fun _ h=>h) (fun b hb'=>hb.block _ (hF1 b hb'))).fs (fun b hb'=>q_1 (hF1 b hb') hb.size) (by rw [<- hm]; exact h1.fn) gA n gc rfl);have H1:=zhi h1;have HF1:=zhi hF1;have HB1:=zhi hb1;have HR1:=zhi hrow1;have hnc:n<=gc:=by rw [<- hn]; exact h.gs.1
 have hn2:n<=1000000:=by rw [<- hn]; exact h.gn
 have Hn:=zhi hn;have hlt1:w.heap.size<(w.alloc (.cells #[.slice gA n gc,.slice fA m fc] 31)).heap.size:=by simp
 clear h1 hF1 hb1 hrow1 h hF hn hm;cases hi:z0S (gl.map (·.1)) s with
 | some k =>
  obtain ⟨x,hx⟩:∃ x,gl[k]?=some x:=by
   have:=z40 hi;rw [q_b] at this;cases hg:gl[k]? with
   | none=>rw [hg] at this; cases this
   | some x=>exact ⟨x,rfl⟩
  have hkn:k<n:=by
   rw [<- Hn.out];rcases q_f k gl.length with h' | h'
   ·exact h'
   ·rw [q_j h'] at hx; cases hx
  obtain ⟨y,z⟩:=x;have HO:Hid (z0D gl fl s=if 0<z then 3 else 2):=zhi (by unfold z0D; rw [hi]; simp [hx]);have HX:=zhi hx;rw [hi] at HG;have HG:Hid (Calls Tryz.prog 25 #[.agg #[.slice gA n gc,.slice fA m fc],.string s] _ (IntR (k:Int) _)):=HG;clear hi hx HFn;go_enter Tryz.func30,Tryz.ntmps30;go_wp2_with fail;refine HG.out.mono ?_;rintro e w1 ⟨rfl,hb⟩;have hrow:=(hb.block _ hlt1).trans HR1.out;have c0:=zcr 0 hrow;have h1:=H1.out.keep (G:=F) (fun _ h=>h) (fun b hb'=>hb.block _ (HF1.out b hb'));obtain ⟨g,rfl,_,_,d1⟩:=h1.gs.2 _ _ HX.out;dsimp only at d1;have HE:=zhi (z08 HB1.out hb);clear hb hrow h1 HG H1 HF1 HB1 HR1 HX
  by_cases hz:0<z
  ·go_wp2_with fail;go_ret;exact ⟨by rw [HO.out,if_pos hz]; rfl,HE.out⟩
  ·go_wp2_with fail;go_ret;exact ⟨by rw [HO.out,if_neg (by omega)]; rfl,HE.out⟩
 | none =>
  rw [hi] at HG;have HG:Hid (Calls Tryz.prog 25 #[.agg #[.slice gA n gc,.slice fA m fc],.string s] _ (IntR (-1) _)):=HG;have HO:Hid (z0D gl fl s=match z0S (fl.map (·.name)) s with | some _=>4 | none=>0):=zhi (by unfold z0D; rw [hi]);clear hi;go_enter Tryz.func30,Tryz.ntmps30;go_wp2_with fail;refine HG.out.mono ?_;rintro e w1 ⟨rfl,hb⟩;have hrow:=(hb.block _ hlt1).trans HR1.out;obtain ⟨c0,c1⟩:=cl2 hrow;have HF:=zhi (HFn.out w1 hb);have HB:=zhi (z08 HB1.out hb);clear hb hrow HG H1 HF1 HB1 HR1 HFn;cases hi2:z0S (fl.map (·.name)) s with
  | some k =>
   rw [hi2] at HF HO;have HF:Hid (Calls Tryz.prog 26 #[.agg #[.slice gA n gc,.slice fA m fc],.string s] w1 (IntR (k:Int) w1)):=HF;clear hi2;go_wp2_with fail;refine HF.out.mono ?_;rintro e w2 ⟨rfl,hb⟩;have HE:=zhi (z08 HB.out hb);clear hb;go_wp2_with fail;go_ret;exact ⟨by rw [HO.out]; rfl,HE.out⟩
  | none =>
   rw [hi2] at HF HO;have HF:Hid (Calls Tryz.prog 26 #[.agg #[.slice gA n gc,.slice fA m fc],.string s] w1 (IntR (-1) w1)):=HF;clear hi2;go_wp2_with fail;refine HF.out.mono ?_;rintro e w2 ⟨rfl,hb⟩;have HE:=zhi (z08 HB.out hb);clear hb;go_wp2_with fail;go_ret;exact ⟨by rw [HO.out]; rfl,HE.out⟩
def ScR (F:Nat->Prop) (base:Nat) (D d:Nat) (gl:GlL) (fl:List Fn) (p:Nat) (ls:List Zb) (w:World):Prop :=
 ∃ gA gc fA fc v,SrcR F w D d gl fl gA gc fA fc/\(∀ b,F b->b<base)/\base<=p/\base<=w.heap.size /\
  w.heap[p]?=some (.cells #[.slice gA gl.length gc,.slice fA fl.length fc,v,.int .i64 0,.int .i64 0] 90 (0,0))/\w.ownsRow base 9 1 v ls.length (ls.map Value.string)/\v.ownBlock≠some p/\ls.length<=1000000
theorem z1j {w w':World} {base n size:Nat} {T:TypeId} {v:Value} {xs:List Value} (h:w.ownsRow base T size v n xs) (hk:∀ b,v.ownBlock=some b->w'.heap[b]?=w.heap[b]?):w'.ownsRow base T size v n xs:=by
 rcases h.2 with hn | ⟨g',cap,cur,e,hb',hh,rest⟩
 ·exact ⟨h.1,.inl hn⟩
 ·exact ⟨h.1,.inr ⟨g',cap,cur,e,hb',(hk g' (by rw [e]; rfl)).trans hh,rest⟩⟩
theorem ScR.below {F:Nat->Prop} {base D d:Nat} {gl:GlL} {fl:List Fn} {p:Nat} {ls:List Zb} {w w':World} (h:ScR F base D d gl fl p ls w) (hb:Below w.heap.size w w'):ScR F base D d gl fl p ls w':=by
 obtain ⟨gA,gc,fA,fc,v,h1,h2,h3,h4,h5,h6,h7,h8⟩:=h;have hlt:=(q_0.1 h5).1;exact ⟨gA,gc,fA,fc,v,h1.keep (fun _ h=>h) (fun b hb'=>hb.block b (q_1 (h2 b hb') h4)),h2,h3,q_9 h4 hb.size,(hb.block p hlt).trans h5,z1j h6 (fun b hb'=>hb.block b (h6.lt b hb').2),h7,h8⟩
theorem ScR.plt {F:Nat->Prop} {base D d:Nat} {gl:GlL} {fl:List Fn} {p:Nat} {ls:List Zb} {w:World} (h:ScR F base D d gl fl p ls w):p<w.heap.size:=by
 obtain ⟨gA,gc,fA,fc,v,h1,h2,h3,h4,h5,h6,h7,h8⟩:=h;exact (q_0.1 h5).1
def z0s (gl:GlL) (fl:List Fn) (ls:List Zb) (s:Zb):Int:=if hasB ls s then 1 else z0D gl fl s
theorem z66 {F:Nat->Prop} {base D d:Nat} {gl:GlL} {fl:List Fn} {p:Nat} {ls:List Zb} (s:Zb) (w:World) (h:ScR F base D d gl fl p ls w) :
  Calls Tryz.prog 48 #[.pointer (some ⟨p,0,none⟩),.string s] w (IntR (z0s gl fl ls s) w):=by
 obtain ⟨gA,gc,fA,fc,v,h1,h2,h3,h4,h5,h6,h7,h8⟩:=h;obtain ⟨lA,lc,rfl⟩:=z0x h6;have HH:=zhi (zdQ s ls lA ls.length lc w rfl (z4j (F:=fun _=>True) h6 (fun _ _ _=>trivial)).2 h8);have HO:=zhi (z9B s gl fl gA gl.length gc fA fl.length fc w rfl rfl h1 (fun b hb=>q_1 (h2 b hb) h4));obtain ⟨c0,c1,c2⟩:=cl3 h5;have HW:Hid (z0s gl fl ls s=if hasB ls s then 1 else z0D gl fl s):=zhi rfl;clear h1 h2 h3 h4 h5 h6 h7 h8;cases hv:hasB ls s with
 | true =>
  rw [hv] at HH HW;clear hv;go_enter Tryz.func48,Tryz.ntmps48;go_wp2_with fail;refine HH.out.mono ?_;rintro e w1 ⟨rfl,rfl⟩;go_wp2_with fail;go_ret;exact ⟨by rw [HW.out]; rfl,q_i _ _⟩
 | false =>
  rw [hv] at HH HW;clear hv;go_enter Tryz.func48,Tryz.ntmps48;go_wp2_with fail;refine HH.out.mono ?_;rintro e w1 ⟨rfl,rfl⟩;go_wp2_with fail;refine HO.out.mono ?_;rintro e w1 ⟨rfl,hb⟩;have HB:=zhi hb;clear hb;go_wp2_with fail;go_ret;exact ⟨by rw [HW.out]; rfl,HB.out⟩
theorem z1C {P:Program} {w:World} {ops:Array Oper} {rest:List Oper} {d:Option Tmp} {ty:TypeId} {x y:Operand} {pos:String} {af:Array Edge} {gd:Option (Nat × Bool)} {a:Act} {Q:Exit->Act->World->Prop}
  (h:z07 (wpList P ops Q ({ dst:=d,op:=.store 124 x y,type:=ty,pos:=pos,after:=af,guard:=gd } :: rest) a w)):wpList P ops Q ({ dst:=d,op:=.store 124 x y,type:=ty,pos:=pos,after:=af,guard:=gd } :: rest) a w:=h
def vrX (gl:GlL) (fl:List Fn) (ls:List Zb) (s:Zb) (l:Int):Ex:=.mk (if z0s gl fl ls s=1 then 2 else 3) 0 0 l s []
mutual
def rsX (gl:GlL) (fl:List Fn) (ls:List Zb):Ex->Ex
 | .mk k o a l s xs=>if k=13 then vrX gl fl ls s l else if k=9/\z0s gl fl ls s<=2 then .mk 10 0 0 l ⟨#[]⟩ (vrX gl fl ls s l :: rsL gl fl ls xs) else .mk k o a l s (rsL gl fl ls xs)
def rsL (gl:GlL) (fl:List Fn) (ls:List Zb):List Ex->List Ex
 | []=>[]
 | x :: xs=>rsX gl fl ls x :: rsL gl fl ls xs
end
theorem z11 {gl:GlL} {fl:List Fn} {ls:List Zb}:∀ (xs:List Ex),(rsL gl fl ls xs).length=xs.length
 | []=>rfl
 | x :: xs=>by simp [rsL,z11 xs]
theorem z6F {gl:GlL} {fl:List Fn} {ls:List Zb}:∀ (xs ys:List Ex),rsL gl fl ls (xs++ys)=rsL gl fl ls xs++rsL gl fl ls ys
 | [],_=>rfl
 | x :: xs,ys=>by simp [rsL,z6F xs]
def okN (gl:GlL) (fl:List Fn) (ls:List Zb) (k:Int) (s:Zb) (n:Nat):Prop :=
 (k=13->z0s gl fl ls s=1\/z0s gl fl ls s=2)/\(k=4->z0s gl fl ls s=3)/\(k=11->z0s gl fl ls s=4) /\
 (k=9->(z0s gl fl ls s=4/\∃ j f,z0S (fl.map (·.name)) s=some j/\fl[j]?=some f/\f.params.length=n)\/z0s gl fl ls s=1\/z0s gl fl ls s=2)/\n<=3
mutual
def okX (gl:GlL) (fl:List Fn) (ls:List Zb):Ex->Prop
 | .mk k _ _ _ s xs=>okN gl fl ls k s xs.length/\okL gl fl ls xs
def okL (gl:GlL) (fl:List Fn) (ls:List Zb):List Ex->Prop
 | []=>True
 | x :: xs=>okX gl fl ls x/\okL gl fl ls xs
end
theorem z9w {gl:GlL} {fl:List Fn} {ls:List Zb}:∀ {xs:List Ex} {i:Nat} {x:Ex},okL gl fl ls xs->xs[i]?=some x->okX gl fl ls x
 | [],_,_,_,h=>by simp at h
 | y :: ys,0,x,h,hi=>by
  simp at hi;subst hi;exact h.1
 | y :: ys,i+1,x,h,hi=>z9w h.2 (by simpa using hi)
def zeO (w:World) (e:Ending) (w':World):Prop:=(∃ v,e=.returned v)/\Below w.heap.size w w'
theorem zae {F:Nat->Prop} {base D d:Nat} {gl:GlL} {fl:List Fn} {p:Nat} {ls:List Zb} (k o a l:Int) (s:Zb) (A:Option Addr) (n c:Nat) (x y:Int) (w:World) (h:ScR F base D d gl fl p ls w)
  (hc:(x=1/\y=2/\z0s gl fl ls s=1)\/(x=1/\y=2/\z0s gl fl ls s=2)\/(x=3/\y=3/\z0s gl fl ls s=3)\/(x=4/\y=4/\z0s gl fl ls s=4)) :
  Calls Tryz.prog 64 #[.pointer (some ⟨p,0,none⟩),.agg #[.int .i64 k,.int .i64 o,.int .i64 a,.int .i64 l,.string s,.slice A n c],.int .i64 x,.int .i64 y] w (zeO w):=by
 have hb0:=(q_i _ w).alloc (q_2 _) (.cells #[.int .i64 k,.int .i64 o,.int .i64 a,.int .i64 l,.string s,.slice A n c] 124);have HW:=zhi (z66 s _ (h.below hb0));have HB:=zhi hb0;clear h hb0;generalize z0s gl fl ls s=zz at HW hc;rcases hc with ⟨rfl,rfl,rfl⟩ | ⟨rfl,rfl,rfl⟩ | ⟨rfl,rfl,rfl⟩ | ⟨rfl,rfl,rfl⟩
 all_goals
  go_enter Tryz.func64,Tryz.ntmps64;go_wp2_with fail;refine HW.out.mono ?_;rintro e w1 ⟨rfl,hb⟩;have HE:=zhi (z08 HB.out hb);clear hb HW;go_wp2_with fail;exact q_3 (results_none rfl _ _ _) rfl ⟨⟨_,rfl⟩,HE.out⟩
def ValR (k l:Int) (s:Zb) (w:World) (e:Ending) (w':World):Prop:=e=.returned (.agg #[.int .i64 k,.int .i64 0,.int .i64 0,.int .i64 l,.string s,.slice none 0 0])/\Below w.heap.size w w'
theorem zep {F:Nat->Prop} {base D d:Nat} {gl:GlL} {fl:List Fn} {p:Nat} {ls:List Zb} (s:Zb) (l:Int) (w:World) (h:ScR F base D d gl fl p ls w) :
  Calls Tryz.prog 65 #[.pointer (some ⟨p,0,none⟩),.string s,.int .i64 l] w (ValR (if z0s gl fl ls s=1 then 2 else 3) l s w):=by
 have hb0:=(q_i _ w).alloc (q_2 _) (.cells #[.int .i64 0,.int .i64 0,.int .i64 0,.int .i64 0,.string { data:=#[] },.slice none 0 0] 124);have hr0:=q_4 w (.cells #[.int .i64 0,.int .i64 0,.int .i64 0,.int .i64 0,.string { data:=#[] },.slice none 0 0] 124);have hlt:w.heap.size<(w.alloc (.cells #[.int .i64 0,.int .i64 0,.int .i64 0,.int .i64 0,.string { data:=#[] },.slice none 0 0] 124)).heap.size:=by simp
 have HW:=zhi (z66 s _ (h.below hb0));have HB:=zhi hb0;have HR:=zhi hr0;clear h hb0 hr0;generalize z0s gl fl ls s=zz at HW ⊢
 by_cases hz:zz=1
 ·rw [if_pos hz];subst hz;go_enter Tryz.func65,Tryz.ntmps65;go_wp2_with fail;refine HW.out.mono ?_;rintro e w1 ⟨rfl,hb⟩;have HE:=zhi (z08 HB.out hb);have HR1:=zhi ((hb.block _ hlt).trans HR.out);have hsz:=hb.size;clear hb HW HR HB;go_wp2_with (with_reducible refine z1C ?_);refine z07.of (z00 _ rfl _ _ _ rfl w.heap.size _ rfl (by rfl) _ _ HR1.out (by kernel_rfl) (by rfl) (by simp [Value.oneCell']) ?_);intro w9 hrow9 hg9;obtain ⟨j0,j1,j2,j3,j4,j5⟩:=cl6 hrow9;have HH:=zhi (HE.out.trans (z05 hg9 (fun k hk=>by injection hk with hk; omega) (by omega):Below w.heap.size _ w9));clear hrow9 hg9;go_wp2_with fail;exact q_3 (v:=.agg #[.int .i64 2,.int .i64 0,.int .i64 0,.int .i64 l,.string s,.slice none 0 0]) (by simp [results,Tryz.results65,go_sem,j0,j1,j2,j3,j4,j5]) rfl ⟨rfl,HH.out⟩
 ·rw [if_neg hz];have hz2:(zz != 1)=true:=by simp [hz]
  have Hz:=zhi hz;clear hz;go_enter Tryz.func65,Tryz.ntmps65;go_wp2_with fail;refine HW.out.mono ?_;rintro e w1 ⟨rfl,hb⟩;have HE:=zhi (z08 HB.out hb);have HR1:=zhi ((hb.block _ hlt).trans HR.out);have hsz:=hb.size;clear hb HW HR HB;go_wp2_with (with_reducible refine z1C ?_);refine z07.of (z00 _ rfl _ _ _ rfl w.heap.size _ rfl (by rfl) _ _ HR1.out (by kernel_rfl) (by rfl) (by simp [Value.oneCell']) ?_);intro w9 hrow9 hg9;obtain ⟨j0,j1,j2,j3,j4,j5⟩:=cl6 hrow9;have HH:=zhi (HE.out.trans (z05 hg9 (fun k hk=>by injection hk with hk; omega) (by omega):Below w.heap.size _ w9));clear hrow9 hg9;go_wp2_with fail;exact q_3 (v:=.agg #[.int .i64 3,.int .i64 0,.int .i64 0,.int .i64 l,.string s,.slice none 0 0]) (by simp [results,Tryz.results65,go_sem,j0,j1,j2,j3,j4,j5]) rfl ⟨rfl,HH.out⟩
def PXr (d:Nat) (x:Ex) (w:World) (e:Ending) (w':World):Prop:=∃ k o a l s A n c,e=.returned (.agg #[.int .i64 k,.int .i64 o,.int .i64 a,.int .i64 l,.string s,.slice A n c])/\ExV (fun b=>w.heap.size<=b/\b<w'.heap.size) w' d x (.agg #[.int .i64 k,.int .i64 o,.int .i64 a,.int .i64 l,.string s,.slice A n c])/\Below w.heap.size w w'
def PXsr (d:Nat) (xs:List Ex) (w:World) (e:Ending) (w':World):Prop:=∃ A m c L,e=.returned (.slice A m c)/\m=xs.length/\z0p w.heap.size d w' (.slice A m c) xs L/\(xs=[]->A=none/\c=0)/\Below w.heap.size w w'
def zcf (d:Nat):Prop:=∀ (F:Nat->Prop) (base D dd:Nat) (gl:GlL) (fl:List Fn) (p:Nat) (ls:List Zb) (x:Ex) (v:Value) (w:World),ScR F base D dd gl fl p ls w->ExV F w d x v->okX gl fl ls x->Calls Tryz.prog 47 #[.pointer (some ⟨p,0,none⟩),v] w (PXr (d+1) (rsX gl fl ls x) w)
def zbM (d:Nat):Prop:=∀ (F:Nat->Prop) (base D dd:Nat) (gl:GlL) (fl:List Fn) (p:Nat) (ls:List Zb) (xs:List Ex) (A:Option Addr) (n c:Nat) (w:World),ScR F base D dd gl fl p ls w->RowE F w d xs A c->n=xs.length->okL gl fl ls xs->n<=3->Calls Tryz.prog 66 #[.pointer (some ⟨p,0,none⟩),.slice A n c] w (PXsr (d+1) (rsL gl fl ls xs) w)
theorem ScR.low {F:Nat->Prop} {base D d:Nat} {gl:GlL} {fl:List Fn} {p:Nat} {ls:List Zb} {w:World} (h:ScR F base D d gl fl p ls w):(∀ b,F b->b<w.heap.size):=by
 obtain ⟨gA,gc,fA,fc,v,h1,h2,h3,h4,h5,h6,h7,h8⟩:=h;exact fun b hb=>q_1 (h2 b hb) h4
theorem z4t {base d:Nat} {w:World} {v:Value} {xs:List Ex} {L:List Value} (h:z0p base d w v xs L):∃ A c,v=.slice A xs.length c:=by
 rcases h.own.2 with ⟨e,h0⟩ | ⟨g,cap,cur,e,_⟩
 ·exact ⟨none,0,by rw [h0]; exact e⟩
 ·exact ⟨_,_,e⟩
theorem z3i {base d:Nat} {w w':World} {v:Value} {xs:List Ex} {L:List Value} (h:z0p base d w v xs L) (hb:Below w.heap.size w w'):z0p base d w' v xs L:=by
 refine ⟨z1j h.own (fun b hb'=>hb.block b (h.own.lt b hb').2),fun j x hj=>?_⟩;obtain ⟨c0,c1,c2,c3,c4,c5,e0,e1,e2,e3,e4,e5,hx⟩:=h.at_ j x hj;exact ⟨c0,c1,c2,c3,c4,c5,e0,e1,e2,e3,e4,e5,hx.keep (fun b hb'=>⟨hb'.1,q_1 hb'.2.1 hb.size,hb'.2.2⟩) (fun b hb'=>hb.block b hb'.2.1)⟩
theorem z3j {w wa w':World} {base n size:Nat} {T:TypeId} {v:Value} {xs:List Value} (ho:wa.ownsRow base T size v n xs) (hg:wa.grownBy w' v.ownBlock) (hw:w.heap.size<=base) (hs:w.heap.size<=wa.heap.size):Below w.heap.size wa w' :=
 z05 hg (fun b hb=>q_9 hw (ho.lt b hb).1) hs
def zaq (gl:GlL) (fl:List Fn) (ls:List Zb) (xs:List Ex) (d:Nat) (w:World) (v i:Value) (wr:World):Prop:=∃ ys zs L,xs=ys++zs/\i=.int .i64 (ys.length:Int)/\z0p w.heap.size d wr v (rsL gl fl ls ys) L/\(ys=[]->v=.slice none 0 0)/\Below w.heap.size w wr
theorem zcD {d:Nat} (hE:zcf d):zbM d:=by
 intro F base D dd gl fl p ls xs A n c w hs hr hn hok hn2;have HE:=zhi hE;have HS:=zhi hs;have Hr:=zhi hr;have Hn:=zhi hn;have Hok:=zhi hok;have HF:=zhi hs.low;have hc:n<=c:=by rw [hn]; exact hr.1
 clear hE hr hn hok hs;go_enter Tryz.func66,Tryz.ntmps66;go_wp2_with fail
 go_loopw [5,6] (fun v i wr=>zaq gl fl ls xs (d+1) w v i wr) (fun _ i _=>n - (intOf i).toNat)
 case atStart=>exact ⟨[],xs,[],rfl,rfl,z0p.nil _ _ _,fun _=>rfl,q_i _ _⟩
 case round =>
  obtain ⟨ys,zs,L,hxs,rfl,har,hnil,hb⟩:=hrel;obtain ⟨vA,vc,rfl⟩:=z4t har;have hyn:ys.length<=n:=by rw [Hn.out,hxs]; simp
  have HB:=zhi hb;have HAR:=zhi har;have HXS:=zhi hxs;have HNil:=zhi hnil;have Hlen:=zhi (z11 (gl:=gl) (fl:=fl) (ls:=ls) ys);clear har hb hnil;cases zs with
  | nil =>
   have hyn2:n<=ys.length:=by rw [Hn.out,hxs]; simp
   have HR:Hid (PXsr (d+1) (rsL gl fl ls xs) w (.returned (.slice vA (rsL gl fl ls ys).length vc)) _):=zhi ⟨vA,_,vc,L,rfl,by rw [hxs,List.append_nil],by rw [hxs,List.append_nil]; exact HAR.out,fun e=>by
    rw [hxs,List.append_nil] at e;have h0:ys=[]:=by
     have:=Hlen.out;rw [e] at this;exact q_g this.symm
    have:=HNil.out h0;injection this with h1 h2 h3;exact ⟨h1,h3⟩,HB.out⟩
   clear hxs HAR;go_wp2_with fail;go_ret;exact HR.out
  | cons z zs =>
   have hlt:ys.length<n:=by rw [Hn.out,hxs]; simp
   have hz:xs[ys.length]?=some z:=by rw [hxs]; simp
   obtain ⟨g,off,c0,c1,c2,c3,c4,c5,rfl,hFg,e0,e1,e2,e3,e4,e5,hv⟩:=Hr.out.2 _ _ hz;have hk:∀ o,World.cell? _ ⟨g,o,none⟩=World.cell? w ⟨g,o,none⟩:=fun o=>q_6 (HB.out.block g (HF.out g hFg))
   have d0:=(hk _).trans e0;have d1:=(hk _).trans e1;have d2:=(hk _).trans e2;have d3:=(hk _).trans e3;have d4:=(hk _).trans e4;have d5:=(hk _).trans e5;have HX:=zhi (HE.out F base D dd gl fl p ls z _ _ (HS.out.below HB.out) (hv.keep (fun _ h=>h) (fun b hb=>HB.out.block b (HF.out b hb))) (z9w Hok.out hz));have hszB:=HB.out.size;clear e0 e1 e2 e3 e4 e5 hv hk hxs hz hFg;go_wp2_with fail;refine HX.out.mono ?_;rintro e w1 ⟨k,o,a,l,s,A1,n1,c1',rfl,hx,hb1⟩;have hsz1:=hb1.size;have HAR1:=zhi (z3i HAR.out hb1);have HB1:=zhi (HB.out.trans (hb1.mono hszB));have HV1:=zhi hx;have hown:=HAR.out.own;have HOB:Hid (∀ b,wr.heap.size<=b->(Value.slice vA (rsL gl fl ls ys).length vc).ownBlock≠some b):=zhi (fun b hb e=>absurd (hown.lt b e).2 (Nat.not_lt.2 hb));clear hx hb1 HX HAR HB d0 d1 d2 d3 d4 d5 hown;go_wp2_with (at_builtin; refine z07.out ?_);refine z07.of (z0M w1 rfl (.tmp 13) (.tmp 20) rfl w.heap.size (d+1) (.slice vA (rsL gl fl ls ys).length vc) (rsL gl fl ls ys) L (rsX gl fl ls z) _ _ _ _ _ _ _ _ _ rfl rfl HAR1.out (by rw [Hlen.out]; omega) (by omega) HV1.out (fun b hb=>⟨by omega,hb.2,HOB.out b hb.1⟩) ?_);intro g7 cap w7 har7 hg7;have HS7:Hid (zaq gl fl ls xs (d+1) w (.slice (some ⟨g7,0,none⟩) ((rsL gl fl ls ys).length+1) cap) (.int .i64 ((ys.length:Int)+1)) w7):=zhi ⟨ys++[z],zs,_,by rw [HXS.out]; simp,by simp,by rw [z6F]; exact har7,fun e=>by simp at e,HB1.out.trans (z3j HAR1.out.own hg7 (q_2 _) (by omega))⟩;clear har7 hg7 HAR1 HB1 HV1 HOB;go_wp2_with fail;exact ⟨HS7.out,by simp [intOf]; omega⟩
theorem z3w {ops:Array Oper} {o:Oper} {a:Act} {K:Act->World->Prop} {Q:Exit->Act->World->Prop} {E:Prop} (w:World) (hgd:o.guard=none) (s x:Operand)
  (ho:o.op=.call { callee:=.builtin .append,args:=#[s,x],argTypes:=#[119,119] }) (lo b d n:Nat) (A:Option Addr) (c:Nat) (xs:List Ex) (L:List Value) (y:Ex) (c0 c1 c2 c3 c4 c5:Value) (F:Nat->Prop)
  (hs:a.eval s=.slice (some ⟨b,0,none⟩) 1 1) (hx:a.eval x=.slice A n c) (hn:n=xs.length) (hown:w.ownsRow lo 124 6 (.slice (some ⟨b,0,none⟩) 1 1) 1 [c0,c1,c2,c3,c4,c5]) (hr:w.ownsRow lo 124 6 (.slice A n c) n L) (hnil:xs=[]->A=none/\c=0)
  (hat:∀ (j:Nat) (z:Ex),xs[j]?=some z->∃ e0 e1 e2 e3 e4 e5,L[j * 6]?=some e0/\L[j * 6+1]?=some e1/\L[j * 6+2]?=some e2/\L[j * 6+3]?=some e3/\L[j * 6+4]?=some e4/\L[j * 6+5]?=some e5/\ExV F w d z (.agg #[e0,e1,e2,e3,e4,e5])) (hy:ExV F w d y (.agg #[c0,c1,c2,c3,c4,c5])) (hF:∀ q,F q->lo<=q/\q<w.heap.size/\q≠b) (hlen:n<=1000000) (hlo:lo<=w.heap.size)
  (hk:∀ A' c' w',RowE (fun q=>lo<=q/\q<w'.heap.size) w' d (y :: xs) A' c'->w.grownBy w' (some b)->K (a.put o.dst (.slice A' (n+1) c')) w') :
  if Region.wanted o (yielded ops a.tmps)=true then Oper.wp Tryz.prog o a w K Q else E:=by
 obtain ⟨i,hi,hz,hsz,hby⟩:=info_parts z3L;have h1:∀ u∈L,u.oneCell'=true:=by
  intro u hu;obtain ⟨p,hp,rfl⟩:=List.mem_iff_getElem.1 hu;have hpl:p<n * 6:=by rw [<- hr.1]; exact hp
  have hj:p / 6<xs.length:=by omega
  obtain ⟨e0,e1,e2,e3,e4,e5,g0,g1,g2,g3,g4,g5,hz⟩:=hat (p / 6) _ (q_7 hj);obtain ⟨k,o,a,l,s,A,n,c,hv,_⟩:=z0G hz;injection hv with hv;injection hv with hv;simp only [List.cons.injEq,and_true] at hv;obtain ⟨rfl,rfl,rfl,rfl,rfl,rfl⟩:=hv;have hp2:p=p / 6 * 6+p % 6:=by omega
  have hm:p % 6=0\/p % 6=1\/p % 6=2\/p % 6=3\/p % 6=4\/p % 6=5:=by omega
  have hget:L[p]?=some L[p]:=q_7 hp;generalize L[p]=u at hget ⊢;rcases hm with e | e | e | e | e | e
  ·have:p=p / 6 * 6:=by omega
   rw [this,g0] at hget; injection hget with hget; rw [<- hget]; rfl
  ·have:p=p / 6 * 6+1:=by omega
   rw [this,g1] at hget; injection hget with hget; rw [<- hget]; rfl
  ·have:p=p / 6 * 6+2:=by omega
   rw [this,g2] at hget; injection hget with hget; rw [<- hget]; rfl
  ·have:p=p / 6 * 6+3:=by omega
   rw [this,g3] at hget; injection hget with hget; rw [<- hget]; rfl
  ·have:p=p / 6 * 6+4:=by omega
   rw [this,g4] at hget; injection hget with hget; rw [<- hget]; rfl
  ·have:p=p / 6 * 6+5:=by omega
   rw [this,g5] at hget; injection hget with hget; rw [<- hget]; rfl
 have hrow:∀ g cap w',w'.ownsRow lo 124 6 (.slice (some ⟨g,0,none⟩) (1+n) cap) (1+n) ([c0,c1,c2,c3,c4,c5]++L)->w.grownBy w' (some b)->RowE (fun q=>lo<=q/\q<w'.heap.size) w' d (y :: xs) (some ⟨g,0,none⟩) cap:=fun g cap w' h2 hg=>by
  have hgl:=h2.lt g rfl;have hcap:1+n<=cap:=by
   rcases h2.2 with ⟨e,h0⟩ | ⟨g',cap',cur,e,_,_,hc,_⟩
   ·cases e
   ·injection e with e1 e2 e3;subst e3;exact hc
  have hcell:∀ j u,([c0,c1,c2,c3,c4,c5]++L)[j]?=some u->w'.cell? ⟨g,j,none⟩=some u:=fun j u hu=>by
   have hj:j<([c0,c1,c2,c3,c4,c5]++L).length:=by
    rcases q_f j ([c0,c1,c2,c3,c4,c5]++L).length with h' | h'
    ·exact h'
    ·rw [q_j h'] at hu; cases hu
   exact (h2.cellAt j (by rw [h2.1] at hj; exact hj)).trans hu
  have hk:∀ {z:Ex} {v:Value},ExV F w d z v->ExV (fun q=>lo<=q/\q<w'.heap.size) w' d z v:=fun hz=>hz.keep (fun q hq=>⟨(hF q hq).1,q_1 (hF q hq).2.1 hg.size⟩) (fun q hq=>hg.block q (hF q hq).2.1 (fun e=>(hF q hq).2.2 (by injection e)))
  refine ⟨by rw [List.length_cons,<- hn]; omega,fun j z hz=>?_⟩;cases j with
  | zero =>
   simp at hz;subst hz;exact ⟨g,0,c0,c1,c2,c3,c4,c5,rfl,hgl,hcell 0 _ rfl,hcell 1 _ rfl,hcell 2 _ rfl,hcell 3 _ rfl,hcell 4 _ rfl,hcell 5 _ rfl,hk hy⟩
  | succ j =>
   simp only [List.getElem?_cons_succ] at hz;obtain ⟨e0,e1,e2,e3,e4,e5,g0,g1,g2,g3,g4,g5,hz⟩:=hat j z hz;have hL:∀ q u,L[q]?=some u->w'.cell? ⟨g,0+(q+6),none⟩=some u:=fun q u hu=>by
    rw [Nat.zero_add];exact hcell _ _ (by rw [List.getElem?_append_right (by simp)]; simpa using hu)
   exact ⟨g,0,e0,e1,e2,e3,e4,e5,rfl,hgl,by rw [show (j+1) * 6=j * 6+6 by omega]; exact hL _ _ g0,by rw [show 0+(j+1) * 6+1=0+(j * 6+1+6) by omega]; exact hL _ _ g1,by rw [show 0+(j+1) * 6+2=0+(j * 6+2+6) by omega]; exact hL _ _ g2,by rw [show 0+(j+1) * 6+3=0+(j * 6+3+6) by omega]; exact hL _ _ g3,by rw [show 0+(j+1) * 6+4=0+(j * 6+4+6) by omega]; exact hL _ _ g4,by rw [show 0+(j+1) * 6+5=0+(j * 6+5+6) by omega]; exact hL _ _ g5,hk hz⟩
 cases xs with
 | nil =>
  obtain ⟨rfl,rfl⟩:=hnil rfl;have hn0:n=0:=hn;subst hn0;have hL0:L=[]:=q_g (by rw [hr.1]);subst hL0;have hrun:(Builtin.append_ #[119,119] o.type #[.slice (some ⟨b,0,none⟩) 1 1,.slice none 0 0]).run Tryz.prog w=.ok (.slice (some ⟨b,0,none⟩) 1 1) w:=by
   simp [Builtin.append_,run_underlying Tryz.underlying119,sizeOf,typeInfo,hi,Builtin.lenOf,Builtin.firstCells,storeCells]
  rw [if_pos (by simp [Region.wanted,hgd])];unfold Oper.wp;simp [execOp,ho,resolve,invoke,builtin,hs,hx,hrun,Result.andThen];exact hk _ _ _ (hrow b 1 w hown (z02 (q_i _ w) (some b))) (z02 (q_i _ w) (some b))
 | cons z zs =>
  rcases hr.2 with ⟨e,h0⟩ | ⟨g,cap,cur,e,hb,hh,hc,_⟩
  ·rw [hn] at h0; simp at h0
  ·injection e with e1 e2 e3;subst e1 e3;refine step_append_lies w hgd s x _ ho lo 124 i _ 6 72 Tryz.underlying119 hi hz hsz hby rfl (by decide) (.slice (some ⟨b,0,none⟩) 1 1) 1 [c0,c1,c2,c3,c4,c5] hs hown ⟨g,0,none⟩ n c L hx hr.1 (fun j u hu=>?_) h1 (by rw [hn]; simp) (by unfold maxLen; omega) (by omega) hlo _ rfl fun g' cap' w' q1 q2 q3 _=>?_
   ·rw [Addr.add_lit,Nat.zero_add];have hj:j<L.length:=by
     rcases q_f j L.length with h' | h'
     ·exact h'
     ·rw [q_j h'] at hu; cases hu
    exact (hr.cellAt j (by rw [hr.1] at hj; exact hj)).trans hu
   ·rw [Nat.add_comm 1 n] at q1 ⊢;rw [Nat.add_comm n 1] at q1;exact hk _ _ _ (hrow g' cap' w' q1 q2) q2
theorem z9N {gl:GlL} {fl:List Fn} {ls:List Zb} {k o a l:Int} {s:Zb} {xs:List Ex} (h:k≠13) (h9:k=9->¬ z0s gl fl ls s<=2):rsX gl fl ls (.mk k o a l s xs)=.mk k o a l s (rsL gl fl ls xs):=by
 unfold rsX;rw [if_neg h,if_neg (fun e=>h9 e.1 e.2)]
theorem zba {gl:GlL} {fl:List Fn} {ls:List Zb} {o a l:Int} {s:Zb} {xs:List Ex}:rsX gl fl ls (.mk 13 o a l s xs)=vrX gl fl ls s l:=by
 unfold rsX;rw [if_pos rfl]
theorem zb9 {gl:GlL} {fl:List Fn} {ls:List Zb} {o a l:Int} {s:Zb} {xs:List Ex} (h:z0s gl fl ls s<=2):rsX gl fl ls (.mk 9 o a l s xs)=.mk 10 0 0 l ⟨#[]⟩ (vrX gl fl ls s l :: rsL gl fl ls xs):=by
 unfold rsX;rw [if_neg (by decide),if_pos ⟨rfl,h⟩]
structure XW (F:Nat->Prop) (base D dd:Nat) (gl:GlL) (fl:List Fn) (p:Nat) (ls:List Zb) (d:Nat) (k o a l:Int) (s:Zb) (xs:List Ex) (A:Option Addr) (n c:Nat) (w w1:World):Prop where
 sc:ScR F base D dd gl fl p ls w1
 row:RowE F w1 d xs A c
 x:w1.heap[w.heap.size]?=some (.cells #[.int .i64 k,.int .i64 o,.int .i64 a,.int .i64 l,.string s,.slice A n c] 124 (0,0))
 z:w1.heap[w.heap.size+1]?=some (.cells #[.int .i64 0,.int .i64 0,.int .i64 0,.int .i64 0,.string { data:=#[] },.slice none 0 0] 124 (0,0))
 lo:Below w.heap.size w w1
theorem XW.below {F:Nat->Prop} {base D dd:Nat} {gl:GlL} {fl:List Fn} {p:Nat} {ls:List Zb} {d:Nat} {k o a l:Int} {s:Zb} {xs:List Ex} {A:Option Addr} {n c:Nat} {w w1 w2:World} (h:XW F base D dd gl fl p ls d k o a l s xs A n c w w1) (hb:Below w1.heap.size w1 w2):XW F base D dd gl fl p ls d k o a l s xs A n c w w2 :=
 ⟨h.sc.below hb,h.row.keep (fun _ h=>h) (fun b hb'=>hb.block b (h.sc.low b hb')),(hb.block _ (q_0.1 h.x).1).trans h.x,(hb.block _ (q_0.1 h.z).1).trans h.z,h.lo.trans (hb.mono h.lo.size)⟩
structure z8j (w0 w:World) (b d n:Nat) (A:Option Addr) (c:Nat) (xs:List Ex) (L:List Value) (y:Ex) (c0 c1 c2 c3 c4 c5:Value):Prop where
 own:w.ownsRow (w0.heap.size+2) 124 6 (.slice (some ⟨b,0,none⟩) 1 1) 1 [c0,c1,c2,c3,c4,c5]
 row:w.ownsRow (w0.heap.size+2) 124 6 (.slice A n c) n L
 nl:n=xs.length
 ln:n<=3
 nil:xs=[]->A=none/\c=0
 at_:∃ F:Nat->Prop,(∀ (j:Nat) (z:Ex),xs[j]?=some z->∃ e0 e1 e2 e3 e4 e5,L[j * 6]?=some e0/\L[j * 6+1]?=some e1/\L[j * 6+2]?=some e2/\L[j * 6+3]?=some e3/\L[j * 6+4]?=some e4/\L[j * 6+5]?=some e5/\ExV F w d z (.agg #[e0,e1,e2,e3,e4,e5]))/\ExV F w d y (.agg #[c0,c1,c2,c3,c4,c5])/\∀ q,F q->w0.heap.size+2<=q/\q<w.heap.size/\q≠b
 z:w.heap[w0.heap.size+1]?=some (.cells #[.int .i64 0,.int .i64 0,.int .i64 0,.int .i64 0,.string { data:=#[] },.slice none 0 0] 124 (0,0))
 lo:Below w0.heap.size w0 w
theorem z4i {ops:Array Oper} {o:Oper} {a:Act} {K:Act->World->Prop} {Q:Exit->Act->World->Prop} {E:Prop} {w0 w:World} {b d n:Nat} {A:Option Addr} {c:Nat} {xs:List Ex} {L:List Value} {y:Ex} {c0 c1 c2 c3 c4 c5:Value} (h:z8j w0 w b d n A c xs L y c0 c1 c2 c3 c4 c5) (hgd:o.guard=none) (s x:Operand)
  (ho:o.op=.call { callee:=.builtin .append,args:=#[s,x],argTypes:=#[119,119] }) (hs:a.eval s=.slice (some ⟨b,0,none⟩) 1 1) (hx:a.eval x=.slice A n c)
  (hk:∀ A' c' w',RowE (fun q=>w0.heap.size+2<=q/\q<w'.heap.size) w' d (y :: xs) A' c'->w'.heap[w0.heap.size+1]?=some (.cells #[.int .i64 0,.int .i64 0,.int .i64 0,.int .i64 0,.string { data:=#[] },.slice none 0 0] 124 (0,0))->Below w0.heap.size w0 w'->(∀ (o:Nat) (v:Value),w.cell? ⟨w0.heap.size,o,none⟩=some v->w'.cell? ⟨w0.heap.size,o,none⟩=some v)->K (a.put o.dst (.slice A' (n+1) c')) w') :
  if Region.wanted o (yielded ops a.tmps)=true then Oper.wp Tryz.prog o a w K Q else E:=by
 obtain ⟨F,h1,h2,h3⟩:=h.at_;have hb:=(h.own.lt b rfl).1;have hz:=(q_0.1 h.z).1;exact z3w w hgd s x ho (w0.heap.size+2) b d n A c xs L y c0 c1 c2 c3 c4 c5 F hs hx h.nl h.own h.row h.nil h1 h2 h3 (by have:=h.ln; omega) (by omega) fun A' c' w' q1 q2=>hk A' c' w' q1 (z04 q2 (by omega) h.z) (h.lo.trans (z05 q2 (fun k hk=>by injection hk with hk; omega) h.lo.size)) (fun _ _=>z0b q2 (by omega))
theorem z50 {w0 w1 w:World} {b d n lo1:Nat} {A:Option Addr} {c:Nat} {xs:List Ex} {L:List Value} {k l:Int} {s:Zb} (hown:w.ownsRow (w0.heap.size+2) 124 6 (.slice (some ⟨b,0,none⟩) 1 1) 1 [.int .i64 k,.int .i64 0,.int .i64 0,.int .i64 l,.string s,.slice none 0 0])
  (har:z0p lo1 (d+1) w1 (.slice A n c) xs L) (hn:n=xs.length) (hl:n<=3) (hnil:xs=[]->A=none/\c=0) (hb:Below w1.heap.size w1 w) (hlo:w0.heap.size+2<=lo1) (hbn:w1.heap.size<=b\/b<lo1)
  (hz:w.heap[w0.heap.size+1]?=some (.cells #[.int .i64 0,.int .i64 0,.int .i64 0,.int .i64 0,.string { data:=#[] },.slice none 0 0] 124 (0,0))) (hw:Below w0.heap.size w0 w) :
  z8j w0 w b (d+1) n A c xs L (.mk k 0 0 l s []) (.int .i64 k) (.int .i64 0) (.int .i64 0) (.int .i64 l) (.string s) (.slice none 0 0):=by
 subst hn;refine ⟨hown,z34 (z1j har.own (fun b hb'=>hb.block b (har.own.lt b hb').2)) hlo,rfl,hl,hnil,⟨fun q=>lo1<=q/\q<w1.heap.size,fun j z hj=>?_,z2e,fun q hq=>⟨by omega,q_1 hq.2 hb.size,by omega⟩⟩,hz,hw⟩;obtain ⟨e0,e1,e2,e3,e4,e5,g0,g1,g2,g3,g4,g5,hv⟩:=har.at_ j z hj;exact ⟨e0,e1,e2,e3,e4,e5,g0,g1,g2,g3,g4,g5,hv.keep (fun q hq=>⟨hq.1,hq.2.1⟩) (fun q hq=>hb.block q hq.2.1)⟩
theorem z8X {l:Int} {w w2 w3:World} {d n c3:Nat} {A3:Option Addr} {xs:List Ex} {L3:List Value} {gl:GlL} {fl:List Fn} {ls:List Zb} (hz:w2.heap[w.heap.size+1]?=some (.cells #[.int .i64 0,.int .i64 0,.int .i64 0,.int .i64 0,.string { data:=#[] },.slice none 0 0] 124 (0,0))) (hv:Below w.heap.size w w2)
  (zk0:Int) (s0:Zb) (hb:Below (w2.alloc (.cells #[.int .i64 zk0,.int .i64 0,.int .i64 0,.int .i64 l,.string s0,.slice none 0 0] 124)).heap.size (w2.alloc (.cells #[.int .i64 zk0,.int .i64 0,.int .i64 0,.int .i64 l,.string s0,.slice none 0 0] 124)) w3) (har:z0p (w2.alloc (.cells #[.int .i64 zk0,.int .i64 0,.int .i64 0,.int .i64 l,.string s0,.slice none 0 0] 124)).heap.size (d+1) w3 (.slice A3 (rsL gl fl ls xs).length c3) (rsL gl fl ls xs) L3) (hn:n=xs.length) (h3:n<=3) (hnil:rsL gl fl ls xs=[]->A3=none/\c3=0) :
  z8j w w3 w2.heap.size (d+1) (rsL gl fl ls xs).length A3 c3 (rsL gl fl ls xs) L3 (.mk zk0 0 0 l s0 []) (.int .i64 zk0) (.int .i64 0) (.int .i64 0) (.int .i64 l) (.string s0) (.slice none 0 0):=by
 have hz2:=(q_0.1 hz).1;have hB:=z08 (hv.alloc hv.size _) hb;have hlit:(w2.alloc (.cells #[.int .i64 zk0,.int .i64 0,.int .i64 0,.int .i64 l,.string s0,.slice none 0 0] 124)).ownsRow w2.heap.size 124 6 (.slice (some ⟨w2.heap.size,0,none⟩) 1 1) 1 [.int .i64 zk0,.int .i64 0,.int .i64 0,.int .i64 l,.string s0,.slice none 0 0]:=World.ownsRow_lit w2 _ 1 (q_2 _) (by unfold maxLen; omega) (by simp);exact z50 (z34 (z1j hlit (fun b hb'=>hb.block b (hlit.lt b hb').2)) (by omega)) har rfl (by rw [z11]; omega) hnil (q_i _ _) (by simp; omega) (.inr (by simp)) ((hb.block _ (by simp; omega)).trans ((q_5 w2 _ hz2).trans hz)) hB
theorem z8Y {l:Int} {w w2 w3:World} {d n c3:Nat} {A3:Option Addr} {xs:List Ex} {L3:List Value} {gl:GlL} {fl:List Fn} {ls:List Zb} (hz:w2.heap[w.heap.size+1]?=some (.cells #[.int .i64 0,.int .i64 0,.int .i64 0,.int .i64 0,.string { data:=#[] },.slice none 0 0] 124 (0,0))) (hv:Below w.heap.size w w2)
  (hb:Below w2.heap.size w2 w3) (har:z0p w2.heap.size (d+1) w3 (.slice A3 (rsL gl fl ls xs).length c3) (rsL gl fl ls xs) L3) (hn:n=xs.length) (h3:n<=3) (hnil:rsL gl fl ls xs=[]->A3=none/\c3=0) (zk:Int) (s:Zb) :
  z8j w (w3.alloc (.cells #[.int .i64 zk,.int .i64 0,.int .i64 0,.int .i64 l,.string s,.slice none 0 0] 124)) w3.heap.size (d+1) (rsL gl fl ls xs).length A3 c3 (rsL gl fl ls xs) L3 (.mk zk 0 0 l s []) (.int .i64 zk) (.int .i64 0) (.int .i64 0) (.int .i64 l) (.string s) (.slice none 0 0):=by
 have hz2:=(q_0.1 hz).1;have hs2:=hb.size;have hB:=z08 hv hb;have hlit:(w3.alloc (.cells #[.int .i64 zk,.int .i64 0,.int .i64 0,.int .i64 l,.string s,.slice none 0 0] 124)).ownsRow w3.heap.size 124 6 (.slice (some ⟨w3.heap.size,0,none⟩) 1 1) 1 [.int .i64 zk,.int .i64 0,.int .i64 0,.int .i64 l,.string s,.slice none 0 0]:=World.ownsRow_lit w3 _ 1 (q_2 _) (by unfold maxLen; omega) (by simp);exact z50 (z34 hlit (by omega)) har rfl (by rw [z11]; omega) hnil ((q_i _ w3).alloc (q_2 _) _) (by omega) (.inl (q_2 _)) ((q_5 w3 _ (by omega)).trans ((hb.block _ hz2).trans hz)) (hB.alloc hB.size _)
theorem z8W {l:Int} {w w2 w3:World} {d n c3:Nat} {A3:Option Addr} {xs:List Ex} {L3:List Value} {gl:GlL} {fl:List Fn} {ls:List Zb} (hz:w2.heap[w.heap.size+1]?=some (.cells #[.int .i64 0,.int .i64 0,.int .i64 0,.int .i64 0,.string { data:=#[] },.slice none 0 0] 124 (0,0))) (hv:Below w.heap.size w w2)
  (hb:Below w2.heap.size w2 w3) (har:z0p w2.heap.size (d+1) w3 (.slice A3 (rsL gl fl ls xs).length c3) (rsL gl fl ls xs) L3) (hn:n=xs.length) (h3:n<=3) (hnil:rsL gl fl ls xs=[]->A3=none/\c3=0) (zk:Int) (s:Zb) :
  ∀ w4,Below w3.heap.size w3 w4->z8j w (w4.alloc (.cells #[.int .i64 zk,.int .i64 0,.int .i64 0,.int .i64 l,.string s,.slice none 0 0] 124)) w4.heap.size (d+1) (rsL gl fl ls xs).length A3 c3 (rsL gl fl ls xs) L3 (.mk zk 0 0 l s []) (.int .i64 zk) (.int .i64 0) (.int .i64 0) (.int .i64 l) (.string s) (.slice none 0 0):=fun w4 h4=>by
 have hz2:=(q_0.1 hz).1;have hs2:=hb.size;have hs4:=h4.size;have hB:=z08 (z08 hv hb) h4;have hlit:(w4.alloc (.cells #[.int .i64 zk,.int .i64 0,.int .i64 0,.int .i64 l,.string s,.slice none 0 0] 124)).ownsRow w4.heap.size 124 6 (.slice (some ⟨w4.heap.size,0,none⟩) 1 1) 1 [.int .i64 zk,.int .i64 0,.int .i64 0,.int .i64 l,.string s,.slice none 0 0]:=World.ownsRow_lit w4 _ 1 (q_2 _) (by unfold maxLen; omega) (by simp);exact z50 (z34 hlit (by omega)) har rfl (by rw [z11]; omega) hnil (h4.alloc h4.size _) (by omega) (.inl hs4) ((q_5 w4 _ (by omega)).trans ((h4.block _ (by omega)).trans ((hb.block _ hz2).trans hz))) (hB.alloc hB.size _)
abbrev S9 (w:World) (l:Int) (s:Zb) (A:Option Addr) (n c:Nat) (w':World):Prop:=w'.cell? ⟨w.heap.size,3,none⟩=some (.int .i64 l)/\w'.cell? ⟨w.heap.size,4,none⟩=some (.string s)/\w'.cell? ⟨w.heap.size,5,none⟩=some (.slice A n c)/\Below w.heap.size w w'
theorem z2J {w w1 w2:World} {l:Int} {s:Zb} {A:Option Addr} {n c:Nat} (h:S9 w l s A n c w1) (hb:Below w1.heap.size w1 w2):S9 w l s A n c w2:=⟨hold hb h.1,hold hb h.2.1,hold hb h.2.2.1,z08 h.2.2.2 hb⟩
theorem z38 {w w1:World} {l:Int} {s:Zb} {A:Option Addr} {n c:Nat} (o:Obj) (h:S9 w l s A n c w1):S9 w l s A n c (w1.alloc o):=z2J h ((q_i _ w1).alloc (q_2 _) o)
theorem z9P {w w1 w2:World} {l:Int} {s:Zb} {A:Option Addr} {n c:Nat} (h:S9 w l s A n c w1) (hk:∀ (o:Nat) (v:Value),w1.cell? ⟨w.heap.size,o,none⟩=some v->w2.cell? ⟨w.heap.size,o,none⟩=some v) (hb:Below w.heap.size w w2):S9 w l s A n c w2:=⟨hk _ _ h.1,hk _ _ h.2.1,hk _ _ h.2.2.1,hb⟩
theorem z9Q {w w1:World} {l:Int} {s:Zb} {A:Option Addr} {n c:Nat} {v0 v1 v2 v3 v4 v5:Value} (h:S9 w l s A n c w1):S9 w l s A n c ((((((w1.setCell ⟨w.heap.size+1,0,none⟩ v0).setCell ⟨w.heap.size+1,1,none⟩ v1).setCell ⟨w.heap.size+1,2,none⟩ v2).setCell ⟨w.heap.size+1,3,none⟩ v3).setCell ⟨w.heap.size+1,4,none⟩ v4).setCell ⟨w.heap.size+1,5,none⟩ v5):=by
 have hg:w1.grownBy ((((((w1.setCell ⟨w.heap.size+1,0,none⟩ v0).setCell ⟨w.heap.size+1,1,none⟩ v1).setCell ⟨w.heap.size+1,2,none⟩ v2).setCell ⟨w.heap.size+1,3,none⟩ v3).setCell ⟨w.heap.size+1,4,none⟩ v4).setCell ⟨w.heap.size+1,5,none⟩ v5) (some (w.heap.size+1)):=(((((z03 w1 ⟨w.heap.size+1,0,none⟩ v0).trans (z03 _ ⟨w.heap.size+1,1,none⟩ v1)).trans (z03 _ ⟨w.heap.size+1,2,none⟩ v2)).trans (z03 _ ⟨w.heap.size+1,3,none⟩ v3)).trans (z03 _ ⟨w.heap.size+1,4,none⟩ v4)).trans (z03 _ ⟨w.heap.size+1,5,none⟩ v5);exact ⟨z0b hg (by omega) h.1,z0b hg (by omega) h.2.1,z0b hg (by omega) h.2.2.1,h.2.2.2.trans (z05 hg (fun k hk=>by injection hk with hk; omega) h.2.2.2.size)⟩
theorem zdM {d:Nat} (hE:zbM d):zcf (d+1):=by
 intro F base D dd gl fl p ls x v w hs hv hok;obtain ⟨k,o,a,l,s,xs⟩:=x;obtain ⟨A,c,rfl,hr⟩:=z1D.1 hv;obtain ⟨⟨k13,k4,k11,k9,hn3⟩,hok2⟩:=hok;obtain ⟨n,hn⟩:∃ n,n=xs.length:=⟨_,rfl⟩;have hb0:=((q_i _ w).alloc (q_2 _) (.cells #[.int .i64 k,.int .i64 o,.int .i64 a,.int .i64 l,.string s,.slice A xs.length c] 124)).alloc (by simp) (.cells #[.int .i64 0,.int .i64 0,.int .i64 0,.int .i64 0,.string { data:=#[] },.slice none 0 0] 124);have hZ:=z0T w (.cells #[.int .i64 k,.int .i64 o,.int .i64 a,.int .i64 l,.string s,.slice A xs.length c] 124) (.cells #[.int .i64 0,.int .i64 0,.int .i64 0,.int .i64 0,.string { data:=#[] },.slice none 0 0] 124);have hX:=z14 w (.cells #[.int .i64 k,.int .i64 o,.int .i64 a,.int .i64 l,.string s,.slice A xs.length c] 124) (.cells #[.int .i64 0,.int .i64 0,.int .i64 0,.int .i64 0,.string { data:=#[] },.slice none 0 0] 124);have hW0:XW F base D dd gl fl p ls d k o a l s xs A xs.length c w ((w.alloc (.cells #[.int .i64 k,.int .i64 o,.int .i64 a,.int .i64 l,.string s,.slice A xs.length c] 124)).alloc (.cells #[.int .i64 0,.int .i64 0,.int .i64 0,.int .i64 0,.string { data:=#[] },.slice none 0 0] 124)) :=
  ⟨hs.below hb0,hr.keep (fun _ h=>h) (fun b hb=>hb0.block b (hs.low b hb)),hX,hZ,hb0⟩
 rw [<- hn] at hW0 hn3 k9 ⊢;have HW:=zhi hW0;have HSc:=zhi hs;have HRw:=zhi hr;have HE:=zhi hE;have Hn:=zhi hn;have Hok:=zhi hok2;have K13:=zhi k13;have K4:=zhi k4;have K11:=zhi k11;have K9:=zhi k9;have hxc:n<=c:=by rw [hn]; exact hr.1
 clear hb0 hZ hX hW0 hs hv hr hok2 hE hn k13 k4 k11 k9
 by_cases e13:k=13
 ·subst e13;have hz:z0s gl fl ls s=1\/z0s gl fl ls s=2:=K13.out rfl;have Hz:=zhi hz;clear hz;go_enter Tryz.func47,Tryz.ntmps47;go_upto_region 1 with fail;obtain ⟨W0,hW0⟩:∃ W0,W0=((w.alloc (.cells #[.int .i64 13,.int .i64 o,.int .i64 a,.int .i64 l,.string s,.slice A n c] 124)).alloc (.cells #[.int .i64 0,.int .i64 0,.int .i64 0,.int .i64 0,.string { data:=#[] },.slice none 0 0] 124)):=⟨_,rfl⟩;rw [<- hW0] at HW ⊢;clear hW0;have hwa:=zhi (zae 13 o a l s A n c 1 2 W0 HW.out.sc (Hz.out.elim (fun h=>.inl ⟨rfl,rfl,h⟩) (fun h=>.inr (.inl ⟨rfl,rfl,h⟩))));obtain ⟨q0,q1,q2,q3,q4,q5⟩:=cl6 HW.out.x;go_wp2_with fail;refine hwa.out.mono ?_;rintro e w1 ⟨⟨v1,rfl⟩,hb1⟩;replace HW:=zhi (HW.out.below hb1);clear hb1 hwa q0 q1 q2 q3 q4 q5;have hva:=zhi (zep s l w1 HW.out.sc);obtain ⟨zk,hzk⟩:∃ zk:Int,zk=(if z0s gl fl ls s=1 then 2 else 3):=⟨_,rfl⟩;rw [<- hzk] at hva;have HZK:=zhi hzk;clear hzk;have q3:=zcr 3 HW.out.x;have q4:=zcr 4 HW.out.x;go_wp2_with fail;refine hva.out.mono ?_;rintro e w2 ⟨rfl,hb2⟩;replace HW:=zhi (HW.out.below hb2);clear hb2 hva q3 q4;have hsz:=(q_0.1 HW.out.z).1;go_wp2_with (with_reducible refine z1C ?_);refine z07.of (z00 _ rfl _ _ _ rfl (w.heap.size+1) _ rfl (by rfl) _ _ HW.out.z (by kernel_rfl) (by rfl) (by simp [Value.oneCell']) ?_);intro w9 hrow9 hg9;obtain ⟨j0,j1,j2,j3,j4,j5⟩:=cl6 hrow9;have HH:Hid (PXr (d+1+1) (rsX gl fl ls (.mk 13 o a l s xs)) w (.returned (.agg #[.int .i64 zk,.int .i64 0,.int .i64 0,.int .i64 l,.string s,.slice none 0 0])) w9):=zhi ⟨_,0,0,l,s,none,0,0,rfl,by
   rw [zba,HZK.out];exact z2e,HW.out.lo.trans (z05 hg9 (fun k hk=>by injection hk with hk; omega) HW.out.lo.size)⟩
  clear hrow9 hg9;go_wp2_with fail;exact q_3 (by simp [results,Tryz.results47,go_sem,j0,j1,j2,j3,j4,j5]) rfl HH.out
 by_cases e9:k=9/\z0s gl fl ls s<=2
 ·obtain ⟨rfl,hz2⟩:=e9;have hz:z0s gl fl ls s=1\/z0s gl fl ls s=2:=by
   rcases K9.out rfl with ⟨h,_⟩ | h
   ·omega
   ·exact h
  have HRX:Hid (rsX gl fl ls (.mk 9 o a l s xs)=.mk 10 0 0 l ⟨#[]⟩ (vrX gl fl ls s l :: rsL gl fl ls xs)):=zhi (zb9 hz2);obtain ⟨zk,hzk⟩:∃ zk:Int,zk=(if z0s gl fl ls s=1 then 2 else 3):=⟨_,rfl⟩;have HZK:=zhi hzk;obtain ⟨zz,hzz⟩:∃ zz:Int,zz=z0s gl fl ls s:=⟨_,rfl⟩;have Hzz:=zhi hzz;have t0:(zz == 0)=false:=by rw [beq_eq_false_iff_ne]; omega
  have t3:(zz == 3)=false:=by rw [beq_eq_false_iff_ne]; omega
  have t4:(zz == 4)=false:=by rw [beq_eq_false_iff_ne]; omega
  clear hz2 hz hzk hzz e13;go_enter Tryz.func47,Tryz.ntmps47;go_upto_region 1 with fail;obtain ⟨W0,hW0⟩:∃ W0,W0=((w.alloc (.cells #[.int .i64 9,.int .i64 o,.int .i64 a,.int .i64 l,.string s,.slice A n c] 124)).alloc (.cells #[.int .i64 0,.int .i64 0,.int .i64 0,.int .i64 0,.string { data:=#[] },.slice none 0 0] 124)):=⟨_,rfl⟩;rw [<- hW0] at HW ⊢;clear hW0;have hwa:=zhi (z66 s W0 HW.out.sc);rw [<- Hzz.out] at hwa;have q0:=zcr 0 HW.out.x;have q4:=zcr 4 HW.out.x;go_wp2_with fail;refine hwa.out.mono ?_;rintro e w1 ⟨rfl,hb1⟩;replace HW:=zhi (HW.out.below hb1);clear hb1 hwa q0 q4;have q5:=zcr 5 HW.out.x;go_upto_region 13 with fail;have HV:Hid (∀ W,Below w.heap.size w W->Calls Tryz.prog 65 #[.pointer (some ⟨p,0,none⟩),.string s,.int .i64 l] W (ValR zk l s W)):=zhi (fun W hb=>by rw [HZK.out]; exact zep s l W (HSc.out.below hb));have HXs:Hid (∀ W,Below w.heap.size w W->Calls Tryz.prog 66 #[.pointer (some ⟨p,0,none⟩),.slice A n c] W (PXsr (d+1) (rsL gl fl ls xs) W)):=zhi (fun W hb=>HE.out F base D dd gl fl p ls xs A n c W (HSc.out.below hb) (HRw.out.keep (fun _ h=>h) (fun b hb'=>hb.block b (HSc.out.low b hb'))) Hn.out Hok.out hn3);have hS0:S9 w l s A n c w1.drew:=⟨zcr 3 HW.out.x,zcr 4 HW.out.x,zcr 5 HW.out.x,HW.out.lo.drew⟩;have hz0:w1.drew.heap[w.heap.size+1]?=some (.cells #[.int .i64 0,.int .i64 0,.int .i64 0,.int .i64 0,.string { data:=#[] },.slice none 0 0] 124 (0,0)):=HW.out.z;have HS0:=zhi hS0;have HZ0:=zhi hz0;have HZL:=zhi (q_0.1 hz0).1;clear q5 hS0 hz0 t0 t3 t4
  go_region_held3 (fun w'=>w'.cell? ⟨w.heap.size,3,none⟩=some (.int .i64 l)/\w'.cell? ⟨w.heap.size,4,none⟩=some (.string s)/\w'.cell? ⟨w.heap.size,5,none⟩=some (.slice A n c)/\Below w.heap.size w w')
   (first | (with_reducible exact HS0.out) | (with_reducible exact HS2.out) | (with_reducible exact z38 _ HS2.out) | (with_reducible exact HS3.out) | (with_reducible exact z38 _ HS3.out) | (with_reducible exact HS4.out) | (with_reducible exact z9Q HS4.out))
   (first
    | ((first | ((with_reducible refine z4i HSTc.out rfl (.tmp 51) (.tmp 55) rfl rfl rfl ?_); intro A4 c4 w4 hr4 hz4 hb4 hk4; have HS4:=zhi (z9P HS3.out hk4 hb4)) | ((with_reducible refine z4i HSTb.out rfl (.tmp 51) (.tmp 55) rfl rfl rfl ?_); intro A4 c4 w4 hr4 hz4 hb4 hk4; have HS4:=zhi (z9P (z38 _ HS3.out) hk4 hb4)) | ((with_reducible refine z4i HSTa.out rfl (.tmp 51) (.tmp 55) rfl rfl rfl ?_); intro A4 c4 w4 hr4 hz4 hb4 hk4; have HS4:=zhi (z9P (z38 _ HS2.out) hk4 hb4))); have HR4:=zhi hr4; have HZ4:=zhi hz4; have kk0:=zcr 0 hz4; have kk1:=zcr 1 hz4; have kk2:=zcr 2 hz4; have kk3:=zcr 3 hz4; have kk4:=zcr 4 hz4; have kk5:=zcr 5 hz4; have kf0:=z09 hz4 0; have kf1:=z09 hz4 1; have kf2:=z09 hz4 2; have kf3:=z09 hz4 3; have kf4:=z09 hz4 4; have kf5:=z09 hz4 5; clear hr4 hz4 hb4 hk4)
    | (go_at_call 65; (first | ((with_reducible refine (HV.out _ HS0.out.2.2.2).mono ?_); rintro e w2 ⟨rfl,hb2⟩; have HS2:=zhi (z2J HS0.out hb2); have HZ2:=zhi ((hb2.block _ HZL.out).trans HZ0.out); clear hb2) | ((with_reducible refine (HV.out _ HS3.out.2.2.2).mono ?_); rintro e w2 ⟨rfl,hb2⟩; have HS2:=zhi (z2J HS3.out hb2); have HSTa:=zhi (HSTo.out w2 hb2); clear hb2)))
    | (go_at_call 66; (first
     | ((with_reducible refine (HXs.out _ HS0.out.2.2.2).mono ?_); rintro e w3 ⟨A3,m3,c3,L3,rfl,rfl,har3,hn3a,hb3⟩; have HS3:=zhi (z2J HS0.out hb3); have HSTo:=zhi (z8W (l:=l) HZ0.out HS0.out.2.2.2 hb3 har3 Hn.out hn3 hn3a zk s); clear har3 hn3a hb3)
     | ((with_reducible refine (HXs.out _ HS2.out.2.2.2).mono ?_); rintro e w3 ⟨A3,m3,c3,L3,rfl,rfl,har3,hn3a,hb3⟩; have HS3:=zhi (z2J HS2.out hb3); have HSTb:=zhi (z8Y (l:=l) HZ2.out HS2.out.2.2.2 hb3 har3 Hn.out hn3 hn3a zk s); clear har3 hn3a hb3)
     | ((with_reducible refine (HXs.out _ (HS2.out.2.2.2.alloc HS2.out.2.2.2.size _)).mono ?_); rintro e w3 ⟨A3,m3,c3,L3,rfl,rfl,har3,hn3a,hb3⟩; have HS3:=zhi (z2J (z38 _ HS2.out) hb3); have HSTc:=zhi (z8X (l:=l) HZ2.out HS2.out.2.2.2 zk s hb3 har3 Hn.out hn3 hn3a); clear har3 hn3a hb3))))
  all_goals
   have h6:=z1l (.int .i64 10) (.int .i64 0) (.int .i64 0) (.int .i64 l) (.string { data:=#[] }) (.slice A4 ((rsL gl fl ls xs).length+1) c4) HZ4.out;have h7:=z9Q (v0:=.int .i64 10) (v1:=.int .i64 0) (v2:=.int .i64 0) (v3:=.int .i64 l) (v4:=.string { data:=#[] }) (v5:=.slice A4 ((rsL gl fl ls xs).length+1) c4) HS4.out;dsimp only [Exit.then,Exit.inBlock];generalize ((((((w4.setCell ⟨w.heap.size+1,0,none⟩ (.int .i64 10)).setCell ⟨w.heap.size+1,1,none⟩ (.int .i64 0)).setCell ⟨w.heap.size+1,2,none⟩ (.int .i64 0)).setCell ⟨w.heap.size+1,3,none⟩ (.int .i64 l)).setCell ⟨w.heap.size+1,4,none⟩ (.string { data:=#[] })).setCell ⟨w.heap.size+1,5,none⟩ (.slice A4 ((rsL gl fl ls xs).length+1) c4))=w9 at *;obtain ⟨j0,j1,j2,j3,j4,j5⟩:=cl6 h6.1;have HH:Hid (PXr (d+1+1) (rsX gl fl ls (.mk 9 o a l s xs)) w (.returned (.agg #[.int .i64 10,.int .i64 0,.int .i64 0,.int .i64 l,.string { data:=#[] },.slice A4 ((rsL gl fl ls xs).length+1) c4])) w9):=zhi ⟨10,0,0,l,_,A4,_,c4,rfl,by
    rw [HRX.out,vrX,<- HZK.out];exact z1D.2 ⟨A4,c4,rfl,HR4.out.keep (fun b hb=>⟨by omega,q_1 hb.2 h6.2.size⟩) (fun b hb=>h6.2.block b hb.2 (fun e=>by injection e with e; omega))⟩,h7.2.2.2⟩
   clear h6 h7 kk0 kk1 kk2 kk3 kk4 kk5 kf0 kf1 kf2 kf3 kf4 kf5;go_wp2_with fail;exact q_3 (by simp [results,Tryz.results47,go_sem,j0,j1,j2,j3,j4,j5]) rfl HH.out
 have HPl:Hid (rsX gl fl ls (.mk k o a l s xs)=.mk k o a l s (rsL gl fl ls xs)):=zhi (z9N e13 (fun h h2=>e9 ⟨h,h2⟩))
 by_cases e4:k=4
 ·subst e4;have hz:=K4.out rfl;have Hz:=zhi hz;clear hz e13 e9;go_enter Tryz.func47,Tryz.ntmps47;go_upto_region 1 with fail;obtain ⟨W0,hW0⟩:∃ W0,W0=((w.alloc (.cells #[.int .i64 4,.int .i64 o,.int .i64 a,.int .i64 l,.string s,.slice A n c] 124)).alloc (.cells #[.int .i64 0,.int .i64 0,.int .i64 0,.int .i64 0,.string { data:=#[] },.slice none 0 0] 124)):=⟨_,rfl⟩;rw [<- hW0] at HW ⊢;clear hW0;have hwa:=zhi (zae 4 o a l s A n c 3 3 W0 HW.out.sc (.inr (.inr (.inl ⟨rfl,rfl,Hz.out⟩))));obtain ⟨q0,q1,q2,q3,q4,q5⟩:=cl6 HW.out.x;go_wp2_with fail;refine hwa.out.mono ?_;rintro e w1 ⟨⟨v1,rfl⟩,hb1⟩;replace HW:=zhi (HW.out.below hb1);clear hb1 hwa q0 q1 q2 q3 q4 q5;obtain ⟨k,hk⟩:∃ k:Int,k=4:=⟨_,rfl⟩;rw [<- hk] at HW HPl;have HG:Hid (∀ e w9,PXr (d+1+1) (rsX gl fl ls (.mk k o a l s xs)) w e w9->PXr (d+1+1) (rsX gl fl ls (.mk 4 o a l s xs)) w e w9):=zhi (fun _ _ h=>by rw [hk] at h; exact h);clear hk;have HS:=zhi (HE.out F base D dd gl fl p ls xs A n c _ HW.out.sc HW.out.row Hn.out Hok.out hn3);have hsz:=(q_0.1 HW.out.z).1;have q3:=zcr 3 HW.out.x;have q5:=zcr 5 HW.out.x;go_wp2_with fail;refine HS.out.mono ?_;rintro e w2 ⟨A1,m1,c1,L1,rfl,hm1,hr1,_,hb1⟩;have hW2:=HW.out.below hb1;have f5:=z09 hW2.x 5;have b5:=zcr 5 hW2.x;have hg2:w2.grownBy (w2.setCell ⟨w.heap.size,5,none⟩ (.slice A1 m1 c1)) (some w.heap.size):=z03 w2 ⟨w.heap.size,5,none⟩ _;have row2:(w2.setCell ⟨w.heap.size,5,none⟩ (.slice A1 m1 c1)).heap[w.heap.size]?=some (.cells #[.int .i64 k,.int .i64 o,.int .i64 a,.int .i64 l,.string s,.slice A1 m1 c1] 124 (0,0)):=z0a (i:=5) _ hW2.x;obtain ⟨a0,a1,a2,a3,a4,a5⟩:=cl6 row2;have hsz1:=hb1.size;have hs2:w2.heap.size<=(w2.setCell ⟨w.heap.size,5,none⟩ (.slice A1 m1 c1)).heap.size:=hg2.size;have HZ2:=zhi ((hg2.block (w.heap.size+1) (by omega) (fun e=>by injection e with e; omega)).trans hW2.z);have HR2:=zhi ((hr1.row.2).keep (G:=fun b=>w.heap.size+2<=b/\b<(w2.setCell ⟨w.heap.size,5,none⟩ (.slice A1 m1 c1)).heap.size) (fun b hb=>⟨by omega,by omega⟩) (fun b hb=>hg2.block b hb.2 (fun e=>by injection e with e; omega)));have HB2:=zhi (hW2.lo.trans (z05 hg2 (fun k hk=>by injection hk with hk; omega) (by omega)));have HM:=zhi hm1;clear hW2 row2 hr1 hb1 hg2 hm1 HS HW q3 q5;go_wp2_with (with_reducible refine z1C ?_);obtain ⟨w3,hw3⟩:∃ w3,w3=w2.setCell ⟨w.heap.size,5,none⟩ (.slice A1 m1 c1):=⟨_,rfl⟩;rw [<- hw3] at HZ2 HR2 HB2 hs2 ⊢;clear hw3 a0 a1 a2 a3 a4 a5 b5 f5;refine z07.of (z00 _ rfl _ _ _ rfl (w.heap.size+1) _ rfl (by rfl) _ _ HZ2.out (by kernel_rfl) (by rfl) (by simp [Value.oneCell']) ?_);intro w9 hrow9 hg9;obtain ⟨j0,j1,j2,j3,j4,j5⟩:=cl6 hrow9;have HH:Hid (PXr (d+1+1) (rsX gl fl ls (.mk k o a l s xs)) w (.returned (.agg #[.int .i64 k,.int .i64 o,.int .i64 a,.int .i64 l,.string s,.slice A1 m1 c1])) w9):=zhi ⟨k,o,a,l,s,A1,m1,c1,rfl,by
   have hm:=HM.out;subst hm;rw [HPl.out];exact z1D.2 ⟨A1,c1,rfl,HR2.out.keep (fun b hb=>⟨by omega,q_1 hb.2 hg9.size⟩) (fun b hb=>hg9.block b hb.2 (fun e=>by injection e with e; omega))⟩,HB2.out.trans (z05 hg9 (fun k hk=>by injection hk with hk; omega) (by omega))⟩
  clear hrow9 hg9;go_wp2_with fail;exact q_3 (by simp [results,Tryz.results47,go_sem,j0,j1,j2,j3,j4,j5]) rfl (HG.out _ _ HH.out)
 by_cases e11:k=11
 ·subst e11;have hz:=K11.out rfl;have Hz:=zhi hz;clear hz e13 e9 e4;go_enter Tryz.func47,Tryz.ntmps47;go_upto_region 1 with fail;obtain ⟨W0,hW0⟩:∃ W0,W0=((w.alloc (.cells #[.int .i64 11,.int .i64 o,.int .i64 a,.int .i64 l,.string s,.slice A n c] 124)).alloc (.cells #[.int .i64 0,.int .i64 0,.int .i64 0,.int .i64 0,.string { data:=#[] },.slice none 0 0] 124)):=⟨_,rfl⟩;rw [<- hW0] at HW ⊢;clear hW0;have hwa:=zhi (zae 11 o a l s A n c 4 4 W0 HW.out.sc (.inr (.inr (.inr ⟨rfl,rfl,Hz.out⟩))));obtain ⟨q0,q1,q2,q3,q4,q5⟩:=cl6 HW.out.x;go_wp2_with fail;refine hwa.out.mono ?_;rintro e w1 ⟨⟨v1,rfl⟩,hb1⟩;replace HW:=zhi (HW.out.below hb1);clear hb1 hwa q0 q1 q2 q3 q4 q5;obtain ⟨k,hk⟩:∃ k:Int,k=11:=⟨_,rfl⟩;rw [<- hk] at HW HPl;have HG:Hid (∀ e w9,PXr (d+1+1) (rsX gl fl ls (.mk k o a l s xs)) w e w9->PXr (d+1+1) (rsX gl fl ls (.mk 11 o a l s xs)) w e w9):=zhi (fun _ _ h=>by rw [hk] at h; exact h);clear hk;have HS:=zhi (HE.out F base D dd gl fl p ls xs A n c _ HW.out.sc HW.out.row Hn.out Hok.out hn3);have hsz:=(q_0.1 HW.out.z).1;have q3:=zcr 3 HW.out.x;have q5:=zcr 5 HW.out.x;go_wp2_with fail;refine HS.out.mono ?_;rintro e w2 ⟨A1,m1,c1,L1,rfl,hm1,hr1,_,hb1⟩;have hW2:=HW.out.below hb1;have f5:=z09 hW2.x 5;have b5:=zcr 5 hW2.x;have hg2:w2.grownBy (w2.setCell ⟨w.heap.size,5,none⟩ (.slice A1 m1 c1)) (some w.heap.size):=z03 w2 ⟨w.heap.size,5,none⟩ _;have row2:(w2.setCell ⟨w.heap.size,5,none⟩ (.slice A1 m1 c1)).heap[w.heap.size]?=some (.cells #[.int .i64 k,.int .i64 o,.int .i64 a,.int .i64 l,.string s,.slice A1 m1 c1] 124 (0,0)):=z0a (i:=5) _ hW2.x;obtain ⟨a0,a1,a2,a3,a4,a5⟩:=cl6 row2;have hsz1:=hb1.size;have hs2:w2.heap.size<=(w2.setCell ⟨w.heap.size,5,none⟩ (.slice A1 m1 c1)).heap.size:=hg2.size;have HZ2:=zhi ((hg2.block (w.heap.size+1) (by omega) (fun e=>by injection e with e; omega)).trans hW2.z);have HR2:=zhi ((hr1.row.2).keep (G:=fun b=>w.heap.size+2<=b/\b<(w2.setCell ⟨w.heap.size,5,none⟩ (.slice A1 m1 c1)).heap.size) (fun b hb=>⟨by omega,by omega⟩) (fun b hb=>hg2.block b hb.2 (fun e=>by injection e with e; omega)));have HB2:=zhi (hW2.lo.trans (z05 hg2 (fun k hk=>by injection hk with hk; omega) (by omega)));have HM:=zhi hm1;clear hW2 row2 hr1 hb1 hg2 hm1 HS HW q3 q5;go_wp2_with (with_reducible refine z1C ?_);obtain ⟨w3,hw3⟩:∃ w3,w3=w2.setCell ⟨w.heap.size,5,none⟩ (.slice A1 m1 c1):=⟨_,rfl⟩;rw [<- hw3] at HZ2 HR2 HB2 hs2 ⊢;clear hw3 a0 a1 a2 a3 a4 a5 b5 f5;refine z07.of (z00 _ rfl _ _ _ rfl (w.heap.size+1) _ rfl (by rfl) _ _ HZ2.out (by kernel_rfl) (by rfl) (by simp [Value.oneCell']) ?_);intro w9 hrow9 hg9;obtain ⟨j0,j1,j2,j3,j4,j5⟩:=cl6 hrow9;have HH:Hid (PXr (d+1+1) (rsX gl fl ls (.mk k o a l s xs)) w (.returned (.agg #[.int .i64 k,.int .i64 o,.int .i64 a,.int .i64 l,.string s,.slice A1 m1 c1])) w9):=zhi ⟨k,o,a,l,s,A1,m1,c1,rfl,by
   have hm:=HM.out;subst hm;rw [HPl.out];exact z1D.2 ⟨A1,c1,rfl,HR2.out.keep (fun b hb=>⟨by omega,q_1 hb.2 hg9.size⟩) (fun b hb=>hg9.block b hb.2 (fun e=>by injection e with e; omega))⟩,HB2.out.trans (z05 hg9 (fun k hk=>by injection hk with hk; omega) (by omega))⟩
  clear hrow9 hg9;go_wp2_with fail;exact q_3 (by simp [results,Tryz.results47,go_sem,j0,j1,j2,j3,j4,j5]) rfl (HG.out _ _ HH.out)
 by_cases e10:k=10
 ·subst e10;clear e13 e9 e4 e11;go_enter Tryz.func47,Tryz.ntmps47;go_upto_region 1 with fail;obtain ⟨W0,hW0⟩:∃ W0,W0=((w.alloc (.cells #[.int .i64 10,.int .i64 o,.int .i64 a,.int .i64 l,.string s,.slice A n c] 124)).alloc (.cells #[.int .i64 0,.int .i64 0,.int .i64 0,.int .i64 0,.string { data:=#[] },.slice none 0 0] 124)):=⟨_,rfl⟩;rw [<- hW0] at HW ⊢;clear hW0;have q0:=zcr 0 HW.out.x;have q5:=zcr 5 HW.out.x;go_upto_region 24 with fail;clear q0 q5;obtain ⟨k,hk⟩:∃ k:Int,k=10:=⟨_,rfl⟩;rw [<- hk] at HW HPl;have HG:Hid (∀ e w9,PXr (d+1+1) (rsX gl fl ls (.mk k o a l s xs)) w e w9->PXr (d+1+1) (rsX gl fl ls (.mk 10 o a l s xs)) w e w9):=zhi (fun _ _ h=>by rw [hk] at h; exact h);clear hk;have HS:=zhi (HE.out F base D dd gl fl p ls xs A n c _ HW.out.sc HW.out.row Hn.out Hok.out hn3);have hsz:=(q_0.1 HW.out.z).1;have q3:=zcr 3 HW.out.x;have q5:=zcr 5 HW.out.x;go_wp2_with fail;refine HS.out.mono ?_;rintro e w2 ⟨A1,m1,c1,L1,rfl,hm1,hr1,_,hb1⟩;have hW2:=HW.out.below hb1;have f5:=z09 hW2.x 5;have b5:=zcr 5 hW2.x;have hg2:w2.grownBy (w2.setCell ⟨w.heap.size,5,none⟩ (.slice A1 m1 c1)) (some w.heap.size):=z03 w2 ⟨w.heap.size,5,none⟩ _;have row2:(w2.setCell ⟨w.heap.size,5,none⟩ (.slice A1 m1 c1)).heap[w.heap.size]?=some (.cells #[.int .i64 k,.int .i64 o,.int .i64 a,.int .i64 l,.string s,.slice A1 m1 c1] 124 (0,0)):=z0a (i:=5) _ hW2.x;obtain ⟨a0,a1,a2,a3,a4,a5⟩:=cl6 row2;have hsz1:=hb1.size;have hs2:w2.heap.size<=(w2.setCell ⟨w.heap.size,5,none⟩ (.slice A1 m1 c1)).heap.size:=hg2.size;have HZ2:=zhi ((hg2.block (w.heap.size+1) (by omega) (fun e=>by injection e with e; omega)).trans hW2.z);have HR2:=zhi ((hr1.row.2).keep (G:=fun b=>w.heap.size+2<=b/\b<(w2.setCell ⟨w.heap.size,5,none⟩ (.slice A1 m1 c1)).heap.size) (fun b hb=>⟨by omega,by omega⟩) (fun b hb=>hg2.block b hb.2 (fun e=>by injection e with e; omega)));have HB2:=zhi (hW2.lo.trans (z05 hg2 (fun k hk=>by injection hk with hk; omega) (by omega)));have HM:=zhi hm1;clear hW2 row2 hr1 hb1 hg2 hm1 HS HW q3 q5;go_wp2_with (with_reducible refine z1C ?_);obtain ⟨w3,hw3⟩:∃ w3,w3=w2.setCell ⟨w.heap.size,5,none⟩ (.slice A1 m1 c1):=⟨_,rfl⟩;rw [<- hw3] at HZ2 HR2 HB2 hs2 ⊢;clear hw3 a0 a1 a2 a3 a4 a5 b5 f5;refine z07.of (z00 _ rfl _ _ _ rfl (w.heap.size+1) _ rfl (by rfl) _ _ HZ2.out (by kernel_rfl) (by rfl) (by simp [Value.oneCell']) ?_);intro w9 hrow9 hg9;obtain ⟨j0,j1,j2,j3,j4,j5⟩:=cl6 hrow9;have HH:Hid (PXr (d+1+1) (rsX gl fl ls (.mk k o a l s xs)) w (.returned (.agg #[.int .i64 k,.int .i64 o,.int .i64 a,.int .i64 l,.string s,.slice A1 m1 c1])) w9):=zhi ⟨k,o,a,l,s,A1,m1,c1,rfl,by
   have hm:=HM.out;subst hm;rw [HPl.out];exact z1D.2 ⟨A1,c1,rfl,HR2.out.keep (fun b hb=>⟨by omega,q_1 hb.2 hg9.size⟩) (fun b hb=>hg9.block b hb.2 (fun e=>by injection e with e; omega))⟩,HB2.out.trans (z05 hg9 (fun k hk=>by injection hk with hk; omega) (by omega))⟩
  clear hrow9 hg9;go_wp2_with fail;exact q_3 (by simp [results,Tryz.results47,go_sem,j0,j1,j2,j3,j4,j5]) rfl (HG.out _ _ HH.out)
 by_cases e9b:k=9
 ·subst e9b;obtain ⟨hz,j,f,hj,hf,hfn⟩:z0s gl fl ls s=4/\∃ j f,z0S (fl.map (·.name)) s=some j/\fl[j]?=some f/\f.params.length=n:=by
   rcases K9.out rfl with h | h
   ·exact h
   ·exact absurd ⟨rfl,by omega⟩ e9
  have Hz:=zhi hz;have Hj:=zhi hj;have Hf:=zhi hf;have Hfn:=zhi hfn;clear hz hj hf hfn e13 e9 e4 e11 e10;go_enter Tryz.func47,Tryz.ntmps47;go_upto_region 1 with fail;obtain ⟨W0,hW0⟩:∃ W0,W0=((w.alloc (.cells #[.int .i64 9,.int .i64 o,.int .i64 a,.int .i64 l,.string s,.slice A n c] 124)).alloc (.cells #[.int .i64 0,.int .i64 0,.int .i64 0,.int .i64 0,.string { data:=#[] },.slice none 0 0] 124)):=⟨_,rfl⟩;rw [<- hW0] at HW ⊢;clear hW0;have hwa:=zhi (z66 s W0 HW.out.sc);rw [Hz.out] at hwa;have q0:=zcr 0 HW.out.x;have q4:=zcr 4 HW.out.x;go_wp2_with fail;refine hwa.out.mono ?_;rintro e w1 ⟨rfl,hb1⟩;replace HW:=zhi (HW.out.below hb1);clear hb1 hwa q0 q4;go_upto_region 19 with fail;obtain ⟨gA,gc,fA,fc,v,h1,h2,h3,h4,h5,h6,h7,h8⟩:=HW.out.sc;obtain ⟨fg,pA,pc,bA,bc,rfl,hFg,e0,e1,e2,e3,hp,hb⟩:=h1.fs.2 j f Hf.out;have hjm:j<fl.length:=(List.getElem?_eq_some_iff.1 Hf.out).1;have hmc:fl.length<=fc:=h1.fs.1;have hm6:fl.length<=1000000:=h1.fn;rw [Hfn.out] at e2;obtain ⟨m,hm⟩:∃ m,m=fl.length:=⟨_,rfl⟩;rw [<- hm] at hjm hmc hm6 h5;have HFu:Hid (∀ W,Below w1.heap.size w1 W->Calls Tryz.prog 26 #[.agg #[.slice gA gl.length gc,.slice (some ⟨fg,0,none⟩) m fc],.string s] W (IntR (j:Int) W)):=zhi (fun W hb=>by
   have h:=z5G s fl (some ⟨fg,0,none⟩) m fc (.slice gA gl.length gc) W hm.symm ((h1.keep (fun _ h=>h) (fun b hb'=>hb.block b (q_1 (h2 b hb') h4))).fs) (fun b hb'=>q_1 (q_1 (h2 b hb') h4) hb.size) hm6 gA gl.length gc rfl;rw [Hj.out] at h;exact h)
  have hS0:w1.drew.cell? ⟨p,0,none⟩=some (.slice gA gl.length gc)/\w1.drew.cell? ⟨p,1,none⟩=some (.slice (some ⟨fg,0,none⟩) m fc)/\w1.drew.cell? ⟨w.heap.size,4,none⟩=some (.string s)/\w1.drew.cell? ⟨w.heap.size,5,none⟩=some (.slice A n c)/\w1.drew.cell? ⟨fg,j * 4+2,none⟩=some (.slice pA n pc)/\Below w1.heap.size w1 w1.drew :=
   ⟨zcr 0 h5,zcr 1 h5,zcr 4 HW.out.x,zcr 5 HW.out.x,e2,(q_i _ _).drew⟩
  have HS0:=zhi hS0;clear hm h1 h2 h3 h4 h5 h6 h7 h8 e0 e1 e2 e3 hp hb hFg hS0
  go_region_held3 (fun w'=>w'.cell? ⟨p,0,none⟩=some (.slice gA gl.length gc)/\w'.cell? ⟨p,1,none⟩=some (.slice (some ⟨fg,0,none⟩) m fc)/\w'.cell? ⟨w.heap.size,4,none⟩=some (.string s)/\w'.cell? ⟨w.heap.size,5,none⟩=some (.slice A n c)/\w'.cell? ⟨fg,j * 4+2,none⟩=some (.slice pA n pc)/\Below w1.heap.size w1 w')
   (first | (with_reducible exact HS0.out) | (with_reducible exact HS2.out))
   (first | (go_at_call 26; (with_reducible refine (HFu.out _ HS0.out.2.2.2.2.2).mono ?_); rintro e w2 ⟨rfl,hb2⟩; have HS2:=zhi (And.intro (hold hb2 HS0.out.1) (And.intro (hold hb2 HS0.out.2.1) (And.intro (hold hb2 HS0.out.2.2.1) (And.intro (hold hb2 HS0.out.2.2.2.1) (And.intro (hold hb2 HS0.out.2.2.2.2.1) (z08 HS0.out.2.2.2.2.2 hb2)))))); clear hb2))
  replace HW:=zhi (HW.out.below HS2.out.2.2.2.2.2);dsimp only [Exit.then,Exit.inBlock];obtain ⟨k,hk⟩:∃ k:Int,k=9:=⟨_,rfl⟩;rw [<- hk] at HW HPl;have HG:Hid (∀ e w9,PXr (d+1+1) (rsX gl fl ls (.mk k o a l s xs)) w e w9->PXr (d+1+1) (rsX gl fl ls (.mk 9 o a l s xs)) w e w9):=zhi (fun _ _ h=>by rw [hk] at h; exact h);clear hk HS2 HS0 HFu;have HS:=zhi (HE.out F base D dd gl fl p ls xs A n c _ HW.out.sc HW.out.row Hn.out Hok.out hn3);have hsz:=(q_0.1 HW.out.z).1;have q3:=zcr 3 HW.out.x;have q5:=zcr 5 HW.out.x;go_wp2_with fail;refine HS.out.mono ?_;rintro e w2 ⟨A1,m1,c1,L1,rfl,hm1,hr1,_,hb1⟩;have hW2:=HW.out.below hb1;have f5:=z09 hW2.x 5;have b5:=zcr 5 hW2.x;have hg2:w2.grownBy (w2.setCell ⟨w.heap.size,5,none⟩ (.slice A1 m1 c1)) (some w.heap.size):=z03 w2 ⟨w.heap.size,5,none⟩ _;have row2:(w2.setCell ⟨w.heap.size,5,none⟩ (.slice A1 m1 c1)).heap[w.heap.size]?=some (.cells #[.int .i64 k,.int .i64 o,.int .i64 a,.int .i64 l,.string s,.slice A1 m1 c1] 124 (0,0)):=z0a (i:=5) _ hW2.x;obtain ⟨a0,a1,a2,a3,a4,a5⟩:=cl6 row2;have hsz1:=hb1.size;have hs2:w2.heap.size<=(w2.setCell ⟨w.heap.size,5,none⟩ (.slice A1 m1 c1)).heap.size:=hg2.size;have HZ2:=zhi ((hg2.block (w.heap.size+1) (by omega) (fun e=>by injection e with e; omega)).trans hW2.z);have HR2:=zhi ((hr1.row.2).keep (G:=fun b=>w.heap.size+2<=b/\b<(w2.setCell ⟨w.heap.size,5,none⟩ (.slice A1 m1 c1)).heap.size) (fun b hb=>⟨by omega,by omega⟩) (fun b hb=>hg2.block b hb.2 (fun e=>by injection e with e; omega)));have HB2:=zhi (hW2.lo.trans (z05 hg2 (fun k hk=>by injection hk with hk; omega) (by omega)));have HM:=zhi hm1;clear hW2 row2 hr1 hb1 hg2 hm1 HS HW q3 q5;go_wp2_with (with_reducible refine z1C ?_);obtain ⟨w3,hw3⟩:∃ w3,w3=w2.setCell ⟨w.heap.size,5,none⟩ (.slice A1 m1 c1):=⟨_,rfl⟩;rw [<- hw3] at HZ2 HR2 HB2 hs2 ⊢;clear hw3 a0 a1 a2 a3 a4 a5 b5 f5;refine z07.of (z00 _ rfl _ _ _ rfl (w.heap.size+1) _ rfl (by rfl) _ _ HZ2.out (by kernel_rfl) (by rfl) (by simp [Value.oneCell']) ?_);intro w9 hrow9 hg9;obtain ⟨j0,j1,j2,j3,j4,j5⟩:=cl6 hrow9;have HH:Hid (PXr (d+1+1) (rsX gl fl ls (.mk k o a l s xs)) w (.returned (.agg #[.int .i64 k,.int .i64 o,.int .i64 a,.int .i64 l,.string s,.slice A1 m1 c1])) w9):=zhi ⟨k,o,a,l,s,A1,m1,c1,rfl,by
   have hm:=HM.out;subst hm;rw [HPl.out];exact z1D.2 ⟨A1,c1,rfl,HR2.out.keep (fun b hb=>⟨by omega,q_1 hb.2 hg9.size⟩) (fun b hb=>hg9.block b hb.2 (fun e=>by injection e with e; omega))⟩,HB2.out.trans (z05 hg9 (fun k hk=>by injection hk with hk; omega) (by omega))⟩
  clear hrow9 hg9;go_wp2_with fail;exact q_3 (by simp [results,Tryz.results47,go_sem,j0,j1,j2,j3,j4,j5]) rfl (HG.out _ _ HH.out)
 ·have b13:(k == 13)=false:=by simpa using e13
  have b4:(k == 4)=false:=by simpa using e4
  have b11:(k == 11)=false:=by simpa using e11
  have b10:(k == 10)=false:=by simpa using e10
  have b9:(k == 9)=false:=by simpa using e9b
  clear e13 e9 e4 e11 e10 e9b;go_enter Tryz.func47,Tryz.ntmps47;go_upto_region 1 with fail;obtain ⟨W0,hW0⟩:∃ W0,W0=((w.alloc (.cells #[.int .i64 k,.int .i64 o,.int .i64 a,.int .i64 l,.string s,.slice A n c] 124)).alloc (.cells #[.int .i64 0,.int .i64 0,.int .i64 0,.int .i64 0,.string { data:=#[] },.slice none 0 0] 124)):=⟨_,rfl⟩;rw [<- hW0] at HW ⊢;clear hW0;have q0:=zcr 0 HW.out.x;go_upto_region 24 with fail;clear q0 b13 b4 b11 b10 b9;have HG:Hid (∀ e w9,PXr (d+1+1) (rsX gl fl ls (.mk k o a l s xs)) w e w9->PXr (d+1+1) (rsX gl fl ls (.mk k o a l s xs)) w e w9):=zhi (fun _ _ h=>h);have HS:=zhi (HE.out F base D dd gl fl p ls xs A n c _ HW.out.sc HW.out.row Hn.out Hok.out hn3);have hsz:=(q_0.1 HW.out.z).1;have q3:=zcr 3 HW.out.x;have q5:=zcr 5 HW.out.x;go_wp2_with fail;refine HS.out.mono ?_;rintro e w2 ⟨A1,m1,c1,L1,rfl,hm1,hr1,_,hb1⟩;have hW2:=HW.out.below hb1;have f5:=z09 hW2.x 5;have b5:=zcr 5 hW2.x;have hg2:w2.grownBy (w2.setCell ⟨w.heap.size,5,none⟩ (.slice A1 m1 c1)) (some w.heap.size):=z03 w2 ⟨w.heap.size,5,none⟩ _;have row2:(w2.setCell ⟨w.heap.size,5,none⟩ (.slice A1 m1 c1)).heap[w.heap.size]?=some (.cells #[.int .i64 k,.int .i64 o,.int .i64 a,.int .i64 l,.string s,.slice A1 m1 c1] 124 (0,0)):=z0a (i:=5) _ hW2.x;obtain ⟨a0,a1,a2,a3,a4,a5⟩:=cl6 row2;have hsz1:=hb1.size;have hs2:w2.heap.size<=(w2.setCell ⟨w.heap.size,5,none⟩ (.slice A1 m1 c1)).heap.size:=hg2.size;have HZ2:=zhi ((hg2.block (w.heap.size+1) (by omega) (fun e=>by injection e with e; omega)).trans hW2.z);have HR2:=zhi ((hr1.row.2).keep (G:=fun b=>w.heap.size+2<=b/\b<(w2.setCell ⟨w.heap.size,5,none⟩ (.slice A1 m1 c1)).heap.size) (fun b hb=>⟨by omega,by omega⟩) (fun b hb=>hg2.block b hb.2 (fun e=>by injection e with e; omega)));have HB2:=zhi (hW2.lo.trans (z05 hg2 (fun k hk=>by injection hk with hk; omega) (by omega)));have HM:=zhi hm1;clear hW2 row2 hr1 hb1 hg2 hm1 HS HW q3 q5;go_wp2_with (with_reducible refine z1C ?_);obtain ⟨w3,hw3⟩:∃ w3,w3=w2.setCell ⟨w.heap.size,5,none⟩ (.slice A1 m1 c1):=⟨_,rfl⟩;rw [<- hw3] at HZ2 HR2 HB2 hs2 ⊢;clear hw3 a0 a1 a2 a3 a4 a5 b5 f5;refine z07.of (z00 _ rfl _ _ _ rfl (w.heap.size+1) _ rfl (by rfl) _ _ HZ2.out (by kernel_rfl) (by rfl) (by simp [Value.oneCell']) ?_);intro w9 hrow9 hg9;obtain ⟨j0,j1,j2,j3,j4,j5⟩:=cl6 hrow9;have HH:Hid (PXr (d+1+1) (rsX gl fl ls (.mk k o a l s xs)) w (.returned (.agg #[.int .i64 k,.int .i64 o,.int .i64 a,.int .i64 l,.string s,.slice A1 m1 c1])) w9):=zhi ⟨k,o,a,l,s,A1,m1,c1,rfl,by
   have hm:=HM.out;subst hm;rw [HPl.out];exact z1D.2 ⟨A1,c1,rfl,HR2.out.keep (fun b hb=>⟨by omega,q_1 hb.2 hg9.size⟩) (fun b hb=>hg9.block b hb.2 (fun e=>by injection e with e; omega))⟩,HB2.out.trans (z05 hg9 (fun k hk=>by injection hk with hk; omega) (by omega))⟩
  clear hrow9 hg9;go_wp2_with fail;exact q_3 (by simp [results,Tryz.results47,go_sem,j0,j1,j2,j3,j4,j5]) rfl (HG.out _ _ HH.out)
theorem z5F:∀ d:Nat,zcf d
 | 0=>fun _ _ _ _ _ _ _ _ _ _ _ _ h _=>h.elim
 | d+1=>zdM (zcD (z5F d))
end Go.Proofs.YtdflbhofmmlpgaaGreat
