/-
  Le: RsJ. Walks and laws that the statement's proof is made of. No condition of its own.
-/
import Derived.Test.YtleicdfkagejoaaLd
namespace Go.Proofs.Ytleicdfkagejoaa
open Go.RowKit
def ResR (D d:Nat) (gl:GlL) (fl:List Fn) (w:World) (e:Ending) (w':World):Prop:=∃ gA gc fA fc,e=.returned (.tuple #[.agg #[.slice gA gl.length gc,.slice fA fl.length fc],.int .i64 0,.int .i64 0])∧z0m (fun b=>w.heap.size≤b∧b<w'.heap.size) w' gl gA gc∧z0X (fun b=>w.heap.size≤b∧b<w'.heap.size) w' (D+1) d (fl.map (rsFn gl fl)) fA fc∧Below w.heap.size w w'
def ReFn (D d:Nat) (gl:GlL) (fl:List Fn) (w:World) (gA:Option Addr) (n gc:Nat) (fA:Option Addr) (m fc:Nat) (qg:Value) (B k:Nat) (wr:World):Prop :=
 ∃ qf L,ReR w gA n gc fA m fc qg qf wr∧B≤wr.heap.size∧GRow 4 73 (MFr (D+1) d) B wr qf ((fl.take k).map (rsFn gl fl)) L
theorem z7X {F:Nat→Prop} {w:World} {l:List ByteArray} {A:Option Addr} {c k:Nat} (h:z0q F w l A c):z0q F w (l.take k) A c :=
 ⟨by have:=h.1; simp; omega,fun i x hi=>h.2 i x (by
  rw [List.getElem?_take] at hi
  split at hi
  ·exact hi
  ·cases hi)⟩
theorem z8i {B:Nat} {a w:World} (h:Below B a w) (n:Nat):Below B a (w.drewN n):=⟨h.os,h.tape,h.output,h.size,h.block⟩
theorem ReR.belowL {w wr wd:World} {gA fA:Option Addr} {n gc m fc:Nat} {qg qf:Value} (h:ReR w gA n gc fA m fc qg qf wr) (hb:Below (w.heap.size+2) wr wd):ReR w gA n gc fA m fc qg qf wd :=
 ⟨(hb.block _ (by omega)).trans h.p,(hb.block _ (by omega)).trans h.q,h.lo.trans (hb.mono (by omega))⟩
theorem z5S {P:Program} {w:World} {ops:Array Oper} {rest:List Oper} {d:Option Tmp} {ty:TypeId} {x y:Operand} {pos:String} {af:Array Edge} {gd:Option (Nat × Bool)} {a:Act} {Q:Exit→Act→World→Prop}
  (h:z08 (wpList P ops Q ({ dst:=d,op:=.store 30 x y,type:=ty,pos:=pos,after:=af,guard:=gd } :: rest) a w)):wpList P ops Q ({ dst:=d,op:=.store 30 x y,type:=ty,pos:=pos,after:=af,guard:=gd } :: rest) a w:=h
theorem z5q {α β:Type} (g:α→β) (l:List α) (i:Nat) (x:α) (h:l[i]?=some x):(l.take (i+1)).map g=(l.take i).map g++[g x]:=by
 rw [List.take_add_one,h]
 simp
theorem RowS.keep' {F:Nat→Prop} {w w':World} {D d:Nat} {ts:List St} {A:Option Addr} {c:Nat} (h:RowS F w D d ts A c) (hk:∀ k,F k→w'.heap[k]?=w.heap[k]?):RowS F w' D d ts A c:=RowS.keep (fun _ h=>h) hk h
theorem zcl {F:Nat→Prop} {base D d:Nat} {gl:GlL} {fl:List Fn} {p:Nat} {ls:List ByteArray} {w w':World} (h:ScR F base D d gl fl p ls w) (hc:ChR p w w'):Below base w w':=by
 have hl:=h.lbl
 obtain ⟨gA,gc,fA,fc,v,h1,h2,h3,h4,h5,h6,h7,h8⟩:=h
 exact ⟨hc.os,hc.tape,hc.output,hc.size,fun k hk=>hc.block k (Nat.lt_of_lt_of_le hk h4) (by omega) (fun e=>by have:=(hl k e).1; omega)⟩
set_option maxRecDepth 100000 in
set_option maxHeartbeats 8000000 in
theorem z5N {F:Nat→Prop} {D d:Nat} (gl:GlL) (fl:List Fn) (gA:Option Addr) (n gc:Nat) (fA:Option Addr) (m fc:Nat) (w:World) (hn:gl.length=n) (hm:fl.length=m) (hg:z0m F w gl gA gc) (hf:z0X F w D d fl fA fc) (hF:∀ b,F b→b<w.heap.size) (hok:z5v gl fl) :
  Calls Try.prog 12 #[.agg #[.slice gA n gc,.slice fA m fc]] w (ResR D d gl fl w):=by
 have hS0:ReR w gA n gc fA m fc (.slice none 0 0) (.slice none 0 0) ((w.alloc (.cells #[.slice gA n gc,.slice fA m fc] 30)).alloc (.cells #[.slice none 0 0,.slice none 0 0] 30)) :=
  ⟨z0Z w _ _,z0Y w _ _,((Below.refl _ w).alloc (Nat.le_refl _) _).alloc (by simp) _⟩
 have hn32:n≤32:=by rw [← hn]; exact hok.gn
 have hm64:m≤64:=by rw [← hm]; exact hok.fn.2
 have hm1:1≤m:=by rw [← hm]; exact hok.fn.1
 have hnc:n≤gc:=by rw [← hn]; exact hg.1
 have hmc:m≤fc:=by rw [← hm]; exact hf.1
 obtain ⟨f0,hf0⟩:∃ f0,fl[0]?=some f0:=⟨fl[0]'(by omega),List.getElem?_eq_getElem _⟩
 obtain ⟨gf,pA0,pc0,bA0,bc0,rfl,hFg,e0,_,e2,_,_,_⟩:=hf.2 0 f0 hf0
 obtain ⟨hmn,hmp⟩:=hok.main f0 hf0
 have hgf:gf<w.heap.size:=hF gf hFg
 have HCf:Hid (∀ i f,fl[i]?=some f→∃ pA pc bA bc,w.cell? ⟨gf,i * 4,none⟩=some (.string f.name)∧w.cell? ⟨gf,i * 4+1,none⟩=some (.int .i64 f.line)∧w.cell? ⟨gf,i * 4+2,none⟩=some (.slice pA f.params.length pc)∧w.cell? ⟨gf,i * 4+3,none⟩=some (.slice bA f.body.length bc)∧z0q F w f.params pA pc∧RowS F w D d f.body bA bc):=zhi (fun i f hi=>by
  obtain ⟨g',pA,pc,bA,bc,hA,_,r⟩:=hf.2 i f hi
  injection hA with hA
  injection hA with hA
  subst hA
  exact ⟨pA,pc,bA,bc,r⟩)
 rw [Nat.zero_mul,hmn] at e0
 rw [hmp] at e2
 have HS0:=zhi hS0
 have HF:=zhi hF
 have HOk:=zhi hok
 have HG:=zhi hg
 have HFs:=zhi hf
 have Hn:=zhi hn
 have Hm:=zhi hm
 have hk0:∀ o,World.cell? ((w.alloc (.cells #[.slice gA n gc,.slice (some ⟨gf,0,none⟩) m fc] 30)).alloc (.cells #[.slice none 0 0,.slice none 0 0] 30)) ⟨gf,o,none⟩=World.cell? w ⟨gf,o,none⟩:=fun o=>World.cell?_of_block (hS0.lo.block gf hgf)
 have d0:=(hk0 _).trans e0
 have d2:World.cell? ((w.alloc (.cells #[.slice gA n gc,.slice (some ⟨gf,0,none⟩) m fc] 30)).alloc (.cells #[.slice none 0 0,.slice none 0 0] 30)) ⟨gf,2,none⟩=some (.slice pA0 0 pc0):=(hk0 _).trans (by simpa using e2)
 clear hg hf hF hok hn hm hS0 hk0 e0 e2 hf0 hmn hmp hFg
 have tm0:((m:Int) == 0)=false:=by rw [beq_eq_false_iff_ne]; omega
 have tm64:(64<(m:Int))=False:=by simp; omega
 have tn32:(32<(n:Int))=False:=by simp; omega
 go_enter Try.func12,Try.ntmps12
 go_upto_region 5 with fail
 obtain ⟨W0,hW0⟩:∃ W0,W0=(w.alloc (.cells #[.slice gA n gc,.slice (some ⟨gf,0,none⟩) m fc] 30)).alloc (.cells #[.slice none 0 0,.slice none 0 0] 30):=⟨_,rfl⟩
 rw [← hW0] at HS0 d0 d2 ⊢
 clear hW0 d0 d2 tm0 tm64 tn32
 go_wp2_with fail
 go_loopw [5] (fun v wr=>∃ k:Nat,k≤n∧v=.int .i64 (k:Int)∧Hid (ReR w gA n gc (some ⟨gf,0,none⟩) m fc (.slice none 0 0) (.slice none 0 0) wr)) (fun v _=>n - (intOf v).toNat)
 case atStart=>exact ⟨0,Nat.zero_le _,rfl,HS0⟩
 case round =>
  obtain ⟨wo,rfl⟩:∃ wo:World,wo=wr:=⟨_,rfl⟩
  obtain ⟨k,hk,rfl,HR⟩:=hrel
  obtain ⟨q0,q1⟩:=cl2 HR.out.p
  clear HS0
  by_cases hlt:k<n
  ·obtain ⟨x,hx⟩:∃ x,gl[k]?=some x:=⟨gl[k]'(by rw [Hn.out]; exact hlt),List.getElem?_eq_getElem _⟩
   obtain ⟨gg,rfl,hFg,e0,_⟩:=HG.out.2 k x hx
   have n0:wo.cell? ⟨gg,k * 2,none⟩=some (.string x.1):=(World.cell?_of_block (HR.out.lo.block gg (HF.out gg hFg))).trans e0
   have HGl:Hid (∀ W',Below w.heap.size w W'→Calls Try.prog 22 #[.agg #[.slice (some ⟨gg,0,none⟩) n gc,.slice (some ⟨gf,0,none⟩) m fc],.string x.1] W' (IntR (k:Int) W')):=zhi (fun W' hb=>by
    have h:=z4Y x.1 gl (some ⟨gg,0,none⟩) n gc (.slice (some ⟨gf,0,none⟩) m fc) W' Hn.out (HG.out.keepR (fun _ h=>h) (fun b hb'=>hb.block b (HF.out b hb'))) (fun b hb'=>Nat.lt_of_lt_of_le (HF.out b hb') hb.size) (by omega) _ m fc rfl
    rw [HOk.out.gd k x hx] at h
    exact h)
   have hS0:wo.drew.cell? ⟨w.heap.size,0,none⟩=some (.slice (some ⟨gg,0,none⟩) n gc)∧wo.drew.cell? ⟨w.heap.size,1,none⟩=some (.slice (some ⟨gf,0,none⟩) m fc)∧wo.drew.cell? ⟨gg,k * 2,none⟩=some (.string x.1)∧Below w.heap.size w wo.drew∧Below wo.heap.size wo wo.drew:=⟨q0,q1,n0,HR.out.lo.drew,(Below.refl _ _).drew⟩
   have HS0:=zhi hS0
   clear hx e0 n0 hS0 hFg q1
   generalize x.1=xn at HGl HS0
   have i1:(0:Int)≤(k:Int):=by omega
   have i2:(k:Int)<(n:Int):=by omega
   go_upto_region 8 with fail
   go_region_held3 (fun w'=>w'.cell? ⟨w.heap.size,0,none⟩=some (.slice (some ⟨gg,0,none⟩) n gc)∧w'.cell? ⟨w.heap.size,1,none⟩=some (.slice (some ⟨gf,0,none⟩) m fc)∧w'.cell? ⟨gg,k * 2,none⟩=some (.string xn)∧Below w.heap.size w w'∧Below wo.heap.size wo w')
    (first | (with_reducible exact HS0.out) | (with_reducible exact HS2.out))
    (first | (go_at_call 22; (with_reducible refine (HGl.out _ HS0.out.2.2.2.1).mono ?_); rintro e w2 ⟨rfl,hb2⟩; have HS2:=zhi (And.intro (hold hb2 HS0.out.1) (And.intro (hold hb2 HS0.out.2.1) (And.intro (hold hb2 HS0.out.2.2.1) (And.intro (z0b HS0.out.2.2.2.1 hb2) (z0b HS0.out.2.2.2.2 hb2))))); clear hb2))
   have HR2:=zhi (HR.out.below HS2.out.2.2.2.2)
   clear q0 HS0 HS2 HGl
   have HE:Hid (∃ k':Nat,k'≤n∧Value.int .i64 ((k:Int)+1)=.int .i64 (k':Int)∧Hid (ReR w (some ⟨gg,0,none⟩) n gc (some ⟨gf,0,none⟩) m fc (.slice none 0 0) (.slice none 0 0) w2)):=zhi ⟨k+1,by omega,by go_num,HR2⟩
   dsimp only [Exit.then,Exit.inBlock]
   go_wp2_with fail
   exact ⟨HE.out,by simp [intOf]; omega⟩
  ·obtain rfl:k=n:=by omega
   go_upto_region 10 with fail
   clear q0 q1
   go_wp2_with fail
   go_loopw [6] (fun v wr=>∃ j:Nat,j≤m∧v=.int .i64 (j:Int)∧Hid (ReR w gA k gc (some ⟨gf,0,none⟩) m fc (.slice none 0 0) (.slice none 0 0) wr)) (fun v _=>m - (intOf v).toNat)
   case atStart=>exact ⟨0,Nat.zero_le _,rfl,HR⟩
   case round =>
    obtain ⟨wp,rfl⟩:∃ wp:World,wp=wr:=⟨_,rfl⟩
    clear HR
    obtain ⟨j,hj,rfl,HR⟩:=hrel
    obtain ⟨q0,q1⟩:=cl2 HR.out.p
    by_cases hlj:j<m
    ·obtain ⟨f,hf⟩:∃ f,fl[j]?=some f:=⟨fl[j]'(by rw [Hm.out]; exact hlj),List.getElem?_eq_getElem _⟩
     obtain ⟨pA,pc,bA,bc,e0,_⟩:=HCf.out j f hf
     have n0:wp.cell? ⟨gf,j * 4,none⟩=some (.string f.name):=(World.cell?_of_block (HR.out.lo.block gf hgf)).trans e0
     have HGl:Hid (∀ W',Below w.heap.size w W'→Calls Try.prog 22 #[.agg #[.slice gA k gc,.slice (some ⟨gf,0,none⟩) m fc],.string f.name] W' (IntR (-1) W')):=zhi (fun W' hb=>by
      have h:=z4Y f.name gl gA k gc (.slice (some ⟨gf,0,none⟩) m fc) W' Hn.out (HG.out.keepR (fun _ h=>h) (fun b hb'=>hb.block b (HF.out b hb'))) (fun b hb'=>Nat.lt_of_lt_of_le (HF.out b hb') hb.size) (by omega) _ m fc rfl
      rw [(HOk.out.fd j f hf).1] at h
      exact h)
     have HFu:Hid (∀ W',Below w.heap.size w W'→Calls Try.prog 23 #[.agg #[.slice gA k gc,.slice (some ⟨gf,0,none⟩) m fc],.string f.name] W' (IntR (j:Int) W')):=zhi (fun W' hb=>by
      have h:=z8G f.name fl (some ⟨gf,0,none⟩) m fc (.slice gA k gc) W' Hm.out (HFs.out.keepR (fun _ h=>h) (fun b hb'=>hb.block b (HF.out b hb'))) (fun b hb'=>Nat.lt_of_lt_of_le (HF.out b hb') hb.size) (by omega) gA k gc rfl
      rw [(HOk.out.fd j f hf).2] at h
      exact h)
     have hS0:wp.drew.cell? ⟨w.heap.size,0,none⟩=some (.slice gA k gc)∧wp.drew.cell? ⟨w.heap.size,1,none⟩=some (.slice (some ⟨gf,0,none⟩) m fc)∧wp.drew.cell? ⟨gf,j * 4,none⟩=some (.string f.name)∧Below w.heap.size w wp.drew∧Below wp.heap.size wp wp.drew:=⟨q0,q1,n0,HR.out.lo.drew,(Below.refl _ _).drew⟩
     have HS0:=zhi hS0
     clear hf e0 n0 hS0 q0
     generalize f.name=fname at HGl HFu HS0
     have i1:(0:Int)≤(j:Int):=by omega
     have i2:(j:Int)<(m:Int):=by omega
     go_upto_region 13 with fail
     go_region_held3 (fun w'=>w'.cell? ⟨w.heap.size,0,none⟩=some (.slice gA k gc)∧w'.cell? ⟨w.heap.size,1,none⟩=some (.slice (some ⟨gf,0,none⟩) m fc)∧w'.cell? ⟨gf,j * 4,none⟩=some (.string fname)∧Below w.heap.size w w'∧Below wp.heap.size wp w')
      (first | (with_reducible exact HS0.out) | (with_reducible exact HS2.out) | (with_reducible exact HS3.out))
      (first
       | (go_at_call 22; (with_reducible refine (HGl.out _ HS0.out.2.2.2.1).mono ?_); rintro e w2 ⟨rfl,hb2⟩; have HS2:=zhi (And.intro (hold hb2 HS0.out.1) (And.intro (hold hb2 HS0.out.2.1) (And.intro (hold hb2 HS0.out.2.2.1) (And.intro (z0b HS0.out.2.2.2.1 hb2) (z0b HS0.out.2.2.2.2 hb2))))); clear hb2)
       | (go_at_call 23; (with_reducible refine (HFu.out _ HS2.out.2.2.2.1).mono ?_); rintro e w3 ⟨rfl,hb3⟩; have HS3:=zhi (And.intro (hold hb3 HS2.out.1) (And.intro (hold hb3 HS2.out.2.1) (And.intro (hold hb3 HS2.out.2.2.1) (And.intro (z0b HS2.out.2.2.2.1 hb3) (z0b HS2.out.2.2.2.2 hb3))))); clear hb3))
     have HR2:=zhi (HR.out.below HS3.out.2.2.2.2)
     clear q1 HS0 HS2 HS3 HGl HFu
     have HE:Hid (∃ j':Nat,j'≤m∧Value.int .i64 ((j:Int)+1)=.int .i64 (j':Int)∧Hid (ReR w gA k gc (some ⟨gf,0,none⟩) m fc (.slice none 0 0) (.slice none 0 0) w3)):=zhi ⟨j+1,by omega,by go_num,HR2⟩
     dsimp only [Exit.then,Exit.inBlock]
     go_wp2_with fail
     exact ⟨HE.out,by simp [intOf]; omega⟩
    ·obtain rfl:j=m:=by omega
     go_wp2_with (at_builtin; refine z08.out ?_)
     refine z08.of (z3H wp rfl (.const (.slice none 0 0)) (.tmp 98) rfl gl gA k gc Hn.out.symm rfl rfl (HG.out.keepR (fun _ h=>h) (fun b hb'=>HR.out.lo.block b (HF.out b hb'))) (by omega) ?_)
     intro lA lc w2 hG2 hb2
     have hR2:=HR.out.below hb2
     have r0:=cell_of_row _ _ 0 _ _ _ hR2.q
     have z0:=z09 hR2.q 0
     obtain ⟨hR3,hg3⟩:=hR2.set0 (.slice lA k lc)
     have hwp:w.heap.size+2≤wp.heap.size:=(Array.getElem?_eq_some_iff.1 HR.out.q).1
     have HG3:=zhi (hG2.keepR (G:=fun b=>w.heap.size+2≤b∧b<(w2.setCell ⟨w.heap.size+1,0,none⟩ (.slice lA k lc)).heap.size) (fun b hb=>⟨by omega,Nat.lt_of_lt_of_le hb.2 hg3.size⟩) (fun b hb=>hg3.block b hb.2 (fun e=>by injection e with e; omega)))
     have HR3:=zhi hR3
     clear hR2 hR3 hg3 hG2 hb2 HR q0 q1
     go_upto_region 16 with fail
     obtain ⟨W2,hW2⟩:∃ W2,W2=w2.setCell ⟨w.heap.size+1,0,none⟩ (.slice lA k lc):=⟨_,rfl⟩
     rw [← hW2] at HR3 HG3 ⊢
     clear hW2 r0 z0
     have hsW2:w.heap.size+2≤W2.heap.size:=(Array.getElem?_eq_some_iff.1 HR3.out.q).1
     obtain ⟨B2,hB2⟩:∃ B2,B2=W2.heap.size:=⟨_,rfl⟩
     rw [← hB2] at HG3 hsW2
     have hB2':B2≤W2.heap.size:=Nat.le_of_eq hB2
     clear hB2
     go_wp2_with fail
     go_loopw [7] (fun v wr=>∃ i:Nat,i≤j∧v=.int .i64 (i:Int)∧Hid (ReFn D d gl fl w gA k gc (some ⟨gf,0,none⟩) j fc (.slice lA k lc) B2 i wr)∧Hid (z0m (fun b=>w.heap.size+2≤b∧b<B2) wr gl lA lc)) (fun v _=>j - (intOf v).toNat)
     case atStart=>exact ⟨0,Nat.zero_le _,rfl,zhi ⟨.slice none 0 0,[],HR3.out,hB2',by simpa using GRow.nil⟩,HG3⟩
     case round =>
      obtain ⟨wu,rfl⟩:∃ wu:World,wu=wr:=⟨_,rfl⟩
      clear HR3 HG3 hB2'
      obtain ⟨i,hi,rfl,hrf,HG3⟩:=hrel
      have hlo:Below w.heap.size w wu:=by obtain ⟨qf,L,h,_⟩:=hrf; exact h.lo
      have hpc:wu.cell? ⟨w.heap.size,0,none⟩=some (.slice gA k gc)∧wu.cell? ⟨w.heap.size,1,none⟩=some (.slice (some ⟨gf,0,none⟩) j fc):=by obtain ⟨qf,L,h,_⟩:=hrf; exact ⟨cell_of_row _ _ 0 _ _ _ h.p,cell_of_row _ _ 1 _ _ _ h.p⟩
      have hsB2:B2≤wu.heap.size:=by obtain ⟨qf,L,_,h,_⟩:=hrf; exact h
      have hsu:w.heap.size+2≤wu.heap.size:=Nat.le_trans hsW2 hsB2
      have HRF:=zhi hrf
      have HLo:=zhi hlo
      obtain ⟨p0,p1⟩:=hpc
      clear hrf
      by_cases hli:i<j
      ·obtain ⟨f,hf⟩:∃ f,fl[i]?=some f:=⟨fl[i]'(by rw [Hm.out]; exact hli),List.getElem?_eq_getElem _⟩
       obtain ⟨pA,pc,bA,bc,e0,e1,e2,e3,hps,hbd⟩:=HCf.out i f hf
       have hkw:∀ o,wu.cell? ⟨gf,o,none⟩=w.cell? ⟨gf,o,none⟩:=fun o=>World.cell?_of_block (hlo.block gf hgf)
       have d0:=(hkw _).trans e0
       have d1:=(hkw _).trans e1
       have d2:=(hkw _).trans e2
       have d3:=(hkw _).trans e3
       obtain ⟨hp6,hl32,hnt,hfw,hbl,hokb,hpar⟩:=HOk.out.fs i f hf
       obtain ⟨pn,hpn⟩:∃ pn,pn=f.params.length:=⟨_,rfl⟩
       obtain ⟨bn,hbn⟩:∃ bn,bn=f.body.length:=⟨_,rfl⟩
       obtain ⟨nt,hntv⟩:∃ nt,nt=ntL f.body:=⟨_,rfl⟩
       obtain ⟨vl,hvl⟩:∃ vl,vl=f.params.length+(vrL f.body).length:=⟨_,rfl⟩
       rw [← hpn] at d2 hp6
       rw [← hbn] at d3 hbl
       rw [← hntv] at hnt
       rw [← hvl] at hl32
       have hpcap:pn≤pc:=by rw [hpn]; exact hps.1
       have HPs:=zhi hps
       have HBd:=zhi hbd
       have HFw:=zhi hfw
       have HOkb:=zhi hokb
       have HPar:=zhi hpar
       have Hf:=zhi hf
       have Hpn:=zhi hpn
       have Hbn:=zhi hbn
       have Hnt:=zhi hntv
       have Hvl:=zhi hvl
       obtain ⟨fnm,hfnm⟩:∃ x,x=f.name:=⟨_,rfl⟩
       obtain ⟨fln,hfln⟩:∃ x,x=f.line:=⟨_,rfl⟩
       rw [← hfnm] at d0
       rw [← hfln] at d1
       have Hfnm:=zhi hfnm
       have Hfln:=zhi hfln
       have hb3:=(Below.refl wu.heap.size wu).alloc (Nat.le_refl _) (.cells #[.string fnm,.int .i64 fln,.slice pA pn pc,.slice bA bn bc] 73)
       have hf3:=heap_alloc_new wu (.cells #[.string fnm,.int .i64 fln,.slice pA pn pc,.slice bA bn bc] 73)
       have hsz3:wu.heap.size+1=(wu.alloc (.cells #[.string fnm,.int .i64 fln,.slice pA pn pc,.slice bA bn bc] 73)).heap.size:=by simp
       have HBk:Hid (∀ W,Below w.heap.size w W→z0q F W f.params pA pc∧RowS F W D d f.body bA bc∧(∀ b,F b→b<W.heap.size)∧SrcR F W D d gl fl gA gc (some ⟨gf,0,none⟩) fc):=zhi (fun W hb=>⟨HPs.out.keepR (fun _ h=>h) (fun b hb'=>hb.block b (HF.out b hb')),RowS.keep (fun _ h=>h) (fun b hb'=>hb.block b (HF.out b hb')) HBd.out,fun b hb'=>Nat.lt_of_lt_of_le (HF.out b hb') hb.size,⟨HG.out.keepR (fun _ h=>h) (fun b hb'=>hb.block b (HF.out b hb')),HFs.out.keepR (fun _ h=>h) (fun b hb'=>hb.block b (HF.out b hb')),by rw [Hn.out]; omega,by rw [Hm.out]; omega⟩⟩)
       have tp6:(6<(pn:Int))=False:=by simp; omega
       have tl32:(32<(vl:Int))=False:=by simp; omega
       have tn24:(24<(nt:Int))=False:=by simp; omega
       have i1:(0:Int)≤(i:Int):=by omega
       have i2:(i:Int)<(j:Int):=by omega
       clear e0 e1 e2 e3 hps hbd hkw hfw hokb hpar hf hpn hbn hntv hvl hfnm hfln hlo
       have HB3:=zhi hb3
       have HF3:=zhi hf3
       clear hb3 hf3
       go_upto_region 20 with fail
       obtain ⟨W3,hW3⟩:∃ W3,W3=wu.alloc (.cells #[.string fnm,.int .i64 fln,.slice pA pn pc,.slice bA bn bc] 73):=⟨_,rfl⟩
       rw [← hW3] at HB3 HF3 hsz3 ⊢
       clear hW3 d0 d1 d2 d3
       have HL3:=zhi (HLo.out.trans (HB3.out.mono HLo.out.size))
       have HLc:=zhi (zaU (D:=D) (d:=d) fnm fln f.params pA pn pc f.body bA bn bc W3 Hpn.out Hbn.out (HBk.out W3 HL3.out).1 (HBk.out W3 HL3.out).2.1 (HBk.out W3 HL3.out).2.2.1 HFw.out (by omega) (by omega) (by rw [← Hvl.out]; omega))
       obtain ⟨x0,x1,x2,x3⟩:=cl4 HF3.out
       go_wp2_with fail
       refine HLc.out.mono ?_
       rintro e w4 ⟨⟨lB,lm,lk,rfl,hlm⟩,hb4⟩
       rw [← Hvl.out] at hlm
       subst hlm
       have HB4:=zhi (HB3.out.trans (hb4.mono HB3.out.size))
       have HF4:=zhi ((hb4.block _ (by omega)).trans HF3.out)
       have hsz4:=hb4.size
       have HL4:=zhi (HLo.out.trans (HB4.out.mono HLo.out.size))
       clear hb4 HLc x0 x1 x2 x3 HF3 HB3 HL3
       have HNe:=zhi (z5G d F D f.body bA bn bc w4 Hbn.out (HBk.out w4 HL4.out).2.1 HFw.out (by omega) (by rw [← Hnt.out]; omega))
       rw [← Hnt.out] at HNe
       have x3:=cell_of_row _ _ 3 _ _ _ HF4.out
       go_wp2_with fail
       refine HNe.out.mono ?_
       rintro e w5 ⟨rfl,q,rfl⟩
       obtain ⟨W5,hW5⟩:∃ W5,W5=w4.drewN q:=⟨_,rfl⟩
       have HB5:Hid (Below wu.heap.size wu W5):=zhi (by rw [hW5]; exact z8i HB4.out q)
       have HF5:Hid (W5.heap[wu.heap.size]?=some (.cells #[.string fnm,.int .i64 fln,.slice pA pn pc,.slice bA bn bc] 73 (0,0))):=zhi (by rw [hW5]; exact HF4.out)
       have hsz5:wu.heap.size<W5.heap.size:=(Array.getElem?_eq_some_iff.1 HF5.out).1
       rw [← hW5]
       clear hW5 HNe x3 HB4 HF4 HL4
       have HL5:=zhi (HLo.out.trans (HB5.out.mono HLo.out.size))
       go_wp2_with fail
       go_loopw [9] (fun v wr=>∃ z:Nat,z≤pn∧v=.int .i64 (z:Int)∧Hid (Below W5.heap.size W5 wr)) (fun v _=>pn - (intOf v).toNat)
       case atStart=>exact ⟨0,Nat.zero_le _,rfl,zhi (Below.refl _ _)⟩
       case round =>
        obtain ⟨wq,rfl⟩:∃ wq:World,wq=wr:=⟨_,rfl⟩
        obtain ⟨z,hz,rfl,HBz⟩:=hrel
        have HLz:=zhi (HL5.out.trans (HBz.out.mono HL5.out.size))
        have HFz:=zhi ((HBz.out.block _ hsz5).trans HF5.out)
        have x2:=cell_of_row _ _ 2 _ _ _ HFz.out
        have y0:wq.cell? ⟨w.heap.size,0,none⟩=some (.slice gA k gc):=hold (HB5.out.trans (HBz.out.mono (by omega))) p0
        have y1:wq.cell? ⟨w.heap.size,1,none⟩=some (.slice (some ⟨gf,0,none⟩) j fc):=hold (HB5.out.trans (HBz.out.mono (by omega))) p1
        by_cases hlz:z<pn
        ·obtain ⟨s,hs⟩:∃ s,f.params[z]?=some s:=⟨f.params[z]'(by rw [← Hpn.out]; exact hlz),List.getElem?_eq_getElem _⟩
         obtain ⟨gp,rfl,hFp,e0⟩:=(HBk.out wq HLz.out).1.2 z s hs
         obtain ⟨hhas,hout⟩:=HPar.out z s hs
         have HHa:Hid (∀ W,Below w.heap.size w W→Calls Try.prog 26 #[.slice (some ⟨gp,0,none⟩) z pc,.string s] W (RetB false W)):=zhi (fun W hb=>by
          have h:=zdx s (f.params.take z) (some ⟨gp,0,none⟩) z pc W (by simp; rw [← Hpn.out]; omega) (z7X (HBk.out W hb).1) (by omega)
          rw [hhas] at h
          exact h)
         have HOu:Hid (∀ W,Below w.heap.size w W→Calls Try.prog 27 #[.agg #[.slice gA k gc,.slice (some ⟨gf,0,none⟩) j fc],.string s] W (IntR 0 W)):=zhi (fun W hb=>by
          have h:=z9y s gl fl gA k gc (some ⟨gf,0,none⟩) j fc W Hn.out Hm.out (HBk.out W hb).2.2.2 (HBk.out W hb).2.2.1
          rw [hout] at h
          exact h)
         have hS0:wq.drew.cell? ⟨w.heap.size,0,none⟩=some (.slice gA k gc)∧wq.drew.cell? ⟨w.heap.size,1,none⟩=some (.slice (some ⟨gf,0,none⟩) j fc)∧wq.drew.cell? ⟨wu.heap.size,2,none⟩=some (.slice (some ⟨gp,0,none⟩) pn pc)∧wq.drew.cell? ⟨gp,z,none⟩=some (.string s)∧Below w.heap.size w wq.drew∧Below wq.heap.size wq wq.drew:=⟨y0,y1,x2,e0,HLz.out.drew,(Below.refl _ _).drew⟩
         have HS0:=zhi hS0
         clear hs e0 hhas hout hS0 hFp y0 y1
         have j1:(0:Int)≤(z:Int):=by omega
         have j2:(z:Int)<(pn:Int):=by omega
         have j3:(z:Int)≤(pc:Int):=by omega
         go_upto_region 25 with fail
         go_region_held3 (fun w'=>w'.cell? ⟨w.heap.size,0,none⟩=some (.slice gA k gc)∧w'.cell? ⟨w.heap.size,1,none⟩=some (.slice (some ⟨gf,0,none⟩) j fc)∧w'.cell? ⟨wu.heap.size,2,none⟩=some (.slice (some ⟨gp,0,none⟩) pn pc)∧w'.cell? ⟨gp,z,none⟩=some (.string s)∧Below w.heap.size w w'∧Below wq.heap.size wq w')
          (first | (with_reducible exact HS0.out) | (with_reducible exact HS2.out))
          (first
           | (go_at_call 26; (with_reducible refine (HHa.out _ HS0.out.2.2.2.2.1).mono ?_); rintro e w2 ⟨rfl,rfl⟩)
           | (go_at_call 27; (with_reducible refine (HOu.out _ HS0.out.2.2.2.2.1).mono ?_); rintro e w3 ⟨rfl,hb3⟩; have HS2:=zhi (And.intro (hold hb3 HS0.out.1) (And.intro (hold hb3 HS0.out.2.1) (And.intro (hold hb3 HS0.out.2.2.1) (And.intro (hold hb3 HS0.out.2.2.2.1) (And.intro (z0b HS0.out.2.2.2.2.1 hb3) (z0b HS0.out.2.2.2.2.2 hb3)))))); clear hb3))
         have HE:Hid (∃ z':Nat,z'≤pn∧Value.int .i64 ((z:Int)+1)=.int .i64 (z':Int)∧Hid (Below W5.heap.size W5 w3)):=zhi ⟨z+1,by omega,by go_num,zhi (z0b HBz.out HS2.out.2.2.2.2.2)⟩
         clear HS0 HS2 HHa HOu x2
         dsimp only [Exit.then,Exit.inBlock]
         go_wp2_with fail
         exact ⟨HE.out,by simp [intOf]; omega⟩
        ·obtain rfl:z=pn:=by omega
         have HBq:Hid (Below wu.heap.size wu wq):=zhi (HB5.out.trans (HBz.out.mono (by omega)))
         have hszq:=HBq.out.size
         have hS0:wq.drew.cell? ⟨w.heap.size,0,none⟩=some (.slice gA k gc)∧wq.drew.cell? ⟨w.heap.size,1,none⟩=some (.slice (some ⟨gf,0,none⟩) j fc)∧wq.drew.cell? ⟨wu.heap.size,2,none⟩=some (.slice pA z pc)∧Below wq.heap.size wq wq.drew:=⟨y0,y1,x2,(Below.refl _ _).drew⟩
         have HS0:=zhi hS0
         have hfq:wu.heap.size<wq.heap.size:=(Array.getElem?_eq_some_iff.1 HFz.out).1
         clear hS0 HB5 HF5 HL5 HBz
         go_upto_region 27 with fail
         clear x2 y0 y1
         go_region_held3 (fun w'=>w'.cell? ⟨w.heap.size,0,none⟩=some (.slice gA k gc)∧w'.cell? ⟨w.heap.size,1,none⟩=some (.slice (some ⟨gf,0,none⟩) j fc)∧w'.cell? ⟨wu.heap.size,2,none⟩=some (.slice pA z pc)∧Below wq.heap.size wq w')
          (first | (with_reducible exact HS0.out) | (with_reducible exact HS2.out) | (with_reducible exact HS3.out))
          (first
           | ((with_reducible refine z2R _ rfl (.const (.slice none 0 0)) (.tmp 164) rfl f.params pA z pc Hpn.out rfl rfl (HBk.out _ (z0b HLz.out HS0.out.2.2.2)).1 (by omega) ?_); intro sA sc w6 ho6 hb6; have HO6:Hid (w6.ownsRow wq.heap.size 9 1 (.slice sA z sc) f.params.length (f.params.map Value.string)):=zhi ho6; have hb6a:=z0b HS0.out.2.2.2 hb6; have HS2:=zhi (And.intro (hold hb6 HS0.out.1) (And.intro (hold hb6 HS0.out.2.1) (And.intro (hold hb6 HS0.out.2.2.1) hb6a))); have hba:=(Below.refl w6.heap.size w6).alloc (Nat.le_refl _) (.cells #[.slice gA k gc,.slice (some ⟨gf,0,none⟩) j fc,.slice sA z sc,.int .i64 0,.int .i64 0] 82); have HS3:=zhi (And.intro (hold hba HS2.out.1) (And.intro (hold hba HS2.out.2.1) (And.intro (hold hba HS2.out.2.2.1) (z0b HS2.out.2.2.2 hba)))); clear ho6 hb6 hb6a hba))
         have hsc7:ScR F wq.heap.size D d gl fl w6.heap.size f.params (w6.alloc (.cells #[.slice gA k gc,.slice (some ⟨gf,0,none⟩) j fc,.slice sA z sc,.int .i64 0,.int .i64 0] 82)) :=
          ⟨gA,gc,some ⟨gf,0,none⟩,fc,.slice sA z sc,(HBk.out _ (HLz.out.trans (HS3.out.2.2.2.mono HLz.out.size))).2.2.2,fun b hb=>Nat.lt_of_lt_of_le (HF.out b hb) HLz.out.size,HS2.out.2.2.2.size,HS3.out.2.2.2.size,by rw [Hn.out,Hm.out]; exact heap_alloc_new w6 _,HO6.out.alloc _,fun e=>by have:=(HO6.out.lt _ e).2; omega,by rw [← Hpn.out]; omega⟩
         have hb7:=HS3.out.2.2.2
         have hs67:w6.heap.size<(w6.alloc (.cells #[.slice gA k gc,.slice (some ⟨gf,0,none⟩) j fc,.slice sA z sc,.int .i64 0,.int .i64 0] 82)).heap.size:=by simp
         have h6s:=HS2.out.2.2.2.size
         dsimp only [Exit.then,Exit.inBlock]
         obtain ⟨w7,hw7⟩:∃ w7,w7=w6.alloc (.cells #[.slice gA k gc,.slice (some ⟨gf,0,none⟩) j fc,.slice sA z sc,.int .i64 0,.int .i64 0] 82):=⟨_,rfl⟩
         rw [← hw7] at hsc7 hb7 hs67 ⊢
         obtain ⟨p7,hp7⟩:∃ p7,p7=w6.heap.size:=⟨_,rfl⟩
         rw [← hp7] at hsc7 hs67 h6s ⊢
         have HSc7:=zhi hsc7
         have HB7:=zhi hb7
         clear hw7 hp7 HS0 HS2 HS3 HO6 hsc7 hb7
         have HL7:=zhi (HLz.out.trans (HB7.out.mono HLz.out.size))
         have HF7:=zhi ((HB7.out.block _ hfq).trans HFz.out)
         have HBlk:=zhi (z4t d F wq.heap.size D d gl fl p7 f.params f.body bA bn bc w7 HSc7.out (HBk.out w7 HL7.out).2.1 Hbn.out HOkb.out (by omega) (by rw [← Hvl.out]; omega))
         have x3:=cell_of_row _ _ 3 _ _ _ HF7.out
         go_wp2_with fail
         refine HBlk.out.mono ?_
         rintro e w8 ⟨A8,m8,c8,rfl,hm8,hr8,hs8,hc8⟩
         have hb8:=zcl HSc7.out hc8
         have HB8:=zhi (HB7.out.trans hb8)
         have HF8:=zhi ((hb8.block _ hfq).trans HF7.out)
         have HR8:=zhi (RowS.keep (w:=w8) (w':=w8) (G:=fun b=>wq.heap.size≤b∧b<w8.heap.size) (fun b hb=>⟨by have:=hb.1; have:=HB7.out.size; omega,hb.2.1⟩) (fun _ _=>rfl) hr8)
         have HM8:=zhi hm8
         have hq8:∃ v:Value × Value × Value,w8.heap[p7]?=some (.cells #[v.1,v.2.1,v.2.2,.int .i64 0,.int .i64 0] 82 (0,0)):=by
          obtain ⟨_,_,_,_,v,_,_,_,_,h5,_⟩:=hs8
          exact ⟨(_,_,_),h5⟩
         obtain ⟨v8,hq8⟩:=hq8
         have x3:=cell_of_row _ _ 3 _ _ _ HF8.out
         have f3:=z09 HF8.out 3
         have hg9:w8.grownBy (w8.setCell ⟨wu.heap.size,3,none⟩ (.slice A8 m8 c8)) (some wu.heap.size):=z05 w8 ⟨wu.heap.size,3,none⟩ _
         have hf8:wu.heap.size≤w8.heap.size:=Nat.le_trans (Nat.le_of_lt hfq) HB8.out.size
         have hq8s:=HB8.out.size
         have hb9:Below wu.heap.size w8 (w8.setCell ⟨wu.heap.size,3,none⟩ (.slice A8 m8 c8)):=z07 hg9 (fun k hk=>by injection hk with hk; omega) hf8
         have row9:(w8.setCell ⟨wu.heap.size,3,none⟩ (.slice A8 m8 c8)).heap[wu.heap.size]?=some (.cells #[.string fnm,.int .i64 fln,.slice pA z pc,.slice A8 m8 c8] 73 (0,0)):=z0d (i:=3) _ HF8.out
         have x4:=cell_of_row _ _ 4 _ _ _ (z04 hg9 (show p7≠wu.heap.size by omega) hq8)
         have x2:=cell_of_row _ _ 2 _ _ _ row9
         have HB9:Hid (Below wu.heap.size wu (w8.setCell ⟨wu.heap.size,3,none⟩ (.slice A8 m8 c8))):=zhi ((HBq.out.trans (HB8.out.mono (Nat.le_of_lt hfq))).trans hb9)
         have HR9:=zhi (HR8.out.keep' (fun b hb=>hg9.block b hb.2 (fun e=>by injection e with e; omega)))
         have HRow9:=zhi row9
         have HM9:=zhi (show (rsB gl fl f.params f.body).length=m8 by rw [z1i,HM8.out])
         have hs98:(w8.setCell ⟨wu.heap.size,3,none⟩ (.slice A8 m8 c8)).heap.size=w8.heap.size:=by simp
         clear hs8 hc8 hr8 hm8 hb8 hg9 hb9 row9 hq8 HB8 HR8 HM8 HF8 HBlk HSc7 HB7 HF7 HL7 HFz HBq
         go_upto_region 31 with fail
         obtain ⟨w9,hw9⟩:∃ w9,w9=w8.setCell ⟨wu.heap.size,3,none⟩ (.slice A8 m8 c8):=⟨_,rfl⟩
         rw [← hw9] at x2 HB9 HR9 HRow9 hs98 ⊢
         clear hw9 x3 x4 f3
         have HL9:=zhi (HLo.out.trans (HB9.out.mono HLo.out.size))
         go_wp2_with (at_builtin; refine z08.out ?_)
         refine z08.of (z3J w9 rfl (.const (.slice none 0 0)) (.tmp 188) rfl f.params pA z pc Hpn.out rfl rfl (HBk.out w9 HL9.out).1 (by omega) ?_)
         intro lB lk w10 ho10 hb10
         have h9f:wu.heap.size<w9.heap.size:=by omega
         have hst10:=(z62 (F:=fun b=>w9.heap.size≤b∧b<w10.heap.size) ho10 (fun b h1 h2=>⟨h1,h2⟩)).2
         have row10:=(hb10.block _ h9f).trans HRow9.out
         have f2:=z09 row10 2
         have y2:=cell_of_row _ _ 2 _ _ _ row10
         have hg11:w10.grownBy (w10.setCell ⟨wu.heap.size,2,none⟩ (.slice lB z lk)) (some wu.heap.size):=z05 w10 ⟨wu.heap.size,2,none⟩ _
         have row11:(w10.setCell ⟨wu.heap.size,2,none⟩ (.slice lB z lk)).heap[wu.heap.size]?=some (.cells #[.string fnm,.int .i64 fln,.slice lB z lk,.slice A8 m8 c8] 73 (0,0)):=z0d (i:=2) _ row10
         have hb11:Below wu.heap.size w10 (w10.setCell ⟨wu.heap.size,2,none⟩ (.slice lB z lk)):=z07 hg11 (fun k hk=>by injection hk with hk; omega) (by have:=hb10.size; omega)
         have HB11:Hid (Below wu.heap.size wu (w10.setCell ⟨wu.heap.size,2,none⟩ (.slice lB z lk))):=zhi ((HB9.out.trans (hb10.mono (Nat.le_of_lt h9f))).trans hb11)
         obtain ⟨z0,z1,z2,z3⟩:=cl4 row11
         obtain ⟨qf,L,hR,hB2u,hgr⟩:=HRF.out
         have hR11:=hR.below HB11.out
         have q1:=cell_of_row _ _ 1 _ _ _ hR11.q
         have hgr11:=z1a (z2t _ _) hgr HB11.out
         have hs10:=hb10.size
         have hs11:=hg11.size
         have hmv:MFr (D+1) d (fun b=>wq.heap.size≤b∧b<(w10.setCell ⟨wu.heap.size,2,none⟩ (.slice lB z lk)).heap.size) (w10.setCell ⟨wu.heap.size,2,none⟩ (.slice lB z lk)) (rsFn gl fl f) [.string fnm,.int .i64 fln,.slice lB z lk,.slice A8 m8 c8] :=
          ⟨lB,lk,A8,c8,by simp only [rsFn]; rw [HM9.out,← Hpn.out,← Hfnm.out,← Hfln.out],hst10.keepR (fun b hb=>⟨by have:=hb.1; omega,Nat.lt_of_lt_of_le hb.2 hs11⟩) (fun b hb=>hg11.block b hb.2 (fun e=>by injection e with e; have:=hb.1; omega)),RowS.keep (fun b hb=>⟨hb.1,Nat.lt_of_lt_of_le (by have:=hb.2; omega) hs11⟩) (fun b hb=>(hg11.block b (by have:=hb.2; omega) (fun e=>by injection e with e; have:=hb.1; omega)).trans (hb10.block b (by have:=hb.2; omega))) HR9.out⟩
         have HMV:=zhi hmv
         have HR11:=zhi hR11
         have HGR11:=zhi hgr11
         have HOB:Hid (∀ b,qf.ownBlock=some b→B2≤b∧b<wu.heap.size):=zhi (fun b e=>hgr.own.lt b e)
         clear hR hgr hmv hR11 hgr11 ho10 hb10 hst10 row10 hg11 row11 hb11 HRow9 HR9 HB9 HL9 HM9 HRF
         go_wp2_with (at_builtin; refine z08.out ?_)
         obtain ⟨w11,hw11⟩:∃ w11,w11=w10.setCell ⟨wu.heap.size,2,none⟩ (.slice lB z lk):=⟨_,rfl⟩
         have hsz11:w10.heap.size=w11.heap.size:=by rw [hw11]; simp
         rw [← hw11] at HR11 HGR11 HMV HB11 ⊢
         clear hw11 z0 z1 z2 z3 q1 x2 y2 f2
         obtain ⟨xs,hxs⟩:∃ xs,xs=(fl.take i).map (rsFn gl fl):=⟨_,rfl⟩
         have hxl:xs.length=i:=by rw [hxs,List.length_map,List.length_take,Hm.out]; omega
         rw [← hxs] at HGR11
         have HXS:=zhi hxs
         clear hxs
         have h11s:w8.heap.size≤w11.heap.size:=by omega
         refine z08.of (z1R (k:=4) (T:=73) (S:=28) (V:=MFr (D+1) d) w11 rfl (.tmp 192) (.tmp 194) rfl (z2t _ _) _ _ Try.underlying28 z92 rfl (by decide) (by decide) B2 qf xs L (rsFn gl fl f) [.string fnm,.int .i64 fln,.slice lB z lk,.slice A8 m8 c8] (fun b=>wq.heap.size≤b∧b<w11.heap.size) rfl (by rw [← hsz11]; rfl) HGR11.out (by omega) (by omega) rfl (by simp [Value.oneCell']) HMV.out (fun b hb=>⟨by omega,hb.2,fun e=>by have:=HOB.out b e; omega⟩) ?_)
         intro g12 cap12 w12 hgr12 hg12
         have hb12:Below B2 w11 w12:=z07 hg12 (fun k hk=>(HOB.out k hk).1) (by omega)
         have hr12:=HR11.out.belowL (hb12.mono hsW2)
         obtain ⟨hr13,hg13⟩:=hr12.set1 (.slice (some ⟨g12,0,none⟩) (xs.length+1) cap12)
         have v1:=cell_of_row _ _ 1 _ _ _ hr12.q
         have t1:=z09 hr12.q 1
         have hgr13:=hgr12.grown (z2t _ _) hg13 (by omega)
         have hs12:=hg12.size
         have hs13:=hg13.size
         rw [HXS.out,← z5q (rsFn gl fl) fl i f Hf.out] at hgr13
         have hgl13:z0m (fun b=>w.heap.size+2≤b∧b<B2) (w12.setCell ⟨w.heap.size+1,1,none⟩ (.slice (some ⟨g12,0,none⟩) (xs.length+1) cap12)) gl lA lc:=HG3.out.keepR (fun _ h=>h) (fun b hb=>(hg13.block b (by have:=hb.2; omega) (fun e=>by injection e with e; have:=hb.1; omega)).trans ((hb12.block b hb.2).trans (HB11.out.block b (Nat.lt_of_lt_of_le hb.2 hsB2))))
         have HE:Hid (∃ i':Nat,i'≤j∧Value.int .i64 ((i:Int)+1)=.int .i64 (i':Int)∧Hid (ReFn D d gl fl w gA k gc (some ⟨gf,0,none⟩) j fc (.slice lA k lc) B2 i' (w12.setCell ⟨w.heap.size+1,1,none⟩ (.slice (some ⟨g12,0,none⟩) (xs.length+1) cap12)))∧Hid (z0m (fun b=>w.heap.size+2≤b∧b<B2) (w12.setCell ⟨w.heap.size+1,1,none⟩ (.slice (some ⟨g12,0,none⟩) (xs.length+1) cap12)) gl lA lc)) :=
          zhi ⟨i+1,by omega,by go_num,zhi ⟨_,_,hr13,by omega,by rw [HXS.out]; exact hgr13⟩,zhi hgl13⟩
         rw [hxl] at HE
         clear hgr12 hg12 hb12 hr12 hr13 hg13 hgr13 hgl13 HG3 HMV HGR11 HR11 HB11 HXS
         go_wp2_with fail
         exact ⟨HE.out,by simp [intOf]; omega⟩
      ·obtain rfl:i=j:=by omega
       obtain ⟨qf,L,hR,hB2u,hgr⟩:=HRF.out
       obtain ⟨qA,qc,hqf⟩:=z0t hgr.own
       have hqn:((fl.take i).map (rsFn gl fl)).length=i:=by rw [List.length_map,List.length_take,Hm.out]; omega
       rw [hqn] at hqf
       subst hqf
       obtain ⟨r0,r1⟩:=cl2 hR.q
       have HR3:=zhi hR
       have HGR:=zhi hgr
       have HQ:=zhi hR.q
       have hszu:=hR.lo.size
       clear hR hgr HRF
       go_wp2_with (with_reducible refine z5S ?_)
       refine z08.of (z00 _ rfl _ _ _ rfl (w.heap.size+1) _ rfl (by rfl) _ _ HQ.out (by kernel_rfl) (by rfl) (by simp [Value.oneCell']) ?_)
       intro w9 hrow9 hg9
       obtain ⟨j0,j1⟩:=cl2 hrow9
       have hfs:=z8H (HGR.out.grown (z2t _ _) hg9 (by omega))
       rw [show fl.take i=fl by rw [← Hm.out]; exact List.take_length] at hfs
       have h9s:=hg9.size
       have HE:Hid (ResR D d gl fl w (.returned (.tuple #[.agg #[.slice lA k lc,.slice qA i qc],.int .i64 0,.int .i64 0])) w9):=zhi ⟨lA,lc,qA,qc,by rw [Hn.out,Hm.out],HG3.out.keepR (fun b hb=>⟨by have:=hb.1; omega,by have:=hb.2; omega⟩) (fun b hb=>hg9.block b (by have:=hb.2; omega) (fun e=>by injection e with e; have:=hb.1; omega)),⟨hfs.1,fun q f hq=>by
        obtain ⟨g',pA,pc,bA,bc,h1,h2,h3,h4,h5,h6,h7,h8⟩:=hfs.2 q f hq
        exact ⟨g',pA,pc,bA,bc,h1,⟨by have:=h2.1; omega,h2.2⟩,h3,h4,h5,h6,h7.keepR (fun b hb=>⟨by have:=hb.1; omega,hb.2⟩) (fun _ _=>rfl),RowS.keep (w:=w9) (w':=w9) (fun b hb=>⟨by have:=hb.1; omega,hb.2⟩) (fun _ _=>rfl) h8⟩⟩,HR3.out.lo.trans (z07 hg9 (fun k hk=>by injection hk with hk; omega) (by omega))⟩
       clear hrow9 hg9 r0 r1 hfs HG3 HGR HR3 HQ
       go_wp2_with fail
       exact bodyPost_ret (by simp [results,Try.results12,go_sem,j0,j1]) rfl HE.out
end Go.Proofs.Ytleicdfkagejoaa
