/-
  Mp: Ys. Part of the proof. No condition.
-/
import Derived.Test.YtleicdfkagejoaaMo
namespace Go.Proofs.Ytleicdfkagejoaa
open Go.RowKit
theorem z91 {W w':World} {q:Nat} {v0 v1 u0 u1:Value} (h0:W.cell? ⟨q,0,none⟩=some v0) (h1:W.cell? ⟨q,1,none⟩=some v1) (h2:W.cell? ⟨q+1,0,none⟩=some u0) (h3:W.cell? ⟨q+1,1,none⟩=some u1) (hb:Below W.heap.size W w') :
  w'.cell? ⟨q,0,none⟩=some v0∧w'.cell? ⟨q,1,none⟩=some v1∧w'.cell? ⟨q+1,0,none⟩=some u0∧w'.cell? ⟨q+1,1,none⟩=some u1∧Below W.heap.size W w' :=
 ⟨hold hb h0,hold hb h1,hold hb h2,hold hb h3,hb⟩
theorem z29 {W w':World} (h:Below W.heap.size W w') (o:Obj):Below W.heap.size W (w'.alloc o):=h.alloc h.size o
theorem z8m {W w':World} {b:Nat} (h:Below W.heap.size W w') (hb:W.heap.size≤b) (v0 v1 v2 v3:Value):Below W.heap.size W ((((w'.setCell ⟨b,0,none⟩ v0).setCell ⟨b,1,none⟩ v1).setCell ⟨b,2,none⟩ v2).setCell ⟨b,3,none⟩ v3) :=
 h.trans (z07 (set4r w' b v0 v1 v2 v3) (fun k e=>by injection e with e; omega) h.size)
theorem z9z {W w':World} {n c m:Nat} {A:Option Addr} {xs:List Int} (h:w'.ownsRow W.heap.size 3 1 (.slice A n c) m (xs.map (Value.int .i64))) (o:Obj):(w'.alloc o).ownsRow W.heap.size 3 1 (.slice A n c) m (xs.map (Value.int .i64)) :=
 z0G h (fun b hb=>heap_alloc_old w' o (h.lt b hb).2)
theorem z4E {ops:Array Oper} {o:Oper} {a:Act} {K:Act→World→Prop} {Q:Exit→Act→World→Prop} {E:Prop} (W w:World) (hB:Below W.heap.size W w) (hgd:o.guard=none) (s x:Operand)
  (ho:o.op=.call { callee:=.builtin .append,args:=#[s,x],argTypes:=#[23,23] }) (n c:Nat) (A:Option Addr) (xs ys:List Int) (B:Option Addr) (m d:Nat) (hs:a.eval s=.slice A n c) (hx:a.eval x=.slice B m d) (hown:w.ownsRow W.heap.size 3 1 (.slice A n c) n (xs.map (Value.int .i64))) (hy:ys.length=m) (hrd:∀ w',Below W.heap.size W w'→Rd w' B (ys.map (Value.int .i64))) (hd:B=none→d=0) (hk:n+m≤100000)
  (hK:∀ A' cap w',w'.ownsRow W.heap.size 3 1 (.slice A' (n+m) cap) (n+m) ((xs++ys).map (Value.int .i64))→Below W.heap.size W w'→w.grownBy w' (Value.slice A n c).ownBlock→K (a.put o.dst (.slice A' (n+m) cap)) w') :
  if Region.wanted o (yielded ops a.tmps)=true then Oper.wp Try.prog o a w K Q else E :=
 z7W w hgd s x ho W.heap.size n c A xs ys B m d hs hx hown hy (hrd w hB) hd hk hB.size (fun A' cap w' h1 h2=>hK A' cap w' h1 (hB.trans (z07 h2 (fun b e=>(hown.lt b e).1) hB.size)) h2)
def Z4i (W:World) (b:Nat) (w:World):Prop:=w.heap[b]?=some (.cells #[.int .i64 0,.int .i64 0,.int .i64 0,.slice none 0 0] 36 (0,0))∧W.heap.size≤b
theorem Z4i.new {W w:World} (hs:W.heap.size≤w.heap.size):Z4i W w.heap.size (w.alloc (.cells #[.int .i64 0,.int .i64 0,.int .i64 0,.slice none 0 0] 36)):=⟨heap_alloc_new w _,hs⟩
theorem Z4i.lo {W w:World} {b:Nat} (h:Z4i W b w):W.heap.size≤b:=h.2
theorem Z4i.newd {W w:World} (hs:W.heap.size≤w.heap.size):Z4i W w.heap.size (w.alloc (.cells #[.int .i64 0,.int .i64 0,.int .i64 0,.slice none 0 0] 36)).drew:=Z4i.new hs
theorem Z4i.below {W w wd:World} {b:Nat} (h:Z4i W b w) (hb:Below w.heap.size w wd):Z4i W b wd:=⟨(hb.block _ (Array.getElem?_eq_some_iff.1 h.1).1).trans h.1,h.2⟩
theorem Z4i.grown {W w wd:World} {b n c:Nat} {A:Option Addr} {xs:List Int} (h:Z4i W b w) (ho:w.ownsRow W.heap.size 3 1 (.slice A n c) n (xs.map (Value.int .i64))) (hg:w.grownBy wd (Value.slice A n c).ownBlock):Z4i W b wd :=
 ⟨(hg.block _ (Array.getElem?_eq_some_iff.1 h.1).1 (fun e=>by
  rcases ho.2 with ⟨e2,_⟩ | ⟨g,cap,cur,e2,_,hh,_⟩
  ·rw [e2] at e
   cases e
  ·rw [e2] at e
   injection e with e
   subst e
   have:=h.1.symm.trans hh
   injection this with this
   injection this with _ this _
   exact absurd this (by decide))).trans h.1,h.2⟩
theorem Z4i.grown0 {W w wd:World} {b:Nat} (h:Z4i W b w) (hg:w.grownBy wd (Value.slice none 0 0).ownBlock):Z4i W b wd :=
 ⟨(hg.block _ (Array.getElem?_eq_some_iff.1 h.1).1 (fun e=>by cases e)).trans h.1,h.2⟩
def ThI (W:World) (y:Rz) (v u:Value) (wc:World):Prop:=∃ (b:Nat) (A:Option Addr) (n c:Nat),v=.pointer (some ⟨b,0,none⟩)∧u=.int .i64 y.2.st∧wc.heap[b]?=some (.cells #[.int .i64 y.1.2.1,.int .i64 y.1.1,.int .i64 y.1.2.2,.slice A n c] 36 (0,0))∧OcZ y A n c wc∧Below W.heap.size W wc
theorem zdU {W w:World} {y:Rz} {A:Option Addr} {n c:Nat} (hb:Below W.heap.size W w) (ho:OcZ y A n c w):ThI W y (.pointer (some ⟨w.heap.size,0,none⟩)) (.int .i64 y.2.st) (w.alloc (.cells #[.int .i64 y.1.2.1,.int .i64 y.1.1,.int .i64 y.1.2.2,.slice A n c] 36)) :=
 ⟨_,A,n,c,rfl,rfl,heap_alloc_new w _,ho.below ((Below.refl _ w).alloc (Nat.le_refl _) _),z29 hb _⟩
theorem zdV {W w0 w:World} {y:Rz} {A:Option Addr} {n c b:Nat} (hb:Below W.heap.size W w) (hz:Z4i W b w) (hbw:b<w0.heap.size) (hn:n=y.2.out.length) (hl:n≤4096) (hr:RowG 1 ZInt (fun b=>w0.heap.size≤b∧b<w.heap.size) w y.2.out A c):ThI W y (.pointer (some ⟨b,0,none⟩)) (.int .i64 y.2.st) ((((w.setCell ⟨b,0,none⟩ (.int .i64 y.1.2.1)).setCell ⟨b,1,none⟩ (.int .i64 y.1.1)).setCell ⟨b,2,none⟩ (.int .i64 y.1.2.2)).setCell ⟨b,3,none⟩ (.slice A n c)) :=
 ⟨b,A,n,c,rfl,rfl,z9M _ _ _ _ hz.1,⟨hn,hl,z0k z0l (fun _ hb'=>Nat.lt_of_lt_of_le hb'.2 (set4r w b _ _ _ _).size) (fun x hx=>(set4r w b _ _ _ _).block x hx.2 (fun e=>by injection e with e; have:=hx.1; omega)) hr⟩,z8m hb hz.2 _ _ _ _⟩
set_option maxRecDepth 100000 in
set_option maxHeartbeats 4000000 in
theorem z7H (A0:Option Addr) (codes:List Nat) (m c0:Nat) (A1:Option Addr) (more:List Int) (k c1:Nat) (w:World) (hm:codes.length=m) (hmc:m≤c0) (hr:Rd w A0 (codes.map bv)) (hcs:∀ x∈codes,x<256) (hk:k≤50) (hmk:more.length=k) (hmr:Rd w A1 (more.map (Value.int .i64))) (hA1:A1=none→c1=0) (hml:∀ ad,A1=some ad→more≠[]→ad.block<w.heap.size) :
  Calls Try.prog 3 #[.slice A0 m c0,.slice A1 k c1] w fun e w'=>e=.returned (.bool true)∧Below w.heap.size w w':=by
 have ha:=zhi (z8f w)
 have Hm:=zhi hm
 have Hr:=zhi hr
 have Hcs:=zhi hcs
 have Hmk:=zhi hmk
 have Hmr:=zhi hmr
 have HA1:=zhi hA1
 have Hml:=zhi hml
 clear hm hr hcs hmk hmr hA1 hml
 go_enter Try.func3,Try.ntmps3
 go_wp2_with fail
 refine ha.out.mono ?_
 rintro e w1 ⟨rfl,hb1⟩
 have hn:=zhi (zcH A0 codes m c0 400 w1 Hm.out hmc (Hr.out.below hb1) (by decide))
 have Hb1:=zhi hb1
 clear ha hb1 Hr Hm
 have i1:(50<(k:Int))=False:=by simp; omega
 go_wp2_with fail
 refine hn.out.mono ?_
 rintro e w2 ⟨g,cs,rfl,hg,hlen,rfl,hc2,hb2⟩
 have Hcl:Hid (∀ x∈codes.take 400,x<256):=zhi (fun x hx=>Hcs.out x (List.mem_of_mem_take hx))
 generalize codes.take 400=cs at *
 have hgw:w.heap.size≤g:=Nat.le_trans Hb1.out.size hg
 have hg2:g<w2.heap.size:=z2a hc2
 have hx:=zhi (z5O g cs w2 ⟨0,hc2⟩ (by omega) Hcl.out)
 have Hb2:=zhi (z0b Hb1.out hb2)
 have Hlen:=zhi hlen
 clear hn hb2 hc2 Hcs Hb1 hlen
 go_wp2_with fail
 refine hx.out.mono ?_
 rintro e w3 ⟨gl,fl,gA,gc,fA,fc,rfl,hG,hF,hok,hgg,hgf,hco,hgr⟩
 have hs3:=hgr.size
 have HI:=zhi (z96 g cs w3 hco (by have:=Hlen.out; omega) Hcl.out)
 have HP:=zhi (And.intro hok (And.intro hgg hgf))
 have HG3:=zhi hG
 have HF3:=zhi hF
 have Hb3:=zhi (Hb2.out.trans (z07 hgr (fun b e=>by injection e with e; omega) Hb2.out.size))
 obtain ⟨gn,hgn⟩:∃ n,n=gl.length:=⟨_,rfl⟩
 obtain ⟨fn,hfn⟩:∃ n,n=fl.length:=⟨_,rfl⟩
 rw [← hgn,← hfn]
 have Hgn:=zhi hgn
 have Hfn:=zhi hfn
 clear hx hok hgg hgf hG hF hco hgr hgn hfn Hb2
 go_wp2_with fail
 refine HI.out.mono ?_
 rintro e w4 ⟨inp,iA,im,ic,L,rfl,him,hi5,_,hgri,_,hgr⟩
 have hs4:=hgr.size
 have hb5:=(Below.refl _ w4).alloc (Nat.le_refl _) (.cells #[.slice gA gn gc,.slice fA fn fc] 30)
 have hmd4:MdZ gl fl gA gc fA fc inp iA ic w4.heap.size w4:=by
  have hrow:=(hgri.row z0l)
  refine ⟨HP.out.1,HP.out.2.1,HP.out.2.2,z39 HG3.out (fun b hb=>⟨by omega,hgr.block b hb.2 (fun e=>by injection e with e; omega)⟩),z38 HF3.out (fun b hb=>⟨by omega,hgr.block b hb.2 (fun e=>by injection e with e; omega)⟩),z1O hrow.2,fun ad e=>?_,⟨hrow.2.1,by omega⟩,Nat.le_refl _⟩
  exact (hgri.own.lt ad.block (by rw [e]; rfl)).2
 have Him:=zhi him
 have hid0:iA=none→ic=0:=fun e=>by
  rcases hgri.own.2 with ⟨e2,_⟩ | ⟨_,_,_,e2,_⟩
  ·injection e2
  ·injection e2 with e3
   rw [e] at e3
   cases e3
 have hb6:=hb5.alloc hb5.size (.cells #[.int .i64 600,.int .i64 8] 34)
 have HM6:=zhi (hmd4.below hb6)
 have Q6:=zhi (z0Z w4 (.cells #[.slice gA gn gc,.slice fA fn fc] 30) (.cells #[.int .i64 600,.int .i64 8] 34))
 have L6:=zhi (z0Y w4 (.cells #[.slice gA gn gc,.slice fA fn fc] 30) (.cells #[.int .i64 600,.int .i64 8] 34))
 have Hb6:=zhi ((Hb3.out.trans (z07 hgr (fun b e=>by injection e with e; omega) Hb3.out.size)).trans (hb6.mono (by have:=Hb3.out.size; omega)))
 have Hid0:=zhi hid0
 have hi5':im≤5:=by omega
 have hs6:=hb6.size
 clear HI HG3 HF3 HP hgri hgr him hb5 hmd4 Hb3 hi5 hb6 hid0
 go_upto_region 6 with fail
 obtain ⟨W6,hW6⟩:∃ W6,W6=(w4.alloc (.cells #[.slice gA gn gc,.slice fA fn fc] 30)).alloc (.cells #[.int .i64 600,.int .i64 8] 34):=⟨_,rfl⟩
 rw [← hW6] at HM6 Q6 L6 Hb6 hs6 ⊢
 have hw6:w4.heap.size+2=W6.heap.size:=by rw [hW6]; simp
 clear hW6
 have HR:Hid (∀ W,Below W6.heap.size W6 W→Calls Try.prog 8 #[.agg #[.slice gA gn gc,.slice fA fn fc],.slice iA im ic,.agg #[.int .i64 600,.int .i64 8]] W (OutZ (zSrc 600 8 gl fl inp) W)):=zhi (fun W hW=>z9R 600 8 gn fn im W (HM6.out.below hW) Hgn.out Hfn.out Him.out (by decide) (by decide))
 obtain ⟨A7,c7,w7,hr7,ho7,hg7⟩:=zdo (w:=W6) 23 W6.heap.size 0 0 none [] inp iA im ic (World.ownsRow_nil _ _ _ _) Him.out.symm HM6.out.i Hid0.out (by omega) (Nat.le_refl _)
 rw [Nat.zero_add] at hr7 ho7
 rw [List.nil_append] at ho7
 have hb7:Below W6.heap.size W6 w7:=z07 hg7 (fun b e=>by cases e) (Nat.le_refl _)
 obtain ⟨g8,c8,w8,hr8,ho8,hg8⟩:=zdp (w:=w7) 23 W6.heap.size im c7 A7 inp 700 ho7 (by decide) (by omega) hb7.size
 have hb8:Below W6.heap.size W6 w8:=hb7.trans (z07 hg8 (fun b e=>(ho7.lt b e).1) hb7.size)
 obtain ⟨zs,hzs⟩:∃ zs,zs=inp++List.replicate 700 0:=⟨_,rfl⟩
 rw [← hzs] at ho8
 obtain ⟨hzl,hzc,hzr,hzb,_⟩:=zbX ho8
 obtain ⟨zn,hzn⟩:∃ zn,zn=im+700:=⟨_,rfl⟩
 rw [← hzn] at hr8 hzl hzc
 have hzn1:zn≤1000:=by omega
 have Hzn:=zhi hzn
 have Hzs:=zhi hzs
 clear hzn hzs
 have HM8:=zhi ((HM6.out.below hb8).other hzr (fun ad e=>(hzb ad e).2) (by rw [hzl]; exact ⟨hzc,by omega⟩) (jc:=c8))
 have HR2:Hid (∀ W,Below w8.heap.size w8 W→Calls Try.prog 8 #[.agg #[.slice gA gn gc,.slice fA fn fc],.slice (some ⟨g8,0,none⟩) zn c8,.agg #[.int .i64 600,.int .i64 8]] W (OutZ (zSrc 600 8 gl fl zs) W)):=zhi (fun W hW=>z9R 600 8 gn fn zn W (HM8.out.below hW) Hgn.out Hfn.out hzl.symm (by decide) (by decide))
 have Hzl:=zhi hzl
 have Hb8:=zhi hb8
 clear hzl ho7 hg7 hb7 ho8 hg8 hb8 hzr hzb hzc
 go_wp2_with (at_builtin; refine z08.out ?_)
 refine z08.of (Lib.wpList_append_run W6 rfl (.const (.slice none 0 0)) (.tmp 33) _ _ rfl _ _ rfl rfl _ _ hr7 ?_)
 go_wp2_with (at_builtin; refine z08.out ?_)
 refine z08.of (Lib.wpList_append_run w7 rfl (.tmp 34) (.const (.int .i64 700)) _ _ rfl _ _ rfl rfl _ _ hr8 ?_)
 skip
 have q8:=(Hb8.out.block _ (by omega)).trans Q6.out
 have l8:=(Hb8.out.block _ (by omega)).trans L6.out
 have q0:w8.cell? ⟨w4.heap.size,0,none⟩=some (.slice gA gn gc):=cell_of_row _ _ 0 _ _ _ q8
 have q1:w8.cell? ⟨w4.heap.size,1,none⟩=some (.slice fA fn fc):=cell_of_row _ _ 1 _ _ _ q8
 have l0:w8.cell? ⟨w4.heap.size+1,0,none⟩=some (.int .i64 600):=cell_of_row _ _ 0 _ _ _ l8
 have l1:w8.cell? ⟨w4.heap.size+1,1,none⟩=some (.int .i64 8):=cell_of_row _ _ 1 _ _ _ l8
 clear hr7 hr8 q8 l8
 go_wp2_with fail
 refine (HR.out w8 Hb8.out).mono ?_
 obtain ⟨Z1,hZ1⟩:∃ Z,Z=zSrc 600 8 gl fl inp:=⟨_,rfl⟩
 rw [← hZ1]
 have HZ1:=zhi hZ1
 clear hZ1
 obtain ⟨⟨v1,k1,t1⟩,⟨n1,ip1,o1,g1,l1'⟩⟩:=Z1
 rintro e w9 ⟨oA,on,oc,rfl,hon,hol,horow,hb9⟩
 dsimp only at hon hol horow ⊢
 have hb10:=(Below.refl _ w9).alloc (Nat.le_refl _) (.cells #[.int .i64 k1,.int .i64 v1,.int .i64 t1,.slice oA on oc] 36)
 have hx10:=heap_alloc_new w9 (.cells #[.int .i64 k1,.int .i64 v1,.int .i64 t1,.slice oA on oc] 36)
 have hb810:=z0b hb9 hb10
 have ho10:OcZ ((v1,k1,t1),⟨n1,ip1,o1,g1,l1'⟩) oA on oc w9:=⟨hon,by rw [hon]; exact hol,z0k z0l (fun _ hb=>hb.2) (fun _ _=>rfl) horow⟩
 have HO10:=zhi (ho10.below hb10)
 have HX10:=zhi hx10
 have HB10:=zhi hb810
 have q0':=hold hb810 q0
 have q1':=hold hb810 q1
 have l0':=hold hb810 l0
 have l1'':=hold hb810 l1
 clear hb9 hb10 hx10 hb810 ho10 horow hon hol q0 q1 l0 l1 HR
 go_wp2_with fail
 obtain ⟨W10,hW10⟩:∃ W10,W10=w9.alloc (.cells #[.int .i64 k1,.int .i64 v1,.int .i64 t1,.slice oA on oc] 36):=⟨_,rfl⟩
 rw [← hW10] at HO10 HX10 HB10 q0' q1' l0' l1'' ⊢
 have hlt10:=(Array.getElem?_eq_some_iff.1 HX10.out).1
 clear hW10
 refine (HR2.out W10 HB10.out).mono ?_
 obtain ⟨Z2,hZ2⟩:∃ Z,Z=zSrc 600 8 gl fl zs:=⟨_,rfl⟩
 rw [← hZ2]
 have HZ2:=zhi hZ2
 clear hZ2
 obtain ⟨⟨v2,k2,t2⟩,⟨n2,ip2,o2,g2,l2'⟩⟩:=Z2
 rintro e w11 ⟨pA,pn,pc,rfl,hpn,hpl,hprow,hb11⟩
 dsimp only at hpn hpl hprow ⊢
 have hb12:=(Below.refl _ w11).alloc (Nat.le_refl _) (.cells #[.int .i64 k2,.int .i64 v2,.int .i64 t2,.slice pA pn pc] 36)
 have hx12:=heap_alloc_new w11 (.cells #[.int .i64 k2,.int .i64 v2,.int .i64 t2,.slice pA pn pc] 36)
 have hb1012:=z0b hb11 hb12
 have ho12:OcZ ((v2,k2,t2),⟨n2,ip2,o2,g2,l2'⟩) pA pn pc w11:=⟨hpn,by rw [hpn]; exact hpl,z0k z0l (fun _ hb=>hb.2) (fun _ _=>rfl) hprow⟩
 have HP12:=zhi (ho12.below hb12)
 have HO12:=zhi (HO10.out.below hb1012)
 have HXa:=zhi ((hb1012.block _ hlt10).trans HX10.out)
 have HXb:=zhi hx12
 have HB12:=zhi (z0b HB10.out hb1012)
 have q0:=hold hb1012 q0'
 have q1:=hold hb1012 q1'
 have l0:=hold hb1012 l0'
 have l1:=hold hb1012 l1''
 clear hb11 hb12 hx12 hb1012 ho12 hprow hpn hpl q0' q1' l0' l1'' HR2 HO10 HX10 HB10
 go_upto_region 9 with fail
 obtain ⟨W12,hW12⟩:∃ W12,W12=w11.alloc (.cells #[.int .i64 k2,.int .i64 v2,.int .i64 t2,.slice pA pn pc] 36):=⟨_,rfl⟩
 rw [← hW12] at HP12 HO12 HXa HXb HB12 q0 q1 l0 l1 ⊢
 clear hW12
 have hI:=zcA (d:=8) (gl:=gl) (fl:=fl) inp more
 rw [← Hzs.out,← HZ1.out,← HZ2.out] at hI
 obtain ⟨y3,hy3⟩:∃ y,y=zSrc 600 8 gl fl (zs++more):=⟨_,rfl⟩
 rw [← hy3] at hI
 have HI:=zhi hI
 have hM12:=HM8.out.below HB12.out
 have hRz:∀ w',Below W12.heap.size W12 w'→Rd w' (some ⟨g8,0,none⟩) (zs.map (Value.int .i64)):=fun w' hb=>hM12.i.below hb
 have hRm:∀ w',Below W12.heap.size W12 w'→Rd w' A1 (more.map (Value.int .i64)):=fun w' hb=>(Hmr.out.below (z0b (z0b Hb6.out Hb8.out) HB12.out)).below hb
 have hR3:∀ (W:World) (A:Option Addr) (c:Nat),Below W12.heap.size W12 W→W.ownsRow W12.heap.size 3 1 (.slice A (zn+k) c) (zn+k) ((zs++more).map (Value.int .i64))→Calls Try.prog 8 #[.agg #[.slice gA gn gc,.slice fA fn fc],.slice A (zn+k) c,.agg #[.int .i64 600,.int .i64 8]] W (OutZ y3 W):=fun W A c hW ho=>by
  obtain ⟨e1,e2,e3,e4,_⟩:=zbX ho
  have:=z9R 600 8 gn fn (zn+k) W ((hM12.below hW).other (jc:=c) e3 (fun ad e=>(e4 ad e).2) ⟨by omega,by omega⟩) Hgn.out Hfn.out e1.symm (by decide) (by decide)
  rw [← hy3] at this
  exact this
 have HRZ:=zhi hRz
 have HRM:=zhi hRm
 have HR3:=zhi hR3
 clear hI hM12 hRz hRm hR3 hy3
 have HC:=zhi (And.intro q0 (And.intro q1 (And.intro l0 l1)))
 go_cut [14,15] from 51 (fun v u wc=>ThI W12 y3 v u wc)
 case first =>
  rename_i hJ hK
  have hBr:Below W12.heap.size W12 W12:=Below.refl _ _
  have hB0:Below W12.heap.size W12 W12.drew:=z0y (Below.refl _ _)
  have hS0:=z91 HC.out.1 HC.out.2.1 HC.out.2.2.1 HC.out.2.2.2 hB0
  go_region_held3 (fun w'=>w'.cell? ⟨w4.heap.size,0,none⟩=some (.slice gA gn gc)∧w'.cell? ⟨w4.heap.size,1,none⟩=some (.slice fA fn fc)∧w'.cell? ⟨w4.heap.size+1,0,none⟩=some (.int .i64 600)∧w'.cell? ⟨w4.heap.size+1,1,none⟩=some (.int .i64 8)∧Below W12.heap.size W12 w')
   (first | (with_reducible exact hS0) | ((with_reducible refine z91 HC.out.1 HC.out.2.1 HC.out.2.2.1 HC.out.2.2.2 ?_); (repeat (first | (with_reducible assumption) | (with_reducible refine z29 ?_ _) | (with_reducible refine z0y ?_))); done) | ((with_reducible refine z91 HC.out.1 HC.out.2.1 HC.out.2.2.1 HC.out.2.2.2 (z8m ?_ (Z4i.lo hz) _ _ _ _)); (repeat (first | (with_reducible assumption) | (with_reducible refine z29 ?_ _))); done))
   (first
    | ((with_reducible refine z4E W12 _ (by repeat (first | (with_reducible assumption) | (with_reducible refine z29 ?_ _) | (with_reducible refine z0y ?_))) rfl (.const (.slice none 0 0)) (.tmp 52) rfl 0 0 none [] zs (some ⟨g8,0,none⟩) zn c8 (by simp [Act.eval]) (by simp [Act.eval]) (World.ownsRow_nil _ _ _ _) Hzl.out HRZ.out (fun e=>by cases e) (by omega) ?_); intro A5 c5 w5 ho5 hb5 hg5; rw [Nat.zero_add,List.nil_append] at ho5; (first | (have hz:=Z4i.grown0 (Z4i.newd (W:=W12) (w:=W12) (Nat.le_refl _)) hg5) | (have hz:=Z4i.grown0 (Z4i.new (W:=W12) (w:=W12.drew) (Nat.le_refl _)) hg5) | skip))
    | (go_at_call 8; (with_reducible refine (HR3.out _ A6 c6 ?_ ?_).mono ?_); (repeat (first | (with_reducible assumption) | (with_reducible exact z9z ho6 _) | (with_reducible refine z29 ?_ _))); rintro e w7 ⟨oA,on,oc,rfl,hon,hol,horow,hb7⟩; (first | (have hb7s:=z0b hb6 hb7) | (have hb7s:=z0b (z29 hb6 _) hb7)); (first | (have hzl:=(Array.getElem?_eq_some_iff.1 hz.1).1; have hz:=Z4i.below hz hb7) | (have hzl:=(Array.getElem?_eq_some_iff.1 (Z4i.new (W:=W12) hb6.size).1).1; have hz:=Z4i.below (Z4i.new (W:=W12) hb6.size) hb7) | skip); (try (have kk0:=cell_of_row _ _ 0 _ _ _ hz.1; have kk1:=cell_of_row _ _ 1 _ _ _ hz.1; have kk2:=cell_of_row _ _ 2 _ _ _ hz.1; have kk3:=cell_of_row _ _ 3 _ _ _ hz.1; have kf0:=z09 hz.1 0; have kf1:=z09 hz.1 1; have kf2:=z09 hz.1 2; have kf3:=z09 hz.1 3)))
    | ((with_reducible refine z4E W12 _ (by repeat (first | (with_reducible assumption) | (with_reducible refine z29 ?_ _) | (with_reducible refine z0y ?_))) rfl (.tmp 53) (.tmp 54) rfl zn c5 A5 zs more A1 k c1 (by simp [Act.eval]) (by simp [Act.eval]) (by first | (with_reducible exact ho5) | (with_reducible exact z9z ho5 _)) Hmk.out HRM.out HA1.out (by omega) ?_); intro A6 c6 w6 ho6 hb6 hg6; (first | (have hz:=Z4i.grown hz ho5 hg6) | (have hz:=Z4i.grown (Z4i.new (W:=W12) hb5.size) (z9z ho5 _) hg6) | skip)))
  all_goals
   dsimp only [Exit.then]
   refine hK _ _ (Met.intro (hJ _ _ ?_))
   (repeat apply Exists.intro)
   refine ⟨?rel,rfl⟩
   case rel=>first | (with_reducible exact zdU hb7s ⟨rfl,hol,z0k z0l (fun _ hb=>hb.2) (fun _ _=>rfl) horow⟩) | (with_reducible exact zdV hb7s hz hzl rfl hol horow)
 case rest =>
  obtain ⟨db,dA,dn,dc,rfl,rfl,hrow,hod,hbc⟩:=hcut
  obtain ⟨⟨h1,h2,h3⟩,h4,h5,h6⟩:=HI.out
  obtain ⟨⟨v3,k3,t3⟩,⟨n3,ip3,o3,g3,l3⟩⟩:=y3
  dsimp only at h1 h2 h3 h4 h5 h6 hrow hod ⊢
  injection h1 with e1 e2
  injection e2 with e2 e3
  injection h4 with f1 f2
  injection f2 with f2 f3
  subst e1 e2 e3 f1 f2 f3 h2 h3 h5 h6
  obtain ⟨r0,r1,r2,r3⟩:=cl4 hrow
  have hxa:=(hbc.block _ (Array.getElem?_eq_some_iff.1 HXa.out).1).trans HXa.out
  have hxb:=(hbc.block _ (Array.getElem?_eq_some_iff.1 HXb.out).1).trans HXb.out
  obtain ⟨a0,a1,a2,a3⟩:=cl4 hxa
  obtain ⟨b0,b1,b2,b3⟩:=cl4 hxb
  have hoa:=HO12.out.below hbc
  have hob:=HP12.out.below hbc
  have HOA:=zhi hoa
  have HOB:=zhi hob
  have HOD:=zhi hod
  have HBC:=zhi (z0b (z0b (z0b Hb6.out Hb8.out) HB12.out) hbc)
  have HS1:=zhi (zbZ k1 v1 t1 k1 v1 t1 wc hoa.ln.symm hob.ln.symm (z1O hoa.row) (z1O hob.row) (by have:=hoa.le; omega) (by have:=hob.le; omega) z4D.symm (b:=true) (c:=oc) (d:=pc))
  clear hoa hob hod hrow hxa hxb hbc HI HO12 HP12 HXa HXb HC HR3 HRZ HRM HB12 q0 q1 l0 l1
  go_wp2_with fail
  refine HS1.out.mono ?_
  rintro e w13 ⟨rfl,hb13⟩
  have hoa:=HOA.out.below hb13
  have hob:=HOB.out.below hb13
  have hod:=HOD.out.below hb13
  have HS2:=zhi (zbZ k1 v1 t1 k1 v1 t1 w13 hob.ln.symm hod.ln.symm (z1O hob.row) (z1O hod.row) (by have:=hob.le; omega) (by have:=hod.le; omega) z4D.symm (b:=true) (c:=pc) (d:=dc))
  have HOA3:=zhi hoa
  have HOD3:=zhi hod
  have HB13:=zhi (z0b HBC.out hb13)
  have a3:=hold hb13 a3
  have b0:=hold hb13 b0
  have b1:=hold hb13 b1
  have b2:=hold hb13 b2
  have b3:=hold hb13 b3
  have r0:=hold hb13 r0
  have r1:=hold hb13 r1
  have r2:=hold hb13 r2
  have r3:=hold hb13 r3
  clear hoa hob hod hb13 HBC HOA HOB HOD HS1
  go_wp2_with fail
  refine HS2.out.mono ?_
  rintro e w14 ⟨rfl,hb14⟩
  have hoa:=HOA3.out.below hb14
  have hod:=HOD3.out.below hb14
  have HN:=zhi (zdy o1 o1 oA dA on dn oc dc w14 hoa.ln.symm hod.ln.symm (z1O hoa.row) (z1O hod.row) (by have:=hoa.le; omega) (by have:=hod.le; omega) (b:=true) (by simp))
  have HB14:=zhi (z0b HB13.out hb14)
  have a3:=hold hb14 a3
  have r3:=hold hb14 r3
  clear hoa hod hb14 HB13 HOA3 HOD3 HS2 b0 b1 b2 b3 r0 r1 r2
  go_wp2_with fail
  refine HN.out.mono ?_
  rintro e w15 ⟨rfl,q,rfl⟩
  have HB15:=zhi (z8j HB14.out q)
  clear HN HB14 a3 r3
  go_wp2_with fail
  go_ret
  exact ⟨rfl,HB15.out⟩
theorem input_any7 (A0:Option Addr) (codes:List Nat) (m c0:Nat) (A1:Option Addr) (more:List Int) (k c1:Nat) (w:World) (hm:codes.length=m) (hmc:m≤c0) (hr:Rd w A0 (codes.map bv)) (hcs:∀ x∈codes,x<256) (hmk:more.length=k) (hmr:Rd w A1 (more.map (Value.int .i64))) (hA1:A1=none→c1=0) (hml:∀ ad,A1=some ad→more≠[]→ad.block<w.heap.size) :
  Calls Try.prog 3 #[.slice A0 m c0,.slice A1 k c1] w fun e w'=>e=.returned (.bool true)∧Below w.heap.size w w':=by
 rcases Nat.lt_or_ge 50 k with h | h
 ·exact z97 A0 m c0 A1 k c1 w h
 ·exact z7H A0 codes m c0 A1 more k c1 w hm hmc hr hcs h hmk hmr hA1 hml
end Go.Proofs.Ytleicdfkagejoaa
