/-
  Mf: Zx, Zo, Zq, Zt. Walks and laws that the statement's proof is made of. No condition of its own.
-/
import Derived.Test.YtleicdfkagejoaaMc
namespace Go.Proofs.Ytleicdfkagejoaa
open Go.RowKit
theorem z49 (W:World) (n:Nat) (hn:n≤1000000):(Instr.makeSlice 23 (.int .i64 (n:Int)) (.int .i64 (n:Int))).run Try.prog W=.ok (.slice (some ⟨W.heap.size,0,none⟩) n n) (W.alloc (.cells (Array.replicate n (Value.int .i64 0)) 3)):=by
 obtain ⟨i,hi,hz,hs,hb⟩:=info_parts z2G
 have h:=run_make (P:=Try.prog) W 23 3 i (.int .i64 0) Try.underlying23 hi hz .i64 .i64 (n:Int) (n:Int) (by omega) (by omega) (by rw [hb]; omega) (by omega)
 rw [hs] at h
 rw [h]
 have e:madeCells (Value.int .i64 0).cells ((n:Int).toNat * 1)=Array.replicate n (Value.int .i64 0):=by
  apply Array.toList_inj.1
  have:=toList_madeCells_one (.int .i64 0) n
  rw [Int.toNat_natCast,Nat.mul_one,Array.toList_replicate]
  exact this
 rw [e]
 simp
theorem IntB.rd {w:World} {b:Nat} {l:List Int} (h:IntB w b l):Rd w (some ⟨b,0,none⟩) (l.map (Value.int .i64)):=Rd.of_cells fun j u hu=>by
 rw [Addr.add_lit,Nat.zero_add]
 rw [List.getElem?_map,Option.map_eq_some_iff] at hu
 obtain ⟨x,hx,rfl⟩:=hu
 exact h.at_ hx
theorem IntB.grown {w w':World} {b g:Nat} {l:List Int} (h:IntB w b l) (hg:w.grownBy w' (some g)) (hne:b≠g):IntB w' b l:=(hg.block b h.lt (fun e=>hne (by injection e))).trans h
theorem IntB.below {w w':World} {b:Nat} {l:List Int} (h:IntB w b l) (hb:Below w.heap.size w w'):IntB w' b l:=(hb.block b h.lt).trans h
theorem zbE {ls:Int} {pn:List Nat} {C:Cz}:∀ (xs:List Ex) (s:Sx),zL ls pn C xs s=zpre [] (zL ls pn C xs s)
 | [],s=>rfl
 | x :: xs,s=>by
  have e:zL ls pn C (x :: xs) s=zcons (zX ls pn C x s) (zL ls pn C xs):=rfl
  rw [e]
  unfold zcons zpre
  split
  ·split
   ·rfl
   ·simp
  ·simp
section
variable {p:Nat} {K:RK} {D d:Nat} {fs:List Fz} {nd:Nat} {C:Cz}
theorem z1P {F:Nat→Prop} {w:World} {xs:List Ex} {A:Option Addr} {c:Nat} (h:RowE F w 0 xs A c):xs=[]:=by
 cases xs with
 | nil=>rfl
 | cons x xs =>
  obtain ⟨_,_,_,_,_,_,_,_,_,_,_,_,_,_,_,_,hv⟩:=h.2 0 x rfl
  exact hv.elim
set_option maxRecDepth 10000 in
set_option maxHeartbeats 4000000 in
theorem zdB {dx:Nat} (hE:∀ d',dx=d'+1→z86 p K D d fs nd C d'):zca p K D d fs nd C dx:=by
 intro lb nl dp s xs A n c w h hd hP he hn hn2 hw
 have hF:=zhi (FwZ.new h)
 have hb1:=(Below.refl _ w).alloc (Nat.le_refl _) (.cells #[.int .i64 0,.int .i64 0] 59)
 have hnc:n≤c:=by rw [← hn]; exact he.1
 have HE:=zhi hE
 have HD:=zhi hd
 have HP:=zhi hP
 have HR:=zhi (fun (w':World) (hb:Below p w w')=>he.keep (G:=fun b=>b<p) (fun _ h=>h) (fun b hb'=>hb.block b hb'))
 have HW:=zhi hw
 have Hn:=zhi hn
 obtain ⟨W,hW⟩:∃ W,W=w.alloc (.cells #[.int .i64 0,.int .i64 0] 59):=⟨_,rfl⟩
 rw [← hW] at hF
 have hmk:=z49 W n (by omega)
 have HF2:=zhi (hF.out.alloc (.cells (Array.replicate n (Value.int .i64 0)) 3))
 have HV2:Hid (IntB (W.alloc (.cells (Array.replicate n (Value.int .i64 0)) 3)) W.heap.size (List.replicate n 0)):=zhi (by have:=heap_alloc_new W (.cells (Array.replicate n (Value.int .i64 0)) 3); unfold IntB; rw [this]; simp)
 have HFr2:Hid (z2o p K lb (W.alloc (.cells (Array.replicate n (Value.int .i64 0)) 3)) W.heap.size):=zhi (z19 (hF.out.rs.free (Nat.le_refl _)) ((Below.refl _ W).alloc (Nat.le_refl _) _) hF.out.wp)
 have hBV:w.heap.size<W.heap.size:=hF.out.lt
 obtain ⟨Y,hY⟩:∃ Y,Y=zL K.ls (pnZ fs) C xs s:=⟨_,rfl⟩
 rw [← hY]
 have HY:=zhi hY
 clear hE hd hP he hn hw h hb1 hF hY
 go_enter Try.func86,Try.ntmps86
 go_upto_region 1 with fail
 rw [← hW]
 clear hW
 go_upto_region 2 with fail
 obtain ⟨W2,hW2⟩:∃ W2,W2=W.alloc (.cells (Array.replicate n (Value.int .i64 0)) 3):=⟨_,rfl⟩
 rw [← hW2] at HF2 HV2 HFr2 ⊢
 clear hW2 hmk
 go_wp2_with fail
 obtain ⟨V,hV⟩:∃ V,V=W.heap.size:=⟨_,rfl⟩
 rw [← hV] at HV2 HFr2 hBV ⊢
 clear hV
 go_loopw [15] (fun v wr=>∃ (pre rest:List Ex) (vs:List Int) (s':Sx) (j:Nat),v=.int .i64 (j:Int)∧Hid (xs=pre++rest∧j=pre.length∧vs.length=pre.length)∧Hid (Y=zpre vs (zL K.ls (pnZ fs) C rest s'))∧Hid (FwZ p K lb nl dp w w.heap.size s' wr)∧Hid (IntB wr V (vs++List.replicate rest.length 0))∧Hid (z2o p K lb wr V)) (fun v _=>n - (intOf v).toNat)
 case atStart =>
  refine ⟨[],xs,[],s,0,rfl,zhi ⟨rfl,rfl,rfl⟩,zhi ?_,HF2,zhi (by rw [Hn.out]; exact HV2.out),HFr2⟩
  rw [HY.out]
  exact zbE _ _
 case round =>
  obtain ⟨pre,rest,vs,s',j,rfl,HXS,HYr,HFr,HVr,HFv⟩:=hrel
  cases rest with
  | nil =>
   have hjn:n≤j:=by rw [← Hn.out,HXS.out.1,HXS.out.2.1]; simp
   have hjl:vs.length=n:=by rw [HXS.out.2.2,← Hn.out,HXS.out.1]; simp
   have HY2:Hid (Y=(vs,(0,0),s')):=zhi (by
    rw [HYr.out]
    unfold zL zpre
    simp)
   have HV3:Hid (IntB wr V vs):=zhi (by have:=HVr.out; simpa using this)
   have Hjl:=zhi hjl
   clear HYr HVr HE HP HR HW hjl
   go_wp2_with (with_reducible refine z0f ?_)
   refine z08.of (z00 _ rfl _ _ _ rfl w.heap.size _ rfl (by rfl) _ _ HFr.out.z (by kernel_rfl) (by rfl) (by simp [Value.oneCell']) ?_)
   intro w9 hrow9 hg9
   obtain ⟨j0,j1⟩:=cl2 hrow9
   have hfin:=HFr.out.fin hg9
   have hrd:=(HV3.out.grown hg9 (by omega)).rd
   have HH:Hid (LG p K lb nl dp Y w (.returned (.tuple #[.slice (some ⟨V,0,none⟩) n n,.agg #[.int .i64 0,.int .i64 0]])) w9):=zhi (by
    rw [HY2.out]
    exact ⟨_,n,n,rfl,Hjl.out.symm,Nat.le_refl _,hrd,hfin⟩)
   clear hrow9 hg9 hfin hrd
   go_wp2_with fail
   exact bodyPost_ret (by simp [results,Try.results86,go_sem,j0,j1]) rfl HH.out
  | cons x rest =>
   have hlt:j<n:=by rw [← Hn.out,HXS.out.1,HXS.out.2.1]; simp
   have hxj:xs[j]?=some x:=by rw [HXS.out.1,HXS.out.2.1]; simp
   have hrw:=HR.out wr HFr.out.fr.lo
   cases dx with
   | zero =>
    rw [z1P hrw] at hxj
    simp at hxj
   | succ dx =>
    obtain ⟨k,o,a,l,nm,ys⟩:=x
    obtain ⟨g,off,rfl,hg,hptr⟩:=z1W hrw hxj
    have HCx:=zhi (HE.out dx rfl lb nl dp s' g (off+j * 6) k o a l nm ys wr HFr.out.rs HD.out (HP.out.low HFr.out.fr.lo) hptr hg (z4J HW.out hxj))
    have hYc:=HYr.out
    have ezl:zL K.ls (pnZ fs) C (.mk k o a l nm ys :: rest) s'=zcons (zX K.ls (pnZ fs) C (.mk k o a l nm ys) s') (zL K.ls (pnZ fs) C rest):=rfl
    rw [ezl] at hYc
    generalize zX K.ls (pnZ fs) C (.mk k o a l nm ys) s'=y1 at HCx hYc
    obtain ⟨⟨v1,k1,t1⟩,s1⟩:=y1
    rw [zap] at hYc
    have HYc:=zhi hYc
    clear hYc ezl hptr hg hrw HYr hxj
    go_wp2_with fail
    refine HCx.out.mono ?_
    rintro e w2 ⟨rfl,hrs2,hfr2⟩
    dsimp only at hrs2 ⊢
    have HF3:=zhi (HFr.out.call hrs2 hfr2)
    have HV3:Hid (IntB w2 V (vs++List.replicate (rest.length+1) 0)):=zhi (hfr2.at_ HFv.out HVr.out)
    have HFv3:=zhi (hfr2.free HVr.out.lt HFv.out)
    have hz2:=HF3.out.z
    have hs2:=HF3.out.lt
    have hv2:=HV3.out.lt
    obtain ⟨z0,z1⟩:=cl2 hz2
    have f0:=z09 hz2 0
    have f1:=z09 hz2 1
    have hE3:=heap_alloc_new w2 (.cells #[.int .i64 k1,.int .i64 t1] 59)
    obtain ⟨e0,e1⟩:=cl2 hE3
    clear hrs2 hfr2 hz2 hE3 HCx HFr HVr HFv HE HP HR HW
    by_cases h0:k1=0
    ·subst h0
     have HY2:Hid (Y=zpre (vs++[v1]) (zL K.ls (pnZ fs) C rest s1)):=zhi (by rw [HYc.out]; exact if_pos rfl)
     have vc:=HV3.out.at_ (i:=j) (x:=0) (by rw [List.getElem?_append_right (by rw [HXS.out.2.2,HXS.out.2.1]; exact Nat.le_refl _),HXS.out.2.2,HXS.out.2.1,Nat.sub_self]; simp)
     have vf:=z09 HV3.out j
     have hg5:w2.grownBy (w2.setCell ⟨V,j,none⟩ (.int .i64 v1)) (some V):=z05 _ ⟨V,j,none⟩ _
     have hF5:=HF3.out.put hg5 HFv3.out (by omega) (by omega)
     have hb5:=(Below.refl _ (w2.setCell ⟨V,j,none⟩ (.int .i64 v1))).alloc (Nat.le_refl _) (.cells #[.int .i64 0,.int .i64 t1] 59)
     have HF5:=zhi (hF5.low hb5)
     have hV5:IntB (w2.setCell ⟨V,j,none⟩ (.int .i64 v1)) V ((vs++[v1])++List.replicate rest.length 0):=by
      have:=HV3.out.set_ (i:=j) v1
      have e:(vs++List.replicate (rest.length+1) 0).set j v1=(vs++[v1])++List.replicate rest.length 0:=by
       rw [HXS.out.2.1,← HXS.out.2.2,List.set_append_right _ _ (Nat.le_refl _),Nat.sub_self,List.replicate_succ]
       simp
      rw [e] at this
      exact this
     have HV5:=zhi (hV5.below hb5)
     have HFv5:=zhi (z19 (z3O HFv3.out hg5 HF3.out.wp HFv3.out.1) hb5 hF5.wp)
     have HXS2:Hid (xs=(pre++[Ex.mk k o a l nm ys])++rest∧j+1=(pre++[Ex.mk k o a l nm ys]).length∧(vs++[v1]).length=(pre++[Ex.mk k o a l nm ys]).length):=zhi ⟨by rw [HXS.out.1]; simp,by rw [HXS.out.2.1]; simp,by simp [HXS.out.2.2]⟩
     clear hb5 hV5 hF5 hg5 HF3 HV3 HFv3 HYc z0 z1 f0 f1
     go_wp2_with fail
     exact ⟨⟨pre++[Ex.mk k o a l nm ys],rest,vs++[v1],s1,j+1,by go_num,HXS2,HY2,HF5,HV5,HFv5⟩,by simp [intOf]; omega⟩
    ·have HY2:Hid (Y=([],(k1,t1),s1)):=zhi (by rw [HYc.out]; exact if_neg h0)
     have h0':(k1 != 0)=true:=by simp [h0]
     have HT:=zhi (HF3.out.twoE (.int .i64 k1) (.int .i64 t1) (.cells #[.int .i64 k1,.int .i64 t1] 59))
     clear h0 HF3 HV3 HFv3 HYc
     go_wp2_with fail
     go_region
     go_wp2_with fail
     obtain ⟨j0,j1,hr9,hg9⟩:=HT.out
     have HH:Hid (LG p K lb nl dp Y w (.returned (.tuple #[.slice none 0 0,.agg #[.int .i64 k1,.int .i64 t1]])) _):=zhi (by
      rw [HY2.out]
      exact ⟨none,0,0,rfl,rfl,Nat.le_refl _,Rd.nil,hr9,hg9⟩)
     clear hr9 hg9
     exact bodyPost_ret (by simp [results,Try.results86,go_sem,j0,j1]) rfl HH.out
end
end Go.Proofs.Ytleicdfkagejoaa
namespace Go.Proofs.Ytleicdfkagejoaa
open Go.RowKit
section
variable {p:Nat} {K:RK} {D d:Nat} {fs:List Fz} {nd:Nat} {C:Cz}
theorem zd9 {xs:List Ex} (h:xs.length=2):∃ x y,xs=[x,y]:=by
 match xs with
 | []=>simp at h
 | [x]=>simp at h
 | [x,y]=>exact ⟨x,y,rfl⟩
 | x :: y :: z :: r=>simp at h
set_option maxRecDepth 10000 in
set_option maxHeartbeats 8000000 in
theorem op_z {dx:Nat} (hE:z86 p K D d fs nd C dx) {lb nl:Nat} {dp:Int} {s:Sx} {g q:Nat} {k o a:Int} {xs:List Ex} {w:World} (h:RunS p K lb nl dp s w) (hd:DpZ K dp nd) (hP:PrgZ p K D d fs w) (hx:PtrZ p w (dx+1) g q k o a xs) (hg:g<p)
  (hk:(k=4∧0≤a∧a.toNat<K.gs.length∧xs.length=1)∨(k=5∧xs.length=1)∨((k=6∨k=7∨k=8)∧xs.length=2)) (hw:wzL nl K.gs fs.length xs) :
  Calls Try.prog 82 #[.pointer (some ⟨p,0,none⟩),.pointer (some ⟨g,q,none⟩)] w (ZG p K lb nl dp (zO K.ls (pnZ fs) C k o a xs s) w):=by
 have hF:=zhi (FwZ.new h)
 have hb1:=(Below.refl _ w).alloc (Nat.le_refl _) (.cells #[.int .i64 0,.int .i64 0] 59)
 have hlo:Below p w (w.alloc (.cells #[.int .i64 0,.int .i64 0] 59)):=hF.out.fr.lo
 have hl1:0<xs.length:=by omega
 obtain ⟨x,hx0⟩:∃ x,xs[0]?=some x:=⟨_,List.getElem?_eq_getElem hl1⟩
 obtain ⟨A,c,_,_,_,d5,he⟩:=hx.low hg hlo
 obtain ⟨kx,ox,ax,lx,nx,ys⟩:=x
 obtain ⟨g',off,rfl,hg',hp'⟩:=z1W he hx0
 rw [Nat.zero_mul,Nat.add_zero] at hp'
 have HCx:=zhi (hE lb nl dp s g' off kx ox ax lx nx ys _ (h.below hb1) hd (hP.low hlo) hp' hg' (z4J hw hx0))
 have HX:=zhi (fun (w':World) (hb:Below p w w')=>hx.low hg hb)
 have HP:=zhi hP
 have HE:=zhi hE
 have HD:=zhi hd
 have HW:=zhi hw
 have hpos2:(0:Int)<(xs.length:Int):=by omega
 obtain ⟨Y,hY⟩:∃ Y,Y=zO K.ls (pnZ fs) C k o a xs s:=⟨_,rfl⟩
 rw [← hY]
 have HY:Hid (∀ y1,zX K.ls (pnZ fs) C (.mk kx ox ax lx nx ys) s=y1→(xs.length=1∧Y=z1I y1 (z1 k o a))∨(∃ x1,xs=[.mk kx ox ax lx nx ys,x1]∧Y=z1I y1 (z2 k o (zX K.ls (pnZ fs) C x1)))):=zhi (fun y1 e=>by
  rw [hY,← e]
  rcases (by omega:xs.length=1∨xs.length=2) with h1 | h1
  ·obtain ⟨z,rfl⟩:=List.length_eq_one_iff.1 h1
   simp at hx0
   subst hx0
   exact .inl ⟨h1,rfl⟩
  ·obtain ⟨z,z2,rfl⟩:=zd9 h1
   simp at hx0
   subst hx0
   exact .inr ⟨z2,rfl,rfl⟩)
 obtain ⟨W,hW⟩:∃ W,W=w.alloc (.cells #[.int .i64 0,.int .i64 0] 59):=⟨_,rfl⟩
 rw [← hW] at hF d5 HCx
 clear hx he hE hP hd hw h hb1 hlo hp' hg' hx0 hY
 go_enter Try.func82,Try.ntmps82
 go_upto_region 1 with fail
 rw [← hW]
 clear hW
 go_wp2_with fail
 refine HCx.out.mono ?_
 rintro e w2 ⟨rfl,hrs2,hfr2⟩
 have HY1:=zhi (HY.out _ rfl)
 generalize zX K.ls (pnZ fs) C (.mk kx ox ax lx nx ys) s=y1 at HY1 hrs2 ⊢
 obtain ⟨⟨v1,k1,t1⟩,s1⟩:=y1
 dsimp only at hrs2 ⊢
 have HF2:=zhi (hF.out.call hrs2 hfr2)
 have hz2:=HF2.out.z
 have hs2:=HF2.out.lt
 have z0:=cell_of_row _ _ 0 _ _ _ hz2
 have z1':=cell_of_row _ _ 1 _ _ _ hz2
 have f0:=z09 hz2 0
 have f1:=z09 hz2 1
 have hE3:=heap_alloc_new w2 (.cells #[.int .i64 k1,.int .i64 t1] 59)
 obtain ⟨e0,e1⟩:=cl2 hE3
 have hpw:=HF2.out.p
 clear hrs2 hfr2 hz2 hE3 hF HCx d5 HY
 by_cases h0:k1=0
 ·subst h0
  have HF3:=zhi (HF2.out.alloc (.cells #[.int .i64 0,.int .i64 t1] 59))
  have HEr:Hid ((w2.alloc (.cells #[.int .i64 0,.int .i64 t1] 59)).heap[w2.heap.size]?=some (.cells #[.int .i64 0,.int .i64 t1] 59 (0,0))):=zhi (heap_alloc_new w2 _)
  have HEf:Hid (z2o p K lb (w2.alloc (.cells #[.int .i64 0,.int .i64 t1] 59)) w2.heap.size):=zhi (z19 (HF2.out.rs.free (Nat.le_refl _)) ((Below.refl _ _).alloc (Nat.le_refl _) _) HF2.out.wp)
  obtain ⟨A3,c3,d0,d1,d2,d5,he3⟩:=HX.out _ HF3.out.fr.lo
  have HT:=0
  rcases hk with ⟨rfl,ha,ha2,hl⟩ | ⟨rfl,hl⟩ | ⟨hk,hl⟩
  ·have HYz:Hid (Y=zel (glAt s1 a) v1 s1):=zhi (by
    rcases HY1.out with ⟨_,e⟩ | ⟨x1,e,_⟩
    ·rw [e]; rfl
    ·rw [e] at hl; simp at hl)
   have HEl:=zhi (z5C HF3.out.rs a v1 ha ha2)
   clear HY1 HE HP HD HW he3 HT z0 z1' f0 f1 hl ha2
   go_wp2_with fail
   refine HEl.out.mono ?_
   rintro e w4 ⟨he4,hrs4,hfr4⟩
   have HF4:=zhi (HF3.out.call hrs4 hfr4)
   rcases he4 with ⟨hv0,hv1,b4,hb4,rfl⟩ | ⟨hne,rfl⟩
   ·have HYe:Hid (Y=(((glAt s1 a).getD v1.toNat 0,0,0),s1)):=zhi (by rw [HYz.out]; exact if_pos ⟨hv0,hv1⟩)
    have hcell:w4.cell? ⟨b4,v1.toNat,none⟩=some (.int .i64 ((glAt s1 a).getD v1.toNat 0)):=by
     obtain ⟨iv,ov,lv,hrm⟩:=hrs4
     have hal:a.toNat<s1.gl.length:=by
      have:=hrm.g.ln
      rcases Nat.lt_or_ge a.toNat s1.gl.length with h | h
      ·exact h
      ·exfalso
       have:glAt s1 a=[]:=by unfold glAt; rw [List.getD_eq_getElem?_getD,List.getElem?_eq_none h]; rfl
       rw [this] at hv1
       simp at hv1
       omega
     obtain ⟨b5,c5,e1,e2,e3⟩:=hrm.g.at_ a.toNat _ (List.getElem?_eq_getElem hal)
     rw [hb4] at e1
     injection e1 with e1
     subst e1
     have eg:glAt s1 a=s1.gl[a.toNat]:=by unfold glAt; rw [List.getD_eq_getElem?_getD,List.getElem?_eq_getElem hal]; rfl
     rw [eg] at hv1 ⊢
     exact e3.at_ (by rw [List.getD_eq_getElem?_getD,List.getElem?_eq_getElem (by omega)]; rfl)
    obtain ⟨I,hI⟩:∃ I,I=v1.toNat:=⟨_,rfl⟩
    rw [← hI] at hcell HYe ⊢
    obtain ⟨z,hz⟩:∃ z,z=(glAt s1 a).getD I 0:=⟨_,rfl⟩
    rw [← hz] at hcell HYe
    have hb4l:=World.block_lt_of_cell? w4 _ hcell
    have hcell2:=hold ((Below.refl _ w4).alloc (Nat.le_refl _) (.cells #[.int .i64 0,.int .i64 0] 59)) hcell
    have hz4:=HF4.out.z
    have hs4:=HF4.out.lt
    have z0:=cell_of_row _ _ 0 _ _ _ hz4
    have z1':=cell_of_row _ _ 1 _ _ _ hz4
    have f0:=z09 hz4 0
    have f1:=z09 hz4 1
    have hE3:=heap_alloc_new w4 (.cells #[.int .i64 0,.int .i64 0] 59)
    obtain ⟨q0,q1⟩:=cl2 hE3
    have HT:=zhi (HF4.out.twoE (.int .i64 0) (.int .i64 0) (.cells #[.int .i64 0,.int .i64 0] 59))
    clear hrs4 hfr4 hz4 hE3 hv0 hv1 hb4 hI hz HF3 HEl HF4 HF2 HEr HEf d0 d1 d2 d5 HYz e0 e1
    go_wp2_with fail
    go_region
    go_wp2_with fail
    obtain ⟨j0,j1,hr9,hg9⟩:=HT.out
    have HH:Hid (ZG p K lb nl dp Y w (.returned (.tuple #[.int .i64 z,.agg #[.int .i64 0,.int .i64 0]])) _):=zhi (by rw [HYe.out]; exact ⟨rfl,hr9,hg9⟩)
    clear hr9 hg9
    exact bodyPost_ret (by simp [results,Try.results82,go_sem,j0,j1]) rfl HH.out
   ·have HYe:Hid (Y=((0,2,2),s1)):=zhi (by rw [HYz.out]; exact if_neg hne)
    have hz4:=HF4.out.z
    have hs4:=HF4.out.lt
    have z0:=cell_of_row _ _ 0 _ _ _ hz4
    have z1':=cell_of_row _ _ 1 _ _ _ hz4
    have f0:=z09 hz4 0
    have f1:=z09 hz4 1
    have hE3:=heap_alloc_new w4 (.cells #[.int .i64 2,.int .i64 2] 59)
    obtain ⟨q0,q1⟩:=cl2 hE3
    have HT:=zhi (HF4.out.twoE (.int .i64 2) (.int .i64 2) (.cells #[.int .i64 2,.int .i64 2] 59))
    clear hrs4 hfr4 hz4 hE3 hne HF3 HEl HF4 HF2 HEr HEf d0 d1 d2 d5 HYz e0 e1
    go_wp2_with fail
    go_region
    go_wp2_with fail
    obtain ⟨j0,j1,hr9,hg9⟩:=HT.out
    have HH:Hid (ZG p K lb nl dp Y w (.returned (.tuple #[.int .i64 0,.agg #[.int .i64 2,.int .i64 2]])) _):=zhi (by rw [HYe.out]; exact ⟨rfl,hr9,hg9⟩)
    clear hr9 hg9
    exact bodyPost_ret (by simp [results,Try.results82,go_sem,j0,j1]) rfl HH.out
  ·have HYz:Hid (Y=((unP o v1,0,0),s1)):=zhi (by
    rcases HY1.out with ⟨_,e⟩ | ⟨x1,e,_⟩
    ·rw [e]; rfl
    ·rw [e] at hl; simp at hl)
   clear HY1 HE HP HD HW he3 HT z0 z1' f0 f1 hl HF2 HEr HEf
   go_wp2_with fail
   refine (zda o v1 _).mono ?_
   rintro e w4 ⟨rfl,hw4⟩
   rw [hw4]
   clear hw4
   go_wp2_with (with_reducible refine z0f ?_)
   refine z08.of (z00 _ rfl _ _ _ rfl w.heap.size _ rfl (by rfl) _ _ HF3.out.z (by kernel_rfl) (by rfl) (by simp [Value.oneCell']) ?_)
   intro w9 hrow9 hg9
   obtain ⟨j0,j1⟩:=cl2 hrow9
   have hfin:=HF3.out.fin hg9
   have HH:Hid (ZG p K lb nl dp Y w (.returned (.tuple #[.int .i64 (unP o v1),.agg #[.int .i64 0,.int .i64 0]])) w9):=zhi (by rw [HYz.out]; exact ⟨rfl,hfin⟩)
   clear hrow9 hg9 hfin
   go_wp2_with fail
   exact bodyPost_ret (by simp [results,Try.results82,go_sem,j0,j1]) rfl HH.out
  ·obtain ⟨x1,hxs,HYz⟩:∃ x1,xs=[.mk kx ox ax lx nx ys,x1]∧Hid (Y=z2 k o (zX K.ls (pnZ fs) C x1) v1 s1):=by
    rcases HY1.out with ⟨e,_⟩ | ⟨x1,e,e2⟩
    ·omega
    ·exact ⟨x1,e,zhi (by rw [e2]; rfl)⟩
   subst hxs
   clear HY1 hl z0 z1' f0 f1 HF2
   rcases hk with rfl | rfl | rfl
   ·obtain ⟨k',o',a',l',nm',ys'⟩:=x1
    obtain ⟨g2,off2,rfl,hg2,hp2⟩:=z1W (i:=1) he3 rfl
    have HC2:=zhi (HE.out lb nl dp s1 g2 (off2+1 * 6) k' o' a' l' nm' ys' _ HF3.out.rs HD.out (HP.out.low HF3.out.fr.lo) hp2 hg2 (z4J (i:=1) HW.out rfl))
    rw [Nat.one_mul] at HC2
    generalize zX K.ls (pnZ fs) C (.mk k' o' a' l' nm' ys')=f2 at HC2 HYz
    have d5':(w2.alloc (.cells #[.int .i64 0,.int .i64 t1] 59)).cell? ⟨g,q+5,none⟩=some (.slice (some ⟨g2,off2,none⟩) 2 c3):=d5
    obtain ⟨y2,hy2⟩:∃ y2,y2=f2 s1:=⟨_,rfl⟩
    rw [← hy2] at HC2
    have HYb:Hid (Y=if y2.1.2.1=0 then (z2v 6 o v1 y2.1.1,y2.2) else ((0,y2.1.2.1,y2.1.2.2),y2.2)):=zhi (by rw [HYz.out]; unfold z2; simp [z1I,← hy2])
    clear HYz hp2 hg2 he3 hy2 d5 HW HT
    obtain ⟨⟨v2,k2,t2⟩,s2⟩:=y2
    dsimp only at HYb
    go_wp2_with fail
    refine HC2.out.mono ?_
    rintro e w4 ⟨rfl,hrs4,hfr4⟩
    dsimp only at hrs4 ⊢
    have HF4:=zhi (HF3.out.call hrs4 hfr4)
    have HEr4:=zhi (hfr4.at_ HEf.out HEr.out)
    have HEf4:=zhi (hfr4.free (Array.getElem?_eq_some_iff.1 HEr.out).1 HEf.out)
    clear hrs4 hfr4 HC2 HF3 HEr HEf d0 d1 d2 d5' e0 e1
    go_wp2_with (with_reducible refine z0f ?_)
    refine z08.of (z00 _ rfl _ _ _ rfl w2.heap.size _ rfl (by rfl) _ _ HEr4.out (by kernel_rfl) (by rfl) (by simp [Value.oneCell']) ?_)
    intro w5 hrow5 hg5
    have HF5:=zhi (HF4.out.put hg5 HEf4.out (by omega) (by omega))
    obtain ⟨x0,x1⟩:=cl2 hrow5
    obtain ⟨A5,c5,d0,d1,_,_,_⟩:=HX.out _ HF5.out.fr.lo
    have hB5:=HF5.out.lt
    clear hrow5 hg5 HF4 HEr4 HEf4
    by_cases h2:k2=0
    ·subst h2
     have HY2:Hid (Y=(z2v 6 o v1 v2,s2)):=zhi (by rw [HYb.out]; exact if_pos rfl)
     clear HYb
     dsimp only [Act.put]
     go_wp2_with fail
     refine (z8d o v1 v2 _).mono ?_
     rintro e w6 ⟨rfl,hb6⟩
     have HF6:=zhi (HF5.out.low hb6)
     have HY3:Hid (Y=(appP o v1 v2,s2)):=zhi (by rw [HY2.out]; rfl)
     clear hb6 HF5 d0 d1 x0 x1
     go_wp2_with (with_reducible refine z0f ?_)
     refine z08.of (z00 _ rfl _ _ _ rfl w.heap.size _ rfl (by rfl) _ _ HF6.out.z (by kernel_rfl) (by rfl) (by simp [Value.oneCell']) ?_)
     intro w9 hrow9 hg9
     obtain ⟨j0,j1⟩:=cl2 hrow9
     have hfin:=HF6.out.fin hg9
     have HH:Hid (ZG p K lb nl dp Y w (.returned (.tuple #[.int .i64 (appP o v1 v2).1,.agg #[.int .i64 (appP o v1 v2).2.1,.int .i64 (appP o v1 v2).2.2]])) w9):=zhi (by rw [HY3.out]; exact ⟨rfl,hfin⟩)
     clear hrow9 hg9 hfin
     go_wp2_with fail
     exact bodyPost_ret (by simp [results,Try.results82,go_sem,j0,j1]) rfl HH.out
    ·have HY2:Hid (Y=((0,k2,t2),s2)):=zhi (by rw [HYb.out]; exact if_neg h2)
     have h2':(k2 != 0)=true:=by simp [h2]
     have HT:=zhi (HF5.out.twoD (.int .i64 k2) (.int .i64 t2))
     have hz5:=HF5.out.z
     obtain ⟨z0,z1⟩:=cl2 hz5
     have f0:=z09 hz5 0
     have f1:=z09 hz5 1
     clear HYb h2 hz5 HF5
     dsimp only [Act.put]
     go_wp2_with fail
     go_region
     go_wp2_with fail
     obtain ⟨j0,j1,hr9,hg9⟩:=HT.out
     have HH:Hid (ZG p K lb nl dp Y w (.returned (.tuple #[.int .i64 0,.agg #[.int .i64 k2,.int .i64 t2]])) _):=zhi (by rw [HY2.out]; exact ⟨rfl,hr9,hg9⟩)
     clear hr9 hg9
     exact bodyPost_ret (by simp [results,Try.results82,go_sem,j0,j1]) rfl HH.out
   ·by_cases hv0:v1=0
    ·have HYe:Hid (Y=((0,0,0),s1)):=zhi (by rw [HYz.out]; unfold z2; simp [hv0])
     have i1:(v1 == 0)=true:=by simp [hv0]
     clear HYz HE HP HD HW he3 HT hv0 HEr HEf
     go_upto_region 14 with fail
     go_wp2_with (with_reducible refine z0f ?_)
     refine z08.of (z00 _ rfl _ _ _ rfl w.heap.size _ rfl (by rfl) _ _ HF3.out.z (by kernel_rfl) (by rfl) (by simp [Value.oneCell']) ?_)
     intro w9 hrow9 hg9
     obtain ⟨j0,j1⟩:=cl2 hrow9
     have hfin:=HF3.out.fin hg9
     have HH:Hid (ZG p K lb nl dp Y w (.returned (.tuple #[.int .i64 0,.agg #[.int .i64 0,.int .i64 0]])) w9):=zhi (by rw [HYe.out]; exact ⟨rfl,hfin⟩)
     clear hrow9 hg9 hfin
     go_wp2_with fail
     exact bodyPost_ret (by simp [results,Try.results82,go_sem,j0,j1]) rfl HH.out
    ·have i1:(v1 == 0)=false:=by simp [hv0]
     obtain ⟨k',o',a',l',nm',ys'⟩:=x1
     obtain ⟨g2,off2,rfl,hg2,hp2⟩:=z1W (i:=1) he3 rfl
     have HC2:=zhi (HE.out lb nl dp s1 g2 (off2+1 * 6) k' o' a' l' nm' ys' _ HF3.out.rs HD.out (HP.out.low HF3.out.fr.lo) hp2 hg2 (z4J (i:=1) HW.out rfl))
     rw [Nat.one_mul] at HC2
     generalize zX K.ls (pnZ fs) C (.mk k' o' a' l' nm' ys')=f2 at HC2 HYz
     have d5':(w2.alloc (.cells #[.int .i64 0,.int .i64 t1] 59)).cell? ⟨g,q+5,none⟩=some (.slice (some ⟨g2,off2,none⟩) 2 c3):=d5
     obtain ⟨y2,hy2⟩:∃ y2,y2=f2 s1:=⟨_,rfl⟩
     rw [← hy2] at HC2
     have HYb:Hid (Y=if y2.1.2.1=0 then (z2v 7 o v1 y2.1.1,y2.2) else ((0,y2.1.2.1,y2.1.2.2),y2.2)):=zhi (by rw [HYz.out]; unfold z2; simp [hv0,z1I,← hy2])
     clear HYz hp2 hg2 he3 hy2 d5 HW HT
     obtain ⟨⟨v2,k2,t2⟩,s2⟩:=y2
     dsimp only at HYb
     go_wp2_with fail
     refine HC2.out.mono ?_
     rintro e w4 ⟨rfl,hrs4,hfr4⟩
     dsimp only at hrs4 ⊢
     have HF4:=zhi (HF3.out.call hrs4 hfr4)
     have HEr4:=zhi (hfr4.at_ HEf.out HEr.out)
     have HEf4:=zhi (hfr4.free (Array.getElem?_eq_some_iff.1 HEr.out).1 HEf.out)
     clear hrs4 hfr4 HC2 HF3 HEr HEf d0 d1 d2 d5' e0 e1
     go_wp2_with (with_reducible refine z0f ?_)
     refine z08.of (z00 _ rfl _ _ _ rfl w2.heap.size _ rfl (by rfl) _ _ HEr4.out (by kernel_rfl) (by rfl) (by simp [Value.oneCell']) ?_)
     intro w5 hrow5 hg5
     have HF5:=zhi (HF4.out.put hg5 HEf4.out (by omega) (by omega))
     obtain ⟨x0,x1⟩:=cl2 hrow5
     obtain ⟨A5,c5,d0,d1,_,_,_⟩:=HX.out _ HF5.out.fr.lo
     have hB5:=HF5.out.lt
     clear hrow5 hg5 HF4 HEr4 HEf4
     by_cases h2:k2=0
     ·subst h2
      have HY2:Hid (Y=(z2v 7 o v1 v2,s2)):=zhi (by rw [HYb.out]; exact if_pos rfl)
      clear HYb
      dsimp only [Act.put]
      go_wp2_with fail
      refine (z5s (v2 != 0) _).mono ?_
      rintro e w6 ⟨rfl,hw6⟩
      rw [hw6]
      clear hw6
      have HY3:Hid (Y=((bitZ (v2 != 0),0,0),s2)):=zhi (by rw [HY2.out]; rfl)
      go_wp2_with (with_reducible refine z0f ?_)
      refine z08.of (z00 _ rfl _ _ _ rfl w.heap.size _ rfl (by rfl) _ _ HF5.out.z (by kernel_rfl) (by rfl) (by simp [Value.oneCell']) ?_)
      intro w9 hrow9 hg9
      obtain ⟨j0,j1⟩:=cl2 hrow9
      have hfin:=HF5.out.fin hg9
      have HH:Hid (ZG p K lb nl dp Y w (.returned (.tuple #[.int .i64 (bitZ (v2 != 0)),.agg #[.int .i64 0,.int .i64 0]])) w9):=zhi (by rw [HY3.out]; exact ⟨rfl,hfin⟩)
      clear hrow9 hg9 hfin
      go_wp2_with fail
      exact bodyPost_ret (by simp [results,Try.results82,go_sem,j0,j1]) rfl HH.out
     ·have HY2:Hid (Y=((0,k2,t2),s2)):=zhi (by rw [HYb.out]; exact if_neg h2)
      have h2':(k2 != 0)=true:=by simp [h2]
      have HT:=zhi (HF5.out.twoD (.int .i64 k2) (.int .i64 t2))
      have hz5:=HF5.out.z
      obtain ⟨z0,z1⟩:=cl2 hz5
      have f0:=z09 hz5 0
      have f1:=z09 hz5 1
      clear HYb h2 hz5 HF5
      dsimp only [Act.put]
      go_wp2_with fail
      go_region
      go_wp2_with fail
      obtain ⟨j0,j1,hr9,hg9⟩:=HT.out
      have HH:Hid (ZG p K lb nl dp Y w (.returned (.tuple #[.int .i64 0,.agg #[.int .i64 k2,.int .i64 t2]])) _):=zhi (by rw [HY2.out]; exact ⟨rfl,hr9,hg9⟩)
      clear hr9 hg9
      exact bodyPost_ret (by simp [results,Try.results82,go_sem,j0,j1]) rfl HH.out
   ·by_cases hv0:v1=0
    ·have i1:(v1 != 0)=false:=by simp [hv0]
     obtain ⟨k',o',a',l',nm',ys'⟩:=x1
     obtain ⟨g2,off2,rfl,hg2,hp2⟩:=z1W (i:=1) he3 rfl
     have HC2:=zhi (HE.out lb nl dp s1 g2 (off2+1 * 6) k' o' a' l' nm' ys' _ HF3.out.rs HD.out (HP.out.low HF3.out.fr.lo) hp2 hg2 (z4J (i:=1) HW.out rfl))
     rw [Nat.one_mul] at HC2
     generalize zX K.ls (pnZ fs) C (.mk k' o' a' l' nm' ys')=f2 at HC2 HYz
     have d5':(w2.alloc (.cells #[.int .i64 0,.int .i64 t1] 59)).cell? ⟨g,q+5,none⟩=some (.slice (some ⟨g2,off2,none⟩) 2 c3):=d5
     obtain ⟨y2,hy2⟩:∃ y2,y2=f2 s1:=⟨_,rfl⟩
     rw [← hy2] at HC2
     have HYb:Hid (Y=if y2.1.2.1=0 then (z2v 8 o v1 y2.1.1,y2.2) else ((0,y2.1.2.1,y2.1.2.2),y2.2)):=zhi (by rw [HYz.out]; unfold z2; simp [hv0,z1I,← hy2])
     clear HYz hp2 hg2 he3 hy2 d5 HW HT
     obtain ⟨⟨v2,k2,t2⟩,s2⟩:=y2
     dsimp only at HYb
     go_wp2_with fail
     refine HC2.out.mono ?_
     rintro e w4 ⟨rfl,hrs4,hfr4⟩
     dsimp only at hrs4 ⊢
     have HF4:=zhi (HF3.out.call hrs4 hfr4)
     have HEr4:=zhi (hfr4.at_ HEf.out HEr.out)
     have HEf4:=zhi (hfr4.free (Array.getElem?_eq_some_iff.1 HEr.out).1 HEf.out)
     clear hrs4 hfr4 HC2 HF3 HEr HEf d0 d1 d2 d5' e0 e1
     go_wp2_with (with_reducible refine z0f ?_)
     refine z08.of (z00 _ rfl _ _ _ rfl w2.heap.size _ rfl (by rfl) _ _ HEr4.out (by kernel_rfl) (by rfl) (by simp [Value.oneCell']) ?_)
     intro w5 hrow5 hg5
     have HF5:=zhi (HF4.out.put hg5 HEf4.out (by omega) (by omega))
     obtain ⟨x0,x1⟩:=cl2 hrow5
     obtain ⟨A5,c5,d0,d1,_,_,_⟩:=HX.out _ HF5.out.fr.lo
     have hB5:=HF5.out.lt
     clear hrow5 hg5 HF4 HEr4 HEf4
     by_cases h2:k2=0
     ·subst h2
      have HY2:Hid (Y=(z2v 8 o v1 v2,s2)):=zhi (by rw [HYb.out]; exact if_pos rfl)
      clear HYb
      dsimp only [Act.put]
      go_wp2_with fail
      refine (z5s (v2 != 0) _).mono ?_
      rintro e w6 ⟨rfl,hw6⟩
      rw [hw6]
      clear hw6
      have HY3:Hid (Y=((bitZ (v2 != 0),0,0),s2)):=zhi (by rw [HY2.out]; rfl)
      go_wp2_with (with_reducible refine z0f ?_)
      refine z08.of (z00 _ rfl _ _ _ rfl w.heap.size _ rfl (by rfl) _ _ HF5.out.z (by kernel_rfl) (by rfl) (by simp [Value.oneCell']) ?_)
      intro w9 hrow9 hg9
      obtain ⟨j0,j1⟩:=cl2 hrow9
      have hfin:=HF5.out.fin hg9
      have HH:Hid (ZG p K lb nl dp Y w (.returned (.tuple #[.int .i64 (bitZ (v2 != 0)),.agg #[.int .i64 0,.int .i64 0]])) w9):=zhi (by rw [HY3.out]; exact ⟨rfl,hfin⟩)
      clear hrow9 hg9 hfin
      go_wp2_with fail
      exact bodyPost_ret (by simp [results,Try.results82,go_sem,j0,j1]) rfl HH.out
     ·have HY2:Hid (Y=((0,k2,t2),s2)):=zhi (by rw [HYb.out]; exact if_neg h2)
      have h2':(k2 != 0)=true:=by simp [h2]
      have HT:=zhi (HF5.out.twoD (.int .i64 k2) (.int .i64 t2))
      have hz5:=HF5.out.z
      obtain ⟨z0,z1⟩:=cl2 hz5
      have f0:=z09 hz5 0
      have f1:=z09 hz5 1
      clear HYb h2 hz5 HF5
      dsimp only [Act.put]
      go_wp2_with fail
      go_region
      go_wp2_with fail
      obtain ⟨j0,j1,hr9,hg9⟩:=HT.out
      have HH:Hid (ZG p K lb nl dp Y w (.returned (.tuple #[.int .i64 0,.agg #[.int .i64 k2,.int .i64 t2]])) _):=zhi (by rw [HY2.out]; exact ⟨rfl,hr9,hg9⟩)
      clear hr9 hg9
      exact bodyPost_ret (by simp [results,Try.results82,go_sem,j0,j1]) rfl HH.out
    ·have HYe:Hid (Y=((1,0,0),s1)):=zhi (by rw [HYz.out]; unfold z2; simp [hv0])
     have i1:(v1 != 0)=true:=by simp [hv0]
     clear HYz HE HP HD HW he3 HT hv0 HEr HEf
     go_upto_region 17 with fail
     go_wp2_with (with_reducible refine z0f ?_)
     refine z08.of (z00 _ rfl _ _ _ rfl w.heap.size _ rfl (by rfl) _ _ HF3.out.z (by kernel_rfl) (by rfl) (by simp [Value.oneCell']) ?_)
     intro w9 hrow9 hg9
     obtain ⟨j0,j1⟩:=cl2 hrow9
     have hfin:=HF3.out.fin hg9
     have HH:Hid (ZG p K lb nl dp Y w (.returned (.tuple #[.int .i64 1,.agg #[.int .i64 0,.int .i64 0]])) w9):=zhi (by rw [HYe.out]; exact ⟨rfl,hfin⟩)
     clear hrow9 hg9 hfin
     go_wp2_with fail
     exact bodyPost_ret (by simp [results,Try.results82,go_sem,j0,j1]) rfl HH.out
 ·have HO:Hid (Y=((0,k1,t1),s1)):=zhi (by
   rcases HY1.out with ⟨_,e⟩ | ⟨x1,_,e⟩
   ·rw [e]; exact if_neg h0
   ·rw [e]; exact if_neg h0)
  have h0':(k1 != 0)=true:=by simp [h0]
  have HT:=zhi (HF2.out.twoE (.int .i64 k1) (.int .i64 t1) (.cells #[.int .i64 k1,.int .i64 t1] 59))
  clear h0 HY1 HE HP HD HW HX HF2 hk
  go_wp2_with fail
  go_region
  go_wp2_with fail
  obtain ⟨j0,j1,hr9,hg9⟩:=HT.out
  have HH:Hid (ZG p K lb nl dp Y w (.returned (.tuple #[.int .i64 0,.agg #[.int .i64 k1,.int .i64 t1]])) _):=zhi (by rw [HO.out]; exact ⟨rfl,hr9,hg9⟩)
  clear hr9 hg9
  exact bodyPost_ret (by simp [results,Try.results82,go_sem,j0,j1]) rfl HH.out
end
end Go.Proofs.Ytleicdfkagejoaa
namespace Go.Proofs.Ytleicdfkagejoaa
open Go.RowKit
section
variable {p:Nat} {K:RK} {D d:Nat} {fs:List Fz} {nd:Nat} {C:Cz}
theorem z8M {s:Sx} {n:Nat} {l:List Int} (h:s.gl[n]?=some l):glAt s (n:Int)=l:=by
 unfold glAt
 rw [List.getD_eq_getElem?_getD,Int.toNat_natCast,h]
 rfl
set_option maxRecDepth 10000 in
set_option maxHeartbeats 8000000 in
theorem zbM {dx:Nat} (hE:∀ d',dx=d'+1→z86 p K D d fs nd C d') (hC:z4O p K D d fs nd C):z86 p K D d fs nd C dx:=by
 intro lb nl dp s g q k o a l nm xs w h hd hP hx hg hw
 obtain ⟨hk,hw2⟩:=hw
 have hF:=zhi (FwZ.new h)
 have HS:=zhi (za4 (h.below ((Below.refl _ w).alloc (Nat.le_refl _) (.cells #[.int .i64 0,.int .i64 0] 59))))
 have HX:=zhi (fun (w':World) (hb:Below p w w')=>hx.low hg hb)
 have HP:=zhi hP
 have HE:=zhi hE
 have HL:=zhi (zdB hE)
 have HC:=zhi hC
 have HD:=zhi hd
 have HW:=zhi hw2
 obtain ⟨Y,hY⟩:∃ Y,Y=zX K.ls (pnZ fs) C (.mk k o a l nm xs) s:=⟨_,rfl⟩
 rw [← hY]
 rw [zbA] at hY
 have HY:=zhi hY
 obtain ⟨W,hW⟩:∃ W,W=w.alloc (.cells #[.int .i64 0,.int .i64 0] 59):=⟨_,rfl⟩
 rw [← hW] at hF HS
 clear hx hE hP hd hw2 h hY hC
 go_enter Try.func70,Try.ntmps70
 go_upto_region 1 with fail
 rw [← hW]
 clear hW
 go_wp2_with fail
 refine HS.out.mono ?_
 rintro e w2 ⟨rfl,hrs2,hfr2⟩
 by_cases hst:K.ls≤s.st
 ·have e:z5X K.ls s=((0,3,0),s):=if_pos hst
  rw [e] at hrs2 ⊢
  have HYe:Hid (Y=((0,3,0),s)):=zhi (by rw [HY.out]; exact if_pos hst)
  have HF2:=zhi (hF.out.call hrs2 hfr2)
  have hz2:=HF2.out.z
  have hs2:=HF2.out.lt
  have z0:=cell_of_row _ _ 0 _ _ _ hz2
  have z1':=cell_of_row _ _ 1 _ _ _ hz2
  have f0:=z09 hz2 0
  have f1:=z09 hz2 1
  have hE3:=heap_alloc_new w2 (.cells #[.int .i64 3,.int .i64 0] 59)
  obtain ⟨e0,e1⟩:=cl2 hE3
  have HT:=zhi (HF2.out.twoE (.int .i64 3) (.int .i64 0) (.cells #[.int .i64 3,.int .i64 0] 59))
  clear hrs2 hfr2 hz2 hE3 hF HS HY HX HP HE HL HC HD HW hk HF2 e hst
  dsimp only
  go_wp2_with fail
  go_region
  go_wp2_with fail
  obtain ⟨j0,j1,hr9,hg9⟩:=HT.out
  have HH:Hid (ZG p K lb nl dp Y w (.returned (.tuple #[.int .i64 0,.agg #[.int .i64 3,.int .i64 0]])) _):=zhi (by rw [HYe.out]; exact ⟨rfl,hr9,hg9⟩)
  clear hr9 hg9
  exact bodyPost_ret (by simp [results,Try.results70,go_sem,j0,j1]) rfl HH.out
 ·have e:z5X K.ls s=((0,0,0),tick s):=if_neg hst
  rw [e] at hrs2 ⊢
  have HYs:=zhi (HY.out.trans (if_neg hst))
  have HF2:=zhi (hF.out.call hrs2 hfr2)
  have hz2:=HF2.out.z
  have hs2:=HF2.out.lt
  have z0:=cell_of_row _ _ 0 _ _ _ hz2
  have z1':=cell_of_row _ _ 1 _ _ _ hz2
  have f0:=z09 hz2 0
  have f1:=z09 hz2 1
  have hE3:=heap_alloc_new w2 (.cells #[.int .i64 0,.int .i64 0] 59)
  obtain ⟨e0,e1⟩:=cl2 hE3
  have HF3:=zhi (HF2.out.alloc (.cells #[.int .i64 0,.int .i64 0] 59))
  have hx3:=HX.out _ HF3.out.fr.lo
  have HT:=zhi (HF2.out.twoE (.int .i64 0) (.int .i64 0) (.cells #[.int .i64 0,.int .i64 0] 59))
  have HX3:=zhi hx3
  obtain ⟨A,c,d0,d1,d2,d5,he⟩:=hx3
  clear hrs2 hfr2 hz2 hE3 hF HS HY e hst d1 d5
  dsimp only at HYs ⊢
  rcases hk with (rfl | rfl | rfl) | ⟨rfl,ha,ha2⟩ | ⟨rfl,ha,m,hm,hm0⟩ | hk | hk | hk | ⟨rfl,ha,ha2,hn⟩ | ⟨rfl,hn1,hn⟩
  ·have HYr:Hid (Y=((a,0,0),tick s)):=zhi (HYs.out.trans (if_pos (by decide)))
   clear HX HL HC HE HP HD HW z0 z1' f0 f1 HF2 HX3 he HYs HT
   go_upto_region 7 with fail
   go_wp2_with (with_reducible refine z0f ?_)
   refine z08.of (z00 _ rfl _ _ _ rfl w.heap.size _ rfl (by rfl) _ _ HF3.out.z (by kernel_rfl) (by rfl) (by simp [Value.oneCell']) ?_)
   intro w9 hrow9 hg9
   obtain ⟨j0,j1⟩:=cl2 hrow9
   have hfin:=HF3.out.fin hg9
   have HH:Hid (ZG p K lb nl dp Y w (.returned (.tuple #[.int .i64 a,.agg #[.int .i64 0,.int .i64 0]])) w9):=zhi (by rw [HYr.out]; exact ⟨rfl,hfin⟩)
   clear hrow9 hg9 hfin
   go_wp2_with fail
   exact bodyPost_ret (by simp [results,Try.results70,go_sem,j0,j1]) rfl HH.out
  ·have HYr:Hid (Y=((a,0,0),tick s)):=zhi (HYs.out.trans (if_pos (by decide)))
   clear HX HL HC HE HP HD HW z0 z1' f0 f1 HF2 HX3 he HYs HT
   go_upto_region 7 with fail
   go_wp2_with (with_reducible refine z0f ?_)
   refine z08.of (z00 _ rfl _ _ _ rfl w.heap.size _ rfl (by rfl) _ _ HF3.out.z (by kernel_rfl) (by rfl) (by simp [Value.oneCell']) ?_)
   intro w9 hrow9 hg9
   obtain ⟨j0,j1⟩:=cl2 hrow9
   have hfin:=HF3.out.fin hg9
   have HH:Hid (ZG p K lb nl dp Y w (.returned (.tuple #[.int .i64 a,.agg #[.int .i64 0,.int .i64 0]])) w9):=zhi (by rw [HYr.out]; exact ⟨rfl,hfin⟩)
   clear hrow9 hg9 hfin
   go_wp2_with fail
   exact bodyPost_ret (by simp [results,Try.results70,go_sem,j0,j1]) rfl HH.out
  ·have HYr:Hid (Y=((s.inp.headD 0,0,0),{ tick s with inp:=s.inp.tail })):=zhi (by rw [HYs.out]; simp)
   have HRd:=zhi (zdN HF3.out.rs)
   clear HX HL HC HE HP HD HW z0 z1' f0 f1 HF2 HX3 he HYs HT
   go_wp2_with fail
   refine HRd.out.mono ?_
   rintro e w4 ⟨rfl,hrs4,hfr4⟩
   have HF4:=zhi (HF3.out.call hrs4 hfr4)
   clear hrs4 hfr4 HF3 HRd
   have hti:(tick s).inp=s.inp:=rfl
   rw [hti] at HF4 ⊢
   go_wp2_with (with_reducible refine z0f ?_)
   refine z08.of (z00 _ rfl _ _ _ rfl w.heap.size _ rfl (by rfl) _ _ HF4.out.z (by kernel_rfl) (by rfl) (by simp [Value.oneCell']) ?_)
   intro w9 hrow9 hg9
   obtain ⟨j0,j1⟩:=cl2 hrow9
   have hfin:=HF4.out.fin hg9
   have HH:Hid (ZG p K lb nl dp Y w (.returned (.tuple #[.int .i64 (s.inp.headD 0),.agg #[.int .i64 0,.int .i64 0]])) w9):=zhi (by rw [HYr.out]; exact ⟨rfl,hfin⟩)
   clear hrow9 hg9 hfin
   go_wp2_with fail
   exact bodyPost_ret (by simp [results,Try.results70,go_sem,j0,j1]) rfl HH.out
  ·have HYr:Hid (Y=((s.lv.getD a.toNat 0,0,0),tick s)):=zhi (by rw [HYs.out]; simp)
   obtain ⟨iv,ov,lv,hrm⟩:=HF3.out.rs
   obtain ⟨I,rfl⟩:∃ I:Nat,a=(I:Int):=⟨a.toNat,by omega⟩
   rw [Int.toNat_natCast] at ha2 HYr
   rcases hrm.l.2 with ⟨h1,_,_⟩ | ⟨h1,h2,h3,⟨c9,rfl⟩,h5⟩
   ·omega
   ·have c9':=cell_of_row _ _ 9 _ _ _ hrm.r
    have hln:s.lv.length=nl:=hrm.l.1
    have dl:=h5.at_ (i:=I) (x:=s.lv.getD I 0) (by
     show s.lv[I]?=_
     rw [List.getD_eq_getElem?_getD,List.getElem?_eq_getElem (by omega)]
     rfl)
    obtain ⟨z,hz⟩:∃ z,z=s.lv.getD I 0:=⟨_,rfl⟩
    rw [← hz] at dl HYr
    clear HX HL HC HE HP HD HW HF2 HX3 he HYs HF3 hrm h1 h2 h3 h5 hln hz
    go_wp2_with fail
    go_region
    go_wp2_with fail
    obtain ⟨j0,j1,hr9,hg9⟩:=HT.out
    have HH:Hid (ZG p K lb nl dp Y w (.returned (.tuple #[.int .i64 z,.agg #[.int .i64 0,.int .i64 0]])) _):=zhi (by rw [HYr.out]; exact ⟨rfl,hr9,hg9⟩)
    clear hr9 hg9
    exact bodyPost_ret (by simp [results,Try.results70,go_sem,j0,j1]) rfl HH.out
  ·have HYr:Hid (Y=(((glAt s a).getD 0 0,0,0),tick s)):=zhi (by rw [HYs.out]; simp)
   obtain ⟨iv,ov,lv,hrm⟩:=HF3.out.rs
   obtain ⟨I,rfl⟩:∃ I:Nat,a=(I:Int):=⟨a.toNat,by omega⟩
   rw [Int.toNat_natCast] at hm
   have hgn:=hrm.g.ln
   rw [← hgn,List.getElem?_map,Option.map_eq_some_iff] at hm
   obtain ⟨l,hl,rfl⟩:=hm
   obtain ⟨b,c8,hb,hc,hi⟩:=hrm.g.at_ I l hl
   have hlI:=(List.getElem?_eq_some_iff.1 hl).1
   obtain ⟨gc,hgv⟩:∃ c,K.gv=.slice (some ⟨K.gb,0,none⟩) (tick s).gl.length c:=by
    rcases hrm.g.sl with e | e
    ·rw [e] at hlI; simp at hlI
    ·exact e
   have c8':=cell_of_row _ _ 8 _ _ _ hrm.r
   rw [hgv] at c8'
   have hgl:s.gl[I]?=some l:=hl
   rw [z8M hgl] at HYr
   have dl:=hi.at_ (i:=0) (x:=l.getD 0 0) (by
    rw [List.getD_eq_getElem?_getD,List.getElem?_eq_getElem (by omega)]
    rfl)
   obtain ⟨z,hz⟩:∃ z,z=l.getD 0 0:=⟨_,rfl⟩
   rw [← hz] at dl HYr
   obtain ⟨m,hm⟩:∃ m,m=l.length:=⟨_,rfl⟩
   rw [← hm] at hc hm0
   obtain ⟨gn,hgn2⟩:∃ gn,gn=(tick s).gl.length:=⟨_,rfl⟩
   rw [← hgn2] at c8' hlI
   clear HX HL HC HE HP HD HW HF2 HX3 he HYs HF3 hrm hgn hl hb hi hgv hgl hz hm hgn2
   go_wp2_with fail
   go_region
   go_wp2_with fail
   obtain ⟨j0,j1,hr9,hg9⟩:=HT.out
   have HH:Hid (ZG p K lb nl dp Y w (.returned (.tuple #[.int .i64 z,.agg #[.int .i64 0,.int .i64 0]])) _):=zhi (by rw [HYr.out]; exact ⟨rfl,hr9,hg9⟩)
   clear hr9 hg9
   exact bodyPost_ret (by simp [results,Try.results70,go_sem,j0,j1]) rfl HH.out
  ·obtain ⟨rfl,ha,ha2,hl⟩:=hk
   have HYr:Hid (Y=zO K.ls (pnZ fs) C 4 o a xs (tick s)):=zhi (by rw [HYs.out]; simp)
   obtain ⟨d',rfl⟩:∃ d',dx=d'+1:=by
    cases dx with
    | zero=>rw [z1P he] at hl; simp at hl
    | succ d'=>exact ⟨d',rfl⟩
   clear he HYs HT
   have HCf:=zhi (op_z (HE.out d' rfl) HF3.out.rs HD.out (HP.out.low HF3.out.fr.lo) HX3.out hg (.inl ⟨rfl,ha,ha2,hl⟩) HW.out)
   clear HX HL HC HE HP HD HW z0 z1' f0 f1 HF2
   go_wp2_with fail
   refine HCf.out.mono ?_
   rintro e w4 ⟨rfl,hrs4,hfr4⟩
   have HF4:=zhi (HF3.out.call hrs4 hfr4)
   rw [← HYr.out] at HF4 ⊢
   clear hrs4 hfr4 HF3 HCf
   go_wp2_with (with_reducible refine z0f ?_)
   refine z08.of (z00 _ rfl _ _ _ rfl w.heap.size _ rfl (by rfl) _ _ HF4.out.z (by kernel_rfl) (by rfl) (by simp [Value.oneCell']) ?_)
   intro w9 hrow9 hg9
   obtain ⟨j0,j1⟩:=cl2 hrow9
   have hfin:=HF4.out.fin hg9
   have HH:Hid (ZG p K lb nl dp Y w (.returned (.tuple #[.int .i64 Y.1.1,.agg #[.int .i64 Y.1.2.1,.int .i64 Y.1.2.2]])) w9):=zhi ⟨rfl,hfin⟩
   clear hrow9 hg9 hfin
   go_wp2_with fail
   exact bodyPost_ret (by simp [results,Try.results70,go_sem,j0,j1]) rfl HH.out
  ·obtain ⟨rfl,hl⟩:=hk
   have HYr:Hid (Y=zO K.ls (pnZ fs) C 5 o a xs (tick s)):=zhi (by rw [HYs.out]; simp)
   obtain ⟨d',rfl⟩:∃ d',dx=d'+1:=by
    cases dx with
    | zero=>rw [z1P he] at hl; simp at hl
    | succ d'=>exact ⟨d',rfl⟩
   clear he HYs HT
   have HCf:=zhi (op_z (HE.out d' rfl) HF3.out.rs HD.out (HP.out.low HF3.out.fr.lo) HX3.out hg (.inr (.inl ⟨rfl,hl⟩)) HW.out)
   clear HX HL HC HE HP HD HW z0 z1' f0 f1 HF2
   go_wp2_with fail
   refine HCf.out.mono ?_
   rintro e w4 ⟨rfl,hrs4,hfr4⟩
   have HF4:=zhi (HF3.out.call hrs4 hfr4)
   rw [← HYr.out] at HF4 ⊢
   clear hrs4 hfr4 HF3 HCf
   go_wp2_with (with_reducible refine z0f ?_)
   refine z08.of (z00 _ rfl _ _ _ rfl w.heap.size _ rfl (by rfl) _ _ HF4.out.z (by kernel_rfl) (by rfl) (by simp [Value.oneCell']) ?_)
   intro w9 hrow9 hg9
   obtain ⟨j0,j1⟩:=cl2 hrow9
   have hfin:=HF4.out.fin hg9
   have HH:Hid (ZG p K lb nl dp Y w (.returned (.tuple #[.int .i64 Y.1.1,.agg #[.int .i64 Y.1.2.1,.int .i64 Y.1.2.2]])) w9):=zhi ⟨rfl,hfin⟩
   clear hrow9 hg9 hfin
   go_wp2_with fail
   exact bodyPost_ret (by simp [results,Try.results70,go_sem,j0,j1]) rfl HH.out
  ·obtain ⟨hk,hl⟩:=hk
   obtain ⟨d',rfl⟩:∃ d',dx=d'+1:=by
    cases dx with
    | zero=>rw [z1P he] at hl; simp at hl
    | succ d'=>exact ⟨d',rfl⟩
   rcases hk with rfl | rfl | rfl
   ·have HYr:Hid (Y=zO K.ls (pnZ fs) C 6 o a xs (tick s)):=zhi (by rw [HYs.out]; simp)
    clear he HYs HT
    have HCf:=zhi (op_z (HE.out d' rfl) HF3.out.rs HD.out (HP.out.low HF3.out.fr.lo) HX3.out hg (.inr (.inr ⟨.inl rfl,hl⟩)) HW.out)
    clear HX HL HC HE HP HD HW z0 z1' f0 f1 HF2
    go_wp2_with fail
    refine HCf.out.mono ?_
    rintro e w4 ⟨rfl,hrs4,hfr4⟩
    have HF4:=zhi (HF3.out.call hrs4 hfr4)
    rw [← HYr.out] at HF4 ⊢
    clear hrs4 hfr4 HF3 HCf
    go_wp2_with (with_reducible refine z0f ?_)
    refine z08.of (z00 _ rfl _ _ _ rfl w.heap.size _ rfl (by rfl) _ _ HF4.out.z (by kernel_rfl) (by rfl) (by simp [Value.oneCell']) ?_)
    intro w9 hrow9 hg9
    obtain ⟨j0,j1⟩:=cl2 hrow9
    have hfin:=HF4.out.fin hg9
    have HH:Hid (ZG p K lb nl dp Y w (.returned (.tuple #[.int .i64 Y.1.1,.agg #[.int .i64 Y.1.2.1,.int .i64 Y.1.2.2]])) w9):=zhi ⟨rfl,hfin⟩
    clear hrow9 hg9 hfin
    go_wp2_with fail
    exact bodyPost_ret (by simp [results,Try.results70,go_sem,j0,j1]) rfl HH.out
   ·have HYr:Hid (Y=zO K.ls (pnZ fs) C 7 o a xs (tick s)):=zhi (by rw [HYs.out]; simp)
    clear he HYs HT
    have HCf:=zhi (op_z (HE.out d' rfl) HF3.out.rs HD.out (HP.out.low HF3.out.fr.lo) HX3.out hg (.inr (.inr ⟨.inr (.inl rfl),hl⟩)) HW.out)
    clear HX HL HC HE HP HD HW z0 z1' f0 f1 HF2
    go_wp2_with fail
    refine HCf.out.mono ?_
    rintro e w4 ⟨rfl,hrs4,hfr4⟩
    have HF4:=zhi (HF3.out.call hrs4 hfr4)
    rw [← HYr.out] at HF4 ⊢
    clear hrs4 hfr4 HF3 HCf
    go_wp2_with (with_reducible refine z0f ?_)
    refine z08.of (z00 _ rfl _ _ _ rfl w.heap.size _ rfl (by rfl) _ _ HF4.out.z (by kernel_rfl) (by rfl) (by simp [Value.oneCell']) ?_)
    intro w9 hrow9 hg9
    obtain ⟨j0,j1⟩:=cl2 hrow9
    have hfin:=HF4.out.fin hg9
    have HH:Hid (ZG p K lb nl dp Y w (.returned (.tuple #[.int .i64 Y.1.1,.agg #[.int .i64 Y.1.2.1,.int .i64 Y.1.2.2]])) w9):=zhi ⟨rfl,hfin⟩
    clear hrow9 hg9 hfin
    go_wp2_with fail
    exact bodyPost_ret (by simp [results,Try.results70,go_sem,j0,j1]) rfl HH.out
   ·have HYr:Hid (Y=zO K.ls (pnZ fs) C 8 o a xs (tick s)):=zhi (by rw [HYs.out]; simp)
    clear he HYs HT
    have HCf:=zhi (op_z (HE.out d' rfl) HF3.out.rs HD.out (HP.out.low HF3.out.fr.lo) HX3.out hg (.inr (.inr ⟨.inr (.inr rfl),hl⟩)) HW.out)
    clear HX HL HC HE HP HD HW z0 z1' f0 f1 HF2
    go_wp2_with fail
    refine HCf.out.mono ?_
    rintro e w4 ⟨rfl,hrs4,hfr4⟩
    have HF4:=zhi (HF3.out.call hrs4 hfr4)
    rw [← HYr.out] at HF4 ⊢
    clear hrs4 hfr4 HF3 HCf
    go_wp2_with (with_reducible refine z0f ?_)
    refine z08.of (z00 _ rfl _ _ _ rfl w.heap.size _ rfl (by rfl) _ _ HF4.out.z (by kernel_rfl) (by rfl) (by simp [Value.oneCell']) ?_)
    intro w9 hrow9 hg9
    obtain ⟨j0,j1⟩:=cl2 hrow9
    have hfin:=HF4.out.fin hg9
    have HH:Hid (ZG p K lb nl dp Y w (.returned (.tuple #[.int .i64 Y.1.1,.agg #[.int .i64 Y.1.2.1,.int .i64 Y.1.2.2]])) w9):=zhi ⟨rfl,hfin⟩
    clear hrow9 hg9 hfin
    go_wp2_with fail
    exact bodyPost_ret (by simp [results,Try.results70,go_sem,j0,j1]) rfl HH.out
  ·have HYr:Hid (Y=z1k (zL K.ls (pnZ fs) C xs (tick s)) (C a)):=zhi (by rw [HYs.out]; simp)
   clear he HYs HT
   have HCf:=zhi (zcj HL.out HC.out HF3.out.rs HD.out (HP.out.low HF3.out.fr.lo) HX3.out hg ha ha2 hn HW.out)
   clear HX HL HC HE HP HD HW z0 z1' f0 f1 HF2
   go_wp2_with fail
   refine HCf.out.mono ?_
   rintro e w4 ⟨rfl,hrs4,hfr4⟩
   have HF4:=zhi (HF3.out.call hrs4 hfr4)
   rw [← HYr.out] at HF4 ⊢
   clear hrs4 hfr4 HF3 HCf
   go_wp2_with (with_reducible refine z0f ?_)
   refine z08.of (z00 _ rfl _ _ _ rfl w.heap.size _ rfl (by rfl) _ _ HF4.out.z (by kernel_rfl) (by rfl) (by simp [Value.oneCell']) ?_)
   intro w9 hrow9 hg9
   obtain ⟨j0,j1⟩:=cl2 hrow9
   have hfin:=HF4.out.fin hg9
   have HH:Hid (ZG p K lb nl dp Y w (.returned (.tuple #[.int .i64 Y.1.1,.agg #[.int .i64 Y.1.2.1,.int .i64 Y.1.2.2]])) w9):=zhi ⟨rfl,hfin⟩
   clear hrow9 hg9 hfin
   go_wp2_with fail
   exact bodyPost_ret (by simp [results,Try.results70,go_sem,j0,j1]) rfl HH.out
  ·have HYr:Hid (Y=z1k (zL K.ls (pnZ fs) C xs (tick s)) (z1v (pnZ fs) C)):=zhi (by rw [HYs.out]; simp)
   clear he HYs HT
   have HCf:=zhi (zck HL.out HC.out HF3.out.rs HD.out (HP.out.low HF3.out.fr.lo) HX3.out hg hn1 hn HW.out)
   clear HX HL HC HE HP HD HW z0 z1' f0 f1 HF2
   go_wp2_with fail
   refine HCf.out.mono ?_
   rintro e w4 ⟨rfl,hrs4,hfr4⟩
   have HF4:=zhi (HF3.out.call hrs4 hfr4)
   rw [← HYr.out] at HF4 ⊢
   clear hrs4 hfr4 HF3 HCf
   go_wp2_with (with_reducible refine z0f ?_)
   refine z08.of (z00 _ rfl _ _ _ rfl w.heap.size _ rfl (by rfl) _ _ HF4.out.z (by kernel_rfl) (by rfl) (by simp [Value.oneCell']) ?_)
   intro w9 hrow9 hg9
   obtain ⟨j0,j1⟩:=cl2 hrow9
   have hfin:=HF4.out.fin hg9
   have HH:Hid (ZG p K lb nl dp Y w (.returned (.tuple #[.int .i64 Y.1.1,.agg #[.int .i64 Y.1.2.1,.int .i64 Y.1.2.2]])) w9):=zhi ⟨rfl,hfin⟩
   clear hrow9 hg9 hfin
   go_wp2_with fail
   exact bodyPost_ret (by simp [results,Try.results70,go_sem,j0,j1]) rfl HH.out
theorem z35 (hC:z4O p K D d fs nd C):∀ dx,z86 p K D d fs nd C dx
 | 0=>zbM (fun d' h=>by omega) hC
 | dx+1=>zbM (fun d' h=>by
   have e:dx=d':=by omega
   rw [← e]
   exact z35 hC dx) hC
end
end Go.Proofs.Ytleicdfkagejoaa
namespace Go.Proofs.Ytleicdfkagejoaa
open Go.RowKit
def PtrT (p:Nat) (w:World) (D d g q:Nat):Sn→Prop
 | .mk k n es ts us=>∃ eA ec tA tc uA uc,w.cell? ⟨g,q,none⟩=some (.int .i64 k)∧w.cell? ⟨g,q+1,none⟩=some (.int .i64 n)∧w.cell? ⟨g,q+2,none⟩=some (.slice eA es.length ec)∧w.cell? ⟨g,q+3,none⟩=some (.slice tA ts.length tc)∧w.cell? ⟨g,q+4,none⟩=some (.slice uA us.length uc) ∧
   RowE (fun b=>b<p) w D es eA ec∧RowG 5 (MSn D d) (fun b=>b<p) w ts tA tc∧RowG 5 (MSn D d) (fun b=>b<p) w us uA uc
theorem PtrT.low {p:Nat} {w w':World} {D d g q:Nat} {t:Sn} (h:PtrT p w D d g q t) (hg:g<p) (hb:Below p w w'):PtrT p w' D d g q t:=by
 obtain ⟨k,n,es,ts,us⟩:=t
 obtain ⟨eA,ec,tA,tc,uA,uc,e0,e1,e2,e3,e4,r1,r2,r3⟩:=h
 have e:∀ o,w'.cell? ⟨g,o,none⟩=w.cell? ⟨g,o,none⟩:=fun o=>World.cell?_of_block (hb.block g hg)
 exact ⟨eA,ec,tA,tc,uA,uc,(e _).trans e0,(e _).trans e1,(e _).trans e2,(e _).trans e3,(e _).trans e4,r1.keep (fun _ h=>h) (fun b hb'=>hb.block b hb'),z0k (z0Q D d) (fun _ h=>h) (fun b hb'=>hb.block b hb') r2,z0k (z0Q D d) (fun _ h=>h) (fun b hb'=>hb.block b hb') r3⟩
theorem zb8 {p:Nat} {w:World} {D d:Nat} {ts:List Sn} {A:Option Addr} {c i:Nat} {t:Sn} (h:RowG 5 (MSn D (d+1)) (fun b=>b<p) w ts A c) (hi:ts[i]?=some t):∃ g,A=some ⟨g,0,none⟩∧g<p∧PtrT p w D d g (i * 5) t:=by
 obtain ⟨g,cs,hA,hg,hcs,hc,hv⟩:=h.2 i t hi
 obtain ⟨k,n,es,us,vs⟩:=t
 obtain ⟨eA,ec,tA,tc,uA,uc,rfl,r1,r2,r3⟩:=hv
 exact ⟨g,hA,hg,eA,ec,tA,tc,uA,uc,hc 0 _ rfl,hc 1 _ rfl,hc 2 _ rfl,hc 3 _ rfl,hc 4 _ rfl,r1,r2,r3⟩
theorem z9N {F:Nat→Prop} {w:World} {D:Nat} {ts:List Sn} {A:Option Addr} {c:Nat} (h:RowG 5 (MSn D 0) F w ts A c):ts=[]:=by
 cases ts with
 | nil=>rfl
 | cons t ts =>
  obtain ⟨_,_,_,_,_,_,hv⟩:=h.2 0 t rfl
  exact hv.elim
section
variable {p:Nat} {K:RK} {D d:Nat} {fs:List Fz} {nd:Nat} {C:Cz}
set_option maxRecDepth 10000 in
set_option maxHeartbeats 8000000 in
theorem zd3 (hC:z4O p K D d fs nd C) {dt:Nat} {lb nl:Nat} {dp:Int} {s:Sx} {g q:Nat} {k n v:Int} {x y:Ex} {es:List Ex} {ts us:List Sn} {w:World} (h:RunS p K lb nl dp s w) (hd:DpZ K dp nd) (hP:PrgZ p K D d fs w) (hx:PtrT p w D dt g q (.mk k n (x :: y :: es) ts us)) (hg:g<p)
  (hn:0≤n) (hn2:n.toNat<K.gs.length) (hw:wzX nl K.gs fs.length y) :
  Calls Try.prog 71 #[.pointer (some ⟨p,0,none⟩),.pointer (some ⟨g,q,none⟩),.int .i64 v] w (ZE p K lb nl dp (z1I (zX K.ls (pnZ fs) C y s) (zSt n v)) w):=by
 have hF:=zhi (FwZ.new h)
 have hb1:=(Below.refl _ w).alloc (Nat.le_refl _) (.cells #[.int .i64 0,.int .i64 0] 59)
 have hlo:Below p w (w.alloc (.cells #[.int .i64 0,.int .i64 0] 59)):=hF.out.fr.lo
 obtain ⟨eA,ec,tA,tc,uA,uc,_,_,d2,_,_,he,_,_⟩:=hx.low hg hlo
 obtain ⟨kx,ox,ax,lx,nx,ys⟩:=y
 obtain ⟨dx,rfl⟩:∃ dx,D=dx+1:=by
  cases D with
  | zero=>have:=z1P he; simp at this
  | succ dx=>exact ⟨dx,rfl⟩
 obtain ⟨g',off,rfl,hg',hp'⟩:=z1W (i:=1) he rfl
 have HCx:=zhi (z35 hC dx lb nl dp s g' (off+1 * 6) kx ox ax lx nx ys _ (h.below hb1) hd (hP.low hlo) hp' hg' hw)
 rw [Nat.one_mul] at HCx
 have HX:=zhi (fun (w':World) (hb:Below p w w')=>hx.low hg hb)
 have hpos:(1:Int)<((x :: Ex.mk kx ox ax lx nx ys :: es).length:Int):=by simp; omega
 obtain ⟨W,hW⟩:∃ W,W=w.alloc (.cells #[.int .i64 0,.int .i64 0] 59):=⟨_,rfl⟩
 rw [← hW] at hF d2 HCx
 obtain ⟨y1,hy1⟩:∃ y1,y1=zX K.ls (pnZ fs) C (.mk kx ox ax lx nx ys) s:=⟨_,rfl⟩
 rw [← hy1] at HCx ⊢
 obtain ⟨⟨v1,k1,t1⟩,s1⟩:=y1
 obtain ⟨Y,hY⟩:∃ Y,Y=z1I ((v1,k1,t1),s1) (zSt n v):=⟨_,rfl⟩
 rw [← hY]
 have HY:=zhi hY
 obtain ⟨el,hel⟩:∃ el,el=(x :: Ex.mk kx ox ax lx nx ys :: es).length:=⟨_,rfl⟩
 rw [← hel] at d2 hpos
 have hpos':1<el:=by omega
 have hpw:=hF.out.p
 clear hx he hP hd hw h hb1 hlo hp' hg' hy1 hY hel
 go_enter Try.func71,Try.ntmps71
 go_upto_region 1 with fail
 rw [← hW]
 clear hW
 go_wp2_with fail
 refine HCx.out.mono ?_
 rintro e w2 ⟨rfl,hrs2,hfr2⟩
 dsimp only at hrs2 ⊢
 have HF2:=zhi (hF.out.call hrs2 hfr2)
 have HF3:=zhi (HF2.out.alloc (.cells #[.int .i64 k1,.int .i64 t1] 59))
 have hE3:=heap_alloc_new w2 (.cells #[.int .i64 k1,.int .i64 t1] 59)
 have HEr:=zhi hE3
 have HEf:Hid (z2o p K lb (w2.alloc (.cells #[.int .i64 k1,.int .i64 t1] 59)) w2.heap.size):=zhi (z19 (HF2.out.rs.free (Nat.le_refl _)) ((Below.refl _ _).alloc (Nat.le_refl _) _) HF2.out.wp)
 obtain ⟨e0,e1⟩:=cl2 hE3
 have hs2:=HF2.out.lt
 clear hrs2 hfr2 hE3 hF HCx d2 HF2
 by_cases h0:k1=0
 ·subst h0
  have HYz:Hid (Y=zSt n v v1 s1):=zhi (by rw [HY.out]; rfl)
  have HEl:=zhi (z5C HF3.out.rs n v hn hn2)
  obtain ⟨eA4,ec4,tA4,tc4,uA4,uc4,_,d1,_,_,_,_,_,_⟩:=HX.out _ HF3.out.fr.lo
  clear HY HX
  go_wp2_with fail
  refine HEl.out.mono ?_
  rintro e w4 ⟨he4,hrs4,hfr4⟩
  have HF4:=zhi (HF3.out.call hrs4 hfr4)
  have HEr4:=zhi (hfr4.at_ HEf.out HEr.out)
  have HEf4:=zhi (hfr4.free (Array.getElem?_eq_some_iff.1 HEr.out).1 HEf.out)
  clear hrs4 hfr4 HEl HF3 HEr HEf d1 e0 e1
  rcases he4 with ⟨hv0,hv1,b4,hb4,rfl⟩ | ⟨hne,rfl⟩
  ·have HYe:Hid (Y=((0,0,0),setG s1 n v v1)):=zhi (by rw [HYz.out]; exact if_pos ⟨hv0,hv1⟩)
   go_wp2_with (with_reducible refine z0f ?_)
   refine z08.of (z00 _ rfl _ _ _ rfl w2.heap.size _ rfl (by rfl) _ _ HEr4.out (by kernel_rfl) (by rfl) (by simp [Value.oneCell']) ?_)
   intro w5 hrow5 hg5
   have hF5:=HF4.out.put hg5 HEf4.out (by omega) (by omega)
   have hEf5:=z3O HEf4.out hg5 HF4.out.wp HEf4.out.1
   obtain ⟨iv,ov,lv,hrm⟩:=hF5.rs
   have hal:n.toNat<s1.gl.length:=by
    have hl:=hrm.g.ln
    have:s1.gl.length=K.gs.length:=by rw [← hl,List.length_map]
    omega
   have eg:glAt s1 n=s1.gl[n.toNat]:=by unfold glAt; rw [List.getD_eq_getElem?_getD,List.getElem?_eq_getElem hal]; rfl
   obtain ⟨b5,c5,q1,q2,q3⟩:=hrm.g.at_ n.toNat _ (List.getElem?_eq_getElem hal)
   rw [hb4] at q1
   injection q1 with q1
   subst q1
   have hvl:v.toNat<(s1.gl[n.toNat]).length:=by rw [← eg]; omega
   obtain ⟨z0,hz0⟩:∃ z,(s1.gl[n.toNat])[v.toNat]?=some z:=⟨_,List.getElem?_eq_getElem hvl⟩
   have pc:=q3.at_ hz0
   have pf:=z09 q3 v.toNat
   obtain ⟨hr6,hf6⟩:=hrm.setG (n:=n.toNat) (j:=v.toNat) (x:=v1) (List.getElem?_eq_getElem hal) hb4
   have HF6:=zhi (hF5.call ⟨iv,ov,lv,hr6⟩ hf6)
   have esg:({ s1 with gl:=s1.gl.set n.toNat ((s1.gl[n.toNat]).set v.toNat v1) }:Sx)=setG s1 n v v1:=by
    unfold setG
    rw [eg]
   rw [esg] at HF6
   have hE6:=hf6.at_ hEf5 hrow5
   have x0':=cell_of_row _ _ 0 _ _ _ hrow5
   have x1':=cell_of_row _ _ 1 _ _ _ hrow5
   obtain ⟨x0,x1⟩:=cl2 hE6
   obtain ⟨I,hI⟩:∃ I,I=v.toNat:=⟨_,rfl⟩
   rw [← hI] at pc pf HF6 x0 x1 ⊢
   have hbne:w2.heap.size≠b4:=fun e=>by
    have:=hEf5.2.2.1
    exact this (e ▸ List.mem_of_getElem? hb4)
   clear hF5 hEf5 hrm hz0 hal eg q2 q3 hvl hr6 hf6 esg hE6 hrow5 hg5 hI HF4 HEr4 HEf4 HYz hb4 hv0 hv1
   dsimp only [Act.put]
   go_upto_region 7 with fail
   go_wp2_with (with_reducible refine z0f ?_)
   refine z08.of (z00 _ rfl _ _ _ rfl w.heap.size _ rfl (by rfl) _ _ HF6.out.z (by kernel_rfl) (by rfl) (by simp [Value.oneCell']) ?_)
   intro w9 hrow9 hg9
   obtain ⟨j0,j1⟩:=cl2 hrow9
   have hfin:=HF6.out.fin hg9
   have HH:Hid (ZE p K lb nl dp Y w (.returned (.agg #[.int .i64 0,.int .i64 0])) w9):=zhi (by rw [HYe.out]; exact ⟨rfl,hfin⟩)
   clear hrow9 hg9 hfin
   go_wp2_with fail
   exact bodyPost_ret (by simp [results,Try.results71,go_sem,j0,j1]) rfl HH.out
  ·have HYe:Hid (Y=((0,2,2),s1)):=zhi (by rw [HYz.out]; exact if_neg hne)
   go_wp2_with (with_reducible refine z0f ?_)
   refine z08.of (z00 _ rfl _ _ _ rfl w2.heap.size _ rfl (by rfl) _ _ HEr4.out (by kernel_rfl) (by rfl) (by simp [Value.oneCell']) ?_)
   intro w5 hrow5 hg5
   have HF5:=zhi (HF4.out.put hg5 HEf4.out (by omega) (by omega))
   obtain ⟨x0,x1⟩:=cl2 hrow5
   clear hrow5 hg5 HF4 HEr4 HEf4 HYz hne
   dsimp only [Act.put]
   go_upto_region 7 with fail
   go_wp2_with (with_reducible refine z0f ?_)
   refine z08.of (z00 _ rfl _ _ _ rfl w.heap.size _ rfl (by rfl) _ _ HF5.out.z (by kernel_rfl) (by rfl) (by simp [Value.oneCell']) ?_)
   intro w9 hrow9 hg9
   obtain ⟨j0,j1⟩:=cl2 hrow9
   have hfin:=HF5.out.fin hg9
   have HH:Hid (ZE p K lb nl dp Y w (.returned (.agg #[.int .i64 2,.int .i64 2])) w9):=zhi (by rw [HYe.out]; exact ⟨rfl,hfin⟩)
   clear hrow9 hg9 hfin
   go_wp2_with fail
   exact bodyPost_ret (by simp [results,Try.results71,go_sem,j0,j1]) rfl HH.out
 ·have HYe:Hid (Y=((0,k1,t1),s1)):=zhi (by rw [HY.out]; exact if_neg h0)
  have h0':(k1 != 0)=true:=by simp [h0]
  clear h0 HY HX HEr HEf
  go_upto_region 3 with fail
  go_wp2_with (with_reducible refine z0f ?_)
  refine z08.of (z00 _ rfl _ _ _ rfl w.heap.size _ rfl (by rfl) _ _ HF3.out.z (by kernel_rfl) (by rfl) (by simp [Value.oneCell']) ?_)
  intro w9 hrow9 hg9
  obtain ⟨j0,j1⟩:=cl2 hrow9
  have hfin:=HF3.out.fin hg9
  have HH:Hid (ZE p K lb nl dp Y w (.returned (.agg #[.int .i64 k1,.int .i64 t1])) w9):=zhi (by rw [HYe.out]; exact ⟨rfl,hfin⟩)
  clear hrow9 hg9 hfin
  go_wp2_with fail
  exact bodyPost_ret (by simp [results,Try.results71,go_sem,j0,j1]) rfl HH.out
end
end Go.Proofs.Ytleicdfkagejoaa
