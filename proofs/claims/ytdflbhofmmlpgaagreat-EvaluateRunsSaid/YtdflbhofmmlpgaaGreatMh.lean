/-
  Mh: Zw, Yj, Yk. Part of the proof. No condition.
-/
import Derived.Test.YtdflbhofmmlpgaaGreatMg
import Derived.Laws.IdiomCopy
import Derived.Laws.CopyRow
import Derived.Test.YtdflbhofmmlpgaaGreatMe
set_option maxRecDepth 100000
set_option maxHeartbeats 8000000
namespace Go.Proofs.YtdflbhofmmlpgaaGreat
open Go.RowKit
theorem z8z (W:World) {b n:Nat} (hb:IntB W b (List.replicate n 0)) (A:Option Addr) (m c:Nat) (args:List Int) (hl:args.length=m) (hr:Rd W A (args.map (Value.int .i64))) :
  ∃ W',(Builtin.copy_ #[23,23] 3 #[.slice (some ⟨b,0,none⟩) n n,.slice A m c]).run Tryz.prog W=.ok (.int .i64 ((Nat.min m n:Nat):Int)) W'/\IntB W' b (args.take n++List.replicate (n - args.length) 0)/\W.grownBy W' (some b):=by
 have hs:(Tryz.prog.info? 3).map (·.size)=some 1:=by kernel_rfl
 by_cases h0:Nat.min m n=0
 ·refine ⟨W,?_,?_,⟨rfl,rfl,rfl,q_2 _,fun _ _ _=>rfl⟩⟩
  ·have:=run_copy_none (P:=Tryz.prog) W 23 23 3 3 (some ⟨b,0,none⟩) A n n m c Tryz.underlying23 hs h0;rw [this,h0];rfl
  ·have e:args.take n++List.replicate (n - args.length) 0=List.replicate n 0:=by
    rcases (by have h:min m n=0:=h0; omega:m=0\/n=0) with h | h
    ·have ha:args=[]:=q_g (by omega);rw [ha]; simp
    ·rw [h]; simp
   rw [e];exact hb
 ·have hm0:args.map (Value.int .i64)≠[]:=fun e=>by
   have:args.length=0:=by
    have:=congrArg List.length e;simpa using this
   apply h0
   show min m n=0
   omega
  obtain ⟨ad,rfl⟩:=hr.some_ hm0;have hcl:((args.take n).map (Value.int .i64)).length=Nat.min m n:=by
   rw [List.length_map,List.length_take,hl,Nat.min_comm]
  have h:=run_copy_row (P:=Tryz.prog) W 23 23 3 3 b 0 n n ad m c _ _ ((args.take n).map (Value.int .i64)) Tryz.underlying23 hs hb hcl (fun j v hv=>hr.cells j v (by
   rw [List.map_take,List.getElem?_take] at hv;split at hv
   ·exact hv
   ·cases hv)) (by rw [hcl]; simp; exact Nat.min_le_right _ _) (fun v hv=>by
   obtain ⟨x,_,rfl⟩:=List.mem_map.1 hv;rfl)
  have e:((List.map (Value.int .i64) (List.replicate n 0)).toArray.toList.take 0++(args.take n).map (Value.int .i64)++(List.map (Value.int .i64) (List.replicate n 0)).toArray.toList.drop (0+((args.take n).map (Value.int .i64)).length)).toArray=((args.take n++List.replicate (n - args.length) 0).map (Value.int .i64)).toArray:=by
   rw [hcl];have e2:n - Nat.min m n=n - args.length:=by
    rw [hl]
    show n - min m n=n - m
    omega
   simp only [List.take_zero,List.nil_append,Nat.zero_add,List.map_append,List.map_replicate,List.drop_replicate,e2]
  rw [e,hcl] at h;have hib:IntB (W.setRow b ((args.take n++List.replicate (n - args.length) 0).map (Value.int .i64)).toArray) b (args.take n++List.replicate (n - args.length) 0):=setRow_heap W b _ _ _ (0,0) hb;have hgr:W.grownBy (W.setRow b ((args.take n++List.replicate (n - args.length) 0).map (Value.int .i64)).toArray) (some b):=⟨rfl,rfl,rfl,by simp,fun i _ hne=>setRow_other W b i _ (fun e=>hne (by rw [e]))⟩;have hgi:goInt ((Nat.min m n:Nat):Int)=.int .i64 ((Nat.min m n:Nat):Int):=rfl;rw [hgi] at h;exact ⟨W.setRow b ((args.take n++List.replicate (n - args.length) 0).map (Value.int .i64)).toArray,h,hib,hgr⟩
section
variable {p:Nat} {K:RK} {D d:Nat} {fs:List Fz} {nd:Nat} {C:Cz}
theorem FrZ.swap {lb lb2:Nat} {w w1 w2:World} (h:FrZ p K lb w w1) (k:FrZ p K lb2 w1 w2) (hb:w.heap.size<=lb2):FrZ p K lb w w2 :=
 ⟨h.lo.trans k.lo,fun b hb' h1 h2 h3 h4=>(k.keep b (q_1 hb' h.lo.size) h1 (by omega) h3 (fun e=>by
  rcases h.own b e with e2 | e2
  ·exact h4 e2
  ·omega)).trans (h.keep b hb' h1 h2 h3 h4),fun b e=>by
  rcases k.own b e with e1 | e1
  ·exact h.own b e1
  ·exact .inr (q_9 h.lo.size e1)⟩
theorem zaB {lb nl:Nat} {dp:Int} {s:Sx} {f:Int} {A:Option Addr} {n c:Nat} {w:World} (h:RunS p K lb nl dp s w) (hd:K.ld<=dp) :
  Calls Tryz.prog 18 #[.pointer (some ⟨p,0,none⟩),.int .i64 f,.slice A n c] w (ZG p K lb nl dp ((0,3,0),s) w):=by
 have hF:=zhi (FwZ.new h);obtain ⟨iv,ov,lv,hrm⟩:=hF.out.rs;have c3:=zcr 3 hrm.r;have c5:=zcr 5 hrm.r;have i1:(K.ld<=dp)=True:=eq_true hd;obtain ⟨Y,hY⟩:∃ Y:Rz,Y=((0,3,0),s):=⟨_,rfl⟩;rw [<- hY];have HY:=zhi hY;obtain ⟨W,hW⟩:∃ W,W=w.alloc (.cells #[.int .i64 0,.int .i64 0] 61):=⟨_,rfl⟩;rw [<- hW] at hF c3 c5;clear h hrm hY hd;go_enter Tryz.func18,Tryz.ntmps18;go_upto_region 1 with fail;rw [<- hW];clear hW;go_quiet (fail);have HF2:=zhi (hF.out.drewN nq);go_wp2_with (with_reducible refine z0d ?_);refine z07.of (z00 _ rfl _ _ _ rfl w.heap.size _ rfl (by rfl) _ _ HF2.out.z (by kernel_rfl) (by rfl) (by simp [Value.oneCell']) ?_);intro w9 hrow9 hg9;obtain ⟨j0,j1⟩:=cl2 hrow9;have hfin:=HF2.out.fin hg9;have HH:Hid (ZG p K lb nl dp Y w (.returned (.tuple #[.int .i64 0,.agg #[.int .i64 3,.int .i64 0]])) w9):=zhi (by rw [HY.out]; exact ⟨rfl,hfin⟩);clear hrow9 hg9 hfin;go_wp2_with fail;exact q_3 (by simp [results,Tryz.results18,go_sem,j0,j1]) rfl HH.out
theorem z8x {n0:Nat} {lb nl:Nat} {dp:Int} {s:Sx} {f:Int} {args:List Int} {A:Option Addr} {n c:Nat} {w:World} {F:Fz} (hB:z5u p K D d fs n0 C d) (h:RunS p K lb nl dp s w) (hd:dp+1+n0=K.ld) (hP:PrgZ p K D d fs w) (hf:0<=f) (hf2:fs[f.toNat]?=some F) (hl:args.length=n) (_:n<=c) (_:n<=1000) (hr:Rd w A (args.map (Value.int .i64))) (Y:Rz)
  (hY:Y=(((zB K.ls (pnZ fs) C F.body { s with lv:=args.take F.locals++List.replicate (F.locals - args.length) 0 }).1.1,retK (zB K.ls (pnZ fs) C F.body { s with lv:=args.take F.locals++List.replicate (F.locals - args.length) 0 }).1.2.1,(zB K.ls (pnZ fs) C F.body { s with lv:=args.take F.locals++List.replicate (F.locals - args.length) 0 }).1.2.2),{ (zB K.ls (pnZ fs) C F.body { s with lv:=args.take F.locals++List.replicate (F.locals - args.length) 0 }).2 with lv:=s.lv })) :
  Calls Tryz.prog 18 #[.pointer (some ⟨p,0,none⟩),.int .i64 f,.slice A n c] w (ZG p K lb nl dp Y w):=by
 have hF:=zhi (FwZ.new h);obtain ⟨N,rfl⟩:∃ N:Nat,f=(N:Int):=⟨f.toNat,by omega⟩;rw [Int.toNat_natCast] at hf2;obtain ⟨hwz,hFl,hFp,hFb⟩:=hP.wz N F hf2;have hb1:=(q_i _ w).alloc (q_2 _) (.cells #[.int .i64 0,.int .i64 0] 61);have hrW:=hr.below hb1;obtain ⟨iv,ov,lv,hrm⟩:=hF.out.rs;have hdp:=hrm.dp;obtain ⟨lA,ll,lc,rfl⟩:∃ lA ll lc,lv=.slice lA ll lc:=by
  rcases hrm.l.2 with ⟨_,_,e⟩ | ⟨_,_,_,⟨c,e⟩,_⟩
  ·exact ⟨_,_,_,e⟩
  ·exact ⟨_,_,_,e⟩
 have i1:(K.ld<=dp)=False:=eq_false (by omega);obtain ⟨fA,fc,hfn,hrow⟩:=(hP.low hF.out.fr.lo).fn;obtain ⟨fg,cs,rfl,hfg,hcs,hcell,⟨bA,bc,rfl,hbody⟩⟩:=hrow.2 N F hf2;have d0:=hcell 0 _ rfl;have d1:=hcell 1 _ rfl;have d2:=hcell 2 _ rfl;rw [Nat.add_zero] at d0;have hNl:=(List.getElem?_eq_some_iff.1 hf2).1;have c1:=zcr 1 hrm.r;rw [hfn] at c1;have c3:=zcr 3 hrm.r;have c5:=zcr 5 hrm.r;have c9:=zcr 9 hrm.r;obtain ⟨fl,hfl⟩:∃ fl,fl=fs.length:=⟨_,rfl⟩;rw [<- hfl] at c1 hNl;have HRm:=zhi hrm;have HB:=zhi hB;have HP:=zhi hP;have HRd:=zhi hrW;have HY:=zhi hY;have Hwz:=zhi hwz;have Hl:=zhi hl;have Hd:=zhi hd;have HBo:=zhi hbody;have hpw:=hF.out.p;have hfgW:fg<w.heap.size:=by omega
 obtain ⟨P,hPP⟩:∃ P,P=F.params:=⟨_,rfl⟩;obtain ⟨L,hL⟩:∃ L,L=F.locals:=⟨_,rfl⟩;obtain ⟨bl,hbl⟩:∃ bl,bl=F.body.length:=⟨_,rfl⟩;rw [<- hPP] at d0;rw [<- hL] at d1 hFl;rw [<- hbl] at d2 hFb;have HL:=zhi hL;have Hbl:=zhi hbl;clear hB h hP hr hY hwz hb1 hrW hrm hfn hrow hcell hcs hf2 hbody hl hd hfl hPP hL hbl hf;go_enter Tryz.func18,Tryz.ntmps18;go_wp2_with fail;go_quiet (fail);go_wp2_with fail;go_region;have hb3:=(z17 (q_i (w.alloc (.cells #[.int .i64 0,.int .i64 0] 61)).heap.size (w.alloc (.cells #[.int .i64 0,.int .i64 0] 61))) (nq+1)).alloc (q_2 _) (.cells #[.int .i64 (P:Int),.int .i64 (L:Int),.slice bA bl bc] 103);have hF3:=hF.out.low hb3;have hV3:(((w.alloc (.cells #[.int .i64 0,.int .i64 0] 61)).drewN (nq+1)).alloc (.cells #[.int .i64 (P:Int),.int .i64 (L:Int),.slice bA bl bc] 103)).heap[w.heap.size+1]?=some (.cells #[.int .i64 (P:Int),.int .i64 (L:Int),.slice bA bl bc] 103 (0,0)):=by
  have:=q_4 ((w.alloc (.cells #[.int .i64 0,.int .i64 0] 61)).drewN (nq+1)) (.cells #[.int .i64 (P:Int),.int .i64 (L:Int),.slice bA bl bc] 103);simpa using this
 have hrm3:=HRm.out.keep hb3.size (fun b hb _=>hb3.block b hb);have hrd3:=HRd.out.below hb3;have hsz3:w.heap.size+1<(((w.alloc (.cells #[.int .i64 0,.int .i64 0] 61)).drewN (nq+1)).alloc (.cells #[.int .i64 (P:Int),.int .i64 (L:Int),.slice bA bl bc] 103)).heap.size:=(q_0.1 hV3).1;have hbo3:=zhi (fun (w':World) (hb:Below p w w')=>HP.out.low hb);have HBo3:=zhi (z0j (G:=fun b=>b<p) (z0P D d) (fun _ h=>h) (fun b hb'=>hb3.block b (by have:=HRm.out.plt; omega)) HBo.out);obtain ⟨W3,hW3⟩:∃ W3,W3=(((w.alloc (.cells #[.int .i64 0,.int .i64 0] 61)).drewN (nq+1)).alloc (.cells #[.int .i64 (P:Int),.int .i64 (L:Int),.slice bA bl bc] 103)):=⟨_,rfl⟩;rw [<- hW3] at hF3 hV3 hrm3 hrd3 hsz3 HBo3 ⊢;clear hW3 hb3 c1 c3 c5 c9 d0 d1 d2 i1;have f1:=zcr 1 hV3;have hmk:=z1Q W3 L (by omega);have p9':=zcr 9 hrm3.r;have q9':=z09 hrm3.r 9;have hplt3:=hrm3.plt;have hg34:W3.grownBy (W3.setCell ⟨p,9,none⟩ (.slice (some ⟨W3.heap.size,0,none⟩) L L)) (some p):=z03 _ ⟨p,9,none⟩ _;have hr4:RnP p ⟨K.sz,K.fn,K.ls,K.ld,s.st,dp,iv,ov,K.gv,.slice (some ⟨W3.heap.size,0,none⟩) L L⟩ (W3.setCell ⟨p,9,none⟩ (.slice (some ⟨W3.heap.size,0,none⟩) L L)):=z0a (i:=9) _ hrm3.r;have hb45:=(q_i _ (W3.setCell ⟨p,9,none⟩ (.slice (some ⟨W3.heap.size,0,none⟩) L L))).alloc (q_2 _) (.cells (Array.replicate L (Value.int .i64 0)) 3);have hsz34:(W3.setCell ⟨p,9,none⟩ (.slice (some ⟨W3.heap.size,0,none⟩) L L)).heap.size=W3.heap.size:=by simp
 have hz5:IntB ((W3.setCell ⟨p,9,none⟩ (.slice (some ⟨W3.heap.size,0,none⟩) L L)).alloc (.cells (Array.replicate L (Value.int .i64 0)) 3)) W3.heap.size (List.replicate L 0):=by
  have:=q_4 (W3.setCell ⟨p,9,none⟩ (.slice (some ⟨W3.heap.size,0,none⟩) L L)) (.cells (Array.replicate L (Value.int .i64 0)) 3);rw [hsz34] at this;unfold IntB;rw [this];simp
 have HF3:=zhi hF3;have HV3:=zhi hV3;have HM3:=zhi hrm3;have HRd3:=zhi hrd3;clear hF3 hV3 hrm3 hrd3 HRm hF HRd HBo;go_upto_region 5 with fail;obtain ⟨W4,hW4⟩:∃ W4,W4=W3.setCell ⟨p,9,none⟩ (.slice (some ⟨W3.heap.size,0,none⟩) L L):=⟨_,rfl⟩;have hrd4:Rd W4 A (args.map (Value.int .i64)):=by
  intro j u hu;obtain ⟨ad,e,hc⟩:=HRd3.out j u hu;refine ⟨ad,e,?_⟩;rw [hW4];obtain ⟨x,_,rfl⟩:=List.mem_map.1 (q_a hu)
  by_cases hq:(ad.add j)=⟨p,9,none⟩
  ·rw [hq] at hc;have p9c:W3.cell? ⟨p,9,none⟩=some (.slice lA ll lc):=zcr 9 HM3.out.r;rw [p9c] at hc;cases hc
  ·rw [World.cell?_setCell_other _ _ _ _ (fun e2=>hq e2.symm)];exact hc
 rw [<- hW4] at hg34 hr4 hb45 hsz34 hz5;have hrd5:=hrd4.below hb45;have hr5:=(hb45.block p (by omega)).trans hr4;obtain ⟨W6,hcp,hz6,hg56⟩:=z8z _ hz5 A n c args Hl.out hrd5;rw [<- hW4];obtain ⟨W5,hW5⟩:∃ W5,W5=W4.alloc (.cells (Array.replicate L (Value.int .i64 0)) 3):=⟨_,rfl⟩;rw [<- hW5] at hb45 hr5 hcp hg56 ⊢;clear hW4 hW5 hmk hz5 hrd5 hrd4 p9' q9' f1;have p9:=zcr 9 hr5;have hr6:=z04 hg56 (by omega) hr5;have p5:=zcr 5 hr6;have q5:=z09 hr6 5;have hg67:W6.grownBy (W6.setCell ⟨p,5,none⟩ (.int .i64 (dp+1))) (some p):=z03 _ ⟨p,5,none⟩ _;have hg37:W3.grownBy (W6.setCell ⟨p,5,none⟩ (.int .i64 (dp+1))) (some p):=(z0r (hg34.trans (z02 hb45 (some p))) hg56 (q_2 _)).trans hg67;have hr7:RnP p ⟨K.sz,K.fn,K.ls,K.ld,s.st,dp+1,iv,ov,K.gv,.slice (some ⟨W3.heap.size,0,none⟩) L L⟩ (W6.setCell ⟨p,5,none⟩ (.int .i64 (dp+1))):=z0a (i:=5) _ hr6;have hz7:=hz6.grown hg67 (by omega);have hfree:z2n p K lb W3 W3.heap.size:=RunS.free (s:=s) (nl:=nl) (dp:=dp) ⟨iv,ov,_,HM3.out⟩ (q_2 _);have hnl:(args.take L++List.replicate (L - args.length) 0).length=L:=by
  rw [List.length_append,List.length_take,List.length_replicate];omega
 have hrm7:RunM p K W3.heap.size L (dp+1) { s with lv:=args.take L++List.replicate (L - args.length) 0 } iv ov (.slice (some ⟨W3.heap.size,0,none⟩) L L) (W6.setCell ⟨p,5,none⟩ (.int .i64 (dp+1))) :=
  HM3.out.self hg37 hr7 (HM3.out.i.grown hg37 hplt3) ⟨hnl,.inr ⟨hplt3,hfree.2.2.2.1,hfree.2.2.1,⟨L,rfl⟩,hz7⟩⟩ rfl rfl (fun b hb=>by have:=(HM3.out.out_lt hb).2; omega) HM3.out.st ⟨by have:=hdp.1; omega,by have:=HM3.out.k.ld; have:=Hd.out; omega⟩ hFl
 have hlo7:Below p W3 (W6.setCell ⟨p,5,none⟩ (.int .i64 (dp+1))):=z05 hg37 (fun k hk=>by injection hk with hk; omega) (by omega);have hfr37:FrZ p K lb W3 (W6.setCell ⟨p,5,none⟩ (.int .i64 (dp+1))):=z2Z hg37 hplt3 (fun b e=>(HM3.out.out_iff b).2 ((hrm7.out_iff b).1 e));have hV7:=z04 hg37 (by omega) HV3.out;have f2:=zcr 2 hV7;have HCb:=zhi (HB.out W3.heap.size L (dp+1) { s with lv:=args.take L++List.replicate (L - args.length) 0 } F.body bA bl bc _ ⟨iv,ov,_,hrm7⟩ (.inl (by have:=Hd.out; omega)) (hbo3.out _ (HF3.out.fr.lo.trans hlo7)) (z0j (G:=fun b=>b<p) (z0P D d) (fun _ h=>h) (fun b hb'=>hlo7.block b hb') HBo3.out) Hbl.out.symm hFb (by rw [HL.out]; exact Hwz.out));have HM7:=zhi hrm7;have HFr37:=zhi hfr37;have HG37:=zhi hg37;have hs7:=hg37.size;clear hg34 hb45 hr5 hg56 hr6 hz6 hg67 hg37 hr7 hz7 hrm7 hlo7 hfr37 hV7 hr4 hsz34 hnl;go_wp2_with fail;obtain ⟨W7,hW7⟩:∃ W7,W7=W6.setCell ⟨p,5,none⟩ (.int .i64 (dp+1)):=⟨_,rfl⟩;rw [<- hW7] at HCb HM7 HFr37 HG37 hs7 f2 ⊢;clear hW7 p5 q5 p9 hcp;refine HCb.out.mono ?_;rintro e w8 ⟨rfl,hrs8,hfr8⟩;have hYe:=HY.out;rw [<- HL.out] at hYe;generalize zB K.ls (pnZ fs) C F.body { s with lv:=args.take L++List.replicate (L - args.length) 0 }=y8 at hYe hrs8 ⊢;obtain ⟨⟨v8,k8,t8⟩,s8⟩:=y8;dsimp only at hYe hrs8 ⊢;have HYe:=zhi hYe;have hb9:=(q_i _ w8).alloc (q_2 _) (.cells #[.int .i64 k8,.int .i64 t8] 61);have hE9:=q_4 w8 (.cells #[.int .i64 k8,.int .i64 t8] 61);have hEf9:=z1e (hrs8.free (q_2 _)) hb9 hrs8.lt;obtain ⟨iv8,ov8,lv8,hrm9⟩:=hrs8.below hb9;have hp8:=hrs8.lt;have hs8:=hfr8.lo.size;obtain ⟨W9,hW9⟩:∃ W9,W9=w8.alloc (.cells #[.int .i64 k8,.int .i64 t8] 61):=⟨_,rfl⟩;rw [<- hW9] at hb9 hE9 hEf9 hrm9;have p5:=zcr 5 hrm9.r;have q5:=z09 hrm9.r 5;have hg910:W9.grownBy (W9.setCell ⟨p,5,none⟩ (.int .i64 dp)) (some p):=z03 _ ⟨p,5,none⟩ _;have hr10:RnP p ⟨K.sz,K.fn,K.ls,K.ld,s8.st,dp,iv8,ov8,K.gv,lv8⟩ (W9.setCell ⟨p,5,none⟩ (.int .i64 dp)):=z0a (i:=5) _ hrm9.r;have hg1011:(W9.setCell ⟨p,5,none⟩ (.int .i64 dp)).grownBy ((W9.setCell ⟨p,5,none⟩ (.int .i64 dp)).setCell ⟨p,9,none⟩ (.slice lA ll lc)) (some p):=z03 _ ⟨p,9,none⟩ _;have hr11:RnP p ⟨K.sz,K.fn,K.ls,K.ld,s8.st,dp,iv8,ov8,K.gv,.slice lA ll lc⟩ ((W9.setCell ⟨p,5,none⟩ (.int .i64 dp)).setCell ⟨p,9,none⟩ (.slice lA ll lc)):=z0a (i:=9) _ hr10;have p9:=zcr 9 hr10;have q9:=z09 hr10 9;have hg911:=hg910.trans hg1011;have hob:∀ b,OutB p w8 b->ov.ownBlock=some b\/W7.heap.size<=b:=fun b e=>(hfr8.own b e).imp (fun e=>(HM7.out.out_iff b).1 e) id
 have hob9:∀ b,ov8.ownBlock=some b->OutB p w8 b:=fun b e=>z2T (hb9.block p hp8) ((hrm9.out_iff b).2 e)
 have hl11:LocZ p K lb nl s.lv (.slice lA ll lc) ((W9.setCell ⟨p,5,none⟩ (.int .i64 dp)).setCell ⟨p,9,none⟩ (.slice lA ll lc)):=by
  refine ⟨HM3.out.l.1,?_⟩;rcases HM3.out.l.2 with h1 | ⟨h1,h2,h3,h4,h5⟩
  ·exact .inl h1
  ·have h6:=h5.lt;have e7:W7.heap[lb]?=W3.heap[lb]?:=HG37.out.block lb h6 (fun e=>by injection e with e; omega);have e8:w8.heap[lb]?=W7.heap[lb]?:=hfr8.keep lb (by omega) (by omega) (by omega) h3 (fun e=>(HM3.out.on lb ((HM7.out.out_iff lb).1 e)).1 rfl);have e9:W9.heap[lb]?=w8.heap[lb]?:=hb9.block lb (by omega);have e11:=hg911.block lb (by have:=hb9.size; omega) (fun e=>by injection e with e; omega);exact .inr ⟨h1,h2,h3,h4,((e11.trans e9).trans (e8.trans e7)).trans h5⟩
 have hrm11:RunM p K lb nl dp { s8 with lv:=s.lv } iv8 ov8 (.slice lA ll lc) ((W9.setCell ⟨p,5,none⟩ (.int .i64 dp)).setCell ⟨p,9,none⟩ (.slice lA ll lc)) :=
  hrm9.self hg911 hr11 (hrm9.i.grown hg911 hrm9.plt) hl11 rfl rfl (fun b hb=>by
   rcases hob b (hob9 b hb) with e | e
   ·exact (HM3.out.on b e).1
   ·rcases HM3.out.l.2 with ⟨_,h1,_⟩ | ⟨_,_,_,_,h5⟩
    ·omega
    ·have:=h5.lt; omega) hrm9.st hdp HM3.out.nl
 have hfr311:FrZ p K lb W3 ((W9.setCell ⟨p,5,none⟩ (.int .i64 dp)).setCell ⟨p,9,none⟩ (.slice lA ll lc)) :=
  (((HFr37.out.swap hfr8 (q_2 _)).below hb9 hplt3).trans (z2Z hg911 hrm9.plt (fun b e=>(hrm9.out_iff b).2 ((hrm11.out_iff b).1 e))))
 have hF11:=HF3.out.call ⟨iv8,ov8,_,hrm11⟩ hfr311;have hE11:=(hg911.block w8.heap.size (by have:=(q_0.1 hE9).1; omega) (fun e=>by injection e with e; omega)).trans hE9;have hEf11:z2n p K lb ((W9.setCell ⟨p,5,none⟩ (.int .i64 dp)).setCell ⟨p,9,none⟩ (.slice lA ll lc)) w8.heap.size:=by
  refine ⟨hp8,fun e=>?_,hEf9.2.2.1,hEf9.2.2.2.1,fun e=>hEf9.2.2.2.2 ((hrm9.out_iff _).2 ((hrm11.out_iff _).1 e))⟩;rcases HM3.out.l.2 with ⟨_,h1,_⟩ | ⟨_,_,_,_,h5⟩
  ·omega
  ·have:=h5.lt; omega
 obtain ⟨e0,e1⟩:=cl2 hE11;have g0:=z09 hE11 0;have HF11:=zhi hF11;have HE11:=zhi hE11;have HEf11:=zhi hEf11;clear hYe hrs8 hfr8 hE9 hEf9 hrm9 hg910 hr10 hg1011 hr11 hg911 hob hob9 hl11 hrm11 hfr311 hF11 hE11 hEf11 HM7 HFr37 HG37 HM3 HF3 HCb HY hfree f2;go_upto_region 8 with fail;rw [<- hW9];clear hW9;go_upto_region 10 with fail;clear p5 q5 p9 q9;obtain ⟨W11,hW11⟩:∃ W11,W11=(W9.setCell ⟨p,5,none⟩ (.int .i64 dp)).setCell ⟨p,9,none⟩ (.slice lA ll lc):=⟨_,rfl⟩;rw [<- hW11] at HF11 HE11 HEf11 e0 e1 g0 ⊢;clear hW11;have hBE:w.heap.size≠w8.heap.size:=by omega
 by_cases hk:k8=1
 ·subst hk;have hg12:W11.grownBy (W11.setCell ⟨w8.heap.size,0,none⟩ (.int .i64 0)) (some w8.heap.size):=z03 _ ⟨w8.heap.size,0,none⟩ _;have hE12:(W11.setCell ⟨w8.heap.size,0,none⟩ (.int .i64 0)).heap[w8.heap.size]?=some (.cells #[.int .i64 0,.int .i64 t8] 61 (0,0)):=z0a (i:=0) _ HE11.out;have hF12:=HF11.out.put hg12 HEf11.out (by omega) (by omega);obtain ⟨x0,x1⟩:=cl2 hE12;have hz:=hF12.z;have z0:=zcr 0 hz;have z1':=zcr 1 hz;have f0:=z09 hz 0;have f1:=z09 hz 1;have HT:=zhi (hF12.twoD (.int .i64 0) (.int .i64 t8));have HYf:Hid (Y=((v8,0,t8),{ s8 with lv:=s.lv })):=zhi (by rw [HYe.out]; rfl);go_upto_region 12 with fail;obtain ⟨W12,hW12⟩:∃ W12,W12=W11.setCell ⟨w8.heap.size,0,none⟩ (.int .i64 0):=⟨_,rfl⟩;rw [<- hW12] at HT x0 x1 z0 z1' f0 f1 ⊢;clear hW12 hg12 hE12 hF12 hz HF11 HE11 HEf11 e0 e1 g0 HYe;go_region;go_wp2_with fail;obtain ⟨j0,j1,hr9,hg9⟩:=HT.out;have HH:Hid (ZG p K lb nl dp Y w (.returned (.tuple #[.int .i64 v8,.agg #[.int .i64 0,.int .i64 t8]])) _):=zhi (by rw [HYf.out]; exact ⟨rfl,hr9,hg9⟩);clear hr9 hg9;exact q_3 (by simp [results,Tryz.results18,go_sem,j0,j1]) rfl HH.out
 ·have hk':(k8 == 1)=false:=by simp [hk]
  have hz:=HF11.out.z;have z0:=zcr 0 hz;have z1':=zcr 1 hz;have f0:=z09 hz 0;have f1:=z09 hz 1;have HT:=zhi (HF11.out.twoD (.int .i64 k8) (.int .i64 t8));have HYf:Hid (Y=((v8,k8,t8),{ s8 with lv:=s.lv })):=zhi (by rw [HYe.out]; unfold retK; rw [if_neg hk]);clear hz HF11 HE11 HEf11 g0 HYe hk;go_wp2_with fail;go_region;go_wp2_with fail;obtain ⟨j0,j1,hr9,hg9⟩:=HT.out;have HH:Hid (ZG p K lb nl dp Y w (.returned (.tuple #[.int .i64 v8,.agg #[.int .i64 k8,.int .i64 t8]])) _):=zhi (by rw [HYf.out]; exact ⟨rfl,hr9,hg9⟩);clear hr9 hg9;exact q_3 (by simp [results,Tryz.results18,go_sem,j0,j1]) rfl HH.out
theorem z4x (hM:MoC K.ls C) (hC:z4L p K D d fs nd C):∀ dt,z5u p K D d fs nd C dt
 | 0=>z8v (fun d' h=>by omega)
 | dt+1=>z8v (fun d' h=>by
   have e:dt=d':=by omega
   rw [<- e];exact zek hM (z4x hM hC dt) hC)
theorem z5A:∀ n,z4L p K D d fs n (zC K.ls fs n)
 | 0=>fun lb nl dp s f args A n c w h hd hP hf hf2 hl hnc hn hr=>by
  have e:zC K.ls fs 0 f args s=((0,3,0),s):=rfl;rw [e];exact zaB h (by rcases hd with h | h <;> omega)
 | n0+1=>fun lb nl dp s f args A n c w h hd hP hf hf2 hl hnc hn hr=>by
  obtain ⟨F,hF⟩:∃ F,fs[f.toNat]?=some F:=⟨_,q_7 hf2⟩;refine z8x (z4x (zds n0) (z5A n0) d) h (by rcases hd with h | h <;> omega) hP hf hF hl hnc hn hr _ ?_
  rw [zC,hF];rfl
end
theorem z5S {P:Program} {w:World} {ops:Array Oper} {rest:List Oper} {d:Option Tmp} {ty:TypeId} {x y:Operand} {pos:String} {af:Array Edge} {gd:Option (Nat × Bool)} {a:Act} {Q:Exit->Act->World->Prop}
  (h:z07 (wpList P ops Q ({ dst:=d,op:=.store 34 x y,type:=ty,pos:=pos,after:=af,guard:=gd } :: rest) a w)):wpList P ops Q ({ dst:=d,op:=.store 34 x y,type:=ty,pos:=pos,after:=af,guard:=gd } :: rest) a w:=h
theorem zby (s d:Int) (w:World):Calls Tryz.prog 17 #[.agg #[.int .i64 s,.int .i64 d]] w fun e w'=>e=.returned (.agg #[.int .i64 (min s 1099511627776),.int .i64 (min d 400)])/\Below w.heap.size w w':=by
 obtain ⟨a,ha⟩:∃ a,a=min s 1099511627776:=⟨_,rfl⟩;obtain ⟨b,hb⟩:∃ b,b=min d 400:=⟨_,rfl⟩;rw [<- ha,<- hb];rcases (show (s<=1099511627776/\¬ 1099511627776<s/\s=a)\/(1099511627776<s/\¬ s<=1099511627776/\a=1099511627776) by omega) with ⟨h1,h3,rfl⟩ | ⟨h1,h3,rfl⟩ <;> rcases (show (d<=400/\¬ 400<d/\d=b)\/(400<d/\¬ d<=400/\b=400) by omega) with ⟨h2,h4,rfl⟩ | ⟨h2,h4,rfl⟩
 all_goals
  clear ha hb;have hb:=((q_i _ w).alloc (q_2 _) (.cells #[.int .i64 s,.int .i64 d] 34)).alloc (by simp) (.cells #[.int .i64 0,.int .i64 0] 34);have hZ:=z0T w (.cells #[.int .i64 s,.int .i64 d] 34) (.cells #[.int .i64 0,.int .i64 0] 34);have HB:=zhi hb;have HZ:=zhi hZ;have hs:w.heap.size+1<((w.alloc (.cells #[.int .i64 s,.int .i64 d] 34)).alloc (.cells #[.int .i64 0,.int .i64 0] 34)).heap.size:=by simp
  clear hb hZ;go_enter Tryz.func17,Tryz.ntmps17;go_wp2_with (with_reducible refine z5S ?_);refine z07.of (z00 _ rfl _ _ _ rfl (w.heap.size+1) _ rfl (by rfl) _ _ HZ.out (by kernel_rfl) (by rfl) (by simp [Value.oneCell']) ?_);intro w9 hrow9 hg9;obtain ⟨j0,j1⟩:=cl2 hrow9;have HE:=zhi (HB.out.trans (z05 hg9 (fun k hk=>by injection hk with hk; omega) (by omega)));clear hrow9 hg9;go_wp2_with fail;exact q_3 (by simp [results,Tryz.results17,go_sem,j0,j1]) rfl ⟨rfl,HE.out⟩
structure RuZ (w:World) (v0 v1:Value) (s d:Int) (wr:World):Prop where
 p:wr.heap[w.heap.size]?=some (.cells #[v0,v1] 31 (0,0))
 q:wr.heap[w.heap.size+1]?=some (.cells #[.int .i64 s,.int .i64 d] 34 (0,0))
 o:wr.heap[w.heap.size+2]?=some (.cells #[.int .i64 0,.int .i64 0,.int .i64 0,.slice none 0 0] 40 (0,0))
 lo:Below w.heap.size w wr
theorem RuZ.below {w wr wd:World} {v0 v1:Value} {s d:Int} {B:Nat} (h:RuZ w v0 v1 s d wr) (hB:w.heap.size+3<=B) (hb:Below B wr wd):RuZ w v0 v1 s d wd :=
 ⟨(hb.block _ (by omega)).trans h.p,(hb.block _ (by omega)).trans h.q,(hb.block _ (by omega)).trans h.o,h.lo.trans (hb.mono (by omega))⟩
theorem RuZ.size {w wr:World} {v0 v1:Value} {s d:Int} (h:RuZ w v0 v1 s d wr):w.heap.size+3<=wr.heap.size:=(q_0.1 h.o).1
theorem RuZ.cells {w wr:World} {v0 v1:Value} {s d:Int} (h:RuZ w v0 v1 s d wr):wr.cell? ⟨w.heap.size,0,none⟩=some v0/\wr.cell? ⟨w.heap.size,1,none⟩=some v1/\wr.cell? ⟨w.heap.size+1,0,none⟩=some (.int .i64 s)/\wr.cell? ⟨w.heap.size+1,1,none⟩=some (.int .i64 d)/\RuZ w v0 v1 s d wr :=
 ⟨zcr 0 h.p,zcr 1 h.p,zcr 0 h.q,zcr 1 h.q,h⟩
theorem RuZ.alloc {w wr:World} {v0 v1:Value} {s d:Int} (h:RuZ w v0 v1 s d wr) (o:Obj):RuZ w v0 v1 s d (wr.alloc o):=h.below h.size ((q_i _ _).alloc (q_2 _) o)
theorem RuZ.drew {w wr:World} {v0 v1:Value} {s d:Int} (h:RuZ w v0 v1 s d wr):RuZ w v0 v1 s d wr.drew:=h.below h.size (z0m (q_i _ _))
theorem outz4 {W:World} {b:Nat} {a0 a1 a2 a3:Value} {T:TypeId} (v0 v1 v2 v3:Value) (h:W.heap[b]?=some (.cells #[a0,a1,a2,a3] T (0,0))) :
  ((((W.setCell ⟨b,0,none⟩ v0).setCell ⟨b,1,none⟩ v1).setCell ⟨b,2,none⟩ v2).setCell ⟨b,3,none⟩ v3).drew.heap[b]?=some (.cells #[v0,v1,v2,v3] T (0,0))/\W.grownBy ((((W.setCell ⟨b,0,none⟩ v0).setCell ⟨b,1,none⟩ v1).setCell ⟨b,2,none⟩ v2).setCell ⟨b,3,none⟩ v3).drew (some b) :=
 ⟨z0a (i:=3) v3 (z0a (i:=2) v2 (z0a (i:=1) v1 (z0a (i:=0) v0 h))),((((z03 W ⟨b,0,none⟩ v0).trans (z03 _ ⟨b,1,none⟩ v1)).trans (z03 _ ⟨b,2,none⟩ v2)).trans (z03 _ ⟨b,3,none⟩ v3)).trans (z02 (z0m (q_i _ _)) _)⟩
def MGz:z1H (Nat × Nat):=fun F w x cs=>cs=[.slice (some ⟨x.1,0,none⟩) x.2 x.2]/\F x.1/\IntB w x.1 (List.replicate x.2 0)
theorem z1R:MGz.Keeps:=fun _ _ _ _ _ _ h1 h2 h=>⟨h.1,h1 _ h.2.1,(h2 _ h.2.1).trans h.2.2⟩
theorem zcO:(Tryz.prog.info? 23).map (fun i=>(i.zero,i.size,i.bytes))=some (some (.slice none 0 0),1,24):=by kernel_rfl
def LpG (p:Nat) (sz fn:Value) (ls ld:Int) (iv:Value) (gs:List Nat) (W5:World) (v:Value) (wr:World):Prop:=∃ (k:Nat) (xs:List (Nat × Nat)) (A:Option Addr) (n c:Nat) (L:List Value),v=.int .i64 (k:Int)/\k<=gs.length/\n=k/\RnP p ⟨sz,fn,ls,ld,0,0,iv,.slice none 0 0,.slice A n c,.slice none 0 0⟩ wr/\GRow 1 23 MGz (p+1) wr (.slice A n c) xs L/\xs.map (·.2)=gs.take k/\(xs.map (·.1)).Nodup/\Below p W5 wr
theorem z3r {p:Nat} {w:World} {v:Value} {xs:List (Nat × Nat)} {L:List Value} (h:GRow 1 23 MGz (p+1) w v xs L) {x:Nat × Nat} (hx:x∈xs):p<x.1/\x.1<w.heap.size/\v.ownBlock≠some x.1:=by
 obtain ⟨j,hj⟩:=q_l hx;obtain ⟨cs,_,_,_,h1,_⟩:=h.at_ j x hj;exact ⟨by omega,h1.2⟩
theorem zdg {p:Nat} {w:World} {sz fn:Value} {ls ld:Int} {inp:List Int} {iv:Value} {gs:List Nat} {xs:List (Nat × Nat)} {A:Option Addr} {n c:Nat} {L:List Value} (hp:p<w.heap.size) (hn:n=gs.length) (hr:RnP p ⟨sz,fn,ls,ld,0,0,iv,.slice none 0 0,.slice A n c,.slice none 0 0⟩ w) (hg:GRow 1 23 MGz (p+1) w (.slice A n c) xs L) (hx:xs.map (·.2)=gs) (hnd:(xs.map (·.1)).Nodup) (hi:InZ p inp iv w) (hls:ls<=1099511627776) (hld:ld<=1000) (hgl:gs.length<=1000) (hgm:∀ m∈gs,m<=1000000) :
  ∃ K:RK,K.fn=fn/\K.ls=ls/\K.ld=ld/\K.gs=gs/\RunM p K p 0 0 ⟨0,inp,[],gs.map fun n=>List.replicate n 0,[]⟩ iv (.slice none 0 0) (.slice none 0 0) w:=by
 have hlen:xs.length=gs.length:=by rw [<- hx,List.length_map]
 have hb:A=none/\n=0\/∃ g,A=some ⟨g,0,none⟩/\p<g/\g<w.heap.size:=by
  rcases hg.own.2 with ⟨e,h0⟩ | ⟨g,cap,cur,e,h1,h2,_⟩
  ·injection e with e1 e2 e3;exact .inl ⟨e1,e2⟩
  ·injection e with e1 e2 e3;exact .inr ⟨g,e1,by omega,(q_0.1 h2).1⟩
 obtain ⟨gb,hgb,hgb1,hgb2⟩:∃ gb,(n=0/\gb=p\/A=some ⟨gb,0,none⟩/\p<gb)/\p<=gb/\gb<w.heap.size:=by
  rcases hb with ⟨h1,h2⟩ | ⟨g,h1,h2,h3⟩
  ·exact ⟨p,.inl ⟨h2,rfl⟩,q_2 _,hp⟩
  ·exact ⟨g,.inr ⟨h1,h2⟩,by omega,h3⟩
 have hnil:n=0->xs=[]:=fun h=>q_g (by omega)
 refine ⟨⟨sz,fn,.slice A n c,ls,ld,gb,xs.map (·.1),gs⟩,rfl,rfl,rfl,rfl,hr,hi,⟨[],GRow.nil⟩,fun b e=>(by cases e),⟨?_,?_,?_⟩,⟨rfl,.inl ⟨rfl,rfl,rfl⟩⟩,⟨hgb1,?_,?_,?_,hnd,hls,hld,hgl,hgm⟩,⟨Int.le_refl _,(by show (0:Int)<=max ls 0; omega)⟩,(by show 0<=4096; decide),⟨Int.le_refl _,by decide⟩,by decide,?_⟩
 ·show (gs.map fun n=>List.replicate n (0:Int)).map List.length=gs
  rw [List.map_map]
  conv=>rhs; rw [<- List.map_id gs]
  apply List.map_congr_left;intro x _;simp
 ·rcases hgb with ⟨h,_⟩ | ⟨h,_⟩
  ·left;have:gs=[]:=q_g (by omega);rw [this];rfl
  ·right;exact ⟨c,by show Value.slice A n c=_; rw [h]; simp [hn]⟩
 ·intro i l hi;dsimp only at hi;rw [q_b,q_c] at hi;obtain ⟨m,hm,rfl⟩:=hi;rw [<- hx,q_b,q_c] at hm;obtain ⟨x,hxi,rfl⟩:=hm;have hrow:=(hg.row z1R).2;obtain ⟨g,cs,hA,_,_,hc,rfl,hF,hI⟩:=hrow.2 i x hxi;have hgg:g=gb:=by
   rcases hgb with ⟨h,_⟩ | ⟨h,_⟩
   ·rw [hnil h] at hxi;simp at hxi
   ·rw [h] at hA;injection hA with hA;injection hA with hA;exact hA.symm
  subst hgg;refine ⟨x.1,x.2,by simp [hxi],?_,hI⟩;have:=hc 0 _ rfl;simpa using this
 ·rcases hgb with ⟨h,_⟩ | ⟨_,h⟩
  ·exact .inl (q_g (by show gs.length=0; omega))
  ·exact .inr h
 ·intro hm;obtain ⟨x,hx1,hx2⟩:=List.mem_map.1 hm;have h1:=z3r hg hx1;rcases hgb with ⟨h,_⟩ | ⟨h,_⟩
  ·rw [hnil h] at hx1;simp at hx1
  ·exact h1.2.2 (by rw [h]; show some gb=some x.1; rw [hx2])
 ·intro b hm;obtain ⟨x,hx1,rfl⟩:=List.mem_map.1 hm;exact (z3r hg hx1).1
 ·rintro b (rfl | hm)
  ·exact hgb2
  ·obtain ⟨x,hx1,rfl⟩:=List.mem_map.1 hm;exact (z3r hg hx1).2.1
def OutZ (y:Rz) (w:World) (e:Ending) (w':World):Prop:=∃ A n c,e=.returned (.tuple #[.agg #[.int .i64 y.1.2.1,.int .i64 y.1.1,.int .i64 y.1.2.2,.slice A n c],.int .i64 y.2.st])/\n=y.2.out.length/\y.2.out.length<=4096/\RowG 1 ZInt (fun b=>w.heap.size<=b/\b<w'.heap.size) w' y.2.out A c/\Below w.heap.size w w'
theorem zdj (gl:GlL):szI gl=(z10 gl).map (fun (n:Nat)=>(n:Int)):=by
 unfold szI z10;rw [List.map_map];apply List.map_congr_left;intro x _
 show max x.2 1=(((max x.2 1).toNat:Nat):Int)
 omega
theorem z7w {ops:Array Oper} {o:Oper} {a:Act} {K:Act->World->Prop} {Q:Exit->Act->World->Prop} {E:Prop} (p:Nat) (wd wa:World) (hgd:o.guard=none) (s x:Operand)
  (ho:o.op=.call { callee:=.builtin .append,args:=#[s,x],argTypes:=#[38,38] }) (v:Value) (xs:List (Nat × Nat)) (L:List Value) (m:Nat) (hs:a.eval s=v) (hx:a.eval x=.slice (some ⟨wd.heap.size+1,0,none⟩) 1 1)
  (h:GRow 1 23 MGz (p+1) wd v xs L) (hp:p<wd.heap.size) (hlen:xs.length<=1000)
  (hwa:Below (wd.heap.size+1) (wd.alloc (.cells (Array.replicate m (.int .i64 0)) 3)) wa) (hca:wa.heap[wd.heap.size+1]?=some (.cells #[.slice (some ⟨wd.heap.size,0,none⟩) m m] 23 (0,0)))
  (hk:∀ g cap w' L',GRow 1 23 MGz (p+1) w' (.slice (some ⟨g,0,none⟩) (xs.length+1) cap) (xs++[(wd.heap.size,m)]) L'->wd.grownBy w' v.ownBlock->K (a.put o.dst (.slice (some ⟨g,0,none⟩) (xs.length+1) cap)) w') :
  if Region.wanted o (yielded ops a.tmps)=true then Oper.wp Tryz.prog o a wa K Q else E:=by
 have hb:=(q_i _ wd).alloc (q_2 _) (.cells (Array.replicate m (.int .i64 0)) 3);have hI:IntB (wd.alloc (.cells (Array.replicate m (.int .i64 0)) 3)) wd.heap.size (List.replicate m 0):=by
  unfold IntB;rw [q_4];simp
 have hb2:Below (wd.alloc (.cells (Array.replicate m (.int .i64 0)) 3)).heap.size (wd.alloc (.cells (Array.replicate m (.int .i64 0)) 3)) wa:=by
  simpa using hwa
 have h1:=z15 z1R h hb;obtain ⟨i,hi,hz,hsz,hby⟩:=info_parts zcO;have hsa:=hwa.size;refine step_append_lies _ hgd s x _ ho (p+1) 23 i _ 1 24 Tryz.underlying38 hi hz hsz hby rfl (by decide) v xs.length L hs (z15 z1R h1 hb2).own ⟨wd.heap.size+1,0,none⟩ 1 1 [.slice (some ⟨wd.heap.size,0,none⟩) m m] hx (by simp) ?_ (by simp [Value.oneCell']) (by decide) (by unfold maxLen; omega) (by omega) (by simp at hsa; omega) _ rfl fun g cap w' k1 k2 k3 _=>hk g cap w' _ (h1.push z1R rfl (F:=fun b=>b=wd.heap.size) (y:=(wd.heap.size,m)) ⟨rfl,rfl,hI⟩ (fun b e=>by
  subst e;exact ⟨by omega,by simp,fun e=>by have:=(h.own.lt _ e).2; omega⟩) k1 hb2 k2 k3) (((World.grownBy_alloc _ _ _).trans (z02 hb2 _)).trans k2)
 intro j u hu;rw [Addr.add_lit,Nat.zero_add];exact (zcr _ hca).trans (by simpa using hu)
theorem zed {F:Nat->Prop} {D d:Nat} (gl:GlL) (fl:List Fn) (gA:Option Addr) (gn gc:Nat) (fA:Option Addr) (fn fc:Nat) (inp:List Int) (iA:Option Addr) (im ic:Nat) (sl dl:Int) (w:World) (hgn:gn=gl.length) (hfn:fn=fl.length) (hg:z0k F w gl gA gc) (hf:z0R F w D d fl fA fc) (hF:∀ b,F b->b<w.heap.size) (hg1:gl.length<=1000) (hf1:fl.length<=1000) (hf0:0<fl.length) (hgs:∀ x∈gl,x.1.size<=1000) (hgm:∀ m∈z10 gl,m<=1000000) (hok:∀ f∈fl,zar f)
  (hwz:∀ (i:Nat) (x:Fz),(fl.map (nF (outF gl fl)))[i]?=some x->wzB x.locals (z10 gl) (fl.map (nF (outF gl fl))).length x.body/\x.locals<=1000/\x.params<=1000/\x.body.length<=1000000)
  (him:im=inp.length) (hic:im<=ic) (him2:im<=1000000) (hir:Rd w iA (inp.map (Value.int .i64))) (hib:∀ ad,iA=some ad->ad.block<w.heap.size) :
  Calls Tryz.prog 9 #[.agg #[.slice gA gn gc,.slice fA fn fc],.slice iA im ic,.agg #[.int .i64 sl,.int .i64 dl]] w (OutZ (zRun (min sl 1099511627776) (min dl 400) (fl.map (nF (outF gl fl))) (z10 gl) inp) w):=by
 have h0:RuZ w (.slice gA gn gc) (.slice fA fn fc) sl dl (((w.alloc (.cells #[.slice gA gn gc,.slice fA fn fc] 31)).alloc (.cells #[.int .i64 sl,.int .i64 dl] 34)).alloc (.cells #[.int .i64 0,.int .i64 0,.int .i64 0,.slice none 0 0] 40)):=by
  refine ⟨?_,?_,?_,(((q_i _ w).alloc (q_2 _) _).alloc (by simp) _).alloc (by simp; omega) _⟩
  ·rw [q_5 _ _ (by simp; omega)];exact z14 w _ _
  ·rw [q_5 _ _ (by simp)];exact z0T w _ _
  ·have:=q_4 ((w.alloc (.cells #[.slice gA gn gc,.slice fA fn fc] 31)).alloc (.cells #[.int .i64 sl,.int .i64 dl] 34)) (.cells #[.int .i64 0,.int .i64 0,.int .i64 0,.slice none 0 0] 40);simpa using this
 have HRd:Hid (∀ W,Below w.heap.size w W->Calls Tryz.prog 16 #[.agg #[.slice gA gn gc,.slice fA fn fc]] W (RdZ D d gl fl W)):=zhi (fun W hW=>zd2 (F:=F) gl fl gA gn gc fA fn fc W hgn hfn ⟨hg.1,fun i x hi=>by
  obtain ⟨g,e,hFg,c0,c1⟩:=hg.2 i x hi;have hk:∀ o,World.cell? W ⟨g,o,none⟩=World.cell? w ⟨g,o,none⟩:=fun o=>q_6 (hW.block g (hF g hFg))
  exact ⟨g,e,hFg,(hk _).trans c0,(hk _).trans c1⟩⟩ ⟨hf.1,fun i f hi=>by
  obtain ⟨g,pA,pc,bA,bc,e,hFg,c0,c1,c2,c3,hs,hr⟩:=hf.2 i f hi;have hk:∀ o,World.cell? W ⟨g,o,none⟩=World.cell? w ⟨g,o,none⟩:=fun o=>q_6 (hW.block g (hF g hFg))
  refine ⟨g,pA,pc,bA,bc,e,hFg,(hk _).trans c0,(hk _).trans c1,(hk _).trans c2,(hk _).trans c3,⟨hs.1,fun q x hq=>?_⟩,RowS.keep (fun _ h=>h) (fun b hb=>hW.block b (hF b hb)) hr⟩;obtain ⟨g,e,hFg,hc⟩:=hs.2 q x hq;exact ⟨g,e,hFg,(q_6 (hW.block g (hF g hFg))).trans hc⟩⟩ (fun b hb=>q_1 (hF b hb) hW.size) hg1 hf1 hgs hok)
 obtain ⟨gs,hgse⟩:∃ gs,gs=z10 gl:=⟨_,rfl⟩;obtain ⟨fs,hfse⟩:∃ fs,fs=fl.map (nF (outF gl fl)):=⟨_,rfl⟩;rw [<- hgse] at hgm hwz ⊢;rw [<- hfse] at hwz ⊢;have hgsl:gs.length=gl.length:=by rw [hgse]; simp [z10]
 have hfsl:fs.length=fl.length:=by rw [hfse]; simp
 have hszg:szI gl=gs.map (fun (n:Nat)=>(n:Int)):=by rw [hgse]; exact zdj gl
 have H0:=zhi h0;have Hwz:=zhi hwz;have Hgm:=zhi hgm;have Hgsl:=zhi hgsl;have Hfsl:=zhi hfsl;have Hszg:=zhi hszg;have Hfse:=zhi hfse;have Him:=zhi him;have Hir:=zhi hir;have Hib:=zhi hib;have hgs1:gs.length<=1000:=by omega
 have hfs1:fs.length<=1000/\0<fs.length:=by omega
 clear hg hf hF h0 hwz hgm hgsl hfsl hszg him hir hib hgse hfse hgs hok hgn hfn hg1 hf1 hf0;go_enter Tryz.func9,Tryz.ntmps9;go_upto_region 1 with fail;obtain ⟨W0,hW0⟩:∃ W0,W0=((w.alloc (.cells #[.slice gA gn gc,.slice fA fn fc] 31)).alloc (.cells #[.int .i64 sl,.int .i64 dl] 34)).alloc (.cells #[.int .i64 0,.int .i64 0,.int .i64 0,.slice none 0 0] 40):=⟨_,rfl⟩;rw [<- hW0] at H0 ⊢;clear hW0;have hsn0:=H0.out;have hS0:=hsn0.drew.cells
 go_region_held3 (fun w'=>w'.cell? ⟨w.heap.size,0,none⟩=some (.slice gA gn gc)/\w'.cell? ⟨w.heap.size,1,none⟩=some (.slice fA fn fc)/\w'.cell? ⟨w.heap.size+1,0,none⟩=some (.int .i64 sl)/\w'.cell? ⟨w.heap.size+1,1,none⟩=some (.int .i64 dl)/\RuZ w (.slice gA gn gc) (.slice fA fn fc) sl dl w')
  (first | (with_reducible exact hS0) | ((with_reducible refine RuZ.cells ?_); (repeat (first | (with_reducible assumption) | (with_reducible refine RuZ.alloc ?_ _) | (with_reducible refine RuZ.drew ?_))); done))
  (first | (go_at_call 16; (with_reducible refine (HRd.out _ ?_).mono ?_); (with_reducible exact hsn0.drew.lo); rintro e w3 ⟨sA,sc,qA,qc,rfl,hsz3,hrow3,hb3⟩; have hsn3:=hsn0.drew.below hsn0.drew.size hb3; have hs3:=hsn0.drew.size) | (go_at_call 17; (with_reducible refine (zby sl dl _).mono ?_); rintro e w4 ⟨rfl,hb4⟩; have hsn4:=hsn3.below hsn3.size hb4; have hsz4:=z0j z0f (G:=fun b=>b<w4.heap.size) (fun b hb=>q_1 hb.2 hb4.size) (fun b hb=>hb4.block b hb.2) hsz3; have hrow4:=z0j (z0O D d) (G:=fun b=>b<w4.heap.size) (fun b hb=>q_1 hb.2 hb4.size) (fun b hb=>hb4.block b hb.2) hrow3))
 clear hS0 hsn0 hrow3 hsz3 hb3 hsn3 hs3 HRd;rw [<- Hgsl.out,<- Hfsl.out];rw [<- Hfse.out] at hrow4;rw [Hszg.out] at hsz4;obtain ⟨ls,hls⟩:∃ ls,ls=min sl 1099511627776:=⟨_,rfl⟩;obtain ⟨ld,hld⟩:∃ ld,ld=min dl 400:=⟨_,rfl⟩;rw [<- hls,<- hld];have Hls:=zhi hls;have Hld:=zhi hld;have hls2:ls<=1099511627776:=by omega
 have hld2:ld<=400:=by omega
 have hszw:=hsn4.size;have hb5:=(q_i _ w4).alloc (q_2 _) (.cells #[.slice sA gs.length sc,.slice qA fs.length qc,.int .i64 ls,.int .i64 ld,.int .i64 0,.int .i64 0,.slice iA im ic,.slice none 0 0,.slice none 0 0,.slice none 0 0] 59);have hp5:=q_4 w4 (.cells #[.slice sA gs.length sc,.slice qA fs.length qc,.int .i64 ls,.int .i64 ld,.int .i64 0,.int .i64 0,.slice iA im ic,.slice none 0 0,.slice none 0 0,.slice none 0 0] 59);obtain ⟨W5,hW5⟩:∃ W5,W5=w4.alloc (.cells #[.slice sA gs.length sc,.slice qA fs.length qc,.int .i64 ls,.int .i64 ld,.int .i64 0,.int .i64 0,.slice iA im ic,.slice none 0 0,.slice none 0 0,.slice none 0 0] 59):=⟨_,rfl⟩;rw [<- hW5] at hb5 hp5;have HSN:=zhi hsn4;have HSZ:=zhi hsz4;have HFN:=zhi hrow4;have HB5:=zhi hb5;have HP5:Hid (RnP w4.heap.size ⟨.slice sA gs.length sc,.slice qA fs.length qc,ls,ld,0,0,.slice iA im ic,.slice none 0 0,.slice none 0 0,.slice none 0 0⟩ W5):=zhi hp5;have x0:=zcr 0 hp5;have hlt5:=(q_0.1 hp5).1;have hgsc:gs.length<=sc:=by have:=hsz4.1; simpa using this
 rw [<- hW5];clear hW5 hb5 hp5 hrow4 hsz4 hsn4 hb4 hls hld;go_wp2_with fail
 go_loopw [26] (fun v wr=>LpG w4.heap.size (.slice sA gs.length sc) (.slice qA fs.length qc) ls ld (.slice iA im ic) gs W5 v wr) (fun v _=>gs.length - (intOf v).toNat)
 case atStart=>exact ⟨0,[],none,0,0,[],rfl,q_h _,rfl,HP5.out,GRow.nil,rfl,List.nodup_nil,q_i _ _⟩
 case round =>
  obtain ⟨wo,rfl⟩:∃ wo:World,wo=wr:=⟨_,rfl⟩;obtain ⟨k,xs,A,n,c,L,rfl,hk,hn,hr,hgr,hxs,hnd,hb⟩:=hrel;clear x0;have HR:=zhi hr;have HG:=zhi hgr;have Hn:=zhi hn;have Hxs:=zhi hxs;have Hnd:=zhi hnd;have HB:=zhi hb;have hsb:=hb.size;clear hn hnd;rcases q_f k gs.length with hlt | hge
  ·obtain ⟨m,hm⟩:∃ m,gs[k]?=some m:=⟨gs[k]'hlt,q_7 _⟩;have hm2:m<=1000000:=Hgm.out m (q_a hm);obtain ⟨g,cs,rfl,hFg,_,hc,hcs⟩:=HSZ.out.2 k (m:Int) (by simp [hm]);have hkk:∀ o,World.cell? wo ⟨g,o,none⟩=World.cell? w4 ⟨g,o,none⟩:=fun o=>q_6 ((hb.block g hFg).trans (HB5.out.block g hFg))
   have n0:World.cell? wo ⟨g,k,none⟩=some (.int .i64 (m:Int)):=(hkk _).trans (by
    have:=hc 0 (.int .i64 (m:Int)) (by rw [hcs]; rfl);simpa using this)
   have y8:=zcr 8 hr;have hmk:=fun W=>z1Q W m hm2
   have hpo:w4.heap.size<wo.heap.size:=(q_0.1 hr).1;have hxk:xs.length=k:=by have:=congrArg List.length hxs; simp at this; omega
   have Hxk:=zhi hxk;have Hm:=zhi hm;have hxl:xs.length<=1000:=by omega
   have HGa:=zhi hgr;have HRa:Hid (∀ (W':World),wo.grownBy W' (Value.slice A n c).ownBlock->RnP w4.heap.size ⟨.slice (some ⟨g,0,none⟩) gs.length sc,.slice qA fs.length qc,ls,ld,0,0,.slice iA im ic,.slice none 0 0,.slice A n c,.slice none 0 0⟩ W'):=zhi (fun W' hg=>(hg.block _ hpo (fun e=>by have:=(hgr.own.lt _ e.symm).1; omega)).trans hr);clear hr hgr hb hkk hc hcs hm2 hxs HR HG hxk hm;go_upto_region 5 with fail
   go_region_law (refine z7w w4.heap.size wo _ rfl (.tmp 34) (.tmp 37) rfl (.slice A n c) xs L m rfl rfl HGa.out hpo hxl (by first | exact z0m ((q_i _ _).alloc (by simp) _) | exact z17 ((q_i _ _).alloc (by simp) _) _ | exact (q_i _ _).alloc (by simp) _) (z0T wo _ _) ?_; intro g7 cap7 w7 L7 hgr7 hg7; have hr7:=HRa.out _ hg7; have y8:=zcr 8 hr7; have f8:=z09 hr7 8)
   all_goals
    have hg8:w7.grownBy (w7.setCell ⟨w4.heap.size,8,none⟩ (.slice (some ⟨g7,0,none⟩) (xs.length+1) cap7)) (some w4.heap.size):=z03 w7 ⟨w4.heap.size,8,none⟩ _;have hr8:RnP w4.heap.size ⟨.slice (some ⟨g,0,none⟩) gs.length sc,.slice qA fs.length qc,ls,ld,0,0,.slice iA im ic,.slice none 0 0,.slice (some ⟨g7,0,none⟩) (xs.length+1) cap7,.slice none 0 0⟩ (w7.setCell ⟨w4.heap.size,8,none⟩ (.slice (some ⟨g7,0,none⟩) (xs.length+1) cap7)):=z0a (i:=8) _ hr7;have hgr8:=z1f z1R hgr7 hg8 (fun b e=>by injection e with e; omega);have HE:Hid (LpG w4.heap.size (.slice (some ⟨g,0,none⟩) gs.length sc) (.slice qA fs.length qc) ls ld (.slice iA im ic) gs W5 (.int .i64 ((k:Int)+1)) (w7.setCell ⟨w4.heap.size,8,none⟩ (.slice (some ⟨g7,0,none⟩) (xs.length+1) cap7))):=zhi ⟨k+1,_,_,_,_,_,by simp,by omega,by rw [Hxk.out],hr8,hgr8,by
      rw [List.map_append,Hxs.out,List.take_add_one,Hm.out];rfl,by
      rw [List.map_append,List.nodup_append];refine ⟨Hnd.out,by simp,fun a ha b hb e=>?_⟩;obtain ⟨x,hx1,rfl⟩:=List.mem_map.1 ha;simp at hb;have:=(z3r HGa.out hx1).2.1;omega,(HB.out.trans (z05 hg7 (fun b e=>by have:=(HGa.out.own.lt b e).1; omega) (by omega))).trans (z05 hg8 (fun b e=>by injection e with e; omega) (by have:=hg7.size; omega))⟩
    clear hr7 hr8 hgr7 hgr8 hg7 hg8 y8 f8 HGa HRa;go_wp2_with fail;exact ⟨HE.out,by simp [intOf]; omega⟩
  ·have hkg:k=gs.length:=by omega
   subst hkg;have hxg:xs.map (·.2)=gs:=by rw [hxs,List.take_length]
   have hib5:InZ w4.heap.size inp (.slice iA im ic) wo:=⟨iA,ic,by rw [Him.out],by rw [<- Him.out]; exact hic,by rw [<- Him.out]; exact him2,fun j u hu=>by
    obtain ⟨ad,e,hc⟩:=Hir.out j u hu;have hlt:=Hib.out ad e;refine ⟨ad,e,(q_6 (a:=ad.add j) ?_).trans hc⟩;rw [z0i];exact ((hb.block _ (by omega)).trans (HB5.out.block _ (by omega))).trans (HSN.out.lo.block _ hlt),fun ad e=>by have:=Hib.out ad e; omega⟩
   obtain ⟨K,hK1,hK2,hK3,hK4,hrm⟩:=zdg (by omega) Hn.out hr hgr hxg Hnd.out hib5 hls2 (by omega) hgs1 Hgm.out;have hprg:PrgZ w4.heap.size K D d fs wo:=⟨⟨qA,qc,hK1,z0j (z0O D d) (fun _ h=>h) (fun b hb'=>(hb.block b hb').trans (HB5.out.block b hb')) HFN.out⟩,by rw [hK4]; exact Hwz.out,hfs1.1⟩;have hcall:=z5A (p:=w4.heap.size) (K:=K) (D:=D) (d:=d) (fs:=fs) ld.toNat w4.heap.size 0 0 _ 0 [] none 0 0 wo ⟨_,_,_,hrm⟩ (by
    unfold DpZ;rw [hK3];omega) hprg (Int.le_refl _) hfs1.2 rfl (q_2 _) (by decide) (fun j u hu=>by simp at hu)
   have HC:=zhi hcall;have HK2:=zhi hK2;clear hr hgr hb hxs hxg hib5 hrm hprg hcall HR HG hK1 hK2 hK3 hK4;go_wp2_with fail;refine HC.out.mono ?_;rintro e w7 ⟨rfl,⟨iv7,ov7,lv7,hrm7⟩,hfr7⟩;obtain ⟨y,hy⟩:∃ y,y=zC K.ls fs ld.toNat 0 [] ⟨0,inp,[],gs.map fun n=>List.replicate n 0,[]⟩:=⟨_,rfl⟩;rw [<- hy] at hrm7 ⊢;rw [HK2.out] at hy;have HY:Hid (zRun ls ld fs gs inp=((y.1.1,zK y.1.2.1,y.1.2.2),y.2)):=zhi (by
    unfold zRun;rw [<- hy])
   obtain ⟨⟨v,kd,tr⟩,⟨st,ip,out,gll,lvl⟩⟩:=y;dsimp only at hrm7 HY ⊢;have hs7:=HSN.out.below hszw (HB5.out.trans (HB.out.trans hfr7.lo));obtain ⟨L7,hg7⟩:=hrm7.o;dsimp only at hg7;obtain ⟨oA,oc,hov⟩:=z2b hg7;subst hov;have hp7:=hrm7.r;dsimp only at hp7;have hsz7:=hs7.size;have hp7s:w4.heap.size<w7.heap.size:=hrm7.plt;have hol7:out.length<=4096:=hrm7.ol;clear hy HC HK2 hfr7;have HF7:Hid (∀ kk:Int,let W8:=w7.alloc (.cells #[.int .i64 kk,.int .i64 tr] 61); W8.heap[w7.heap.size]?=some (.cells #[.int .i64 kk,.int .i64 tr] 61 (0,0))/\RuZ w (.slice gA gn gc) (.slice fA fn fc) sl dl W8/\RnP w4.heap.size ⟨K.sz,K.fn,K.ls,K.ld,st,0,iv7,.slice oA out.length oc,K.gv,lv7⟩ W8/\RowG 1 ZInt (fun b=>w4.heap.size+1<=b/\b<W8.heap.size) W8 out oA oc):=zhi (fun kk=>by
    have hb8:=(q_i _ w7).alloc (q_2 _) (.cells #[.int .i64 kk,.int .i64 tr] 61);exact ⟨q_4 w7 _,hs7.alloc _,(hb8.block _ hp7s).trans hp7,z0j z0f (fun b hb=>⟨hb.1,q_1 hb.2 hb8.size⟩) (fun b hb=>hb8.block b hb.2) (hg7.row z0f).2⟩)
   clear hs7 hg7 hp7 hrm7;rcases Decidable.em (kd=0) with h0 | h0
   ·subst h0;obtain ⟨hE8,hs8,hp8,hrow8⟩:=HF7.out 1;have hsz8:w7.heap.size<(w7.alloc (.cells #[.int .i64 1,.int .i64 tr] 61)).heap.size:=by simp
    go_upto_region 10 with fail;obtain ⟨W8,hW8⟩:∃ W8,W8=w7.alloc (.cells #[.int .i64 1,.int .i64 tr] 61):=⟨_,rfl⟩;rw [<- hW8] at hE8 hs8 hp8 hrow8 hsz8 ⊢;clear hW8 HF7;obtain ⟨e0,e1⟩:=cl2 hE8;have p4:=zcr 4 hp8;have p7:=zcr 7 hp8;have o0:W8.cell? ⟨w.heap.size+1+1,0,none⟩=some (.int .i64 0):=zcr 0 hs8.o;have o1:W8.cell? ⟨w.heap.size+1+1,1,none⟩=some (.int .i64 0):=zcr 1 hs8.o;have o2':W8.cell? ⟨w.heap.size+1+1,2,none⟩=some (.int .i64 0):=zcr 2 hs8.o;have o3:W8.cell? ⟨w.heap.size+1+1,3,none⟩=some (.slice none 0 0):=zcr 3 hs8.o;have f0:W8.frozen? ⟨w.heap.size+1+1,0,none⟩=false:=z09 hs8.o 0;have f1:W8.frozen? ⟨w.heap.size+1+1,1,none⟩=false:=z09 hs8.o 1;have f2:W8.frozen? ⟨w.heap.size+1+1,2,none⟩=false:=z09 hs8.o 2;have f3:W8.frozen? ⟨w.heap.size+1+1,3,none⟩=false:=z09 hs8.o 3;have HS8:=zhi hs8;have HRow8:=zhi hrow8;clear hE8 hs8 hp8 hrow8;go_region;go_wp2_with fail;obtain ⟨hrow9,hg9⟩:=outz4 (.int .i64 1) (.int .i64 v) (.int .i64 tr) (.slice oA out.length oc) HS8.out.o;obtain ⟨j0,j1,j2,j3⟩:=cl4 hrow9;have HH:Hid (OutZ (zRun (min sl 1099511627776) (min dl 400) fs gs inp) w (.returned (.tuple #[.agg #[.int .i64 1,.int .i64 v,.int .i64 tr,.slice oA out.length oc],.int .i64 st])) _):=zhi (by
     rw [<- Hls.out,<- Hld.out,HY.out];exact ⟨oA,_,oc,by simp [zK],rfl,hol7,z0j z0f (fun b hb=>⟨by omega,q_1 hb.2 hg9.size⟩) (fun b hb=>hg9.block b hb.2 (fun e=>by injection e with e; omega)) HRow8.out,HS8.out.lo.trans (z05 hg9 (fun k hk=>by injection hk with hk; omega) HS8.out.lo.size)⟩)
    clear hrow9 hg9;exact q_3 (by simp [results,Tryz.results9,go_sem,j0,j1,j2,j3]) rfl HH.out
   ·have hkd:(kd == 0)=false:=by simpa using h0
    obtain ⟨hE8,hs8,hp8,hrow8⟩:=HF7.out kd;have hsz8:w7.heap.size<(w7.alloc (.cells #[.int .i64 kd,.int .i64 tr] 61)).heap.size:=by simp
    go_upto_region 10 with fail;obtain ⟨W8,hW8⟩:∃ W8,W8=w7.alloc (.cells #[.int .i64 kd,.int .i64 tr] 61):=⟨_,rfl⟩;rw [<- hW8] at hE8 hs8 hp8 hrow8 hsz8 ⊢;clear hW8 HF7;obtain ⟨e0,e1⟩:=cl2 hE8;have p4:=zcr 4 hp8;have p7:=zcr 7 hp8;have o0:W8.cell? ⟨w.heap.size+1+1,0,none⟩=some (.int .i64 0):=zcr 0 hs8.o;have o1:W8.cell? ⟨w.heap.size+1+1,1,none⟩=some (.int .i64 0):=zcr 1 hs8.o;have o2':W8.cell? ⟨w.heap.size+1+1,2,none⟩=some (.int .i64 0):=zcr 2 hs8.o;have o3:W8.cell? ⟨w.heap.size+1+1,3,none⟩=some (.slice none 0 0):=zcr 3 hs8.o;have f0:W8.frozen? ⟨w.heap.size+1+1,0,none⟩=false:=z09 hs8.o 0;have f1:W8.frozen? ⟨w.heap.size+1+1,1,none⟩=false:=z09 hs8.o 1;have f2:W8.frozen? ⟨w.heap.size+1+1,2,none⟩=false:=z09 hs8.o 2;have f3:W8.frozen? ⟨w.heap.size+1+1,3,none⟩=false:=z09 hs8.o 3;have HS8:=zhi hs8;have HRow8:=zhi hrow8;clear hE8 hs8 hp8 hrow8;go_region;go_wp2_with fail;obtain ⟨hrow9,hg9⟩:=outz4 (.int .i64 kd) (.int .i64 v) (.int .i64 tr) (.slice oA out.length oc) HS8.out.o;obtain ⟨j0,j1,j2,j3⟩:=cl4 hrow9;have HH:Hid (OutZ (zRun (min sl 1099511627776) (min dl 400) fs gs inp) w (.returned (.tuple #[.agg #[.int .i64 kd,.int .i64 v,.int .i64 tr,.slice oA out.length oc],.int .i64 st])) _):=zhi (by
     rw [<- Hls.out,<- Hld.out,HY.out];exact ⟨oA,_,oc,by simp [zK,h0],rfl,hol7,z0j z0f (fun b hb=>⟨by omega,q_1 hb.2 hg9.size⟩) (fun b hb=>hg9.block b hb.2 (fun e=>by injection e with e; omega)) HRow8.out,HS8.out.lo.trans (z05 hg9 (fun k hk=>by injection hk with hk; omega) HS8.out.lo.size)⟩)
    clear hrow9 hg9;exact q_3 (by simp [results,Tryz.results9,go_sem,j0,j1,j2,j3]) rfl HH.out
end Go.Proofs.YtdflbhofmmlpgaaGreat
