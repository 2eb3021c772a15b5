/-
  Ne: Z1, Z3. Part of the proof. No condition.
-/
import Derived.Test.YtdflbhofmmlpgaaGreatNd
import Derived.Test.YtdflbhofmmlpgaaGreatMi
set_option maxRecDepth 100000
set_option maxHeartbeats 8000000
namespace Go.Proofs.YtdflbhofmmlpgaaGreat
open Go.RowKit
def NmR7 (ls:List Zb) (w:World) (e:Ending) (w':World):Prop:=∃ B k,e=.returned (.slice B ls.length k)/\z0l (fun b=>w.heap.size<=b/\b<w'.heap.size) w' ls B k/\Below w.heap.size w w'
theorem zaS {F:Nat->Prop} {D d:Nat} (nm:Zb) (l:Int) (ps:List Zb) (pA:Option Addr) (pn pc:Nat) (ts:List St) (A:Option Addr) (n c:Nat) (w:World) (hpn:pn=ps.length) (hn:n=ts.length) (hp:z0l F w ps pA pc) (h:RowS F w D d ts A c) (hF:∀ b,F b->b<w.heap.size) (hf:fwB ts) (hn2:n<=1000000) (hp2:pn<=1000) (hl:ps.length+(vrL ts).length<=100000) :
  Calls Tryz.prog 27 #[.agg #[.string nm,.int .i64 l,.slice pA pn pc,.slice A n c]] w (NmR7 (ps++vrL ts) w):=by
 have hb1:=(q_i w.heap.size w).alloc (q_2 _) (.cells #[.string nm,.int .i64 l,.slice pA pn pc,.slice A n c] 83);have hr1:=q_4 w (.cells #[.string nm,.int .i64 l,.slice pA pn pc,.slice A n c] 83);obtain ⟨W,hW⟩:∃ W,W=w.alloc (.cells #[.string nm,.int .i64 l,.slice pA pn pc,.slice A n c] 83):=⟨_,rfl⟩;have hlt:w.heap.size<W.heap.size:=by rw [hW]; simp
 rw [<- hW] at hb1 hr1;have HV:Hid (∀ (W2:World) (base:Nat) (lA:Option Addr) (lc:Nat),Below W.heap.size W W2->W.heap.size<=base->base<=W2.heap.size->W2.ownsRow base 9 1 (.slice lA pn lc) ps.length (ps.map Value.string)->Calls Tryz.prog 44 #[.slice lA pn lc,.slice A n c] W2 (NmsR base (ps++vrL ts) W2)):=zhi (fun W2 base lA lc hb hbs hbs2 ho=>by
  have hlo:=hb1.trans (hb.mono hb1.size);exact z4k d F D base ps lA pn lc ts A n c W2 hn hpn ho hbs2 (RowS.keep (w:=w) (fun _ h=>h) (fun b hb'=>hlo.block b (hF b hb')) h) (fun b hb'=>q_1 (hF b hb') (q_9 hb1.size hbs)) hf hn2 hl)
 have HP:Hid (∀ W2,Below W.heap.size W W2->z0l F W2 ps pA pc):=zhi (fun W2 hb=>hp.keepR (fun _ h=>h) (fun b hb'=>(hb1.trans (hb.mono hb1.size)).block b (hF b hb')));have HC:Hid (∀ W2,Below W.heap.size W W2->W2.cell? ⟨w.heap.size,2,none⟩=some (.slice pA pn pc)/\W2.cell? ⟨w.heap.size,3,none⟩=some (.slice A n c)/\Below W.heap.size W W2):=zhi (fun W2 hb=>⟨zcr 2 ((hb.block _ hlt).trans hr1),zcr 3 ((hb.block _ hlt).trans hr1),hb⟩);have HS0:=zhi (HC.out W.drew (q_i W.heap.size W).drew);have HB1:=zhi hb1;have Hpn:=zhi hpn;clear hb1 hr1 h hp hF hf hl hn hpn;go_enter Tryz.func27,Tryz.ntmps27;go_upto_region 1 with fail;rw [<- hW];clear hW
 go_region_held3 (fun w'=>w'.cell? ⟨w.heap.size,2,none⟩=some (.slice pA pn pc)/\w'.cell? ⟨w.heap.size,3,none⟩=some (.slice A n c)/\Below W.heap.size W w')
  (first | (with_reducible exact HS0.out) | (with_reducible exact HS2.out) | (with_reducible exact HS3.out))
  (first
   | ((with_reducible refine z23 _ rfl (.const (.slice none 0 0)) (.tmp 4) rfl ps pA pn pc Hpn.out rfl rfl (HP.out _ HS0.out.2.2) hp2 ?_); intro lA lc w2 ho2 hb2; have HO2:Hid (w2.ownsRow W.heap.size 9 1 (.slice lA pn lc) ps.length (ps.map Value.string)):=zhi ho2; have hb2a:=z08 HS0.out.2.2 hb2; have HS2:=zhi (HC.out _ hb2a); clear ho2 hb2 hb2a)
   | (go_at_call 44; (with_reducible refine (HV.out _ _ lA lc HS2.out.2.2 (q_2 _) HS2.out.2.2.size HO2.out).mono ?_); rintro e w3 ⟨A3,m3,c3,rfl,hm3,ho3,hb3⟩; have HM3:=zhi hm3; have HO3:=zhi ho3; have hb3a:=HS2.out.2.2.trans hb3; have HS3:=zhi (HC.out _ hb3a); clear hm3 ho3 hb3 hb3a))
 have HR:Hid (NmR7 (ps++vrL ts) w (.returned (.slice A3 m3 c3)) w3):=zhi ⟨A3,c3,by rw [HM3.out],(z4j (F:=fun b=>w.heap.size<=b/\b<w3.heap.size) HO3.out (fun b h1 h2=>⟨by omega,h2⟩)).2,HB1.out.trans (HS3.out.2.2.mono HB1.out.size)⟩;dsimp only [Exit.then,Exit.inBlock];go_wp2_with fail;go_ret;exact HR.out
def Wf7 (K:RK) (gl:GlL) (fl:List Fn) (O:NmF) (F:Fn):Prop :=
 nmHs gl fl (F.params++vrL F.body) (locF F) O F.body/\wzB (F.params++vrL F.body).length K.gs fl.length (nB (locF F) O F.body)/\(F.params++vrL F.body).length<=1000/\F.body.length<=1000000/\fwB F.body/\F.params.length<=1000
section
variable {p:Nat} {K:RK} {D d:Nat} {gl:GlL} {fl:List Fn} {nd:Nat} {C:Cz} {O:NmF} {lb fb nl:Nat} {dp:Int} {s s':Sx} {ns:List Zb} {w W W':World} {row:Array Value} {T:TypeId}
theorem Fr7.swap {lb lb2:Nat} {w w1 w2:World} (h:Fr7 p K lb w w1) (k:Fr7 p K lb2 w1 w2) (hb:w.heap.size<=lb2):Fr7 p K lb w w2 :=
 ⟨h.lo.trans k.lo,fun b hb' h1 h2 h3 h4=>(k.keep b (q_1 hb' h.lo.size) h1 (by omega) h3 (fun e=>by
  rcases h.own b e with e2 | e2
  ·exact h4 e2
  ·omega)).trans (h.keep b hb' h1 h2 h3 h4),fun b e=>by
  rcases k.own b e with e1 | e1
  ·exact h.own b e1
  ·exact .inr (q_9 h.lo.size e1)⟩
theorem z8w {f:Int} {A:Option Addr} {n c:Nat} (h:RuS7 p K lb nl dp s w) (hd:K.ld<=dp) :
  Calls Tryz.prog 20 #[.pointer (some ⟨p,0,none⟩),.int .i64 f,.slice A n c] w (E7 p K lb nl dp ((0,3,0),s) w):=by
 have H:=zhi h;obtain ⟨iv,ov,tr,vl,hm⟩:=h;have c4:=zcr 4 hm.r;have c6:=zcr 6 hm.r;have i1:(K.ld<=dp)=True:=eq_true hd;obtain ⟨Y,hY⟩:∃ Y:Rz,Y=((0,3,0),s):=⟨_,rfl⟩;rw [<- hY];have HY:=zhi hY;clear hm hY hd;go_enter Tryz.func20,Tryz.ntmps20;go_wp2_with fail;go_quiet (fail);have HH:Hid (E7 p K lb nl dp Y w (.returned (.tuple #[.int .i64 0,.int .i64 3])) (w.drewN nq)):=zhi (by
  have hu:=H.out.up (z12 (q_i _ _) nq);rw [HY.out];exact ⟨0,rfl,(fun e=>by cases e),(fun e=>by cases e),hu.1,hu.2⟩)
 go_wp2_with fail;exact q_3 (by simp [results,Tryz.results20,go_sem]) rfl HH.out
theorem z7J {n0:Nat} {f:Int} {F:Fn} {args:List Int} {A:Option Addr} {n c:Nat} (hB:z6Q p K D d gl fl n0 C O d) (hN:NzC C) (h:RuS7 p K lb nl dp s w) (hd:dp+1+n0=K.ld) (hP:Pg7 p K D d gl fl w) (hf:0<=f) (hF:fl[f.toNat]?=some F) (hwf:Wf7 K gl fl O F) (hal:args.length=F.params.length) (hl:args.length=n) (hnc:n<=c) (hn:n<=1000) (hr:Rd w A (args.map (Value.int .i64))) (Y:Rz) (y8:Rz)
  (hy8:y8=zB K.ls (pn7 fl) C (nB (locF F) O F.body) { s with lv:=args++List.replicate ((F.params++vrL F.body).length - n) 0 }) (hY:Y=((y8.1.1,retK y8.1.2.1,y8.1.2.2),{ y8.2 with lv:=s.lv })) :
  Calls Tryz.prog 20 #[.pointer (some ⟨p,0,none⟩),.int .i64 f,.slice A n c] w (E7 p K lb nl dp Y w):=by
 obtain ⟨V,rfl⟩:∃ V:Nat,f=(V:Int):=⟨f.toNat,by omega⟩;rw [Int.toNat_natCast] at hF;obtain ⟨hw1,hw2,hw3,hw4,hw5,hw6⟩:=hwf;obtain ⟨gA,gc,fA,fc,p0,p1,e1,e2,_,hfa⟩:=h.pg hP;obtain ⟨g,pA,pc,bA,bc,rfl,hfg,d0,d1,d2,d3,hst,hrow⟩:=hfa.2 V F hF;have hfc:=hfa.1;have hV:V<fl.length:=(List.getElem?_eq_some_iff.1 hF).1;have hfl:=hP.fn;have hplt:=h.lt;have HR0:=zhi h;have HP:=zhi hP;obtain ⟨iv,ov,tr,vl,hm⟩:=h;have HM:=zhi hm;have c4:=zcr 4 hm.r;have c6:=zcr 6 hm.r;have i1:(K.ld<=dp)=False:=eq_false (by omega);have hdp:=hm.dp;have hld:=hm.k.ld;obtain ⟨nms,hnms⟩:∃ nms,nms=F.params++vrL F.body:=⟨_,rfl⟩;rw [<- hnms] at hw1 hw2 hw3 hy8;obtain ⟨L,hL⟩:∃ L,L=nms.length:=⟨_,rfl⟩;rw [<- hL] at hw2 hw3 hy8;have hnL:n<=L:=by rw [hL,hnms,List.length_append]; omega
 have HLo:Hid (∀ W,Below w.heap.size w W->Calls Tryz.prog 27 #[.agg #[.string F.name,.int .i64 F.line,.slice pA F.params.length pc,.slice bA F.body.length bc]] W (NmR7 nms W)):=zhi (fun W hW=>by
  rw [hnms];exact zaS (F:=fun b=>b<p) F.name F.line F.params pA F.params.length pc F.body bA F.body.length bc W rfl rfl (hst.keepR (fun _ h=>h) (fun b hb=>hW.block b (by omega))) (RowS.keep (F:=fun b=>b<p) (fun _ h=>h) (fun b hb=>hW.block b (by omega)) hrow) (fun b hb=>by have:=hW.size; omega) hw5 hw4 hw6 (by rw [hL,hnms,List.length_append] at hw3; omega))
 have HRow:=zhi hrow;have HD:Hid (dp+1+n0=K.ld):=zhi hd;have HW:=zhi (And.intro hw1 hw2);have Hl:=zhi hl;have HY:=zhi hY;have Hy8:=zhi hy8;have HL:=zhi hL;have HB:=zhi hB;have HRd:=zhi hr;have HZ:Hid (NzT y8):=zhi (by
  rw [hy8];exact zal _ (fun t _=>zey hN t) _)
 obtain ⟨pl,hpl⟩:∃ pl,pl=F.params.length:=⟨_,rfl⟩;obtain ⟨bl,hbl⟩:∃ bl,bl=F.body.length:=⟨_,rfl⟩;rw [<- hpl] at d2 HLo;rw [<- hbl] at d3 HLo hw4;obtain ⟨fn,hfn⟩:∃ fn,fn=fl.length:=⟨_,rfl⟩;rw [<- hfn] at p1 hV hfl hfc;have Hbl:=zhi hbl;have HC:=zhi (And.intro p1 d3);clear hw1 hw2 hw5 hst hrow hfa hP hm hN hd hl hY hy8 hL hB hr hnms hpl hbl hfn hal hF e1 e2 hw6;go_enter Tryz.func20,Tryz.ntmps20;go_wp2_with fail;go_quiet (fail);go_wp2_with fail;refine (HLo.out _ (z12 (q_i _ _) nq)).mono ?_;rintro e w2 ⟨B,kc,rfl,hstr,hb2⟩;rw [<- HL.out];have hbw2:Below w.heap.size w w2:=(z12 (q_i w.heap.size w) nq).trans hb2;have hs2:=hbw2.size;have hb3:=(q_i _ w2).alloc (q_2 _) (.cells #[.slice B L kc,.slice none 0 0] 107);have hz3:=q_4 w2 (.cells #[.slice B L kc,.slice none 0 0] 107);obtain ⟨W3,hW3⟩:∃ W3,W3=w2.alloc (.cells #[.slice B L kc,.slice none 0 0] 107):=⟨_,rfl⟩;rw [<- hW3] at hb3 hz3;have hs3:W3.heap.size=w2.heap.size+1:=by rw [hW3]; simp
 go_upto_region 4 with fail;rw [<- hW3];clear hW3;have f0:W3.cell? ⟨w2.heap.size,0,none⟩=some (.slice B L kc):=zcr 0 hz3;have f1:W3.cell? ⟨w2.heap.size,1,none⟩=some (.slice none 0 0):=zcr 1 hz3;have ff1:=z09 hz3 1;have hmk:=z1Q W3 L (by omega);have hg34:W3.grownBy (W3.setCell ⟨w2.heap.size,1,none⟩ (.slice (some ⟨w2.heap.size+1,0,none⟩) L L)) (some w2.heap.size):=z03 _ ⟨w2.heap.size,1,none⟩ _;have hz4:(W3.setCell ⟨w2.heap.size,1,none⟩ (.slice (some ⟨w2.heap.size+1,0,none⟩) L L)).heap[w2.heap.size]?=some (.cells #[.slice B L kc,.slice (some ⟨w2.heap.size+1,0,none⟩) L L] 107 (0,0)):=z0a (i:=1) _ hz3;have hs4:(W3.setCell ⟨w2.heap.size,1,none⟩ (.slice (some ⟨w2.heap.size+1,0,none⟩) L L)).heap.size=w2.heap.size+1:=by simp [hs3]
 have hI5:IntB ((W3.setCell ⟨w2.heap.size,1,none⟩ (.slice (some ⟨w2.heap.size+1,0,none⟩) L L)).alloc (.cells (Array.replicate L (Value.int .i64 0)) 3)) (w2.heap.size+1) (List.replicate L 0):=by
  have:=q_4 (W3.setCell ⟨w2.heap.size,1,none⟩ (.slice (some ⟨w2.heap.size+1,0,none⟩) L L)) (.cells (Array.replicate L (Value.int .i64 0)) 3);rw [hs4] at this;unfold IntB;rw [this];simp
 have Hs3:=zhi hs3;go_upto_region 5 with fail;obtain ⟨W4,hW4⟩:∃ W4,W4=W3.setCell ⟨w2.heap.size,1,none⟩ (.slice (some ⟨w2.heap.size+1,0,none⟩) L L):=⟨_,rfl⟩;rw [<- hW4] at hg34 hz4 hs4 hI5 ⊢;have hb45:=(q_i _ W4).alloc (q_2 _) (.cells (Array.replicate L (Value.int .i64 0)) 3);obtain ⟨W5,hW5⟩:∃ W5,W5=W4.alloc (.cells (Array.replicate L (Value.int .i64 0)) 3):=⟨_,rfl⟩;rw [<- hW5] at hb45 hI5 ⊢;have hbw5:Below w.heap.size w W5:=(hbw2.trans ((hb3.mono (by omega)).trans (z05 hg34 (fun k e=>by injection e with e; omega) (by omega)))).trans (hb45.mono (by rw [hs4]; omega));have hfrm5:W5.heap[w2.heap.size]?=some (.cells #[.slice B L kc,.slice (some ⟨w2.heap.size+1,0,none⟩) L L] 107 (0,0)):=(hb45.block _ (by rw [hs4]; omega)).trans hz4;have hstr5:z0l (fun b=>w.heap.size<=b/\b<w2.heap.size) W5 nms B kc:=hstr.keepR (fun b hb=>⟨by have:=(z12 (q_i w.heap.size w) nq).size; have:=hb.1; simp at this; omega,hb.2⟩) (fun b hb=>by
  have e3:=hb3.block b hb.2;have e4:=hg34.block b (by omega) (fun e=>by injection e with e; omega);have e5:=hb45.block b (by rw [hs4]; omega);exact (e5.trans e4).trans e3)
 have HI5:=zhi hI5;have Hbw5:=zhi hbw5;have Hfrm5:=zhi hfrm5;have Hstr5:=zhi hstr5;have hs5:w2.heap.size+1<W5.heap.size:=hI5.lt;clear hW4 hW5 hb45 hI5 hbw5 hfrm5 hstr5 hg34 hz4 hs4 hstr hb3 hz3 f0 f1 ff1 hmk hbw2 hb2 hs3;go_wp2_with fail
 go_loopw [9] (fun v wr=>∃ j:Nat,v=.int .i64 (j:Int)/\j<=n/\Hid (IntB wr (w2.heap.size+1) (args.take j++List.replicate (L - j) 0))/\Hid (W5.grownBy wr (some (w2.heap.size+1)))) (fun v _=>n - (intOf v).toNat)
 case atStart=>exact ⟨0,rfl,q_h _,zhi (by simpa using HI5.out),zhi ⟨rfl,rfl,rfl,q_2 _,fun _ _ _=>rfl⟩⟩
 case round =>
  obtain ⟨j,rfl,hj,HIr,HGr⟩:=hrel
  by_cases hjn:j<n
  ·have hfr:wr.heap[w2.heap.size]?=_:=(HGr.out.block _ (by omega) (fun e=>by injection e with e; omega)).trans Hfrm5.out;have f1:wr.cell? ⟨w2.heap.size,1,none⟩=some (.slice (some ⟨w2.heap.size+1,0,none⟩) L L):=zcr 1 hfr;obtain ⟨z,hz⟩:∃ z,args[j]?=some z:=⟨_,q_7 (by rw [Hl.out]; exact hjn)⟩;obtain ⟨ad,rfl,ca⟩:=HRd.out j (.int .i64 z) (by rw [q_b,hz]; rfl);have hadl:=q_k _ _ ca;rw [z0i] at hadl;have ca2:wr.cell? (ad.add j)=some (.int .i64 z):=by
    have h1:=hold Hbw5.out ca;have h2:=HGr.out.cell h1 (fun e=>by injection e with e; rw [z0i] at e; omega);exact h2
   have cz:wr.cell? ⟨w2.heap.size+1,j,none⟩=some (.int .i64 0):=HIr.out.at_ (by
    have hlen:(args.take j).length=j:=by rw [List.length_take,Hl.out]; omega
    rw [List.getElem?_append_right (by omega),hlen,Nat.sub_self,List.getElem?_replicate,if_pos (by omega)])
   have fz:=z09 HIr.out j;have HI2:Hid (IntB (wr.setCell ⟨w2.heap.size+1,j,none⟩ (.int .i64 z)).drew (w2.heap.size+1) (args.take (j+1)++List.replicate (L - (j+1)) 0)):=zhi (by
    have h:=HIr.out.set_ (i:=j) z;have e:(args.take j++List.replicate (L - j) 0).set j z=args.take (j+1)++List.replicate (L - (j+1)) 0:=by
     have hlen:(args.take j).length=j:=by rw [List.length_take,Hl.out]; omega
     rw [List.set_append_right _ _ (by omega),hlen,Nat.sub_self];have hrep:List.replicate (L - j) (0:Int)=0 :: List.replicate (L - (j+1)) 0:=by
      rw [show L - j=(L - (j+1))+1 by omega,List.replicate_succ]
     rw [hrep,List.set_cons_zero,List.take_add_one,hz];simp
    rw [e] at h;exact h)
   have HG2:Hid (W5.grownBy (wr.setCell ⟨w2.heap.size+1,j,none⟩ (.int .i64 z)).drew (some (w2.heap.size+1))):=zhi ((HGr.out.trans (z03 _ ⟨w2.heap.size+1,j,none⟩ _)).trans (z02 (z0m (q_i _ _)) _));clear hfr hz ca;go_upto_region 8 with fail;go_region;go_wp2_with fail;exact ⟨⟨j+1,by go_num,by omega,HI2,HG2⟩,by simp [intOf]; omega⟩
  ·obtain rfl:j=n:=by omega
   have hI6:=HIr.out;rw [List.take_of_length_le (by rw [Hl.out]; exact q_2 _)] at hI6;have hbw6:Below w.heap.size w wr:=Hbw5.out.trans (z05 HGr.out (fun k e=>by injection e with e; omega) (by omega));have hr6:Rn7 p K s.st dp iv ov tr vl wr:=(hbw6.block p hplt).trans HM.out.r;have hfrm6:=(HGr.out.block w2.heap.size (by omega) (fun e=>by injection e with e; omega)).trans Hfrm5.out;have hstr6:=Hstr5.out.keepR (G:=fun b=>w.heap.size<=b/\b<w2.heap.size) (fun _ h=>h) (fun b hb=>HGr.out.block b (by omega) (fun e=>by injection e with e; omega));have hs6:=HGr.out.size;have c6:=zcr 6 hr6;have ff6:=z09 hr6 6;have hg67:wr.grownBy (wr.setCell ⟨p,6,none⟩ (.int .i64 (dp+1))) (some p):=z03 _ ⟨p,6,none⟩ _;have hr7:Rn7 p K s.st (dp+1) iv ov tr vl (wr.setCell ⟨p,6,none⟩ (.int .i64 (dp+1))):=z0a (i:=6) _ hr6;have hgw7:w.grownBy (wr.setCell ⟨p,6,none⟩ (.int .i64 (dp+1))) (some p):=(z02 hbw6 (some p)).trans hg67;have hI7:=hI6.grown hg67 (by omega);have hlt7:∀ b,(b=K.gb\/b∈K.ga)->b<w.heap.size:=HM.out.lt;have hm7:Run7 p K (w2.heap.size+1) L (dp+1) { s with lv:=args++List.replicate (L - j) 0 } iv ov tr vl (wr.setCell ⟨p,6,none⟩ (.int .i64 (dp+1))) :=
    HM.out.self hgw7 hr7 (z1M HM.out.i hgw7 hplt) ⟨by simp [Hl.out]; omega,.inr ⟨by omega,fun e=>by have:=hlt7 _ (.inl rfl); omega,fun e=>by have:=hlt7 _ (.inr e); omega,trivial,hI7⟩⟩ rfl rfl (fun b hb=>by have:=(HM.out.out_lt hb).2; omega) HM.out.st ⟨by omega,by have:=HD.out; omega⟩ hw3
   have hfrw7:Fr7 p K lb w (wr.setCell ⟨p,6,none⟩ (.int .i64 (dp+1))):=z2C hgw7 hplt (fun b e=>(HM.out.out_iff b).2 ((hm7.out_iff b).1 e));have hfree:∀ b,w.heap.size<=b->b≠w2.heap.size+1->Fre7 p K (w2.heap.size+1) (wr.setCell ⟨p,6,none⟩ (.int .i64 (dp+1))) b:=fun b hb hne=>⟨by omega,hne,fun e=>by have:=hlt7 _ (.inr e); omega,fun e=>by have:=hlt7 b (.inl e); omega,fun e=>by
    have:=(HM.out.out_lt ((hm7.out_iff b).1 e)).2;omega⟩
   have hfrm7:Frm7 p K (w2.heap.size+1) w2.heap.size nms (wr.setCell ⟨p,6,none⟩ (.int .i64 (dp+1))):=by
    refine ⟨⟨B,kc,L,?_,?_⟩,hfree _ hs2 (by omega)⟩
    ·rw [<- HL.out];exact (hg67.block _ (by omega) (fun e=>by injection e with e; omega)).trans hfrm6
    ·exact hstr6.keepR (fun b hb=>⟨by have:=hg67.size; omega,hfree b hb.1 (by omega)⟩) (fun b hb=>hg67.block b (by omega) (fun e=>by injection e with e; omega))
   have hlow7:Below p w (wr.setCell ⟨p,6,none⟩ (.int .i64 (dp+1))):=hfrw7.lo;have hp1:(wr.setCell ⟨p,6,none⟩ (.int .i64 (dp+1))).cell? ⟨p,1,none⟩=some (.slice (some ⟨g,0,none⟩) fn fc):=by
    have h1:=zcr 1 hr7;have h2:=HC.out.1;have h3:w.cell? ⟨p,1,none⟩=some K.fn:=zcr 1 HM.out.r;rw [h3] at h2;injection h2 with h2;rw [h1,<- h2];rfl
   have hd3:(wr.setCell ⟨p,6,none⟩ (.int .i64 (dp+1))).cell? ⟨g,V * 4+3,none⟩=some (.slice bA bl bc):=(q_6 (hlow7.block g hfg)).trans HC.out.2;have HCb:=zhi (HB.out (w2.heap.size+1) w2.heap.size L (dp+1) { s with lv:=args++List.replicate (L - j) 0 } nms (locF F) F.body bA bl bc _ ⟨iv,ov,tr,vl,hm7⟩ (.inl HD.out) (HP.out.low hlow7) hfrm7 HL.out.symm (RowS.keep (F:=fun b=>b<p) (fun _ h=>h) (fun b hb=>hlow7.block b hb) HRow.out) Hbl.out.symm hw4 HW.out.1 HW.out.2);rw [<- Hy8.out] at HCb;have HM7:=zhi hm7;have HGw7:=zhi hgw7;have HFr7:=zhi hfrw7;clear hI6 hbw6 hr6 hfrm6 hstr6 hg67 hr7 hgw7 hI7 hlt7 hm7 hfrw7 hfree hfrm7 hlow7 HIr HGr HI5 Hstr5 Hfrm5;go_upto_region 10 with fail;obtain ⟨W7,hW7⟩:∃ W7,W7=wr.setCell ⟨p,6,none⟩ (.int .i64 (dp+1)):=⟨_,rfl⟩;rw [<- hW7] at HCb HM7 HFr7 HGw7 hp1 hd3 ⊢;clear hW7 c6 ff6;go_wp2_with fail;refine HCb.out.mono ?_;rintro e w8 ⟨rfl,hvl8,htr8,hrs8,hfr8⟩;obtain ⟨⟨v8,k8,t8⟩,s8⟩:=y8;dsimp only at hvl8 htr8 hrs8 ⊢;obtain ⟨iv8,ov8,tr8,vl8,hm8⟩:=hrs8;have hg89:w8.grownBy (w8.setCell ⟨p,6,none⟩ (.int .i64 dp)) (some p):=z03 _ ⟨p,6,none⟩ _;have hr9:Rn7 p K s8.st dp iv8 ov8 tr8 vl8 (w8.setCell ⟨p,6,none⟩ (.int .i64 dp)):=z0a (i:=6) _ hm8.r;have c6:=zcr 6 hm8.r;have ff6:=z09 hm8.r 6;have hs7:=HGw7.out.size;have hs8:=hfr8.lo.size;have hob:∀ b,z4o p w8 b->ov.ownBlock=some b\/W7.heap.size<=b:=fun b e=>(hfr8.own b e).imp (fun e=>(HM7.out.out_iff b).1 e) id
   have hl9:Loc7 p K lb nl s.lv (w8.setCell ⟨p,6,none⟩ (.int .i64 dp)):=by
    refine ⟨HM.out.l.1,?_⟩;rcases HM.out.l.2 with hh | ⟨h1,h2,h3,_,h5⟩
    ·exact .inl hh
    ·have h6:=h5.lt;have e7:W7.heap[lb]?=w.heap[lb]?:=HGw7.out.block lb h6 (fun e=>by injection e with e; omega);have e8:w8.heap[lb]?=W7.heap[lb]?:=hfr8.keep lb (by omega) (by omega) (by omega) h3 (fun e=>(HM.out.on lb ((HM7.out.out_iff lb).1 e)).1 rfl);have e9:=hg89.block lb (by omega) (fun e=>by injection e with e; omega);exact .inr ⟨h1,h2,h3,trivial,(e9.trans (e8.trans e7)).trans h5⟩
   have hm9:Run7 p K lb nl dp { s8 with lv:=s.lv } iv8 ov8 tr8 vl8 (w8.setCell ⟨p,6,none⟩ (.int .i64 dp)) :=
    hm8.self hg89 hr9 (z1M hm8.i hg89 hm8.plt) hl9 rfl rfl (fun b hb=>by
     rcases hob b ((hm8.out_iff b).2 hb) with e | e
     ·exact (HM.out.on b e).1
     ·rcases HM.out.l.2 with ⟨_,hh,_⟩ | ⟨_,_,_,_,h5⟩
      ·omega
      ·have:=h5.lt;omega) hm8.st hdp HM.out.nl
   have hfr9:Fr7 p K lb w (w8.setCell ⟨p,6,none⟩ (.int .i64 dp)) :=
    (HFr7.out.swap hfr8 (by omega)).trans (z2C hg89 hm8.plt (fun b e=>(hm8.out_iff b).2 ((hm9.out_iff b).1 e)))
   have c9:(w8.setCell ⟨p,6,none⟩ (.int .i64 dp)).cell? ⟨p,9,none⟩=some (.int .i64 tr8):=zcr 9 hr9;have c9':w8.cell? ⟨p,9,none⟩=some (.int .i64 tr8):=zcr 9 hm8.r;have c10:(w8.setCell ⟨p,6,none⟩ (.int .i64 dp)).cell? ⟨p,10,none⟩=some (.int .i64 vl8):=zcr 10 hr9;have c10':w8.cell? ⟨p,10,none⟩=some (.int .i64 vl8):=zcr 10 hm8.r;have hvt:(k8=1->vl8=v8)/\(k8=2->Tr7 p t8 (w8.setCell ⟨p,6,none⟩ (.int .i64 dp))):=by
    refine ⟨fun e=>?_,fun e=>?_⟩
    ·have h:=hvl8 e;unfold Vl7 at h;rw [c10'] at h;injection h with h;injection h
    ·have h:=htr8 e;unfold Tr7 at h ⊢;rw [c9'] at h;rw [c9];exact h
   have HE:=zhi (And.intro (⟨iv8,ov8,tr8,vl8,hm9⟩:RuS7 p K lb nl dp { s8 with lv:=s.lv } _) (And.intro hfr9 hvt));have hz:=HZ.out;clear hm8 hg89 hr9 hob hl9 hm9 hfr9 hvt hvl8 htr8 hfr8 c9 c9' c10' HM7 HFr7 HGw7 HCb HM hp1 hd3 Hs3 Hbw5 HLo HP HRow HW HB HRd HR0 HZ
   by_cases hk1:k8=1
   ·subst hk1;obtain rfl:=HE.out.2.2.1 rfl;have HH:Hid (E7 p K lb nl dp Y w (.returned (.tuple #[.int .i64 vl8,.int .i64 0])) (w8.setCell ⟨p,6,none⟩ (.int .i64 dp))):=zhi (by
     rw [HY.out];exact ⟨vl8,rfl,(fun _=>rfl),(fun e=>by cases e),HE.out.1,HE.out.2.1⟩)
    clear HE hz HY Hy8;go_wp2_with fail;exact q_3 (by simp [results,Tryz.results20,go_sem]) rfl HH.out
   ·by_cases hk0:k8=0
    ·subst hk0;have hv0:v8=0:=by
      rcases hz with h | h | h | h
      ·exact h.2.1
      ·exact absurd (show (0:Int)=1 from h.1) (by decide)
      ·exact absurd (show (0:Int)=2 from h.1) (by decide)
      ·exact absurd (show (0:Int)=3 from h.1) (by decide)
     subst hv0;have HH:Hid (E7 p K lb nl dp Y w (.returned (.tuple #[.int .i64 0,.int .i64 0])) (w8.setCell ⟨p,6,none⟩ (.int .i64 dp))):=zhi (by
      rw [HY.out];exact ⟨0,rfl,(fun _=>rfl),(fun e=>by cases e),HE.out.1,HE.out.2.1⟩)
     clear HE hz HY Hy8 c10;go_wp2_with fail;exact q_3 (by simp [results,Tryz.results20,go_sem]) rfl HH.out
    ·have i3:(k8 == 1)=false:=by simp [hk1]
     have i4:(k8 == 0)=false:=by simp [hk0]
     have HH:Hid (E7 p K lb nl dp Y w (.returned (.tuple #[.int .i64 0,.int .i64 k8])) (w8.setCell ⟨p,6,none⟩ (.int .i64 dp))):=zhi (by
      rw [HY.out];have hrk:retK k8=k8:=if_neg hk1;refine ⟨0,by dsimp only; rw [hrk],fun e=>?_,fun e=>?_,HE.out.1,HE.out.2.1⟩
      ·dsimp only at e;rw [hrk] at e;exact absurd e hk0
      ·dsimp only at e;rw [hrk] at e;exact HE.out.2.2.2 e)
     clear HE hz HY Hy8 c10 hk1 hk0;go_wp2_with fail;exact q_3 (by simp [results,Tryz.results20,go_sem]) rfl HH.out
theorem z3V (hC:zap p K D d gl fl nd C):∀ dx,z8f p K D d gl fl nd C O dx
 | 0=>fun _ _ _ _ _ _ _ _ _ _ _ _ _ _ _ hv=>hv.elim
 | dx+1=>zdL (zbX (z3V hC dx)) (z3V hC dx) hC
theorem z4v (hM:MoC K.ls C) (hN:NzC C) (hC:zap p K D d gl fl nd C):∀ dt,z6Q p K D d gl fl nd C O dt
 | 0=>z8t (fun _ _ _ _ _ _ _ _ _ _ _ _ _ _ _ hv=>hv.elim)
 | dt+1=>z8t (zei hM hN (zbX (z3V hC D)) (z4v hM hN hC dt))
theorem z5y (hwf:∀ (i:Nat) (F:Fn),fl[i]?=some F->Wf7 K gl fl O F):∀ n,zap p K D d gl fl n (zC K.ls (fl.map (nF O)) n)
 | 0=>fun lb nl dp s f F args A n c w h hd hP hf hf2 hal hl hnc hn hr=>by
  have e:zC K.ls (fl.map (nF O)) 0 f args s=((0,3,0),s):=rfl;rw [e];exact z8w h (by rcases hd with h | h <;> omega)
 | n0+1=>fun lb nl dp s f F args A n c w h hd hP hf hf2 hal hl hnc hn hr=>by
  have hw:=hwf _ _ hf2;have hpn:(fl.map (nF O)).map (·.params)=pn7 fl:=by
   rw [List.map_map];rfl
  refine z7J (O:=O) (z4v (zds n0) (zbB n0) (z5y hwf n0) d) (zbB n0) h (by rcases hd with h | h <;> omega) hP hf hf2 hw hal hl hnc hn hr _ _ rfl ?_
  have hfs:(fl.map (nF O))[f.toNat]?=some (nF O F):=by rw [q_b,hf2]; rfl
  rw [zC,hfs];dsimp only;rw [hpn];have hlen:args.length<=(F.params++vrL F.body).length:=by rw [List.length_append]; omega
  have e:args.take (nF O F).locals++List.replicate ((nF O F).locals - args.length) 0=args++List.replicate ((F.params++vrL F.body).length - n) 0:=by
   rw [List.take_of_length_le (by exact hlen),hl];rfl
  rw [e];rfl
end
structure Nms7 (gl:GlL) (fl:List Fn) (ns:List Zb) (L O:NmF):Prop where
 l:∀ s∈ns,∃ i:Nat,z0S ns s=some i/\L s=some (i:Int)
 n:∀ s,s ∉ ns->L s=none
 g:∀ s,z0D gl fl s=2\/z0D gl fl s=3->∃ i:Nat,z0S (gl.map (·.1)) s=some i/\O s=some (i:Int)
 f:∀ s,z0D gl fl s=4->∃ i:Nat,z0S (fl.map (·.name)) s=some i/\O s=some (i:Int)
 o:∀ s∈ns,z0D gl fl s=0
 e:∀ s∈ns,s.size≠0
section
variable {gl:GlL} {fl:List Fn} {ns:List Zb} {L O:NmF}
theorem z7c:((fl.map (rsFn gl fl)).map (·.name))=fl.map (·.name):=by
 rw [List.map_map];rfl
theorem ze5 (h:Nms7 gl fl ns L O) {ls:List Zb} (hl:∀ s∈ls,s∈ns) {s:Zb} {l:Int} (hw:z0s gl fl ls s=1\/z0s gl fl ls s=2):nmX gl (fl.map (rsFn gl fl)) ns L O (vrX gl fl ls s l):=by
 unfold vrX
 by_cases h1:z0s gl fl ls s=1
 ·rw [if_pos h1];refine ⟨⟨fun _=>h.l s (hl s (z3Q h1)),fun e=>?_,fun e=>?_,fun _=>rfl,by simp⟩,trivial⟩
  ·rcases e with e | e <;> cases e
  ·rcases e with e | e <;> cases e
 ·rw [if_neg h1];have h2:z0s gl fl ls s=2:=by rcases hw with e | e; exact absurd e h1; exact e
  refine ⟨⟨fun e=>?_,fun _=>h.g s (.inl (by rw [z1a (ls:=ls) (by omega)]; exact h2)),fun e=>?_,fun _=>rfl,by simp⟩,trivial⟩
  ·cases e
  ·rcases e with e | e <;> cases e
theorem z9p {ls:List Zb}:∀ {xs:List Ex},(∀ x∈xs,nmX gl (fl.map (rsFn gl fl)) ns L O (rsX gl fl ls x))->nmL gl (fl.map (rsFn gl fl)) ns L O (rsL gl fl ls xs)
 | [],_=>trivial
 | x :: xs,h=>⟨h x (by simp),z9p fun y hy=>h y (by simp [hy])⟩
theorem z6y {ls:List Zb}:∀ {xs:List Ex},okL gl fl ls xs->∀ x∈xs,okX gl fl ls x
 | [],_,x,hx=>by simp at hx
 | y :: ys,h,x,hx=>by
  rcases q_d.1 hx with e | hx
  ·rw [e]; exact h.1
  ·exact z6y h.2 x hx
theorem z6u (h:Nms7 gl fl ns L O) {ls:List Zb} (hl:∀ s∈ls,s∈ns) {k o a l:Int} {s:Zb} {xs:List Ex} (hok:okN gl fl ls k s xs.length) (hk:(xs=[]/\(k=12\/k=13\/k=1\/k=11))\/(4<=k/\k<=10)) (hx:nmL gl (fl.map (rsFn gl fl)) ns L O (rsL gl fl ls xs)):nmX gl (fl.map (rsFn gl fl)) ns L O (rsX gl fl ls (.mk k o a l s xs)):=by
 obtain ⟨n13,n4,n11,n9,n3⟩:=hok;unfold rsX
 by_cases h13:k=13
 ·rw [if_pos h13];exact ze5 h hl (n13 h13)
 ·rw [if_neg h13]
  by_cases h9:k=9/\z0s gl fl ls s<=2
  ·rw [if_pos h9];have hw:z0s gl fl ls s=1\/z0s gl fl ls s=2:=by
    rcases n9 h9.1 with ⟨e,_⟩ | e | e
    ·omega
    ·exact .inl e
    ·exact .inr e
   refine ⟨⟨fun e=>?_,fun e=>?_,fun e=>?_,fun e=>?_,by simp [z11]; omega⟩,ze5 h hl hw,hx⟩
   ·cases e
   ·rcases e with e | e <;> cases e
   ·rcases e with e | e <;> cases e
   ·rcases e with e | e | e | e | e <;> cases e
  ·rw [if_neg h9];have hk23:k≠2/\k≠3:=by
    clear n9 n4 n11 n13 h9 hx h h13;omega
   refine ⟨⟨fun e=>absurd e hk23.1,fun e=>?_,fun e=>?_,fun e=>?_,by rw [z11]; clear n9 n4 n11 n13 h9 hx h h13; omega⟩,hx⟩
   ·have e4:k=4:=by
     rcases e with e | e
     ·exact absurd e hk23.2
     ·exact e
    exact h.g s (.inr (by rw [z1a (ls:=ls) (by have:=n4 e4; omega)]; exact n4 e4))
   ·rcases e with e | e
    ·rcases n9 e with ⟨hw,j,f,hj,hf,hp⟩ | hw | hw
     ·obtain ⟨i,hi,hO⟩:=h.f s (by rw [z1a (ls:=ls) (by omega)]; exact hw);rw [hj] at hi;injection hi with hi;subst hi;exact ⟨j,rsFn gl fl f,by rw [z7c]; exact hj,hO,by rw [q_b,hf]; rfl,fun _=>by rw [z11]; exact hp.symm⟩
     ·exact absurd ⟨e,by omega⟩ h9
     ·exact absurd ⟨e,by omega⟩ h9
    ·obtain ⟨i,hi,hO⟩:=h.f s (by rw [z1a (ls:=ls) (by have:=n11 e; omega)]; exact n11 e);have hif:=z40 hi;rw [q_b,q_c] at hif;obtain ⟨f,hf,_⟩:=hif;exact ⟨i,rsFn gl fl f,by rw [z7c]; exact hi,hO,by rw [q_b,hf]; rfl,fun e2=>by omega⟩
   ·rcases hk with ⟨rfl,_⟩ | hk
    ·rfl
    ·omega
theorem ze4 (h:Nms7 gl fl ns L O) {ls:List Zb} (hl:∀ s∈ls,s∈ns):∀ (d:Nat) (x:Ex),GE d x->okX gl fl ls x->nmX gl (fl.map (rsFn gl fl)) ns L O (rsX gl fl ls x)
 | 0,.mk k o a l s xs,hg,ho=>by
  obtain ⟨_,_,_,_,_,_,rfl,hk⟩:=hg;exact z6u h hl ho.1 (.inl ⟨rfl,by omega⟩) trivial
 | d+1,.mk k o a l s xs,hg,ho=>by
  obtain ⟨_,_,_,_,_,_,hk⟩:=hg;rcases hk with ⟨rfl,hk⟩ | ⟨hx,hk⟩
  ·exact z6u h hl ho.1 (.inl ⟨rfl,by omega⟩) trivial
  ·exact z6u h hl ho.1 (.inr (by omega)) (z9p fun x hm=>ze4 h hl d x (hx x hm) (z6y ho.2 x hm))
mutual
theorem zeq:∀ (t:St) (ls:List Zb),okS gl fl ls t->∀ s∈vrS t,z0D gl fl s=0
 | .mk k l s es ts us,ls,ho,x,hx=>by
  obtain ⟨_,⟨p1,_⟩,_,r1,r2⟩:=ho;have hx':x∈(if k=1 then [s] else [])++vrL ts++vrL us:=hx;rcases q_8.1 hx' with hx' | hx'
  ·rcases q_8.1 hx' with hx' | hx'
   ·split at hx'
    ·rename_i h1;simp at hx';subst hx';have hw:=p1 h1;rw [<- z1a (ls:=ls) (by omega)] at hw;exact hw
    ·simp at hx'
   ·exact z5t ts _ r1 x hx'
  ·exact z5t us _ r2 x hx'
theorem z5t:∀ (ts:List St) (ls:List Zb),okB gl fl ls ts->∀ s∈vrL ts,z0D gl fl s=0
 | [],_,_,x,hx=>by simp [vrL] at hx
 | t :: ts,ls,ho,x,hx=>by
  have hx':x∈vrS t++vrL ts:=hx;rcases q_8.1 hx' with hx' | hx'
  ·exact zeq t ls ho.1 x hx'
  ·exact z5t ts _ ho.2 x hx'
end
theorem z5s:∀ {ts:List St} {x:Zb},x∈vrL ts->∃ t∈ts,x∈vrS t
 | [],x,hx=>by simp [vrL] at hx
 | t :: ts,x,hx=>by
  have hx':x∈vrS t++vrL ts:=hx;rcases q_8.1 hx' with hx' | hx'
  ·exact ⟨t,by simp,hx'⟩
  ·obtain ⟨u,hu,hxu⟩:=z5s hx';exact ⟨u,by simp [hu],hxu⟩
theorem z6P:∀ (d:Nat) (t:St),GSt d t->∀ s∈vrS t,z0B s
 | 0,_,h,_,_=>h.elim
 | d+1,.mk k l s es ts us,h,x,hx=>by
  obtain ⟨_,_,hts,hus,hk⟩:=h;have hx':x∈(if k=1 then [s] else [])++vrL ts++vrL us:=hx;rcases q_8.1 hx' with hx' | hx'
  ·rcases q_8.1 hx' with hx' | hx'
   ·split at hx'
    ·rename_i h1;simp at hx';subst hx';rcases hk with h | h | h | h | h | h
     ·exact h.2.1
     ·exact h.2.1
     ·exact h.2.1
     ·omega
     ·omega
     ·omega
    ·simp at hx'
   ·obtain ⟨t,ht,hxt⟩:=z5s hx';exact z6P d t (hts t ht) x hxt
  ·obtain ⟨t,ht,hxt⟩:=z5s hx';exact z6P d t (hus t ht) x hxt
theorem z5d (h:Nms7 gl fl ns L O) {d:Nat} (hS:∀ (t:St) (ls:List Zb),GSt d t->okS gl fl ls t->(∀ s∈ls++vrS t,s∈ns)->nmHt gl (fl.map (rsFn gl fl)) ns L O (rsS gl fl ls t)):∀ (ts:List St) (ls:List Zb),(∀ t∈ts,GSt d t)->okB gl fl ls ts->(∀ s∈ls++vrL ts,s∈ns)->nmHs gl (fl.map (rsFn gl fl)) ns L O (rsB gl fl ls ts)
 | [],_,_,_,_=>trivial
 | t :: ts,ls,hg,ho,hm=>by
  have hv:vrL (t :: ts)=vrS t++vrL ts:=rfl;rw [hv] at hm;exact ⟨hS t ls (hg t (by simp)) ho.1 (fun s hs=>hm s (by simp only [q_8] at hs ⊢; rcases hs with e | e; exact .inl e; exact .inr (.inl e))),z5d h hS ts (ls++vrS t) (fun x hx=>hg x (by simp [hx])) ho.2 (fun s hs=>hm s (by simp only [q_8] at hs ⊢; rcases hs with (e | e) | e; exact .inl e; exact .inr (.inl e); exact .inr (.inr e)))⟩
theorem zcT (h:Nms7 gl fl ns L O):∀ (d:Nat) (t:St) (ls:List Zb),GSt d t->okS gl fl ls t->(∀ s∈ls++vrS t,s∈ns)->nmHt gl (fl.map (rsFn gl fl)) ns L O (rsS gl fl ls t)
 | 0,_,_,hg,_,_=>hg.elim
 | d+1,.mk k l s es ts us,ls,hg,ho,hm=>by
  obtain ⟨_,hes,hts,hus,hk⟩:=hg;obtain ⟨⟨o1,_⟩,⟨p1,p2,p3⟩,_,r1,r2⟩:=ho;have hv:vrS (.mk k l s es ts us)=(if k=1 then [s] else [])++vrL ts++vrL us:=rfl;rw [hv] at hm;have hh:hdS k s=if k=1 then [s] else []:=rfl
  rw [<- hh] at hm;have hl:∀ x∈ls,x∈ns:=fun x hx=>hm x (by simp [hx])
  refine ⟨⟨fun e=>h.l s (hm s (by rw [hh,if_pos e]; simp)),fun e=>?_,fun e=>?_,fun e=>h.n s (fun hs=>h.e s hs ?_),by omega,fun e=>by rw [z11]; omega,fun e=>by rw [z11]; omega⟩,z9p fun x hx=>ze4 h hl 2 x (hes x hx) (z6y o1 x hx),?_,?_⟩
  ·rcases p2 e with hw | hw
   ·exact .inl (h.l s (hl s (z3Q hw)))
   ·have hw2:z0D gl fl s=2:=by rw [z1a (ls:=ls) (by omega)]; exact hw
    have hs:s ∉ ns:=fun hs=>by have:=h.o s hs; omega
    exact .inr ⟨z41 hs,h.n s hs,h.g s (.inl hw2)⟩
  ·have hw2:z0D gl fl s=3:=by rw [z1a (ls:=ls) (by have:=p3 e; omega)]; exact p3 e
   have hs:s ∉ ns:=fun hs=>by have:=h.o s hs; omega
   exact ⟨h.n s hs,h.g s (.inr hw2)⟩
  ·rcases hk with hk | hk | hk | hk | hk | hk
   ·omega
   ·omega
   ·omega
   ·exact hk.2.1
   ·exact hk.2.1
   ·exact hk.2.1
  ·exact z5d h (zcT h d) ts _ hts r1 (fun x hx=>hm x (by simp only [q_8] at hx ⊢; rcases hx with (e | e) | e; exact .inl e; exact .inr (.inl (.inl e)); exact .inr (.inl (.inr e))))
  ·exact z5d h (zcT h d) us _ hus r2 (fun x hx=>hm x (by simp only [q_8] at hx ⊢; rcases hx with ((e | e) | e) | e; exact .inl e; exact .inr (.inl (.inl e)); exact .inr (.inl (.inr e)); exact .inr (.inr e)))
end
end Go.Proofs.YtdflbhofmmlpgaaGreat
