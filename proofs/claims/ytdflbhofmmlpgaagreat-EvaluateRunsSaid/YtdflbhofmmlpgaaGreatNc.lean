/-
  Nc: Yx. Part of the proof. No condition.
-/
import Derived.Test.YtdflbhofmmlpgaaGreatNa
set_option maxRecDepth 100000
set_option maxHeartbeats 8000000
namespace Go.Proofs.YtdflbhofmmlpgaaGreat
open Go.RowKit
def numX (L O:NmF) (k a:Int) (s:Zb):Int:=if k=2 then (L s).getD 0 else if k=3\/k=4\/k=9\/k=11 then (O s).getD 0 else a
theorem zeT {L O:NmF} {k o a l:Int} {s:Zb} {xs:List Ex}:nX L O (.mk k o a l s xs)=.mk k o (numX L O k a s) l s (nL L O xs):=rfl
section
variable {p:Nat} {K:RK} {D d:Nat} {gl:GlL} {fl:List Fn} {nd:Nat} {C:Cz} {O:NmF} {lb fb nl:Nat} {dp:Int} {s s':Sx} {ns:List Zb} {w W W':World} {row:Array Value} {T:TypeId}
theorem RuS7.pg (h:RuS7 p K lb nl dp s W) (hP:Pg7 p K D d gl fl W):∃ gA gc fA fc,W.cell? ⟨p,0,none⟩=some (.slice gA gl.length gc)/\W.cell? ⟨p,1,none⟩=some (.slice fA fl.length fc)/\K.sz=.slice gA gl.length gc/\K.fn=.slice fA fl.length fc/\z0k (fun b=>b<p) W gl gA gc/\z0R (fun b=>b<p) W D d fl fA fc:=by
 obtain ⟨gA,gc,fA,fc,e1,e2,h3,h4⟩:=hP.s;obtain ⟨iv,ov,tr,vl,h⟩:=h;obtain ⟨c0,c1⟩:=cl2 h.r;exact ⟨gA,gc,fA,fc,by rw [c0,<- e1]; rfl,by rw [c1,<- e2]; rfl,e1,e2,h3,h4⟩
theorem Bx7.cells {v0 v1 v2 v3 v4 v5:Value} (h:Bx7 p K lb nl dp w #[v0,v1,v2,v3,v4,v5] T s W):W.cell? ⟨w.heap.size,0,none⟩=some v0/\W.cell? ⟨w.heap.size,1,none⟩=some v1/\W.cell? ⟨w.heap.size,2,none⟩=some v2/\W.cell? ⟨w.heap.size,3,none⟩=some v3/\W.cell? ⟨w.heap.size,4,none⟩=some v4/\W.cell? ⟨w.heap.size,5,none⟩=some v5 :=
 ⟨zcr 0 h.z,zcr 1 h.z,zcr 2 h.z,zcr 3 h.z,zcr 4 h.z,zcr 5 h.z⟩
theorem RuS7.arr (h:RuS7 p K lb nl dp s W) {i:Nat} (hi:i<K.gs.length):∃ b c gn gc l,K.ga[i]?=some b/\s.gl[i]?=some l/\glAt s (i:Int)=l/\K.gs[i]?=some l.length/\i<gn/\gn<=1000/\l.length<=1000000/\W.cell? ⟨p,7,none⟩=some (.slice (some ⟨K.gb,0,none⟩) gn gc)/\W.cell? ⟨K.gb,i,none⟩=some (.slice (some ⟨b,0,none⟩) l.length c)/\IntB W b l:=by
 obtain ⟨iv,ov,tr,vl,h⟩:=h;have hgl:s.gl.length=K.gs.length:=by rw [<- h.g.ln,List.length_map]
 obtain ⟨l,hl⟩:∃ l,s.gl[i]?=some l:=⟨_,q_7 (by omega)⟩;obtain ⟨b,c,gc,hb,hgv,hc,hib⟩:=h.g.get hl;have c7:=zcr 7 h.r;have hlm:l.length<=1000000:=h.k.gm l.length (by rw [<- h.g.ln]; exact List.mem_map.2 ⟨l,q_a hl,rfl⟩);have hkl:=h.k.gl;refine ⟨b,c,s.gl.length,gc,l,hb,hl,?_,?_,by omega,by omega,hlm,by rw [c7,<- hgv]; rfl,hc,hib⟩
 ·unfold glAt;rw [List.getD_eq_getElem?_getD];simp [hl]
 ·rw [<- h.g.ln,q_b,hl];rfl
theorem RuS7.loc (h:RuS7 p K lb nl dp s W) (hf:Frm7 p K lb fb ns W) (hns:ns.length=nl) {i:Nat} (hi:i<nl):∃ nA nc vc x,W.heap[fb]?=some (.cells #[.slice nA ns.length nc,.slice (some ⟨lb,0,none⟩) nl vc] 107 (0,0))/\z0l (fun b=>b<W.heap.size/\Fre7 p K lb W b) W ns nA nc/\nl<=1000/\s.lv.getD i 0=x/\W.cell? ⟨lb,i,none⟩=some (.int .i64 x):=by
 obtain ⟨iv,ov,tr,vl,h⟩:=h;obtain ⟨nA,nc,vc,h1,h2⟩:=hf.f;obtain ⟨hl0,hl⟩:=h.l;rcases hl with ⟨hh,_,_⟩ | ⟨h3,h4,h5,_,h6⟩
 ·omega
 ·obtain ⟨x,hx⟩:∃ x,s.lv[i]?=some x:=⟨_,q_7 (by omega)⟩;refine ⟨nA,nc,vc,x,by rw [h1,hns],h2,h.nl,?_,h6.at_ hx⟩;rw [List.getD_eq_getElem?_getD,hx];rfl
theorem RuS7.p01 (h:RuS7 p K lb nl dp s W):W.cell? ⟨p,0,none⟩=some K.sz/\W.cell? ⟨p,1,none⟩=some K.fn:=by
 obtain ⟨iv,ov,tr,vl,h⟩:=h;exact ⟨zcr 0 h.r,zcr 1 h.r⟩
theorem RuS7.reads {x:Int} {inp:List Int} (h:RuS7 p K lb nl dp s W) (hi:s.inp=x :: inp):∃ ad c,W.cell? ⟨p,2,none⟩=some (.slice (some ad) (inp.length+1) c)/\W.frozen? ⟨p,2,none⟩=false/\inp.length+1<=c/\inp.length<=1000000/\W.cell? ad=some (.int .i64 x) /\
  RuS7 p K lb nl dp { s with inp:=s.inp.tail } (W.setCell ⟨p,2,none⟩ (.slice (if c=1 then some ad else (some ad).map (·.add 1)) inp.length (c - 1)))/\Fr7 p K lb W (W.setCell ⟨p,2,none⟩ (.slice (if c=1 then some ad else (some ad).map (·.add 1)) inp.length (c - 1))):=by
 obtain ⟨iv,ov,tr,vl,h⟩:=h;obtain ⟨A,c,rfl,hlc,hlm,hrd,hlo⟩:=h.i;rw [hi] at hlc hlm hrd;obtain ⟨ad,rfl,hc⟩:=hrd 0 _ rfl;rw [z0N] at hc;have c2:=zcr 2 h.r;have f2:=z09 h.r 2;have hg:W.grownBy (W.setCell ⟨p,2,none⟩ (.slice (if c=1 then some ad else (some ad).map (·.add 1)) inp.length (c - 1))) (some p):=z03 W ⟨p,2,none⟩ _;have hlen:(x :: inp).length=inp.length+1:=rfl;rw [hlen] at hlc hlm;have h1:Run7 p K lb nl dp { s with inp:=s.inp.tail } (.slice (if c=1 then some ad else (some ad).map (·.add 1)) inp.length (c - 1)) ov tr vl (W.setCell ⟨p,2,none⟩ (.slice (if c=1 then some ad else (some ad).map (·.add 1)) inp.length (c - 1))):=by
  refine h.self hg (z0a (i:=2) _ h.r) ?_ (h.l.grown hg) rfl rfl (fun b hb=>(h.on b hb).1) h.st h.dp h.nl;refine z1M ⟨_,c - 1,by rw [hi]; rfl,by rw [hi]; show inp.length<=_; omega,by rw [hi]; show inp.length<=_; omega,?_,?_⟩ hg h.plt
  ·have:=Rd.cut (k:=1) (c:=c) hrd (by simp; omega);rw [hi];simpa using this
  ·intro ad' e;have hb:=hlo ad rfl;split at e
   ·injection e with e; rw [<- e]; exact hb
   ·simp at e; rw [<- e,z0i]; exact hb
 refine ⟨ad,c,?_,f2,hlc,by omega,hc,⟨_,ov,tr,vl,h1⟩,z2C hg h.plt fun b e=>(h.out_iff b).2 ((h1.out_iff b).1 e)⟩;have e:W.cell? ⟨p,2,none⟩=some (.slice (some ad) s.inp.length c):=c2;rw [e,hi];rfl
theorem RuS7.empty (h:RuS7 p K lb nl dp s W) (hi:s.inp=[]):∃ A c,W.cell? ⟨p,2,none⟩=some (.slice A 0 c):=by
 obtain ⟨iv,ov,tr,vl,h⟩:=h;obtain ⟨A,c,rfl,_⟩:=h.i;have e:W.cell? ⟨p,2,none⟩=some (.slice A s.inp.length c):=zcr 2 h.r;rw [hi] at e;exact ⟨A,c,e⟩
theorem zdL {dx:Nat} (hL:zcg p K D d gl fl nd C O dx) (hE:z8f p K D d gl fl nd C O dx) (hC:zap p K D d gl fl nd C):z8f p K D d gl fl nd C O (dx+1):=by
 intro lb fb nl dp s ns L x v w h hd hP hfm hns hv hnm hw;obtain ⟨k,o,a,l,nm,xs⟩:=x;obtain ⟨A,c,rfl,hr⟩:=z1D.1 hv;rw [zeT] at hw ⊢;obtain ⟨⟨n2,n3,n9,n0,nlen⟩,hnl⟩:=hnm;obtain ⟨hwk,hwl⟩:=hw;rw [z1G] at hwk;obtain ⟨a2,ha2⟩:∃ a2,a2=numX L O k a nm:=⟨_,rfl⟩;rw [<- ha2] at hwk ⊢;obtain ⟨Y,hY⟩:∃ Y,Y=zX K.ls (pn7 fl) C (.mk k o a2 l nm (nL L O xs)) s:=⟨_,rfl⟩;rw [<- hY];have hB:=Bx7.new h #[.int .i64 k,.int .i64 o,.int .i64 a,.int .i64 l,.string nm,.slice A xs.length c] 124;obtain ⟨n,hn⟩:∃ n,n=xs.length:=⟨_,rfl⟩;rw [<- hn] at hB hwk n0 nlen n9 ⊢;have hnc:n<=c:=by rw [hn]; exact hr.1
 have HB:=zhi hB;have HD:=zhi hd;have HP:=zhi hP;have HFm:=zhi hfm;have Hns:=zhi hns;have Hn:=zhi hn;have HR:=zhi (fun (w':World) (hb:Below p w w')=>hr.keep (G:=fun b=>b<p) (fun _ h=>h) (fun b hb'=>hb.block b hb'));have HX:=zhi (And.intro hnl hwl);have HY:=zhi hY;have HA2:=zhi ha2;have N2:=zhi n2;have N3:=zhi n3;have N9:=zhi n9;have N0:=zhi n0;have HWk:=zhi hwk;have hlt:=hB.lt;have HSt:=zhi (za2 hB.rs);clear hv h hd hP hfm hns hr hnl hwl hB hY ha2 n2 n3 n9 n0 hwk hn;obtain ⟨W0,hW0⟩:∃ W0,W0=w.alloc (.cells #[.int .i64 k,.int .i64 o,.int .i64 a,.int .i64 l,.string nm,.slice A n c] 124):=⟨_,rfl⟩;rw [<- hW0] at HB HSt hlt
 by_cases hls:K.ls<=s.st
 ·have hst:z2y K.ls s=((0,3,0),s):=if_pos hls;rw [hst] at HSt;have hY2:Y=((0,3,0),s):=by
   rw [HY.out,z8b,if_pos hls]
  have HY2:=zhi hY2;clear hst hls hY2 HY HX HR HFm HP HD hL hE hC;go_enter Tryz.func94,Tryz.ntmps94;go_upto_region 1 with fail;rw [<- hW0];clear hW0;go_wp2_with fail;refine HSt.out.mono ?_;rintro e w1 ⟨rfl,_,_,hrs1,hfr1⟩;have HH:Hid (E7 p K lb nl dp Y w (.returned (.tuple #[.int .i64 0,.int .i64 3])) w1):=zhi ((HB.out.call hrs1 hfr1).ret HY2.out (fun e=>by cases e) (fun e=>by cases e));clear hrs1 hfr1 HB HSt;go_wp2_with fail;exact q_3 (by simp [results,Tryz.results94,go_sem]) rfl HH.out
 ·have hst:z2y K.ls s=((0,0,0),tick s):=if_neg hls;rw [hst] at HSt;have Hls:=zhi hls;have HLs:=zhi (fun (W:World) (hb:Bx7 p K lb nl dp w #[.int .i64 k,.int .i64 o,.int .i64 a,.int .i64 l,.string nm,.slice A n c] 124 (tick s) W)=>hL lb fb nl dp (tick s) ns L xs A n c W hb.rs HD.out (HP.out.low hb.fr.lo) (HFm.out.fr hb.fr) Hns.out (HR.out W hb.fr.lo) Hn.out.symm nlen HX.out.1 HX.out.2);have HE:=zhi hE;have HC:=zhi hC;clear hst hls hL hE hC
  by_cases h78:k=7\/k=8
  ·have hn2:n=2:=by
    rcases HWk.out with h | h | h | h | h | h | h | h <;> omega
   subst hn2
   match xs,Hn,HR,HX,HY with
   | [x,y],Hn,HR,HX,HY =>
   have HLz:=zhi (fun (W:World) (hb:Bx7 p K lb nl dp w #[.int .i64 k,.int .i64 o,.int .i64 a,.int .i64 l,.string nm,.slice A 2 c] 124 (tick s) W)=>zdV HE.out (o:=o) (a:=a) (l:=l) (nm:=nm) h78 hb.rs HD.out (HP.out.low hb.fr.lo) (HFm.out.fr hb.fr) Hns.out (HR.out W hb.fr.lo) HX.out.1.1 HX.out.1.2.1 HX.out.2.1 HX.out.2.2.1);have hY2:Y=z0W (zX K.ls (pn7 fl) C (nX L O x) (tick s)) (z2 k o (zX K.ls (pn7 fl) C (nX L O y))):=by
    rw [HY.out,z8b,if_neg Hls.out,if_neg (by omega),if_neg (by omega),if_neg (by omega),if_neg (by omega),if_neg (by omega),if_neg (by omega)];rfl
   have HY2:=zhi hY2;have i7:(k == 7||k == 8)=true:=by rcases h78 with rfl | rfl <;> rfl
   clear hY2 HY HX HR HFm HP HD HLs HE HC;go_enter Tryz.func94,Tryz.ntmps94;go_upto_region 1 with fail;rw [<- hW0];clear hW0;go_wp2_with fail;refine HSt.out.mono ?_;rintro e w1 ⟨rfl,_,_,hrs1,hfr1⟩;replace HB:=zhi (HB.out.call hrs1 hfr1);have HCz:=zhi (HLz.out w1 HB.out);obtain ⟨x0,x1,x2,x3,x4,x5⟩:=HB.out.cells;rw [<- HY2.out] at HCz;clear hrs1 hfr1 HSt HLz;rcases h78 with rfl | rfl
   ·go_wp2_with fail;refine HCz.out.mono ?_;rintro e w2 ⟨v2,rfl,hv2,htr2,hrs2,hfr2⟩;have HH:Hid (E7 p K lb nl dp Y w (.returned (.tuple #[.int .i64 v2,.int .i64 Y.1.2.1])) w2):=zhi ⟨v2,rfl,hv2,htr2,hrs2,HB.out.fr.trans hfr2⟩;clear hv2 htr2 hrs2 hfr2 HB HCz x0 x1 x2 x3 x4 x5;go_wp2_with fail;exact q_3 (by simp [results,Tryz.results94,go_sem]) rfl HH.out
   ·go_wp2_with fail;refine HCz.out.mono ?_;rintro e w2 ⟨v2,rfl,hv2,htr2,hrs2,hfr2⟩;have HH:Hid (E7 p K lb nl dp Y w (.returned (.tuple #[.int .i64 v2,.int .i64 Y.1.2.1])) w2):=zhi ⟨v2,rfl,hv2,htr2,hrs2,HB.out.fr.trans hfr2⟩;clear hv2 htr2 hrs2 hfr2 HB HCz x0 x1 x2 x3 x4 x5;go_wp2_with fail;exact q_3 (by simp [results,Tryz.results94,go_sem]) rfl HH.out
  ·have hY2:Y=z0V (zL K.ls (pn7 fl) C (nL L O xs) (tick s)) (zaft (pn7 fl) C k o a2):=by
    rw [HY.out];refine zeF Hls.out ?_;have h0:=N0.out;have hnx:(nL L O xs).length=n:=by rw [z1G]; exact Hn.out.symm
    have hnil:n=0->nL L O xs=[]:=fun e=>q_g (by omega)
    rw [hnx];rcases HWk.out with (h | h | h) | h | h | h | h | h | h | h
    ·exact .inl ⟨by omega,hnil (h0 (by omega))⟩
    ·exact .inl ⟨by omega,hnil (h0 (by omega))⟩
    ·exact .inl ⟨by omega,hnil (h0 (by omega))⟩
    ·exact .inl ⟨by omega,hnil (h0 (by omega))⟩
    ·exact .inl ⟨by omega,hnil (h0 (by omega))⟩
    ·omega
    ·omega
    ·omega
    ·omega
    ·omega
   have hlen:=z67 (ls:=K.ls) (pn:=pn7 fl) (C:=C) (nL L O xs) (tick s);rw [z1G,<- Hn.out] at hlen;have HY2:=zhi hY2;have i7:(k == 7)=false:=by simp; omega
   have i8:(k == 8)=false:=by simp; omega
   clear hY2 HY HX HR HE h78;go_enter Tryz.func94,Tryz.ntmps94;go_upto_region 1 with fail;rw [<- hW0];clear hW0;go_wp2_with fail;refine HSt.out.mono ?_;rintro e w1 ⟨rfl,_,_,hrs1,hfr1⟩;replace HB:=zhi (HB.out.call hrs1 hfr1);have HCl:=zhi (HLs.out w1 HB.out);obtain ⟨x0,x1,x2,x3,x4,x5⟩:=HB.out.cells;clear hrs1 hfr1 HSt HLs;go_wp2_with fail;refine HCl.out.mono ?_;rintro e w2 ⟨A2,m,c2,rfl,hq2,htr2,hrs2,hfr2⟩;replace HY2:=HY2.out;generalize zL K.ls (pn7 fl) C (nL L O xs) (tick s)=q at hq2 htr2 hrs2 HY2 hlen;obtain ⟨vs,⟨k2,t2⟩,s2⟩:=q;dsimp only at hq2 htr2 hrs2 hlen ⊢;replace HB:=zhi (HB.out.call hrs2 hfr2);obtain ⟨x0,x1,x2,x3,x4,x5⟩:=HB.out.cells;clear hrs2 hfr2 HCl
   by_cases h0:k2=0
   ·subst h0;replace HY2:Y=zaft (pn7 fl) C k o a2 vs s2:=HY2.trans (if_pos rfl);obtain ⟨hmv,hmc,hrd,_⟩:=hq2 rfl;have hvn:vs.length=n:=hlen.2 rfl;have HRd:=zhi hrd;have Hmv:=zhi hmv;have Hvn:=zhi hvn;have hmn:m=n:=hmv.trans hvn;clear hq2 htr2 hlen hrd hmv hvn;subst hmn;have h0:=N0.out;have hb2:Below w2.heap.size w2 w2.drew:=z0m (q_i _ _);rcases HWk.out with (rfl | rfl | rfl) | ⟨rfl,hwa,hwb⟩ | ⟨rfl,hwa,hwb⟩ | ⟨rfl,hwa,hwb,hwc⟩ | ⟨rfl,hwc⟩ | ⟨hk6,hwc⟩ | ⟨rfl,hwa,hwb,hwc⟩ | ⟨rfl,hwc,hwd⟩
    ·have HH:Hid (E7 p K lb nl dp Y w (.returned (.tuple #[.int .i64 a,.int .i64 0])) w2):=zhi (HB.out.ret (by rw [HY2,HA2.out]; rfl) (fun _=>rfl) (fun e=>by cases e));clear HY2 HB HP HFm hb2;go_wp2_with fail;exact q_3 (by simp [results,Tryz.results94,go_sem]) rfl HH.out
    ·obtain ⟨i,f,hi,hO,hf,_⟩:=N9.out (.inr rfl);have ha:a2=(i:Int):=by rw [HA2.out]; show (O nm).getD 0=_; rw [hO]; rfl
     obtain ⟨gA,gc,fA,fc,p0,p1,_,_,_,hfa⟩:=HB.out.rs.pg (HP.out.low HB.out.fr.lo);have hfl:=HP.out.fn;have HF:Hid (∀ W,Below w2.heap.size w2 W->Calls Tryz.prog 26 #[.agg #[.slice gA gl.length gc,.slice fA fl.length fc],.string nm] W (IntR (i:Int) W)):=zhi (fun W hW=>by
      have:=z5G nm fl fA fl.length fc (.slice gA gl.length gc) W rfl (hfa.keepR (G:=fun b=>b<p) (fun _ h=>h) (fun b hb=>hW.block b (by have:=HB.out.wp; omega))) (fun b hb=>by have:=hW.size; have:=HB.out.wp; omega) (by omega) gA gl.length gc rfl;rw [hi] at this;exact this)
     have HS:Hid (∀ W,Below w2.heap.size w2 W->W.cell? ⟨p,0,none⟩=some (.slice gA gl.length gc)/\W.cell? ⟨p,1,none⟩=some (.slice fA fl.length fc)/\W.cell? ⟨w.heap.size,4,none⟩=some (.string nm)/\Below w2.heap.size w2 W):=zhi (fun W hb=>⟨hold hb p0,hold hb p1,hold hb x4,hb⟩);have hS0:=HS.out _ hb2;have HH:Hid (∀ W,Below w2.heap.size w2 W->E7 p K lb nl dp Y w (.returned (.tuple #[.int .i64 (i:Int),.int .i64 0])) W):=zhi (fun W hb=>(HB.out.up hb).ret (by rw [HY2,ha]; rfl) (fun _=>rfl) (fun e=>by cases e));clear HY2 HB HP HFm ha hf hi hO hfa;go_upto_region 34 with fail
     go_region_held3 (fun W=>W.cell? ⟨p,0,none⟩=some (.slice gA gl.length gc)/\W.cell? ⟨p,1,none⟩=some (.slice fA fl.length fc)/\W.cell? ⟨w.heap.size,4,none⟩=some (.string nm)/\Below w2.heap.size w2 W)
      (first | (with_reducible exact hS0) | (with_reducible exact HS.out _ (by with_reducible assumption)))
      ((go_at_call 26; (with_reducible refine (HF.out _ hb2).mono ?_); rintro e w3 ⟨rfl,hb3⟩; have hb4:=z08 hb2 hb3))
     clear HS hS0 HF;go_wp2_with fail;exact q_3 (by simp [results,Tryz.results94,go_sem]) rfl (HH.out _ hb4)
    ·have hYz:Y=((s2.inp.headD 0,0,0),{ s2 with inp:=s2.inp.tail }):=by rw [HY2]; rfl
     cases hin:s2.inp with
     | nil =>
      obtain ⟨iA,ic,ci⟩:=HB.out.rs.empty hin;have hs:({ s2 with inp:=s2.inp.tail }:Sx)=s2:=by
       obtain ⟨st,inp,out,gll,lvl⟩:=s2;dsimp only at hin;subst hin;rfl
      have HH:Hid (E7 p K lb nl dp Y w (.returned (.tuple #[.int .i64 0,.int .i64 0])) w2):=zhi (HB.out.ret (by rw [hYz,hs,hin]; rfl) (fun _=>rfl) (fun e=>by cases e));clear HY2 HB HP HFm hb2 hYz hs hin;go_wp2_with fail;exact q_3 (by simp [results,Tryz.results94,go_sem]) rfl HH.out
     | cons x inp =>
      obtain ⟨ad,ic,ci,fi,hic,hil,cx,hr5,hf5⟩:=HB.out.rs.reads hin;obtain ⟨q,hq⟩:∃ q,q=inp.length:=⟨_,rfl⟩;rw [<- hq] at ci hic hil hr5 hf5;have HH:=zhi ((HB.out.call hr5 hf5).ret (y:=Y) (v':=x) (by rw [hYz,hin]; rfl) (fun _=>rfl) (fun e=>by cases e));clear HY2 HB HP HFm hb2 hYz hin hr5 hf5 hq
      by_cases hc1:ic=1
      ·rw [if_pos hc1] at HH;subst hc1;obtain rfl:q=0:=by omega
       go_wp2_with fail;exact q_3 (by simp [results,Tryz.results94,go_sem]) rfl HH.out
      ·rw [if_neg hc1] at HH;go_wp2_with fail;exact q_3 (by simp [results,Tryz.results94,go_sem]) rfl HH.out
    ·obtain ⟨i,hi,hLs⟩:=N2.out rfl;have ha:a2=(i:Int):=by rw [HA2.out]; show (L nm).getD 0=_; rw [hLs]; rfl
     subst ha;have hil:i<nl:=by simpa using hwb
     obtain ⟨nA,nc,vc,z,hfr,hst,hnl,hz,hcell⟩:=HB.out.rs.loc (HFm.out.fr HB.out.fr) Hns.out hil;have f1:w2.cell? ⟨fb,1,none⟩=some (.slice (some ⟨lb,0,none⟩) nl vc):=zcr 1 hfr;have HF:Hid (∀ W,Below w2.heap.size w2 W->Calls Tryz.prog 81 #[.pointer (some ⟨fb,0,none⟩),.string nm] W (ZI7 (i:Int) W)):=zhi (fun W hW=>by
      have:=z7r nm ns nA ns.length nc _ W rfl ((hW.block fb (q_0.1 hfr).1).trans hfr) (hst.keepR (G:=fun _=>True) (fun _ _=>trivial) (fun b hb=>hW.block b hb.1)) (by rw [Hns.out]; omega);rw [hi] at this;exact this)
     have HS:Hid (∀ W,Below w2.heap.size w2 W->W.cell? ⟨fb,1,none⟩=some (.slice (some ⟨lb,0,none⟩) nl vc)/\W.cell? ⟨lb,i,none⟩=some (.int .i64 z)/\W.cell? ⟨w.heap.size,4,none⟩=some (.string nm)/\Below w2.heap.size w2 W):=zhi (fun W hb=>⟨hold hb f1,hold hb hcell,hold hb x4,hb⟩);have hS0:=HS.out _ hb2;have HH:Hid (∀ W,Below w2.heap.size w2 W->E7 p K lb nl dp Y w (.returned (.tuple #[.int .i64 z,.int .i64 0])) W):=zhi (fun W hb=>(HB.out.up hb).ret (by rw [HY2,<- hz]; rfl) (fun _=>rfl) (fun e=>by cases e));clear HY2 HB HP HFm hi hLs hfr hst hz;go_upto_region 12 with fail
     go_region_held3 (fun W=>W.cell? ⟨fb,1,none⟩=some (.slice (some ⟨lb,0,none⟩) nl vc)/\W.cell? ⟨lb,i,none⟩=some (.int .i64 z)/\W.cell? ⟨w.heap.size,4,none⟩=some (.string nm)/\Below w2.heap.size w2 W)
      (first | (with_reducible exact hS0) | (with_reducible exact HS.out _ (by with_reducible assumption)))
      ((go_at_call 81; (with_reducible refine (HF.out _ hb2).mono ?_); rintro e w3 ⟨rfl,q,rfl⟩; have hb4:=z12 (q_i w2.heap.size w2) (1+q)))
     clear HS hS0 HF;go_wp2_with fail;exact q_3 (by simp [results,Tryz.results94,go_sem]) rfl (HH.out _ hb4)
    ·obtain ⟨i,hi,hO⟩:=N3.out (.inl rfl);have ha:a2=(i:Int):=by rw [HA2.out]; show (O nm).getD 0=_; rw [hO]; rfl
     subst ha;obtain ⟨m3,hm3,hm0⟩:=hwb;rw [Int.toNat_natCast] at hm3;obtain ⟨b,cb,gn,gvc,la,hgb,hgl,hga,hgs,hin,hgn,hlm,c7,cgb,hib⟩:=HB.out.rs.arr (List.getElem?_eq_some_iff.1 hm3).1;rw [hm3] at hgs;injection hgs with hgs;obtain ⟨z,hz⟩:∃ z,la[0]?=some z:=⟨_,q_7 (by omega)⟩;have cz:=hib.at_ hz;obtain ⟨ll,hll⟩:∃ ll,ll=la.length:=⟨_,rfl⟩;rw [<- hll] at hlm cgb;have hll0:0<ll:=by omega
     obtain ⟨gA,gc,fA,fc,p0,p1,_,_,hga2,_⟩:=HB.out.rs.pg (HP.out.low HB.out.fr.lo);have hgl2:=HP.out.gn;have HF:Hid (∀ W,Below w2.heap.size w2 W->Calls Tryz.prog 25 #[.agg #[.slice gA gl.length gc,.slice fA fl.length fc],.string nm] W (IntR (i:Int) W)):=zhi (fun W hW=>by
      have:=z2D nm gl gA gl.length gc (.slice fA fl.length fc) W rfl (hga2.keepR (G:=fun b=>b<p) (fun _ h=>h) (fun b hb=>hW.block b (by have:=HB.out.wp; omega))) (fun b hb=>by have:=hW.size; have:=HB.out.wp; omega) (by omega) fA fl.length fc rfl;rw [hi] at this;exact this)
     have HS:Hid (∀ W,Below w2.heap.size w2 W->W.cell? ⟨p,0,none⟩=some (.slice gA gl.length gc)/\W.cell? ⟨p,1,none⟩=some (.slice fA fl.length fc)/\W.cell? ⟨w.heap.size,4,none⟩=some (.string nm)/\W.cell? ⟨p,7,none⟩=some (.slice (some ⟨K.gb,0,none⟩) gn gvc)/\W.cell? ⟨K.gb,i,none⟩=some (.slice (some ⟨b,0,none⟩) ll cb)/\W.cell? ⟨b,0,none⟩=some (.int .i64 z)/\Below w2.heap.size w2 W):=zhi (fun W hb=>⟨hold hb p0,hold hb p1,hold hb x4,hold hb c7,hold hb cgb,hold hb cz,hb⟩);have hS0:=HS.out _ hb2;have HH:Hid (∀ W,Below w2.heap.size w2 W->E7 p K lb nl dp Y w (.returned (.tuple #[.int .i64 z,.int .i64 0])) W):=zhi (fun W hb=>(HB.out.up hb).ret (v:=z) (by
      rw [HY2]
      show (((glAt s2 (i:Int)).getD 0 0,0,0),s2)=_
      rw [hga,List.getD_eq_getElem?_getD,hz];rfl) (fun _=>rfl) (fun e=>by cases e))
     clear HY2 HB HP HFm hi hO hgb hgl hga hib hz hga2 hm3 hm0 hll hgs;go_upto_region 14 with fail
     go_region_held3 (fun W=>W.cell? ⟨p,0,none⟩=some (.slice gA gl.length gc)/\W.cell? ⟨p,1,none⟩=some (.slice fA fl.length fc)/\W.cell? ⟨w.heap.size,4,none⟩=some (.string nm)/\W.cell? ⟨p,7,none⟩=some (.slice (some ⟨K.gb,0,none⟩) gn gvc)/\W.cell? ⟨K.gb,i,none⟩=some (.slice (some ⟨b,0,none⟩) ll cb)/\W.cell? ⟨b,0,none⟩=some (.int .i64 z)/\Below w2.heap.size w2 W)
      (first | (with_reducible exact hS0) | (with_reducible exact HS.out _ (by with_reducible assumption)))
      ((go_at_call 25; (with_reducible refine (HF.out _ hb2).mono ?_); rintro e w3 ⟨rfl,hb3⟩; have hb4:=z08 hb2 hb3))
     clear HS hS0 HF;go_wp2_with fail;exact q_3 (by simp [results,Tryz.results94,go_sem]) rfl (HH.out _ hb4)
    ·obtain ⟨i,hi,hO⟩:=N3.out (.inr rfl);have ha:a2=(i:Int):=by rw [HA2.out]; show (O nm).getD 0=_; rw [hO]; rfl
     subst ha;subst hwc;obtain ⟨v0,rfl⟩:∃ v0,vs=[v0]:=by
      match vs,Hvn.out with
      | [v0],_=>exact ⟨v0,rfl⟩
     obtain ⟨ad,rfl,ca0⟩:=HRd.out 0 _ rfl;rw [z0N] at ca0;rw [Int.toNat_natCast] at hwb;have HF:Hid (∀ W,Below w2.heap.size w2 W->Calls Tryz.prog 82 #[.pointer (some ⟨p,0,none⟩),.string nm,.int .i64 v0] W (El7 K s2 i v0 W)):=zhi (fun W hW=>z5C (HB.out.rs.below hW) (HP.out.low (HB.out.up hW).fr.lo) nm i hi v0);have HS:Hid (∀ W,Below w2.heap.size w2 W->W.cell? ⟨w.heap.size,4,none⟩=some (.string nm)/\W.cell? ad=some (.int .i64 v0)/\Below w2.heap.size w2 W):=zhi (fun W hb=>⟨hold hb x4,hold hb ca0,hb⟩);have hS0:=HS.out _ hb2;have hYz:Y=zel (glAt s2 (i:Int)) v0 s2:=by rw [HY2]; rfl
     obtain ⟨b,cb,gn,gvc,la,hgb,hgl,hga,hgs,hin,hgn,hlm,c7,cgb,hib⟩:=HB.out.rs.arr hwb;rw [hga] at hYz;have HG:=zhi (And.intro hgb (And.intro hga hib));have HYz:=zhi hYz;clear HY2 HFm hi hO hgb hgl hga hib hYz hgs c7 cgb HP;go_upto_region 16 with fail
     go_region_held3 (fun W=>W.cell? ⟨w.heap.size,4,none⟩=some (.string nm)/\W.cell? ad=some (.int .i64 v0)/\Below w2.heap.size w2 W)
      (first | (with_reducible exact hS0) | (with_reducible exact HS.out _ (by with_reducible assumption)))
      ((go_at_call 82; (with_reducible refine (HF.out _ hb2).mono ?_); rintro e w3 ⟨b3,c3,m3,ok,hb3g,hm3,hok,rfl,hb3⟩; have Hm3:=zhi hm3; have Hok:=zhi hok; clear hm3 hok; have hb4:=z08 hb2 hb3))
     rw [HG.out.1] at hb3g;injection hb3g with hb3g;subst hb3g;have hm3:=Hm3.out;have hok:=Hok.out;clear Hm3 Hok;rw [HG.out.2.1] at hm3 hok;have HBw:=zhi (HB.out.up hb4);have ca3:=hold hb4 ca0;have hib3:IntB w3 b la:=HG.out.2.2.below hb4
     by_cases hr:0<=v0/\v0<(la.length:Int)
     ·have hok2:ok=true:=by rw [hok]; simp [hr]
      subst hok2;obtain ⟨V,rfl⟩:∃ V:Nat,v0=(V:Int):=⟨v0.toNat,by omega⟩;obtain ⟨z,hz⟩:∃ z,la[V]?=some z:=⟨_,q_7 (by omega)⟩;have cz:=hib3.at_ hz;have hV:V<m3:=by omega
      have hm3l:m3<=1000000:=by omega
      have HH:Hid (E7 p K lb nl dp Y w (.returned (.tuple #[.int .i64 z,.int .i64 0])) w3):=zhi (HBw.out.ret (v:=z) (by
       rw [HYz.out];unfold zel;rw [if_pos hr,List.getD_eq_getElem?_getD,Int.toNat_natCast,hz];rfl) (fun _=>rfl) (fun e=>by cases e))
      clear HG HYz HBw HB hib3 hok hr hm3 hz HS hS0 HF HRd Hvn;go_wp2_with fail;exact q_3 (by simp [results,Tryz.results94,go_sem]) rfl HH.out
     ·have hok2:ok=false:=by rw [hok]; simpa using hr
      subst hok2;have hYn:Y=((0,2,2),s2):=by
       rw [HYz.out];unfold zel;exact if_neg hr
      have HTr:=zhi (z3d HBw.out.rs 2);have HYn:=zhi hYn;clear HG HYz HB hib3 hok hr hm3 HS hS0 HF HRd Hvn hYn;go_wp2_with fail;refine HTr.out.mono ?_;rintro e w5 ⟨rfl,htr,hrs,hfr⟩;have HH:Hid (E7 p K lb nl dp Y w (.returned (.tuple #[.int .i64 0,.int .i64 2])) w5):=zhi ((HBw.out.call hrs hfr).ret HYn.out (fun _=>rfl) (fun _=>htr));clear htr hrs hfr HTr HBw;go_wp2_with fail;exact q_3 (by simp [results,Tryz.results94,go_sem]) rfl HH.out
    ·subst hwc;obtain ⟨v0,rfl⟩:∃ v0,vs=[v0]:=by
      match vs,Hvn.out with
      | [v0],_=>exact ⟨v0,rfl⟩
     obtain ⟨ad,rfl,ca0⟩:=HRd.out 0 _ rfl;rw [z0N] at ca0;have HS:Hid (∀ W,Below w2.heap.size w2 W->W.cell? ⟨w.heap.size,1,none⟩=some (.int .i64 o)/\W.cell? ad=some (.int .i64 v0)/\Below w2.heap.size w2 W):=zhi (fun W hb=>⟨hold hb x1,hold hb ca0,hb⟩);have hS0:=HS.out _ hb2;have HF:=zhi (fun W=>zdp o v0 W);have HH:Hid (∀ W,Below w2.heap.size w2 W->E7 p K lb nl dp Y w (.returned (.tuple #[.int .i64 (unP o v0),.int .i64 0])) W):=zhi (fun W hb=>(HB.out.up hb).ret (by rw [HY2]; rfl) (fun _=>rfl) (fun e=>by cases e));clear HY2 HFm HP HB HRd Hvn;go_upto_region 21 with fail
     go_region_held3 (fun W=>W.cell? ⟨w.heap.size,1,none⟩=some (.int .i64 o)/\W.cell? ad=some (.int .i64 v0)/\Below w2.heap.size w2 W)
      (first | (with_reducible exact hS0) | (with_reducible exact HS.out _ (by with_reducible assumption)))
      ((go_at_call 102; (with_reducible refine (HF.out _).mono ?_); rintro e w3 ⟨rfl,rfl⟩; have hb4:=hb2))
     clear HS hS0 HF;go_wp2_with fail;exact q_3 (by simp [results,Tryz.results94,go_sem]) rfl (HH.out _ hb4)
    ·obtain rfl:k=6:=by
      rcases hk6 with h | h | h
      ·exact h
      ·simp [h] at i7
      ·simp [h] at i8
     subst hwc;obtain ⟨v0,v1,rfl⟩:∃ v0 v1,vs=[v0,v1]:=by
      match vs,Hvn.out with
      | [v0,v1],_=>exact ⟨v0,v1,rfl⟩
     obtain ⟨ad,rfl,ca0⟩:=HRd.out 0 _ rfl;obtain ⟨ad',e',ca1⟩:=HRd.out 1 _ rfl;injection e' with e';subst e';rw [z0N] at ca0;have HS:Hid (∀ W,Below w2.heap.size w2 W->W.cell? ⟨w.heap.size,1,none⟩=some (.int .i64 o)/\W.cell? ad=some (.int .i64 v0)/\W.cell? ⟨ad.block,ad.off+1,none⟩=some (.int .i64 v1)/\Below w2.heap.size w2 W):=zhi (fun W hb=>⟨hold hb x1,hold hb ca0,hold hb ca1,hb⟩);have hS0:=HS.out _ hb2;have HF:=zhi (fun W=>zco o v0 v1 W);have HBu:=zhi (fun W (hb:Below w2.heap.size w2 W)=>HB.out.up hb);have HYz:Hid (Y=(appP o v0 v1,s2)):=zhi (by rw [HY2]; rfl);clear HY2 HFm HP HB HRd Hvn;unfold appP at HYz;generalize apP o v0 v1=r at HF HYz;obtain ⟨rv,rb⟩:=r;dsimp only at HYz;go_upto_region 23 with fail
     go_region_held3 (fun W=>W.cell? ⟨w.heap.size,1,none⟩=some (.int .i64 o)/\W.cell? ad=some (.int .i64 v0)/\W.cell? ⟨ad.block,ad.off+1,none⟩=some (.int .i64 v1)/\Below w2.heap.size w2 W)
      (first | (with_reducible exact hS0) | (with_reducible exact HS.out _ (by with_reducible assumption)))
      ((go_at_call 103; (with_reducible refine (HF.out _).mono ?_); rintro e w3 ⟨rfl,q,rfl⟩; have hb4:=z12 (q_i w2.heap.size w2) (1+q)))
     clear HS hS0 HF;cases rb with
     | true =>
      have HH:Hid (E7 p K lb nl dp Y w (.returned (.tuple #[.int .i64 rv,.int .i64 0])) _):=zhi ((HBu.out _ hb4).ret HYz.out (fun _=>rfl) (fun e=>by cases e));clear HYz HBu;go_wp2_with fail;exact q_3 (by simp [results,Tryz.results94,go_sem]) rfl HH.out
     | false =>
      have HBw:=zhi (HBu.out _ hb4);have HTr:=zhi (z3d HBw.out.rs 1);clear HBu;go_wp2_with fail;refine HTr.out.mono ?_;rintro e w5 ⟨rfl,htr,hrs,hfr⟩;have HH:Hid (E7 p K lb nl dp Y w (.returned (.tuple #[.int .i64 0,.int .i64 2])) w5):=zhi ((HBw.out.call hrs hfr).ret HYz.out (fun _=>rfl) (fun _=>htr));clear htr hrs hfr HTr HBw;go_wp2_with fail;exact q_3 (by simp [results,Tryz.results94,go_sem]) rfl HH.out
    ·obtain ⟨i,f,hi,hO,hf,hfm⟩:=N9.out (.inl rfl);have ha:a2=(i:Int):=by rw [HA2.out]; show (O nm).getD 0=_; rw [hO]; rfl
     subst ha;have hmf:=hfm rfl;obtain ⟨gA,gc,fA,fc,p0,p1,e1,e2,_,hfa⟩:=HB.out.rs.pg (HP.out.low HB.out.fr.lo);have hfl:=HP.out.fn;have HF:Hid (∀ W,Below w2.heap.size w2 W->Calls Tryz.prog 26 #[.agg #[.slice gA gl.length gc,.slice fA fl.length fc],.string nm] W (IntR (i:Int) W)):=zhi (fun W hW=>by
      have:=z5G nm fl fA fl.length fc (.slice gA gl.length gc) W rfl (hfa.keepR (G:=fun b=>b<p) (fun _ h=>h) (fun b hb=>hW.block b (by have:=HB.out.wp; omega))) (fun b hb=>by have:=hW.size; have:=HB.out.wp; omega) (by omega) gA gl.length gc rfl;rw [hi] at this;exact this)
     have hYz:Y=C (i:Int) vs s2:=by rw [HY2]; rfl
     obtain ⟨y9,hy9⟩:∃ y9,y9=C (i:Int) vs s2:=⟨_,rfl⟩;rw [<- hy9] at hYz;have HCc:Hid (∀ W,Below w2.heap.size w2 W->Calls Tryz.prog 20 #[.pointer (some ⟨p,0,none⟩),.int .i64 (i:Int),.slice A2 m c2] W (E7 p K lb nl dp y9 W)):=zhi (fun W hW=>by
      have:=HC.out lb nl dp s2 (i:Int) f vs A2 m c2 W (HB.out.rs.below hW) HD.out (HP.out.low (HB.out.up hW).fr.lo) (by omega) (by simpa using hf) (by rw [Hvn.out,hmf]) Hvn.out hmc nlen (HRd.out.below hW);rw [<- hy9] at this;exact this)
     subst hYz;have HS:Hid (∀ (W:World) (s':Sx),Bx7 p K lb nl dp w #[.int .i64 9,.int .i64 o,.int .i64 a,.int .i64 l,.string nm,.slice A m c] 124 s' W->W.cell? ⟨p,0,none⟩=some (.slice gA gl.length gc)/\W.cell? ⟨p,1,none⟩=some (.slice fA fl.length fc)/\W.cell? ⟨w.heap.size,4,none⟩=some (.string nm)/\∃ s',Bx7 p K lb nl dp w #[.int .i64 9,.int .i64 o,.int .i64 a,.int .i64 l,.string nm,.slice A m c] 124 s' W):=zhi (fun W s' hb=>⟨by rw [<- e1]; exact hb.rs.p01.1,by rw [<- e2]; exact hb.rs.p01.2,hb.cells.2.2.2.2.1,s',hb⟩);have hS0:=HS.out _ _ (HB.out.up hb2);clear HY2 HP HFm hi hO hf hfm hmf hfa e1 e2 hy9;go_upto_region 28 with fail
     go_region_held3 (fun W=>W.cell? ⟨p,0,none⟩=some (.slice gA gl.length gc)/\W.cell? ⟨p,1,none⟩=some (.slice fA fl.length fc)/\W.cell? ⟨w.heap.size,4,none⟩=some (.string nm)/\∃ s',Bx7 p K lb nl dp w #[.int .i64 9,.int .i64 o,.int .i64 a,.int .i64 l,.string nm,.slice A m c] 124 s' W)
      (first | (with_reducible exact hS0) | (with_reducible exact HS.out _ _ hbx5) | (with_reducible exact HS.out _ _ hbx3))
      (first
       | (go_at_call 26; (with_reducible refine (HF.out _ hb2).mono ?_); rintro e w3 ⟨rfl,hb3⟩; have hb4:=z08 hb2 hb3; have hbx3:=HB.out.up hb4)
       | (go_at_call 20; (with_reducible refine (HCc.out _ hb4).mono ?_); rintro e w5 ⟨v5,rfl,hv5,ht5,hr5,hf5⟩; have hbx5:=hbx3.call hr5 hf5; have HE5:=zhi (And.intro hv5 ht5); clear hv5 ht5))
     have HH:Hid (E7 p K lb nl dp Y w (.returned (.tuple #[.int .i64 v5,.int .i64 Y.1.2.1])) w5):=zhi ⟨v5,rfl,HE5.out.1,HE5.out.2,hbx5.rs,hbx5.fr⟩;clear HS hS0 HF HCc hbx3 hbx5 HE5 hr5 hf5;go_wp2_with fail;exact q_3 (by simp [results,Tryz.results94,go_sem]) rfl HH.out
    ·obtain ⟨q,rfl⟩:∃ q,m=q+1:=⟨m - 1,by omega⟩;obtain ⟨v0,r,rfl⟩:∃ v0 r,vs=v0 :: r:=by
      match vs,Hvn.out with
      | v0 :: r,_=>exact ⟨v0,r,rfl⟩
     obtain ⟨ad,rfl,ca0⟩:=HRd.out 0 _ rfl;rw [z0N] at ca0;have hrq:r.length=q:=by have:=Hvn.out; simpa using this
     obtain ⟨gA,gc,fA,fc,p0,p1,e1,e2,_,hfa⟩:=HB.out.rs.pg (HP.out.low HB.out.fr.lo);have hfl:=HP.out.fn;have hYz:Y=z18 (pn7 fl) C (v0 :: r) s2:=by rw [HY2]; rfl
     obtain ⟨fn,hfn⟩:∃ fn,fn=fl.length:=⟨_,rfl⟩;rw [<- hfn] at p1 hfl;have hfac:fn<=fc:=by rw [hfn]; exact hfa.1
     have HTr:=zhi (fun W (hb:Below w2.heap.size w2 W)=>z3d (HB.out.up hb).rs 3);have HTe:Hid (Y=((0,2,3),s2)->∀ W W',Below w2.heap.size w2 W->Tr7 p 3 W'->RuS7 p K lb nl dp s2 W'->Fr7 p K lb W W'->E7 p K lb nl dp Y w (.returned (.tuple #[.int .i64 0,.int .i64 2])) W'):=zhi (fun hy W W' hb ht hr hf=>((HB.out.up hb).call hr hf).ret hy (fun _=>rfl) (fun _=>ht));have hz:z18 (pn7 fl) C (v0 :: r) s2=if 0<=v0/\(pn7 fl)[v0.toNat]?=some r.length then C v0 r s2 else ((0,2,3),s2):=rfl
     rw [hz] at hYz;have HYz:=zhi hYz;clear hYz hz HY2 HFm
     by_cases hv0:v0<0
     ·have hYn:Hid (Y=((0,2,3),s2)):=zhi (by rw [HYz.out]; exact if_neg (by omega));have i1:(v0<0)=True:=eq_true hv0;clear HYz HP hfa e1 e2 hfn hv0;go_upto_region 30 with fail;go_quiet (fail);go_wp2_with fail;refine (HTr.out _ (z12 (q_i _ _) nq)).mono ?_;rintro e w5 ⟨rfl,htr,hrs,hfr⟩;have HH:=zhi (HTe.out hYn.out _ _ (z12 (q_i _ _) nq) htr hrs hfr);clear htr hrs hfr HTr HTe hYn HB;go_wp2_with fail;exact q_3 (by simp [results,Tryz.results94,go_sem]) rfl HH.out
     ·obtain ⟨V,rfl⟩:∃ V:Nat,v0=(V:Int):=⟨v0.toNat,by omega⟩;have i1:((V:Int)<0)=False:=eq_false (by omega)
      by_cases hV:V<fn
      ·have i2:((fn:Int)<=(V:Int))=False:=eq_false (by omega);obtain ⟨F,hF⟩:∃ F,fl[V]?=some F:=⟨_,q_7 (by omega)⟩;obtain ⟨fg,pA,pc,bA,bc,rfl,hfg,_,_,d2,_,_,_⟩:=hfa.2 V F hF;have hpn:(pn7 fl)[V]?=some F.params.length:=by unfold pn7; simp [hF]
       obtain ⟨P,hP⟩:∃ P,P=F.params.length:=⟨_,rfl⟩;rw [<- hP] at d2 hpn
       by_cases hmp:q=P
       ·have hYn:Y=C (V:Int) r s2:=by
         rw [HYz.out];exact if_pos ⟨by omega,by rw [Int.toNat_natCast,hpn,hrq,hmp]⟩
        have i3:((P:Int) != (q:Int))=false:=by simp; omega
        obtain ⟨y9,hy9⟩:∃ y9,y9=C (V:Int) r s2:=⟨_,rfl⟩;rw [<- hy9] at hYn;have hcut:Rd w2 (if c2=1 then some ad else (some ad).map (·.add 1)) (r.map (Value.int .i64)):=by
         have:=Rd.cut (k:=1) (c:=c2) HRd.out (by simp; omega);simpa using this
        have HCc:Hid (∀ W,Below w2.heap.size w2 W->Calls Tryz.prog 20 #[.pointer (some ⟨p,0,none⟩),.int .i64 (V:Int),.slice (if c2=1 then some ad else (some ad).map (·.add 1)) q (c2 - 1)] W (E7 p K lb nl dp y9 W)):=zhi (fun W hW=>by
         have:=HC.out lb nl dp s2 (V:Int) F r (if c2=1 then some ad else (some ad).map (·.add 1)) q (c2 - 1) W (HB.out.rs.below hW) HD.out (HP.out.low (HB.out.up hW).fr.lo) (by omega) (by simpa using hF) (by rw [hrq,hmp,hP]) hrq (by omega) (by omega) (hcut.below hW);rw [<- hy9] at this;exact this)
        subst hYn;clear HYz HP hfa e1 e2 hfn hpn hP hF hy9 hcut HTr HTe hmp
        by_cases hc1:c2=1
        ·rw [if_pos hc1] at HCc;subst hc1;obtain rfl:q=0:=by omega
         go_upto_region 30 with fail;go_quiet (fail);go_upto_region 32 with fail
         go_region_with (go_at_call 20; (refine (HCc.out _ (z12 (q_i _ _) (nq+1))).mono ?_); rintro e w5 ⟨v5,rfl,hv5,ht5,hr5,hf5⟩; have HE5:=zhi (And.intro hv5 (And.intro ht5 (And.intro hr5 hf5))); clear hv5 ht5 hr5 hf5)
         have HBn:=zhi ((HB.out.up (z12 (q_i w2.heap.size w2) (nq+1))).call HE5.out.2.2.1 HE5.out.2.2.2);have HH:Hid (E7 p K lb nl dp Y w (.returned (.tuple #[.int .i64 v5,.int .i64 Y.1.2.1])) w5):=zhi ⟨v5,rfl,HE5.out.1,HE5.out.2.1,HBn.out.rs,HBn.out.fr⟩;clear HCc HE5 HBn HB;go_wp2_with fail;exact q_3 (by simp [results,Tryz.results94,go_sem]) rfl HH.out
        ·rw [if_neg hc1] at HCc;go_upto_region 30 with fail;go_quiet (fail);go_upto_region 32 with fail
         go_region_with (go_at_call 20; (refine (HCc.out _ (z12 (q_i _ _) (nq+1))).mono ?_); rintro e w5 ⟨v5,rfl,hv5,ht5,hr5,hf5⟩; have HE5:=zhi (And.intro hv5 (And.intro ht5 (And.intro hr5 hf5))); clear hv5 ht5 hr5 hf5)
         all_goals
          have HBn:=zhi ((HB.out.up (z12 (q_i w2.heap.size w2) (nq+1))).call HE5.out.2.2.1 HE5.out.2.2.2);have HH:Hid (E7 p K lb nl dp Y w (.returned (.tuple #[.int .i64 v5,.int .i64 Y.1.2.1])) w5):=zhi ⟨v5,rfl,HE5.out.1,HE5.out.2.1,HBn.out.rs,HBn.out.fr⟩;clear HCc HE5 HBn HB;go_wp2_with fail;exact q_3 (by simp [results,Tryz.results94,go_sem]) rfl HH.out
       ·have hYn:Hid (Y=((0,2,3),s2)):=zhi (by
         rw [HYz.out];refine if_neg (fun e=>?_);have e3:=e.2;rw [Int.toNat_natCast,hpn,hrq] at e3;injection e3 with e3;exact hmp e3.symm)
        have i3:((P:Int) != (q:Int))=true:=by simp; omega
        clear HYz HP hfa e1 e2 hfn hpn hP hF hmp;go_upto_region 30 with fail;go_quiet (fail);go_wp2_with fail;refine (HTr.out _ (z12 (q_i _ _) nq)).mono ?_;rintro e w5 ⟨rfl,htr,hrs,hfr⟩;have HH:=zhi (HTe.out hYn.out _ _ (z12 (q_i _ _) nq) htr hrs hfr);clear htr hrs hfr HTr HTe hYn HB;go_wp2_with fail;exact q_3 (by simp [results,Tryz.results94,go_sem]) rfl HH.out
      ·have i2:((fn:Int)<=(V:Int))=True:=eq_true (by omega);have hYn:Hid (Y=((0,2,3),s2)):=zhi (by
        rw [HYz.out];refine if_neg (fun e=>?_);have e3:=(List.getElem?_eq_some_iff.1 e.2).1;unfold pn7 at e3;rw [List.length_map,Int.toNat_natCast] at e3;omega)
       clear HYz HP hfa e1 e2 hfn hV;go_upto_region 30 with fail;go_quiet (fail);go_wp2_with fail;refine (HTr.out _ (z12 (q_i _ _) nq)).mono ?_;rintro e w5 ⟨rfl,htr,hrs,hfr⟩;have HH:=zhi (HTe.out hYn.out _ _ (z12 (q_i _ _) nq) htr hrs hfr);clear htr hrs hfr HTr HTe hYn HB;go_wp2_with fail;exact q_3 (by simp [results,Tryz.results94,go_sem]) rfl HH.out
   ·replace HY2:Y=((0,k2,t2),s2):=HY2.trans (if_neg h0);have h0':(k2 != 0)=true:=by simp [h0]
    have HH:Hid (E7 p K lb nl dp Y w (.returned (.tuple #[.int .i64 0,.int .i64 k2])) w2):=zhi (HB.out.ret HY2 (fun _=>rfl) htr2);clear HY2 hq2 htr2 hlen h0 HB x0 x1 x2 x3 x4 x5;go_wp2_with fail;exact q_3 (by simp [results,Tryz.results94,go_sem]) rfl HH.out
end
end Go.Proofs.YtdflbhofmmlpgaaGreat
