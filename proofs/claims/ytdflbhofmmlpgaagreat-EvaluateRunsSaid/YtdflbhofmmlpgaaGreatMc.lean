/-
  Mc: Zs, Yd. Part of the proof. No condition.
-/
import Derived.Test.YtdflbhofmmlpgaaGreatMb
set_option maxRecDepth 100000
set_option maxHeartbeats 8000000
namespace Go.Proofs.YtdflbhofmmlpgaaGreat
open Go.RowKit
def MSn (D:Nat):Nat->z1H Sn
 | 0=>fun _ _ _ _=>False
 | d+1=>fun F w x cs=>match x with
  | .mk k n es ts us=>∃ eA ec tA tc uA uc,cs=[.int .i64 k,.int .i64 n,.slice eA es.length ec,.slice tA ts.length tc,.slice uA us.length uc]/\RowE F w D es eA ec/\RowG 5 (MSn D d) F w ts tA tc/\RowG 5 (MSn D d) F w us uA uc
theorem z0P (D:Nat):∀ d,(MSn D d).Keeps
 | 0=>fun _ _ _ _ _ _ _ _ h=>h.elim
 | d+1=>fun F G w w' x cs h1 h2 h=>by
  obtain ⟨k,n,es,ts,us⟩:=x;obtain ⟨eA,ec,tA,tc,uA,uc,e,r1,r2,r3⟩:=h;exact ⟨eA,ec,tA,tc,uA,uc,e,r1.keep h1 h2,z0j (z0P D d) h1 h2 r2,z0j (z0P D d) h1 h2 r3⟩
def MFz (D d:Nat):z1H Fz:=fun F w x cs=>∃ bA bc,cs=[.int .i64 (x.params:Int),.int .i64 (x.locals:Int),.slice bA x.body.length bc]/\RowG 5 (MSn D d) F w x.body bA bc
theorem z0O (D d:Nat):(MFz D d).Keeps:=fun _ _ _ _ _ _ h1 h2 h=>by
 obtain ⟨bA,bc,e,r⟩:=h;exact ⟨bA,bc,e,z0j (z0P D d) h1 h2 r⟩
structure PrgZ (p:Nat) (K:RK) (D d:Nat) (fs:List Fz) (w:World):Prop where
 fn:∃ fA fc,K.fn=.slice fA fs.length fc/\RowG 3 (MFz D d) (fun b=>b<p) w fs fA fc
 wz:∀ (i:Nat) (F:Fz),fs[i]?=some F->wzB F.locals K.gs fs.length F.body/\F.locals<=1000/\F.params<=1000/\F.body.length<=1000000
 ln:fs.length<=1000
theorem PrgZ.low {p:Nat} {K:RK} {D d:Nat} {fs:List Fz} {w w':World} (h:PrgZ p K D d fs w) (hb:Below p w w'):PrgZ p K D d fs w':=by
 refine ⟨?_,h.wz,h.ln⟩;obtain ⟨fA,fc,e,r⟩:=h.fn;exact ⟨fA,fc,e,z0j (z0O D d) (fun _ h=>h) (fun b hb'=>hb.block b hb') r⟩
def PtrZ (p:Nat) (w:World) (D:Nat) (g q:Nat) (k o a:Int) (xs:List Ex):Prop:=∃ A c,w.cell? ⟨g,q,none⟩=some (.int .i64 k)/\w.cell? ⟨g,q+1,none⟩=some (.int .i64 o)/\w.cell? ⟨g,q+2,none⟩=some (.int .i64 a)/\w.cell? ⟨g,q+5,none⟩=some (.slice A xs.length c)/\RowE (fun b=>b<p) w D xs A c
theorem PtrZ.low {p:Nat} {w w':World} {D g q:Nat} {k o a:Int} {xs:List Ex} (h:PtrZ p w D g q k o a xs) (hg:g<p) (hb:Below p w w'):PtrZ p w' D g q k o a xs:=by
 obtain ⟨A,c,e0,e1,e2,e5,he⟩:=h;have e:∀ o,w'.cell? ⟨g,o,none⟩=w.cell? ⟨g,o,none⟩:=fun o=>q_6 (hb.block g hg)
 exact ⟨A,c,(e _).trans e0,(e _).trans e1,(e _).trans e2,(e _).trans e5,he.keep (fun _ h=>h) (fun b hb'=>hb.block b hb')⟩
theorem z20 {p:Nat} {w:World} {D:Nat} {xs:List Ex} {A:Option Addr} {c i:Nat} {k o a l:Int} {s:Zb} {ys:List Ex} (h:RowE (fun b=>b<p) w (D+1) xs A c) (hi:xs[i]?=some (.mk k o a l s ys)):∃ g off,A=some ⟨g,off,none⟩/\g<p/\PtrZ p w D g (off+i * 6) k o a ys:=by
 obtain ⟨g,off,c0,c1,c2,c3,c4,c5,hA,hF,e0,e1,e2,e3,e4,e5,hx⟩:=h.2 i _ hi;obtain ⟨A',c',hv,hr⟩:=z1D.1 hx;injection hv with hv;injection hv with hv;injection hv with h0 hv;injection hv with h1 hv;injection hv with h2 hv;injection hv with h3 hv;injection hv with h4 hv;injection hv with h5 hv;subst h0 h1 h2 h5;exact ⟨g,off,hA,hF,A',c',e0,e1,e2,e5,hr⟩
def DpZ (K:RK) (dp:Int) (nd:Nat):Prop:=dp+nd=K.ld\/(nd=0/\K.ld<=dp)
section
variable (p:Nat) (K:RK) (D d:Nat) (fs:List Fz) (nd:Nat) (C:Cz)
def z4L:Prop:=∀ (lb nl:Nat) (dp:Int) (s:Sx) (f:Int) (args:List Int) (A:Option Addr) (n c:Nat) (w:World),RunS p K lb nl dp s w->DpZ K dp nd->PrgZ p K D d fs w->0<=f->f.toNat<fs.length->args.length=n->n<=c->n<=1000->Rd w A (args.map (Value.int .i64)) ->
 Calls Tryz.prog 18 #[.pointer (some ⟨p,0,none⟩),.int .i64 f,.slice A n c] w (ZG p K lb nl dp (C f args s) w)
def pnZ:List Nat:=fs.map (·.params)
def z8h (dx:Nat):Prop:=∀ (lb nl:Nat) (dp:Int) (s:Sx) (g q:Nat) (k o a l:Int) (nm:Zb) (xs:List Ex) (w:World),RunS p K lb nl dp s w->DpZ K dp nd->PrgZ p K D d fs w->PtrZ p w dx g q k o a xs->g<p->wzX nl K.gs fs.length (.mk k o a l nm xs) ->
 Calls Tryz.prog 75 #[.pointer (some ⟨p,0,none⟩),.pointer (some ⟨g,q,none⟩)] w (ZG p K lb nl dp (zX K.ls (pnZ fs) C (.mk k o a l nm xs) s) w)
def LG (lb nl:Nat) (dp:Int) (q:Lz) (w:World) (e:Ending) (w':World):Prop :=
 ∃ A n c,e=.returned (.tuple #[.slice A n c,.agg #[.int .i64 q.2.1.1,.int .i64 q.2.1.2]])/\n=q.1.length/\n<=c/\Rd w' A (q.1.map (Value.int .i64))/\RunS p K lb nl dp q.2.2 w'/\FrZ p K lb w w'
def zch (dx:Nat):Prop:=∀ (lb nl:Nat) (dp:Int) (s:Sx) (xs:List Ex) (A:Option Addr) (n c:Nat) (w:World),RunS p K lb nl dp s w->DpZ K dp nd->PrgZ p K D d fs w->RowE (fun b=>b<p) w dx xs A c->xs.length=n->n<=1000->wzL nl K.gs fs.length xs ->
 Calls Tryz.prog 97 #[.pointer (some ⟨p,0,none⟩),.slice A n c] w (LG p K lb nl dp (zL K.ls (pnZ fs) C xs s) w)
end
def zpre (vs:List Int) (q:Lz):Lz:=if q.2.1.1=0 then (vs++q.1,(0,0),q.2.2) else ([],q.2.1,q.2.2)
theorem z69 {vs:List Int} {v k t:Int} {s1:Sx} {f:Sx->Lz}:zpre vs (zcons ((v,k,t),s1) f)=if k=0 then zpre (vs++[v]) (f s1) else ([],(k,t),s1):=by
 unfold zcons;dsimp only
 by_cases hk:k=0
 ·rw [if_pos hk,if_pos hk];unfold zpre
  by_cases h2:(f s1).2.1.1=0
  ·rw [if_pos h2,if_pos h2];simp
  ·simp [h2]
 ·rw [if_neg hk,if_neg hk];unfold zpre;exact if_neg hk
section
variable {p:Nat} {K:RK} {D d:Nat} {fs:List Fz} {nd:Nat} {C:Cz}
theorem z67 {ls:Int} {pn:List Nat} {C:Cz}:∀ (xs:List Ex) (s:Sx),(zL ls pn C xs s).1.length<=xs.length/\((zL ls pn C xs s).2.1.1=0->(zL ls pn C xs s).1.length=xs.length)
 | [],s=>⟨q_2 _,fun _=>rfl⟩
 | x :: xs,s=>by
  have e:zL ls pn C (x :: xs) s=zcons (zX ls pn C x s) (zL ls pn C xs):=rfl;rw [e];unfold zcons;obtain ⟨h1,h2⟩:=z67 (ls:=ls) (pn:=pn) (C:=C) xs (zX ls pn C x s).2;split
  ·split
   ·rename_i h3;exact ⟨by simp only [List.length_cons]; omega,fun _=>by simp only [List.length_cons]; rw [h2 h3]⟩
   ·rename_i h3;exact ⟨by simp,fun e=>absurd e h3⟩
  ·rename_i h3;exact ⟨by simp,fun e=>absurd e h3⟩
theorem zcx {dx:Nat} (hL:zch p K D d fs nd C dx) (hC:z4L p K D d fs nd C) {lb nl:Nat} {dp:Int} {s:Sx} {g q:Nat} {o a:Int} {xs:List Ex} {w:World} (h:RunS p K lb nl dp s w) (hd:DpZ K dp nd) (hP:PrgZ p K D d fs w) (hx:PtrZ p w dx g q 9 o a xs) (hg:g<p) (ha:0<=a) (ha2:a.toNat<fs.length) (hn:xs.length<=1000) (hw:wzL nl K.gs fs.length xs) :
  Calls Tryz.prog 90 #[.pointer (some ⟨p,0,none⟩),.pointer (some ⟨g,q,none⟩)] w (ZG p K lb nl dp (z0V (zL K.ls (pnZ fs) C xs s) (C a)) w):=by
 have hF:=zhi (FwZ.new h);have hb1:=(q_i _ w).alloc (q_2 _) (.cells #[.int .i64 0,.int .i64 0] 61);have hlo:Below p w (w.alloc (.cells #[.int .i64 0,.int .i64 0] 61)):=hF.out.fr.lo;obtain ⟨A,c,_,_,d2,d5,he⟩:=hx.low hg hlo;have HLc:=zhi (hL lb nl dp s xs A xs.length c _ (h.below hb1) hd (hP.low hlo) he rfl hn hw);have HX:=zhi (fun (w':World) (hb:Below p w w')=>hx.low hg hb);have HP:=zhi hP;have HC:=zhi hC;have HD:=zhi hd;have hlen:=z67 (ls:=K.ls) (pn:=pnZ fs) (C:=C) xs s;obtain ⟨W,hW⟩:∃ W,W=w.alloc (.cells #[.int .i64 0,.int .i64 0] 61):=⟨_,rfl⟩;rw [<- hW] at hF d2 d5 HLc;generalize zL K.ls (pnZ fs) C xs s=y at HLc hlen ⊢;obtain ⟨vs,⟨k,t⟩,s1⟩:=y;dsimp only at hlen;have hvl:vs.length<=1000:=by omega
 clear hx he hL hP hC hd h hb1 hlo hlen;go_enter Tryz.func90,Tryz.ntmps90;go_upto_region 1 with fail;rw [<- hW];clear hW;go_wp2_with fail;refine HLc.out.mono ?_;rintro e w2 ⟨A2,n2,c2,rfl,hn2,hnc2,hrd2,hrs2,hfr2⟩;dsimp only at hn2 hrd2 hrs2 ⊢;have HF2:=zhi (hF.out.call hrs2 hfr2);have HR2:=zhi hrd2;have hz2:=HF2.out.z;have hs2:=HF2.out.lt;obtain ⟨z0,z1⟩:=cl2 hz2;have f0:=z09 hz2 0;have f1:=z09 hz2 1;have hE3:=q_4 w2 (.cells #[.int .i64 k,.int .i64 t] 61);obtain ⟨e0,e1⟩:=cl2 hE3;have Hn2:=zhi hn2;clear hrd2 hrs2 hfr2 hz2 hE3 hF HLc d2 d5 hn2
 by_cases h0:k=0
 ·subst h0;have HY:Hid (z0V (vs,(0,t),s1) (C a)=C a vs s1):=zhi (if_pos rfl);have HF3:=zhi (HF2.out.alloc (.cells #[.int .i64 0,.int .i64 t] 61));obtain ⟨A3,c3,_,_,d2,_,_⟩:=HX.out _ HF3.out.fr.lo;have HCc:=zhi (HC.out lb nl dp s1 a vs A2 n2 c2 _ HF3.out.rs HD.out (HP.out.low HF3.out.fr.lo) ha ha2 Hn2.out.symm hnc2 (by have:=Hn2.out; omega) (HR2.out.alloc _));clear HC HX HP HR2 HF2 z0 z1 f0 f1;go_upto_region 4 with fail;go_wp2_with fail;refine HCc.out.mono ?_;rintro e w4 ⟨rfl,hrs4,hfr4⟩;have HF4:=zhi (HF3.out.call hrs4 hfr4);generalize C a vs s1=y4 at HY HF4 ⊢;clear hrs4 hfr4 HF3 HCc d2 e0 e1;go_wp2_with (with_reducible refine z0d ?_);refine z07.of (z00 _ rfl _ _ _ rfl w.heap.size _ rfl (by rfl) _ _ HF4.out.z (by kernel_rfl) (by rfl) (by simp [Value.oneCell']) ?_);intro w9 hrow9 hg9;obtain ⟨j0,j1⟩:=cl2 hrow9;have hfin:=HF4.out.fin hg9;have HH:Hid (ZG p K lb nl dp (z0V (vs,(0,t),s1) (C a)) w (.returned (.tuple #[.int .i64 y4.1.1,.agg #[.int .i64 y4.1.2.1,.int .i64 y4.1.2.2]])) w9):=zhi (by rw [HY.out]; exact ⟨rfl,hfin⟩);clear hrow9 hg9 hfin;go_wp2_with fail;exact q_3 (by simp [results,Tryz.results90,go_sem,j0,j1]) rfl HH.out
 ·have HY:Hid (z0V (vs,(k,t),s1) (C a)=((0,k,t),s1)):=zhi (if_neg h0);have h0':(k != 0)=true:=by simp [h0]
  have HT:=zhi (HF2.out.twoE (.int .i64 k) (.int .i64 t) (.cells #[.int .i64 k,.int .i64 t] 61));clear h0 HC HX HP HR2 HF2;go_wp2_with fail;go_region;go_wp2_with fail;obtain ⟨j0,j1,hr9,hg9⟩:=HT.out;have HH:Hid (ZG p K lb nl dp (z0V (vs,(k,t),s1) (C a)) w (.returned (.tuple #[.int .i64 0,.agg #[.int .i64 k,.int .i64 t]])) _):=zhi (by rw [HY.out]; exact ⟨rfl,hr9,hg9⟩);clear hr9 hg9;exact q_3 (by simp [results,Tryz.results90,go_sem,j0,j1]) rfl HH.out
theorem zcy {dx:Nat} (hL:zch p K D d fs nd C dx) (hC:z4L p K D d fs nd C) {lb nl:Nat} {dp:Int} {s:Sx} {g q:Nat} {o a:Int} {xs:List Ex} {w:World} (h:RunS p K lb nl dp s w) (hd:DpZ K dp nd) (hP:PrgZ p K D d fs w) (hx:PtrZ p w dx g q 10 o a xs) (hg:g<p) (hn1:1<=xs.length) (hn:xs.length<=1000) (hw:wzL nl K.gs fs.length xs) :
  Calls Tryz.prog 91 #[.pointer (some ⟨p,0,none⟩),.pointer (some ⟨g,q,none⟩)] w (ZG p K lb nl dp (z0V (zL K.ls (pnZ fs) C xs s) (z18 (pnZ fs) C)) w):=by
 have hF:=zhi (FwZ.new h);have hb1:=(q_i _ w).alloc (q_2 _) (.cells #[.int .i64 0,.int .i64 0] 61);have hlo:Below p w (w.alloc (.cells #[.int .i64 0,.int .i64 0] 61)):=hF.out.fr.lo;obtain ⟨A,c,_,_,d2,d5,he⟩:=hx.low hg hlo;have HLc:=zhi (hL lb nl dp s xs A xs.length c _ (h.below hb1) hd (hP.low hlo) he rfl hn hw);have HP:=zhi hP;have HC:=zhi hC;have HD:=zhi hd;have hlen:=z67 (ls:=K.ls) (pn:=pnZ fs) (C:=C) xs s;obtain ⟨W,hW⟩:∃ W,W=w.alloc (.cells #[.int .i64 0,.int .i64 0] 61):=⟨_,rfl⟩;rw [<- hW] at hF d2 d5 HLc;generalize zL K.ls (pnZ fs) C xs s=y at HLc hlen ⊢;obtain ⟨vs,⟨k,t⟩,s1⟩:=y;dsimp only at hlen;have hvl:vs.length<=1000:=by omega
 have hvl1:k=0->1<=vs.length:=fun e=>by rw [hlen.2 e]; exact hn1
 clear hx he hL hP hC hd h hb1 hlo hlen;go_enter Tryz.func91,Tryz.ntmps91;go_upto_region 1 with fail;rw [<- hW];clear hW;go_wp2_with fail;refine HLc.out.mono ?_;rintro e w2 ⟨A2,n2,c2,rfl,hn2,hnc2,hrd2,hrs2,hfr2⟩;dsimp only at hn2 hrd2 hrs2 ⊢;have HF2:=zhi (hF.out.call hrs2 hfr2);have HR2:=zhi hrd2;have hz2:=HF2.out.z;have hs2:=HF2.out.lt;obtain ⟨z0,z1⟩:=cl2 hz2;have f0:=z09 hz2 0;have f1:=z09 hz2 1;have hE3:=q_4 w2 (.cells #[.int .i64 k,.int .i64 t] 61);obtain ⟨e0,e1⟩:=cl2 hE3;have Hn2:=zhi hn2;have Hvl1:=zhi hvl1;clear hrd2 hrs2 hfr2 hz2 hE3 hF HLc d2 d5 hn2 hvl1
 by_cases h0:k=0
 ·subst h0;have HY:Hid (z0V (vs,(0,t),s1) (z18 (pnZ fs) C)=z18 (pnZ fs) C vs s1):=zhi (if_pos rfl);have HF3:=zhi (HF2.out.alloc (.cells #[.int .i64 0,.int .i64 t] 61));have hv1:=Hvl1.out rfl;cases vs with
  | nil=>simp at hv1
  | cons v r =>
  have hr3:=HR2.out.alloc (.cells #[.int .i64 0,.int .i64 t] 61);obtain ⟨ad,rfl,hc0⟩:=hr3 0 _ rfl;rw [z0N] at hc0;obtain ⟨m,hm⟩:∃ m,m=r.length:=⟨_,rfl⟩;have hnm:n2=m+1:=by rw [Hn2.out,hm]; rfl
  subst hnm;have Hm:=zhi hm;have hcut:Rd (w2.alloc (.cells #[.int .i64 0,.int .i64 t] 61)) (if c2=1 then some ad else (some ad).map (·.add 1)) (r.map (Value.int .i64)):=by
   have:=Rd.cut (k:=1) (c:=c2) hr3 (by simp; omega);simpa using this
  have HCut:=zhi hcut;obtain ⟨fA,fc,hfn,hrow⟩:=(HP.out.low HF3.out.fr.lo).fn;obtain ⟨iv,ov,lv,hrm⟩:=HF3.out.rs;have c1:=zcr 1 hrm.r;rw [hfn] at c1;have hml:m<=1000:=by rw [hm]; simp at hvl; omega
  have hfl:=HP.out.ln;have HRow:=zhi hrow;obtain ⟨fn,hfnl⟩:∃ fn,fn=fs.length:=⟨_,rfl⟩;rw [<- hfnl] at c1 hfl;have Hfn:=zhi hfnl;have HCc:=zhi (fun (hv:0<=v) (hv2:v.toNat<fn) (w':World) (hb:Below (w2.alloc (.cells #[.int .i64 0,.int .i64 t] 61)).heap.size (w2.alloc (.cells #[.int .i64 0,.int .i64 t] 61)) w')=>HC.out lb nl dp s1 v r (if c2=1 then some ad else (some ad).map (·.add 1)) m (c2 - 1) w' (HF3.out.rs.below hb) HD.out (HP.out.low (HF3.out.low hb).fr.lo) hv (by rw [<- hfnl]; exact hv2) hm.symm (by omega) hml (hcut.below hb));clear HC HP HR2 HF2 z0 z1 f0 f1 hcut hr3 hrow hrm hfn Hvl1 hm hfnl hvl hv1;go_upto_region 4 with fail;obtain ⟨W3,hW3⟩:∃ W3,W3=w2.alloc (.cells #[.int .i64 0,.int .i64 t] 61):=⟨_,rfl⟩;rw [<- hW3] at HF3 c1 hc0 HCut HRow HCc e0 e1 ⊢;clear hW3
  by_cases hc1:c2=1
  ·rw [if_pos hc1] at HCut HCc;subst hc1;obtain rfl:m=0:=by omega
   go_quiet (fail);have HF4:=zhi (HF3.out.drewN nq)
   by_cases h0v:0<=v
   ·obtain ⟨V,rfl⟩:∃ V:Nat,v=(V:Int):=⟨v.toNat,by omega⟩;have i1:((V:Int)<0)=False:=eq_false (by omega)
    by_cases hV:V<fn
    ·have i2:((fn:Int)<=(V:Int))=False:=eq_false (by omega);obtain ⟨F,hFF⟩:∃ F,fs[V]?=some F:=⟨_,q_7 (by rw [<- Hfn.out]; exact hV)⟩;obtain ⟨fg,cs,rfl,hfg,hcs,hcell,⟨bA,bc,rfl,_⟩⟩:=HRow.out.2 V F hFF;have d0:=hcell 0 _ rfl;rw [Nat.add_zero] at d0;have hpn:(pnZ fs)[V]?=some F.params:=by unfold pnZ; simp [hFF]
     obtain ⟨P,hP⟩:∃ P,P=F.params:=⟨_,rfl⟩;rw [<- hP] at d0 hpn;clear hcell hFF hfg hcs HRow hP
     by_cases hmp:0=P
     ·have HV:Hid (z18 (pnZ fs) C ((V:Int) :: r) s1=C (V:Int) r s1):=zhi (if_pos ⟨h0v,by rw [Int.toNat_natCast,hpn,<- Hm.out,hmp]⟩);have i3:((0:Int) != (P:Int))=false:=by simp; omega
      clear hpn hmp;go_wp2_with fail;refine (HCc.out h0v (by omega) _ (z17 (q_i _ _) nq)).mono ?_;rintro e w5 ⟨rfl,hrs5,hfr5⟩;have HF5:=zhi (HF4.out.call hrs5 hfr5);generalize C (V:Int) r s1=y5 at HV HF5 ⊢;clear hrs5 hfr5 HF4 HCc;go_wp2_with (with_reducible refine z0d ?_);refine z07.of (z00 _ rfl _ _ _ rfl w.heap.size _ rfl (by rfl) _ _ HF5.out.z (by kernel_rfl) (by rfl) (by simp [Value.oneCell']) ?_);intro w9 hrow9 hg9;obtain ⟨j0,j1⟩:=cl2 hrow9;have hfin:=HF5.out.fin hg9;have HH:Hid (ZG p K lb nl dp (z0V ((V:Int) :: r,(0,t),s1) (z18 (pnZ fs) C)) w (.returned (.tuple #[.int .i64 y5.1.1,.agg #[.int .i64 y5.1.2.1,.int .i64 y5.1.2.2]])) w9):=zhi (by rw [HY.out,HV.out]; exact ⟨rfl,hfin⟩);clear hrow9 hg9 hfin;go_wp2_with fail;exact q_3 (by simp [results,Tryz.results91,go_sem,j0,j1]) rfl HH.out
     ·have HV:Hid (z18 (pnZ fs) C ((V:Int) :: r) s1=((0,2,3),s1)):=zhi (if_neg (fun e=>by
       have e2:=e.2;rw [Int.toNat_natCast,hpn,<- Hm.out] at e2;injection e2 with e2;exact hmp e2.symm))
      have i3:((0:Int) != (P:Int))=true:=by simp; omega
      clear hpn hmp HCc;go_wp2_with (with_reducible refine z0d ?_);refine z07.of (z00 _ rfl _ _ _ rfl w.heap.size _ rfl (by rfl) _ _ HF4.out.z (by kernel_rfl) (by rfl) (by simp [Value.oneCell']) ?_);intro w9 hrow9 hg9;obtain ⟨j0,j1⟩:=cl2 hrow9;have hfin:=HF4.out.fin hg9;have HH:Hid (ZG p K lb nl dp (z0V ((V:Int) :: r,(0,t),s1) (z18 (pnZ fs) C)) w (.returned (.tuple #[.int .i64 0,.agg #[.int .i64 2,.int .i64 3]])) w9):=zhi (by rw [HY.out,HV.out]; exact ⟨rfl,hfin⟩);clear hrow9 hg9 hfin;go_wp2_with fail;exact q_3 (by simp [results,Tryz.results91,go_sem,j0,j1]) rfl HH.out
    ·have i2:((fn:Int)<=(V:Int))=True:=eq_true (by omega);have HV:Hid (z18 (pnZ fs) C ((V:Int) :: r) s1=((0,2,3),s1)):=zhi (if_neg (fun e=>by
      have e2:=e.2;rw [Int.toNat_natCast] at e2;have e3:=(List.getElem?_eq_some_iff.1 e2).1;unfold pnZ at e3;rw [List.length_map,<- Hfn.out] at e3;exact hV e3))
     clear hV HCc;go_wp2_with (with_reducible refine z0d ?_);refine z07.of (z00 _ rfl _ _ _ rfl w.heap.size _ rfl (by rfl) _ _ HF4.out.z (by kernel_rfl) (by rfl) (by simp [Value.oneCell']) ?_);intro w9 hrow9 hg9;obtain ⟨j0,j1⟩:=cl2 hrow9;have hfin:=HF4.out.fin hg9;have HH:Hid (ZG p K lb nl dp (z0V ((V:Int) :: r,(0,t),s1) (z18 (pnZ fs) C)) w (.returned (.tuple #[.int .i64 0,.agg #[.int .i64 2,.int .i64 3]])) w9):=zhi (by rw [HY.out,HV.out]; exact ⟨rfl,hfin⟩);clear hrow9 hg9 hfin;go_wp2_with fail;exact q_3 (by simp [results,Tryz.results91,go_sem,j0,j1]) rfl HH.out
   ·have i1:(v<0)=True:=eq_true (by omega);have HV:Hid (z18 (pnZ fs) C (v :: r) s1=((0,2,3),s1)):=zhi (if_neg (fun e=>h0v e.1));clear HCc;go_wp2_with (with_reducible refine z0d ?_);refine z07.of (z00 _ rfl _ _ _ rfl w.heap.size _ rfl (by rfl) _ _ HF4.out.z (by kernel_rfl) (by rfl) (by simp [Value.oneCell']) ?_);intro w9 hrow9 hg9;obtain ⟨j0,j1⟩:=cl2 hrow9;have hfin:=HF4.out.fin hg9;have HH:Hid (ZG p K lb nl dp (z0V (v :: r,(0,t),s1) (z18 (pnZ fs) C)) w (.returned (.tuple #[.int .i64 0,.agg #[.int .i64 2,.int .i64 3]])) w9):=zhi (by rw [HY.out,HV.out]; exact ⟨rfl,hfin⟩);clear hrow9 hg9 hfin;go_wp2_with fail;exact q_3 (by simp [results,Tryz.results91,go_sem,j0,j1]) rfl HH.out
  ·rw [if_neg hc1] at HCut HCc;go_quiet (fail);have HF4:=zhi (HF3.out.drewN nq)
   by_cases h0v:0<=v
   ·obtain ⟨V,rfl⟩:∃ V:Nat,v=(V:Int):=⟨v.toNat,by omega⟩;have i1:((V:Int)<0)=False:=eq_false (by omega)
    by_cases hV:V<fn
    ·have i2:((fn:Int)<=(V:Int))=False:=eq_false (by omega);obtain ⟨F,hFF⟩:∃ F,fs[V]?=some F:=⟨_,q_7 (by rw [<- Hfn.out]; exact hV)⟩;obtain ⟨fg,cs,rfl,hfg,hcs,hcell,⟨bA,bc,rfl,_⟩⟩:=HRow.out.2 V F hFF;have d0:=hcell 0 _ rfl;rw [Nat.add_zero] at d0;have hpn:(pnZ fs)[V]?=some F.params:=by unfold pnZ; simp [hFF]
     obtain ⟨P,hP⟩:∃ P,P=F.params:=⟨_,rfl⟩;rw [<- hP] at d0 hpn;clear hcell hFF hfg hcs HRow hP
     by_cases hmp:m=P
     ·have HV:Hid (z18 (pnZ fs) C ((V:Int) :: r) s1=C (V:Int) r s1):=zhi (if_pos ⟨h0v,by rw [Int.toNat_natCast,hpn,<- Hm.out,hmp]⟩);have i3:((m:Int) != (P:Int))=false:=by simp; omega
      clear hpn hmp;go_wp2_with fail;refine (HCc.out h0v (by omega) _ (z17 (q_i _ _) nq)).mono ?_;rintro e w5 ⟨rfl,hrs5,hfr5⟩;have HF5:=zhi (HF4.out.call hrs5 hfr5);generalize C (V:Int) r s1=y5 at HV HF5 ⊢;clear hrs5 hfr5 HF4 HCc;go_wp2_with (with_reducible refine z0d ?_);refine z07.of (z00 _ rfl _ _ _ rfl w.heap.size _ rfl (by rfl) _ _ HF5.out.z (by kernel_rfl) (by rfl) (by simp [Value.oneCell']) ?_);intro w9 hrow9 hg9;obtain ⟨j0,j1⟩:=cl2 hrow9;have hfin:=HF5.out.fin hg9;have HH:Hid (ZG p K lb nl dp (z0V ((V:Int) :: r,(0,t),s1) (z18 (pnZ fs) C)) w (.returned (.tuple #[.int .i64 y5.1.1,.agg #[.int .i64 y5.1.2.1,.int .i64 y5.1.2.2]])) w9):=zhi (by rw [HY.out,HV.out]; exact ⟨rfl,hfin⟩);clear hrow9 hg9 hfin;go_wp2_with fail;exact q_3 (by simp [results,Tryz.results91,go_sem,j0,j1]) rfl HH.out
     ·have HV:Hid (z18 (pnZ fs) C ((V:Int) :: r) s1=((0,2,3),s1)):=zhi (if_neg (fun e=>by
       have e2:=e.2;rw [Int.toNat_natCast,hpn,<- Hm.out] at e2;injection e2 with e2;exact hmp e2.symm))
      have i3:((m:Int) != (P:Int))=true:=by simp; omega
      clear hpn hmp HCc;go_wp2_with (with_reducible refine z0d ?_);refine z07.of (z00 _ rfl _ _ _ rfl w.heap.size _ rfl (by rfl) _ _ HF4.out.z (by kernel_rfl) (by rfl) (by simp [Value.oneCell']) ?_);intro w9 hrow9 hg9;obtain ⟨j0,j1⟩:=cl2 hrow9;have hfin:=HF4.out.fin hg9;have HH:Hid (ZG p K lb nl dp (z0V ((V:Int) :: r,(0,t),s1) (z18 (pnZ fs) C)) w (.returned (.tuple #[.int .i64 0,.agg #[.int .i64 2,.int .i64 3]])) w9):=zhi (by rw [HY.out,HV.out]; exact ⟨rfl,hfin⟩);clear hrow9 hg9 hfin;go_wp2_with fail;exact q_3 (by simp [results,Tryz.results91,go_sem,j0,j1]) rfl HH.out
    ·have i2:((fn:Int)<=(V:Int))=True:=eq_true (by omega);have HV:Hid (z18 (pnZ fs) C ((V:Int) :: r) s1=((0,2,3),s1)):=zhi (if_neg (fun e=>by
      have e2:=e.2;rw [Int.toNat_natCast] at e2;have e3:=(List.getElem?_eq_some_iff.1 e2).1;unfold pnZ at e3;rw [List.length_map,<- Hfn.out] at e3;exact hV e3))
     clear hV HCc;go_wp2_with (with_reducible refine z0d ?_);refine z07.of (z00 _ rfl _ _ _ rfl w.heap.size _ rfl (by rfl) _ _ HF4.out.z (by kernel_rfl) (by rfl) (by simp [Value.oneCell']) ?_);intro w9 hrow9 hg9;obtain ⟨j0,j1⟩:=cl2 hrow9;have hfin:=HF4.out.fin hg9;have HH:Hid (ZG p K lb nl dp (z0V ((V:Int) :: r,(0,t),s1) (z18 (pnZ fs) C)) w (.returned (.tuple #[.int .i64 0,.agg #[.int .i64 2,.int .i64 3]])) w9):=zhi (by rw [HY.out,HV.out]; exact ⟨rfl,hfin⟩);clear hrow9 hg9 hfin;go_wp2_with fail;exact q_3 (by simp [results,Tryz.results91,go_sem,j0,j1]) rfl HH.out
   ·have i1:(v<0)=True:=eq_true (by omega);have HV:Hid (z18 (pnZ fs) C (v :: r) s1=((0,2,3),s1)):=zhi (if_neg (fun e=>h0v e.1));clear HCc;go_wp2_with (with_reducible refine z0d ?_);refine z07.of (z00 _ rfl _ _ _ rfl w.heap.size _ rfl (by rfl) _ _ HF4.out.z (by kernel_rfl) (by rfl) (by simp [Value.oneCell']) ?_);intro w9 hrow9 hg9;obtain ⟨j0,j1⟩:=cl2 hrow9;have hfin:=HF4.out.fin hg9;have HH:Hid (ZG p K lb nl dp (z0V (v :: r,(0,t),s1) (z18 (pnZ fs) C)) w (.returned (.tuple #[.int .i64 0,.agg #[.int .i64 2,.int .i64 3]])) w9):=zhi (by rw [HY.out,HV.out]; exact ⟨rfl,hfin⟩);clear hrow9 hg9 hfin;go_wp2_with fail;exact q_3 (by simp [results,Tryz.results91,go_sem,j0,j1]) rfl HH.out
 ·have HY:Hid (z0V (vs,(k,t),s1) (z18 (pnZ fs) C)=((0,k,t),s1)):=zhi (if_neg h0);have h0':(k != 0)=true:=by simp [h0]
  have HT:=zhi (HF2.out.twoE (.int .i64 k) (.int .i64 t) (.cells #[.int .i64 k,.int .i64 t] 61));clear h0 HC HP HR2 HF2;go_wp2_with fail;go_region;go_wp2_with fail;obtain ⟨j0,j1,hr9,hg9⟩:=HT.out;have HH:Hid (ZG p K lb nl dp (z0V (vs,(k,t),s1) (z18 (pnZ fs) C)) w (.returned (.tuple #[.int .i64 0,.agg #[.int .i64 k,.int .i64 t]])) _):=zhi (by rw [HY.out]; exact ⟨rfl,hr9,hg9⟩);clear hr9 hg9;exact q_3 (by simp [results,Tryz.results91,go_sem,j0,j1]) rfl HH.out
end
mutual
def szS:St->Prop
 | .mk _ _ s es ts us=>(s.size<=1000/\es.length<=1000/\ts.length<=1000000/\us.length<=1000000)/\szL es/\szB ts/\szB us
def szB:List St->Prop
 | []=>True
 | t :: ts=>szS t/\szB ts
end
theorem zc7:∀ {xs:List St} {i:Nat} {x:St},szB xs->xs[i]?=some x->szS x
 | [],_,_,h,hi=>by simp at hi
 | y :: ys,0,x,h,hi=>by
  simp at hi;subst hi;exact h.1
 | y :: ys,i+1,x,h,hi=>zc7 h.2 (by simpa using hi)
structure SnZ (w:World) (bl bo kl ko:Nat) (L O:NmF) (row:Array Value) (wr:World):Prop where
 p:wr.heap[w.heap.size]?=some (.cells #[.map (some bl),.map (some bo)] 99 (0,0))
 q:wr.heap[w.heap.size+1]?=some (.cells row 121 (0,0))
 z:wr.heap[w.heap.size+2]?=some (.cells #[.int .i64 0,.int .i64 0,.slice none 0 0,.slice none 0 0,.slice none 0 0] 131 (0,0))
 l:MapZ wr bl kl L
 o:MapZ wr bo ko O
 lo:Below w.heap.size w wr
 bl:bl<w.heap.size
 bo:bo<w.heap.size
section
variable {w wr wd:World} {bl bo kl ko:Nat} {L O:NmF} {row:Array Value}
theorem SnZ.below (h:SnZ w bl bo kl ko L O row wr) (hb:Below wr.heap.size wr wd):SnZ w bl bo kl ko L O row wd :=
 ⟨(hb.block _ (q_0.1 h.p).1).trans h.p,(hb.block _ (q_0.1 h.q).1).trans h.q,(hb.block _ (q_0.1 h.z).1).trans h.z,h.l.kept (hb.block _ h.l.lt),h.o.kept (hb.block _ h.o.lt),h.lo.trans (hb.mono h.lo.size),h.bl,h.bo⟩
theorem SnZ.alloc (h:SnZ w bl bo kl ko L O row wr) (o:Obj):SnZ w bl bo kl ko L O row (wr.alloc o):=h.below ((q_i _ _).alloc (q_2 _) o)
theorem SnZ.drew (h:SnZ w bl bo kl ko L O row wr):SnZ w bl bo kl ko L O row wr.drew:=h.below (z0m (q_i _ _))
theorem SnZ.grown {b':Nat} (h:SnZ w bl bo kl ko L O row wr) (hg:wr.grownBy wd (some b')) (hb:w.heap.size+3<=b'):SnZ w bl bo kl ko L O row wd :=
 ⟨z04 hg (by omega) h.p,z04 hg (by omega) h.q,z04 hg (by omega) h.z,h.l.grown hg (fun e=>by injection e with e; have:=h.bl; omega),h.o.grown hg (fun e=>by injection e with e; have:=h.bo; omega),h.lo.trans (z05 hg (fun k hk=>by injection hk with hk; omega) h.lo.size),h.bl,h.bo⟩
theorem SnZ.size (h:SnZ w bl bo kl ko L O row wr):w.heap.size+3<=wr.heap.size:=(q_0.1 h.z).1
theorem z9W {k l:Int} {s:Zb} {v3 v4 v5:Value} (hs:s.size<=maxLen) (h:SnZ w bl bo kl ko L O #[.int .i64 k,.int .i64 l,.string s,v3,v4,v5] wr) :
  wr.cell? ⟨w.heap.size,0,none⟩=some (.map (some bl))/\wr.cell? ⟨w.heap.size,1,none⟩=some (.map (some bo))/\wr.cell? ⟨w.heap.size+1,0,none⟩=some (.int .i64 k)/\wr.cell? ⟨w.heap.size+1,2,none⟩=some (.string s)/\wr.cell? ⟨w.heap.size+1,3,none⟩=some v3/\wr.cell? ⟨w.heap.size+1,4,none⟩=some v4/\wr.cell? ⟨w.heap.size+1,5,none⟩=some v5/\(Instr.lookup 97 (.map (some bo)) (.string s) false).run Tryz.prog wr=.ok (.int .i64 ((O s).getD 0)) wr/\SnZ w bl bo kl ko L O #[.int .i64 k,.int .i64 l,.string s,v3,v4,v5] wr :=
 ⟨zcr 0 h.p,zcr 1 h.p,zcr 0 h.q,zcr 2 h.q,zcr 3 h.q,zcr 4 h.q,zcr 5 h.q,h.o.look s hs,h⟩
end
structure RwR (w:World) (lo hi:Nat) (P:(Nat->Prop)->World->Prop) (wr:World):Prop where
 row:P (fun b=>lo<=b/\b<hi) wr
 lo:w.heap.size+3<=lo
 hi:hi<=wr.heap.size
def KpP (P:(Nat->Prop)->World->Prop):Prop:=∀ (F G:Nat->Prop) (w w':World),(∀ b,F b->G b)->(∀ b,F b->w'.heap[b]?=w.heap[b]?)->P F w->P G w'
theorem RwR.below {w wr wd:World} {lo hi:Nat} {P:(Nat->Prop)->World->Prop} (hP:KpP P) (h:RwR w lo hi P wr) (hb:Below wr.heap.size wr wd):RwR w lo hi P wd :=
 ⟨hP _ _ _ _ (fun _ h=>h) (fun b hb'=>hb.block b (q_1 hb'.2 h.hi)) h.row,h.lo,q_9 h.hi hb.size⟩
theorem RwR.alloc {w wr:World} {lo hi:Nat} {P:(Nat->Prop)->World->Prop} (hP:KpP P) (h:RwR w lo hi P wr) (o:Obj):RwR w lo hi P (wr.alloc o):=h.below hP ((q_i _ _).alloc (q_2 _) o)
def RwE (D:Nat) (es:List Ex) (A:Option Addr) (c:Nat):(Nat->Prop)->World->Prop:=fun F w=>RowE F w D es A c
def RwG (D d:Nat) (ts:List Sn) (A:Option Addr) (c:Nat):(Nat->Prop)->World->Prop:=fun F w=>RowG 5 (MSn D d) F w ts A c
theorem z2O {D:Nat} {es:List Ex} {A:Option Addr} {c:Nat}:KpP (RwE D es A c):=fun _ _ _ _ h1 h2 h=>RowE.keep h1 h2 h
theorem z2x {D d:Nat} {ts:List Sn} {A:Option Addr} {c:Nat}:KpP (RwG D d ts A c):=fun _ _ _ _ h1 h2 h=>z0j (z0P D d) h1 h2 h
def Z5z (w0:World) (b:Nat) (w:World):Prop:=w.heap[b]?=some (.cells #[.int .i64 0,.int .i64 0,.slice none 0 0,.slice none 0 0,.slice none 0 0] 131 (0,0))/\w0.heap.size+3<=b
theorem Z5z.new {w0 w wd:World} (hs:w0.heap.size+3<=w.heap.size) (hb:Below (w.alloc (.cells #[.int .i64 0,.int .i64 0,.slice none 0 0,.slice none 0 0,.slice none 0 0] 131)).heap.size (w.alloc (.cells #[.int .i64 0,.int .i64 0,.slice none 0 0,.slice none 0 0,.slice none 0 0] 131)) wd):Z5z w0 w.heap.size wd :=
 ⟨(hb.block _ (by simp)).trans (q_4 w _),hs⟩
theorem Z5z.newd {w0 w wd:World} (hs:w0.heap.size+3<=w.heap.size) (hb:Below (w.alloc (.cells #[.int .i64 0,.int .i64 0,.slice none 0 0,.slice none 0 0,.slice none 0 0] 131)).drew.heap.size (w.alloc (.cells #[.int .i64 0,.int .i64 0,.slice none 0 0,.slice none 0 0,.slice none 0 0] 131)).drew wd):Z5z w0 w.heap.size wd:=Z5z.new hs ((z0m (q_i _ _)).trans hb)
theorem Z5z.below {b:Nat} {w0 w wd:World} (h:Z5z w0 b w) (hb:Below w.heap.size w wd):Z5z w0 b wd:=⟨(hb.block _ (q_0.1 h.1).1).trans h.1,h.2⟩
theorem zbH {w:World} {b:Nat} {a0 a1 a2 a3 a4:Value} {T:TypeId} (v0 v1 v2 v3 v4:Value) (h:w.heap[b]?=some (.cells #[a0,a1,a2,a3,a4] T (0,0))) :
  (((((w.setCell ⟨b,0,none⟩ v0).setCell ⟨b,1,none⟩ v1).setCell ⟨b,2,none⟩ v2).setCell ⟨b,3,none⟩ v3).setCell ⟨b,4,none⟩ v4).heap[b]?=some (.cells #[v0,v1,v2,v3,v4] T (0,0)) :=
 z0a (i:=4) v4 (z0a (i:=3) v3 (z0a (i:=2) v2 (z0a (i:=1) v1 (z0a (i:=0) v0 h))))
theorem z4J (w:World) (b:Nat) (v0 v1 v2 v3 v4:Value):w.grownBy (((((w.setCell ⟨b,0,none⟩ v0).setCell ⟨b,1,none⟩ v1).setCell ⟨b,2,none⟩ v2).setCell ⟨b,3,none⟩ v3).setCell ⟨b,4,none⟩ v4) (some b) :=
 ((((z03 w ⟨b,0,none⟩ v0).trans (z03 _ ⟨b,1,none⟩ v1)).trans (z03 _ ⟨b,2,none⟩ v2)).trans (z03 _ ⟨b,3,none⟩ v3)).trans (z03 _ ⟨b,4,none⟩ v4)
def SqZ (w:World) (bl bo kl ko:Nat) (L O:NmF) (row:Array Value) (D d:Nat) (k z:Int) (es:List Ex) (en:Nat) (ts:List Sn) (tn:Nat) (us:List Sn) (un:Nat) (v:Value) (wc:World):Prop :=
 ∃ b A c T g U h,v=.pointer (some ⟨b,0,none⟩)/\w.heap.size+3<=b/\wc.heap[b]?=some (.cells #[.int .i64 k,.int .i64 z,.slice A en c,.slice T tn g,.slice U un h] 131 (0,0)) /\
  RwE D es A c (fun x=>w.heap.size+3<=x/\x<wc.heap.size/\x≠b) wc/\RwG D d ts T g (fun x=>w.heap.size+3<=x/\x<wc.heap.size/\x≠b) wc/\RwG D d us U h (fun x=>w.heap.size+3<=x/\x<wc.heap.size/\x≠b) wc/\SnZ w bl bo kl ko L O row wc
section
variable {w w4:World} {bl bo kl ko D d l1 h1 l2 h2 l3 h3 en tn un c g h:Nat} {L O:NmF} {row:Array Value} {k z:Int} {es:List Ex} {ts us:List Sn} {A T U:Option Addr}
theorem zda (hx:RwR w l1 h1 (RwE D es A c) w4) (hy:RwR w l2 h2 (RwG D d ts T g) w4) (hz:RwR w l3 h3 (RwG D d us U h) w4) (hs:SnZ w bl bo kl ko L O row w4) :
  SqZ w bl bo kl ko L O row D d k z es en ts tn us un (.pointer (some ⟨w4.heap.size,0,none⟩)) (w4.alloc (.cells #[.int .i64 k,.int .i64 z,.slice A en c,.slice T tn g,.slice U un h] 131)):=by
 have hb:=(q_i _ w4).alloc (q_2 _) (.cells #[.int .i64 k,.int .i64 z,.slice A en c,.slice T tn g,.slice U un h] 131);have hsz:=hb.size;refine ⟨_,A,c,T,g,U,h,rfl,hs.size,q_4 w4 _,?_,?_,?_,hs.alloc _⟩
 ·exact z2O _ _ _ _ (fun b hb'=>⟨q_9 hx.lo hb'.1,by have:=hb'.2; have:=hx.hi; omega,by have:=hb'.2; have:=hx.hi; omega⟩) (fun b hb'=>hb.block b (q_1 hb'.2 hx.hi)) hx.row
 ·exact z2x _ _ _ _ (fun b hb'=>⟨q_9 hy.lo hb'.1,by have:=hb'.2; have:=hy.hi; omega,by have:=hb'.2; have:=hy.hi; omega⟩) (fun b hb'=>hb.block b (q_1 hb'.2 hy.hi)) hy.row
 ·exact z2x _ _ _ _ (fun b hb'=>⟨q_9 hz.lo hb'.1,by have:=hb'.2; have:=hz.hi; omega,by have:=hb'.2; have:=hz.hi; omega⟩) (fun b hb'=>hb.block b (q_1 hb'.2 hz.hi)) hz.row
theorem zdc {b:Nat} (h5:Z5z w b w4) (hx:RwR w l1 h1 (RwE D es A c) w4) (hy:RwR w l2 h2 (RwG D d ts T g) w4) (hz:RwR w l3 h3 (RwG D d us U h) w4) (hs:SnZ w bl bo kl ko L O row w4) (n1:b<l1\/h1<=b) (n2:b<l2\/h2<=b) (n3:b<l3\/h3<=b) :
  SqZ w bl bo kl ko L O row D d k z es en ts tn us un (.pointer (some ⟨b,0,none⟩)) (((((w4.setCell ⟨b,0,none⟩ (.int .i64 k)).setCell ⟨b,1,none⟩ (.int .i64 z)).setCell ⟨b,2,none⟩ (.slice A en c)).setCell ⟨b,3,none⟩ (.slice T tn g)).setCell ⟨b,4,none⟩ (.slice U un h)):=by
 have hg:=z4J w4 b (.int .i64 k) (.int .i64 z) (.slice A en c) (.slice T tn g) (.slice U un h);have hsz:=hg.size;refine ⟨b,A,c,T,g,U,h,rfl,h5.2,zbH _ _ _ _ _ h5.1,?_,?_,?_,hs.grown hg h5.2⟩
 ·exact z2O _ _ _ _ (fun x hb'=>⟨q_9 hx.lo hb'.1,by have:=hb'.2; have:=hx.hi; omega,by have:=hb'.1; have:=hb'.2; omega⟩) (fun x hb'=>hg.block x (q_1 hb'.2 hx.hi) (fun e=>by injection e with e; have:=hb'.1; have:=hb'.2; omega)) hx.row
 ·exact z2x _ _ _ _ (fun x hb'=>⟨q_9 hy.lo hb'.1,by have:=hb'.2; have:=hy.hi; omega,by have:=hb'.1; have:=hb'.2; omega⟩) (fun x hb'=>hg.block x (q_1 hb'.2 hy.hi) (fun e=>by injection e with e; have:=hb'.1; have:=hb'.2; omega)) hy.row
 ·exact z2x _ _ _ _ (fun x hb'=>⟨q_9 hz.lo hb'.1,by have:=hb'.2; have:=hz.hi; omega,by have:=hb'.1; have:=hb'.2; omega⟩) (fun x hb'=>hg.block x (q_1 hb'.2 hz.hi) (fun e=>by injection e with e; have:=hb'.1; have:=hb'.2; omega)) hz.row
end
def StZ (D d:Nat) (x:Sn) (w:World) (e:Ending) (w':World):Prop:=∃ cs,e=.returned (.agg cs)/\MSn D (d+1) (fun b=>w.heap.size<=b/\b<w'.heap.size) w' x cs.toList/\Below w.heap.size w w'
def BlZ (D d:Nat) (ts:List Sn) (w:World) (e:Ending) (w':World):Prop:=∃ A m c,e=.returned (.slice A m c)/\m=ts.length/\RowG 5 (MSn D d) (fun b=>w.heap.size<=b/\b<w'.heap.size) w' ts A c/\Below w.heap.size w w'
def NbZ (D d:Nat):Prop:=∀ (F:Nat->Prop) (bl bo kl ko:Nat) (L O:NmF) (ts:List St) (A:Option Addr) (n c:Nat) (w:World),RowS F w D d ts A c->n=ts.length->szB ts->n<=1000000->(∀ b,F b->b<w.heap.size)->MapZ w bl kl L->MapZ w bo ko O ->
 Calls Tryz.prog 35 #[.agg #[.map (some bl),.map (some bo)],.slice A n c] w (BlZ D d (nB L O ts) w)
theorem z63 {P:Program} {w:World} {ops:Array Oper} {rest:List Oper} {d:Option Tmp} {ty:TypeId} {x y:Operand} {pos:String} {af:Array Edge} {gd:Option (Nat × Bool)} {a:Act} {Q:Exit->Act->World->Prop}
  (h:z07 (wpList P ops Q ({ dst:=d,op:=.store 131 x y,type:=ty,pos:=pos,after:=af,guard:=gd } :: rest) a w)):wpList P ops Q ({ dst:=d,op:=.store 131 x y,type:=ty,pos:=pos,after:=af,guard:=gd } :: rest) a w:=h
end Go.Proofs.YtdflbhofmmlpgaaGreat
