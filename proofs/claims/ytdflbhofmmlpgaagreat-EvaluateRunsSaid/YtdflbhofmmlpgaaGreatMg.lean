/-
  Mg: Zp, Zu, Zv. Part of the proof. No condition.
-/
import Derived.Test.YtdflbhofmmlpgaaGreatMf
set_option maxRecDepth 100000
set_option maxHeartbeats 8000000
namespace Go.Proofs.YtdflbhofmmlpgaaGreat
open Go.RowKit
mutual
theorem z8G {P:Ex->Prop} (h:∀ k o a l nm xs,(∀ x∈xs,P x)->P (.mk k o a l nm xs)):∀ x,P x
 | .mk k o a l nm xs=>h k o a l nm xs (z8H h xs)
theorem z8H {P:Ex->Prop} (h:∀ k o a l nm xs,(∀ x∈xs,P x)->P (.mk k o a l nm xs)):∀ xs:List Ex,∀ x∈xs,P x
 | [],x,hx=>by simp at hx
 | y :: ys,x,hx=>by
  rcases q_d.1 hx with e | hx
  ·rw [e]; exact z8G h y
  ·exact z8H h ys x hx
end
mutual
theorem z9V {P:Sn->Prop} (h:∀ k n es ts us,(∀ x∈ts,P x)->(∀ x∈us,P x)->P (.mk k n es ts us)):∀ x,P x
 | .mk k n es ts us=>h k n es ts us (z6J h ts) (z6J h us)
theorem z6J {P:Sn->Prop} (h:∀ k n es ts us,(∀ x∈ts,P x)->(∀ x∈us,P x)->P (.mk k n es ts us)):∀ xs:List Sn,∀ x∈xs,P x
 | [],x,hx=>by simp at hx
 | y :: ys,x,hx=>by
  rcases q_d.1 hx with e | hx
  ·rw [e]; exact z9V h y
  ·exact z6J h ys x hx
end
def MoPz (ls:Int) (s t:Sx):Prop:=s.out <+: t.out/\s.st<=t.st/\(s.st<=ls->t.st<=ls)
theorem MoPz.refl {ls:Int} {s:Sx}:MoPz ls s s:=⟨List.prefix_refl _,Int.le_refl _,id⟩
theorem MoPz.same {ls:Int} {s t:Sx} (h1:s.out=t.out) (h2:s.st=t.st):MoPz ls s t:=⟨by rw [h1]; exact List.prefix_refl _,by omega,fun h=>by omega⟩
theorem MoPz.trans {ls:Int} {s t u:Sx} (h:MoPz ls s t) (k:MoPz ls t u):MoPz ls s u:=⟨h.1.trans k.1,Int.le_trans h.2.1 k.2.1,fun e=>k.2.2 (h.2.2 e)⟩
theorem MoPz.tick {ls:Int} {s:Sx} (h:¬ ls<=s.st):MoPz ls s (tick s):=⟨List.prefix_refl _,by show s.st<=s.st+1; omega,fun _=>by show s.st+1<=ls; omega⟩
def MoF (ls:Int) (f:Sx->Rz):Prop:=∀ s,MoPz ls s (f s).2
def MoC (ls:Int) (C:Cz):Prop:=∀ a l,MoF ls (C a l)
theorem z3S {ls:Int} {s:Sx} {r:Rz} {g:Int->Sx->Rz} (h:MoPz ls s r.2) (hg:∀ v,MoF ls (g v)):MoPz ls s (z0W r g).2:=by
 unfold z0W;split
 ·exact h.trans (hg _ _)
 ·exact h
theorem z6U {ls:Int} {s:Sx} {q:Lz} {g:List Int->Sx->Rz} (h:MoPz ls s q.2.2) (hg:∀ v,MoF ls (g v)):MoPz ls s (z0V q g).2:=by
 unfold z0V;split
 ·exact h.trans (hg _ _)
 ·exact h
theorem zbF {ls:Int} {s:Sx} {r:Rz} {f:Sx->Lz} (h:MoPz ls s r.2) (hf:∀ t,MoPz ls t (f t).2.2):MoPz ls s (zcons r f).2.2:=by
 unfold zcons;split
 ·split
  ·exact h.trans (hf _)
  ·exact h.trans (hf _)
 ·exact h
theorem zeG {ls:Int} (l:List Int) (v:Int):MoF ls (zel l v):=fun s=>by
 unfold zel;split <;> exact MoPz.refl
theorem zf3 {ls:Int} (k o a v:Int):MoF ls (z1 k o a v):=fun s=>by
 unfold z1;split
 ·exact zeG _ _ _
 ·exact MoPz.refl
theorem zf5 {ls:Int} {f:Sx->Rz} (hf:MoF ls f) (k o v:Int):MoF ls (z2 k o f v):=fun s=>by
 unfold z2;split
 ·exact MoPz.refl
 ·split
  ·exact MoPz.refl
  ·exact z3S (hf s) fun _ _=>MoPz.refl
theorem zbI {ls:Int} {pn:List Nat} {C:Cz} (hC:MoC ls C) (l:List Int):MoF ls (z18 pn C l):=fun s=>by
 unfold z18;split
 ·exact MoPz.refl
 ·split
  ·exact hC _ _ _
  ·exact MoPz.refl
theorem zbC {ls:Int} {pn:List Nat} {C:Cz}:∀ (xs:List Ex),(∀ x∈xs,MoF ls (zX ls pn C x))->∀ s,MoPz ls s (zL ls pn C xs s).2.2
 | [],_,s=>MoPz.refl
 | x :: xs,h,s=>zbF (h x (by simp) s) (zbC xs fun y hy=>h y (by simp [hy]))
theorem z68 {ls:Int} {pn:List Nat} {C:Cz} (hC:MoC ls C):∀ x,MoF ls (zX ls pn C x):=by
 refine z8G fun k o a l nm xs ih s=>?_
 rw [z8b];split
 ·exact MoPz.refl
 ·rename_i h;have ht:=MoPz.tick h;split
  ·exact ht
  ·split
   ·exact ht
   ·split
    ·exact ht
    ·split
     ·exact ht.trans (MoPz.same rfl rfl)
     ·split
      ·exact z6U (ht.trans (zbC xs ih _)) (hC a)
      ·split
       ·exact z6U (ht.trans (zbC xs ih _)) (zbI hC)
       ·unfold zO;split
        ·exact z3S (ht.trans (ih _ (by simp) _)) (zf3 k o a)
        ·exact z3S (ht.trans (ih _ (by simp) _)) (zf5 (ih _ (by simp)) k o)
        ·exact ht
theorem zeD {ls:Int} {b c:Sx->Rz} (hb:MoF ls b) (hc:MoF ls c):∀ (n:Nat) (v:Int),MoF ls (zW ls b c n v)
 | 0,_,s=>MoPz.refl
 | n+1,v,s=>by
  unfold zW;split
  ·exact MoPz.refl
  ·split
   ·split
    ·exact hb s
    ·rename_i h;have h1:=((hb s).trans (MoPz.tick h)).trans (hc _);split
     ·exact h1.trans (zeD hb hc n _ _)
     ·exact h1
   ·exact hb s
theorem zev {ls:Int} (v:Int):MoF ls (zPr v):=fun s=>by
 unfold zPr;split
 ·exact MoPz.refl
 ·exact ⟨List.prefix_append _ _,Int.le_refl _,id⟩
theorem zeB {ls:Int} (n v x:Int):MoF ls (zSt n v x):=fun s=>by
 unfold zSt;split
 ·exact MoPz.same rfl rfl
 ·exact MoPz.refl
theorem zez {ls:Int} {sec th el:Sx->Rz} {lp:Int->Sx->Rz} (h1:MoF ls sec) (h2:MoF ls th) (h3:MoF ls el) (h4:∀ v,MoF ls (lp v)) (k n v:Int):MoF ls (zSr k n sec th el lp v):=fun s=>by
 unfold zSr;split
 ·exact MoPz.same rfl rfl
 ·split
  ·exact MoPz.same rfl rfl
  ·split
   ·exact z3S (h1 s) (zeB n v)
   ·split
    ·split
     ·exact h2 s
     ·exact h3 s
    ·split
     ·exact h4 v s
     ·split
      ·exact MoPz.refl
      ·split
       ·exact zev v s
       ·exact MoPz.refl
theorem zdv {ls:Int} {f:Ex->Sx->Rz} (hf:∀ x,MoF ls (f x)):∀ r,MoF ls (zsec f r)
 | []=>fun _=>MoPz.refl
 | y :: _=>hf y
theorem z8a {ls:Int} {pn:List Nat} {C:Cz}:∀ (ts:List Sn),(∀ t∈ts,MoF ls (zS ls pn C t))->MoF ls (zB ls pn C ts)
 | [],_,s=>MoPz.refl
 | t :: ts,h,s=>by
  unfold zB;split
  ·exact (h t (by simp) s).trans (z8a ts (fun y hy=>h y (by simp [hy])) _)
  ·exact h t (by simp) s
theorem zdu {ls:Int} {pn:List Nat} {C:Cz} (hC:MoC ls C):∀ t,MoF ls (zS ls pn C t):=by
 refine z9V fun k n es ts us h1 h2 s=>?_
 have hts:=z8a ts h1;have hus:=z8a us h2;unfold zS;split
 ·exact MoPz.refl
 ·rename_i h;have ht:=MoPz.tick h;split
  ·exact ht
  ·refine z3S (ht.trans (z68 hC _ _)) fun v=>zez (zdv (z68 hC) _) hts hus (fun v s=>zeD hts (z68 hC _) _ _ _) k n v
theorem zds {ls:Int} {fs:List Fz}:∀ n,MoC ls (zC ls fs n)
 | 0=>fun _ _ _=>MoPz.refl
 | n+1=>fun f args s=>by
  unfold zC;split
  ·exact MoPz.refl
  ·rename_i F hF;exact ((MoPz.same rfl rfl:MoPz ls s { s with lv:=args.take F.locals++List.replicate (F.locals - args.length) 0 }).trans (z8a F.body (fun t _=>zdu (pn:=fs.map (·.params)) (zds n) t) { s with lv:=args.take F.locals++List.replicate (F.locals - args.length) 0 })).trans (MoPz.same rfl rfl)
section
variable {l1 l2:Int} {pn:List Nat} {C D:Cz}
end
section
variable {I:Int->List Int->List Int->Prop} {ls:Int} {pn:List Nat} {C:Cz}
variable (hI1:∀ st a b,I st a b->I (st+1) a b) (hI2:∀ st a b,st<ls->I st a b->a.headD 0=b.headD 0/\I (st+1) a.tail b.tail)
include hI1 in
end
section
variable (p:Nat) (K:RK) (D d:Nat) (fs:List Fz) (nd:Nat) (C:Cz)
def z5u (dt:Nat):Prop:=∀ (lb nl:Nat) (dp:Int) (s:Sx) (ts:List Sn) (A:Option Addr) (n c:Nat) (w:World),RunS p K lb nl dp s w->DpZ K dp nd->PrgZ p K D d fs w->RowG 5 (MSn D dt) (fun b=>b<p) w ts A c->ts.length=n->n<=1000000->wzB nl K.gs fs.length ts ->
 Calls Tryz.prog 36 #[.pointer (some ⟨p,0,none⟩),.slice A n c] w (ZG p K lb nl dp (zB K.ls (pnZ fs) C ts s) w)
def zdE (dt:Nat):Prop:=∀ (lb nl:Nat) (dp:Int) (s:Sx) (g q:Nat) (t:Sn) (w:World),RunS p K lb nl dp s w->DpZ K dp nd->PrgZ p K D d fs w->PtrT p w D dt g q t->g<p->wzS nl K.gs fs.length t ->
 Calls Tryz.prog 53 #[.pointer (some ⟨p,0,none⟩),.pointer (some ⟨g,q,none⟩)] w (ZG p K lb nl dp (zS K.ls (pnZ fs) C t s) w)
end
def stOf (p:Nat) (w:World):Int:=intOf ((w.cell? ⟨p,4,none⟩).getD (.int .i64 0))
theorem RunS.stOf {p:Nat} {K:RK} {lb nl:Nat} {dp:Int} {s:Sx} {w:World} (h:RunS p K lb nl dp s w):Go.Proofs.YtdflbhofmmlpgaaGreat.stOf p w=s.st:=by
 obtain ⟨iv,ov,lv,h⟩:=h;have c4:w.cell? ⟨p,4,none⟩=some (.int .i64 s.st):=zcr 4 h.r;unfold Go.Proofs.YtdflbhofmmlpgaaGreat.stOf;rw [c4];rfl
section
variable {p:Nat} {K:RK} {D d:Nat} {fs:List Fz} {nd:Nat} {C:Cz}
theorem z8v {dt:Nat} (hS:∀ d',dt=d'+1->zdE p K D d fs nd C d'):z5u p K D d fs nd C dt:=by
 intro lb nl dp s ts A n c w h hd hP he hn hn2 hw;have hF:=zhi (FwZ.new h);have hnc:n<=c:=by rw [<- hn]; exact he.1
 have HS:=zhi hS;have HD:=zhi hd;have HP:=zhi hP;have HR:=zhi (fun (w':World) (hb:Below p w w')=>z0j (G:=fun b=>b<p) (z0P D dt) (fun _ h=>h) (fun b hb'=>hb.block b hb') he);have HW:=zhi hw;have Hn:=zhi hn;obtain ⟨Y,hY⟩:∃ Y,Y=zB K.ls (pnZ fs) C ts s:=⟨_,rfl⟩;rw [<- hY];have HY:=zhi hY;obtain ⟨W,hW⟩:∃ W,W=w.alloc (.cells #[.int .i64 0,.int .i64 0] 61):=⟨_,rfl⟩;rw [<- hW] at hF;clear hS hd hP he hn hw h hY;go_enter Tryz.func36,Tryz.ntmps36;go_upto_region 1 with fail;rw [<- hW];clear hW;go_wp2_with fail
 go_loopw [11] (fun v wr=>∃ (pre rest:List Sn) (s':Sx) (j:Nat),v=.int .i64 (j:Int)/\Hid (ts=pre++rest/\j=pre.length)/\Hid (Y=zB K.ls (pnZ fs) C rest s')/\Hid (FwZ p K lb nl dp w w.heap.size s' wr)) (fun v _=>n - (intOf v).toNat)
 case atStart=>exact ⟨[],ts,s,0,rfl,zhi ⟨rfl,rfl⟩,HY,hF⟩
 case round =>
  obtain ⟨pre,rest,s',j,rfl,HXS,HYr,HFr⟩:=hrel;cases rest with
  | nil =>
   have hjn:n<=j:=by rw [<- Hn.out,HXS.out.1,HXS.out.2]; simp
   have HY2:Hid (Y=((0,0,0),s')):=zhi (by rw [HYr.out]; rfl);clear HYr HS HP HR HW;go_wp2_with (with_reducible refine z0d ?_);refine z07.of (z00 _ rfl _ _ _ rfl w.heap.size _ rfl (by rfl) _ _ HFr.out.z (by kernel_rfl) (by rfl) (by simp [Value.oneCell']) ?_);intro w9 hrow9 hg9;obtain ⟨j0,j1⟩:=cl2 hrow9;have hfin:=HFr.out.fin hg9;have HH:Hid (ZG p K lb nl dp Y w (.returned (.tuple #[.int .i64 0,.agg #[.int .i64 0,.int .i64 0]])) w9):=zhi (by rw [HY2.out]; exact ⟨rfl,hfin⟩);clear hrow9 hg9 hfin;go_wp2_with fail;exact q_3 (by simp [results,Tryz.results36,go_sem,j0,j1]) rfl HH.out
  | cons t rest =>
   have hlt:j<n:=by rw [<- Hn.out,HXS.out.1,HXS.out.2]; simp
   have htj:ts[j]?=some t:=by rw [HXS.out.1,HXS.out.2]; simp
   have hrw:=HR.out wr HFr.out.fr.lo;cases dt with
   | zero =>
    rw [z9L hrw] at htj;simp at htj
   | succ dt =>
    obtain ⟨g,rfl,hg,hptr⟩:=zb8 hrw htj;have HCx:=zhi (HS.out dt rfl lb nl dp s' g (j * 5) t wr HFr.out.rs HD.out (HP.out.low HFr.out.fr.lo) hptr hg (zai HW.out htj));have hYc:=HYr.out;have ezl:zB K.ls (pnZ fs) C (t :: rest) s'=if (zS K.ls (pnZ fs) C t s').1.2.1=0 then zB K.ls (pnZ fs) C rest (zS K.ls (pnZ fs) C t s').2 else zS K.ls (pnZ fs) C t s':=by rw [zB]
    rw [ezl] at hYc;generalize zS K.ls (pnZ fs) C t s'=y1 at HCx hYc;obtain ⟨⟨v1,k1,t1⟩,s1⟩:=y1;have HYc:=zhi hYc;clear hYc ezl hptr hg hrw HYr htj;go_wp2_with fail;refine HCx.out.mono ?_;rintro e w2 ⟨rfl,hrs2,hfr2⟩;dsimp only at hrs2 HYc ⊢;have HF3:=zhi (HFr.out.call hrs2 hfr2);have hz2:=HF3.out.z;have hs2:=HF3.out.lt;have z0:=zcr 0 hz2;have z1':=zcr 1 hz2;have f0:=z09 hz2 0;have f1:=z09 hz2 1;have hE3:=q_4 w2 (.cells #[.int .i64 k1,.int .i64 t1] 61);obtain ⟨e0,e1⟩:=cl2 hE3;clear hrs2 hfr2 hz2 hE3 HCx HFr HS HP HR HW
    by_cases h0:k1=0
    ·subst h0;have HY2:Hid (Y=zB K.ls (pnZ fs) C rest s1):=zhi (by rw [HYc.out]; exact if_pos rfl);have HF4:=zhi (HF3.out.alloc (.cells #[.int .i64 0,.int .i64 t1] 61));have HXS2:Hid (ts=(pre++[t])++rest/\j+1=(pre++[t]).length):=zhi ⟨by rw [HXS.out.1]; simp,by rw [HXS.out.2]; simp⟩;clear HF3 HYc z0 z1' f0 f1;go_wp2_with fail;exact ⟨⟨pre++[t],rest,s1,j+1,by go_num,HXS2,HY2,HF4⟩,by simp [intOf]; omega⟩
    ·have HY2:Hid (Y=((v1,k1,t1),s1)):=zhi (by rw [HYc.out]; exact if_neg h0);have h0':(k1 != 0)=true:=by simp [h0]
     have HT:=zhi (HF3.out.twoE (.int .i64 k1) (.int .i64 t1) (.cells #[.int .i64 k1,.int .i64 t1] 61));clear h0 HF3 HYc;go_wp2_with fail;go_region;go_wp2_with fail;obtain ⟨j0,j1,hr9,hg9⟩:=HT.out;have HH:Hid (ZG p K lb nl dp Y w (.returned (.tuple #[.int .i64 v1,.agg #[.int .i64 k1,.int .i64 t1]])) _):=zhi (by rw [HY2.out]; exact ⟨rfl,hr9,hg9⟩);clear hr9 hg9;exact q_3 (by simp [results,Tryz.results36,go_sem,j0,j1]) rfl HH.out
theorem ze2 (hM:MoC K.ls C) {dt:Nat} (hB:z5u p K D d fs nd C dt) (hC:z4L p K D d fs nd C) {lb nl:Nat} {dp:Int} {s:Sx} {g q:Nat} {k n v:Int} {x:Ex} {es:List Ex} {ts us:List Sn} {w:World} (m:Nat) (h:RunS p K lb nl dp s w) (hd:DpZ K dp nd) (hP:PrgZ p K D d fs w) (hx:PtrT p w D dt g q (.mk k n (x :: es) ts us)) (hg:g<p)
  (hw:wzX nl K.gs fs.length x) (hwt:wzB nl K.gs fs.length ts) (htl:ts.length<=1000000) (hm:K.ls<s.st+m) (hst:s.st<=K.ls) :
  Calls Tryz.prog 77 #[.pointer (some ⟨p,0,none⟩),.pointer (some ⟨g,q,none⟩),.int .i64 v] w (ZG p K lb nl dp (zW K.ls (zB K.ls (pnZ fs) C ts) (zX K.ls (pnZ fs) C x) m v s) w):=by
 have hF:=zhi (FwZ.new h);have hpw:=hF.out.p;have HX:=zhi (fun (w':World) (hb:Below p w w')=>hx.low hg hb);obtain ⟨dx,rfl⟩:∃ dx,D=dx+1:=by
  cases D with
  | zero =>
   obtain ⟨_,_,_,_,_,_,_,_,_,_,_,he,_,_⟩:=hx;have:=z1S he;simp at this
  | succ dx=>exact ⟨dx,rfl⟩
 have HB:=zhi hB;have HC:=zhi (z2X hC dx);have HD:=zhi hd;have HP:=zhi hP;have HW:=zhi hw;have HWt:=zhi hwt;have Htl:=zhi htl;obtain ⟨Y,hY⟩:∃ Y,Y=zW K.ls (zB K.ls (pnZ fs) C ts) (zX K.ls (pnZ fs) C x) m v s:=⟨_,rfl⟩;rw [<- hY];have HY:=zhi hY;have Hm:=zhi hm;have Hst:=zhi hst;obtain ⟨W,hW⟩:∃ W,W=w.alloc (.cells #[.int .i64 0,.int .i64 0] 61):=⟨_,rfl⟩;rw [<- hW] at hF;clear hB hC hd hP hx hw hwt htl h hY hm hst;go_enter Tryz.func77,Tryz.ntmps77;go_upto_region 1 with fail;rw [<- hW];clear hW;go_wp2_with fail
 go_loopw [2] (fun u wr=>∃ (v':Int) (m':Nat) (s':Sx),u=.int .i64 v'/\Hid (Y=zW K.ls (zB K.ls (pnZ fs) C ts) (zX K.ls (pnZ fs) C x) m' v' s')/\Hid (FwZ p K lb nl dp w w.heap.size s' wr)/\Hid (K.ls<s'.st+m'/\s'.st<=K.ls)) (fun _ wr=>(K.ls+1 - stOf p wr).toNat)
 case atStart=>exact ⟨v,m,s,rfl,HY,hF,zhi ⟨Hm.out,Hst.out⟩⟩
 case round =>
  obtain ⟨v',m',s',rfl,HYr,HFr,HMs⟩:=hrel;have hsr:=HFr.out.rs.stOf;have Hsr:=zhi hsr;clear hsr HY Hm Hst hF
  by_cases hv:v'=0
  ·have i1:(v' != 0)=false:=by simp [hv]
   have HY2:Hid (Y=((0,0,0),s')):=zhi (by
    rw [HYr.out];cases m' with
    | zero=>have:=HMs.out; omega
    | succ m'=>rw [zW,if_pos hv])
   clear HYr HB HC HD HP HW HWt HX hv;go_wp2_with (with_reducible refine z0d ?_);refine z07.of (z00 _ rfl _ _ _ rfl w.heap.size _ rfl (by rfl) _ _ HFr.out.z (by kernel_rfl) (by rfl) (by simp [Value.oneCell']) ?_);intro w9 hrow9 hg9;obtain ⟨j0,j1⟩:=cl2 hrow9;have hfin:=HFr.out.fin hg9;have HH:Hid (ZG p K lb nl dp Y w (.returned (.tuple #[.int .i64 0,.agg #[.int .i64 0,.int .i64 0]])) w9):=zhi (by rw [HY2.out]; exact ⟨rfl,hfin⟩);clear hrow9 hg9 hfin;go_wp2_with fail;exact q_3 (by simp [results,Tryz.results77,go_sem,j0,j1]) rfl HH.out
  ·have i1:(v' != 0)=true:=by simp [hv]
   have hMs:=HMs.out;obtain ⟨m1,rfl⟩:∃ m1,m'=m1+1:=by
    cases m' with
    | zero=>omega
    | succ m1=>exact ⟨m1,rfl⟩
   obtain ⟨eA,ec,tA,tc,uA,uc,_,_,_,d3,_,_,hrt,_⟩:=HX.out wr HFr.out.fr.lo;have HCb:=zhi (HB.out lb nl dp s' ts tA ts.length tc wr HFr.out.rs HD.out (HP.out.low HFr.out.fr.lo) hrt rfl Htl.out HWt.out);have hYc:=HYr.out;rw [zW,if_neg hv] at hYc;have hbl:s'.st<=(zB K.ls (pnZ fs) C ts s').2.st\/True:=.inr trivial;obtain ⟨y1,hy1⟩:∃ y1,y1=zB K.ls (pnZ fs) C ts s':=⟨_,rfl⟩;rw [<- hy1] at HCb hYc;have Hy1:=zhi hy1;obtain ⟨⟨v1,k1,t1⟩,s1⟩:=y1;have HYc:=zhi hYc;clear hYc hy1 hrt HYr hv hbl;obtain ⟨tl,htl⟩:∃ tl,tl=ts.length:=⟨_,rfl⟩;rw [<- htl] at d3 HCb;clear htl;go_wp2_with fail;refine HCb.out.mono ?_;rintro e w2 ⟨rfl,hrs2,hfr2⟩;dsimp only at hrs2 HYc ⊢;have HF2:=zhi (HFr.out.call hrs2 hfr2);have hz2:=HF2.out.z;have hs2:=HF2.out.lt;have z0:=zcr 0 hz2;have z1':=zcr 1 hz2;have f0:=z09 hz2 0;have f1:=z09 hz2 1;have hE3:=q_4 w2 (.cells #[.int .i64 k1,.int .i64 t1] 61);obtain ⟨e0,e1⟩:=cl2 hE3;clear hrs2 hfr2 hz2 HCb HFr d3 hMs
   by_cases h0:k1=0
   ·subst h0;have HYd:=zhi (HYc.out.trans (if_pos rfl));have HF3:=zhi (HF2.out.alloc (.cells #[.int .i64 0,.int .i64 t1] 61));have HEr:=zhi hE3;have HEf:Hid (z2n p K lb (w2.alloc (.cells #[.int .i64 0,.int .i64 t1] 61)) w2.heap.size):=zhi (z1e (HF2.out.rs.free (q_2 _)) ((q_i _ _).alloc (q_2 _) _) HF2.out.wp);have HSt:=zhi (za3 HF3.out.rs);clear hE3 HYc z0 z1' f0 f1 HF2;go_wp2_with fail;refine HSt.out.mono ?_;rintro e w4 ⟨rfl,hrs4,hfr4⟩;have HF4:=zhi (HF3.out.call hrs4 hfr4);have HEr4:=zhi (hfr4.at_ HEf.out HEr.out);have HEf4:=zhi (hfr4.free (q_0.1 HEr.out).1 HEf.out);clear hrs4 hfr4 HSt HF3 HEr HEf e0 e1
    by_cases hst:K.ls<=s1.st
    ·have eqs:z2y K.ls s1=((0,3,0),s1):=if_pos hst;rw [eqs] at HF4 ⊢;have HY2:Hid (Y=((v1,3,0),s1)):=zhi (by rw [HYd.out]; exact if_pos hst);go_wp2_with (with_reducible refine z0d ?_);refine z07.of (z00 _ rfl _ _ _ rfl w2.heap.size _ rfl (by rfl) _ _ HEr4.out (by kernel_rfl) (by rfl) (by simp [Value.oneCell']) ?_);intro w5 hrow5 hg5;have HF5:=zhi (HF4.out.put hg5 HEf4.out (by omega) (by omega));obtain ⟨x0,x1⟩:=cl2 hrow5;have HT:=zhi (HF5.out.twoD (.int .i64 3) (.int .i64 0));have hz5:=HF5.out.z;have z0:=zcr 0 hz5;have z1':=zcr 1 hz5;have f0:=z09 hz5 0;have f1:=z09 hz5 1;clear hrow5 hg5 HF4 HEr4 HEf4 HYd eqs hz5 HF5 HB HC HD HP HW HWt HX hst Hy1;dsimp only [Act.put];go_wp2_with fail;go_region;go_wp2_with fail;obtain ⟨j0,j1,hr9,hg9⟩:=HT.out;have HH:Hid (ZG p K lb nl dp Y w (.returned (.tuple #[.int .i64 v1,.agg #[.int .i64 3,.int .i64 0]])) _):=zhi (by rw [HY2.out]; exact ⟨rfl,hr9,hg9⟩);clear hr9 hg9;exact q_3 (by simp [results,Tryz.results77,go_sem,j0,j1]) rfl HH.out
    ·have eqs:z2y K.ls s1=((0,0,0),tick s1):=if_neg hst;rw [eqs] at HF4 ⊢;have HYe:=zhi (HYd.out.trans (if_neg hst));go_wp2_with (with_reducible refine z0d ?_);refine z07.of (z00 _ rfl _ _ _ rfl w2.heap.size _ rfl (by rfl) _ _ HEr4.out (by kernel_rfl) (by rfl) (by simp [Value.oneCell']) ?_);intro w5 hrow5 hg5;have HF5:=zhi (HF4.out.put hg5 HEf4.out (by omega) (by omega));have HEf5:=zhi (z3F HEf4.out hg5 HF4.out.wp HEf4.out.1);have HEr5:=zhi hrow5;obtain ⟨x0,x1⟩:=cl2 hrow5;obtain ⟨eA,ec,tA,tc,uA,uc,_,_,d2,_,_,he,_,_⟩:=HX.out w5 HF5.out.fr.lo;obtain ⟨kx,ox,ax,lx,nx,ys⟩:=x;obtain ⟨g',off,rfl,hg',hp'⟩:=z20 (i:=0) he rfl;rw [Nat.zero_mul,Nat.add_zero] at hp';have HCx:=zhi (HC.out lb nl dp (tick s1) g' off kx ox ax lx nx ys w5 HF5.out.rs HD.out (HP.out.low HF5.out.fr.lo) hp' hg' HW.out);obtain ⟨y2,hy2⟩:∃ y2,y2=zX K.ls (pnZ fs) C (.mk kx ox ax lx nx ys) (tick s1):=⟨_,rfl⟩;rw [<- hy2] at HCx HYe;obtain ⟨⟨v2,k2,t2⟩,s2⟩:=y2;have hpos:(0:Int)<((Ex.mk kx ox ax lx nx ys :: es).length:Int):=by simp
     obtain ⟨el,hel⟩:∃ el,el=(Ex.mk kx ox ax lx nx ys :: es).length:=⟨_,rfl⟩;rw [<- hel] at d2 hpos;have Hy2:=zhi hy2;have Hst:=zhi hst;clear hrow5 hg5 HF4 HEr4 HEf4 HYd eqs he hp' hg' hy2 hel hst;dsimp only [Act.put];go_wp2_with fail;refine HCx.out.mono ?_;rintro e w6 ⟨rfl,hrs6,hfr6⟩;dsimp only at hrs6 HYe ⊢;have HF6:=zhi (HF5.out.call hrs6 hfr6);have HEr6:=zhi (hfr6.at_ HEf5.out HEr5.out);have HEf6:=zhi (hfr6.free (q_0.1 HEr5.out).1 HEf5.out);clear hrs6 hfr6 HCx HF5 HEr5 HEf5 x0 x1 d2;go_wp2_with (with_reducible refine z0d ?_);refine z07.of (z00 _ rfl _ _ _ rfl w2.heap.size _ rfl (by rfl) _ _ HEr6.out (by kernel_rfl) (by rfl) (by simp [Value.oneCell']) ?_);intro w7 hrow7 hg7;have HF7:=zhi (HF6.out.put hg7 HEf6.out (by omega) (by omega));obtain ⟨x0,x1⟩:=cl2 hrow7;clear hrow7 hg7 HF6 HEr6 HEf6;dsimp only [Act.put]
     by_cases h2:k2=0
     ·subst h2;have HY2:=zhi (HYe.out.trans (if_pos rfl));have hb:=HF7.out.rs.bound;have hs7:=HF7.out.rs.stOf;have hMs:=HMs.out;have hmo1:s'.st<=s1.st:=by
       have h:=(z8a (ls:=K.ls) (pn:=pnZ fs) (C:=C) ts (fun t _=>zdu hM t) s').2.1;rw [<- Hy1.out] at h;exact h
      have hmo2:s1.st+1<=s2.st:=by
       have h:=(z68 (ls:=K.ls) (pn:=pnZ fs) (C:=C) hM (.mk kx ox ax lx nx ys) (tick s1)).2.1;rw [<- Hy2.out] at h;exact h
      have hle:=Hst.out;have hmo3:s2.st<=K.ls:=by
       have h:=(z68 (ls:=K.ls) (pn:=pnZ fs) (C:=C) hM (.mk kx ox ax lx nx ys) (tick s1)).2.2;rw [<- Hy2.out] at h;exact h (by show s1.st+1<=K.ls; omega)
      have hmeas:(K.ls+1 - stOf p w7).toNat<(K.ls+1 - stOf p wr).toNat:=by rw [hs7,Hsr.out]; omega
      have HMs2:Hid (K.ls<s2.st+m1/\s2.st<=K.ls):=zhi ⟨by omega,hmo3⟩;have HM:=zhi hmeas;clear hb hs7 hMs hmo1 hmo2 hmo3 hle hmeas HYe;go_wp2_with fail;exact ⟨⟨v2,m1,s2,rfl,HY2,HF7,HMs2⟩,HM.out⟩
     ·have HY2:Hid (Y=((v1,k2,t2),s2)):=zhi (by rw [HYe.out]; exact if_neg h2);have h2':(k2 != 0)=true:=by simp [h2]
      have HT:=zhi (HF7.out.twoD (.int .i64 k2) (.int .i64 t2));have hz5:=HF7.out.z;have z0:=zcr 0 hz5;have z1':=zcr 1 hz5;have f0:=z09 hz5 0;have f1:=z09 hz5 1;clear HYe h2 hz5 HF7;go_wp2_with fail;go_region;go_wp2_with fail;obtain ⟨j0,j1,hr9,hg9⟩:=HT.out;have HH:Hid (ZG p K lb nl dp Y w (.returned (.tuple #[.int .i64 v1,.agg #[.int .i64 k2,.int .i64 t2]])) _):=zhi (by rw [HY2.out]; exact ⟨rfl,hr9,hg9⟩);clear hr9 hg9;exact q_3 (by simp [results,Tryz.results77,go_sem,j0,j1]) rfl HH.out
   ·have HY2:Hid (Y=((v1,k1,t1),s1)):=zhi (by rw [HYc.out]; exact if_neg h0);have h0':(k1 != 0)=true:=by simp [h0]
    have h0'':(k1 == 0)=false:=by simp [h0]
    have HT:=zhi (HF2.out.twoE (.int .i64 k1) (.int .i64 t1) (.cells #[.int .i64 k1,.int .i64 t1] 61));clear h0 HF2 HYc hE3;go_wp2_with fail;go_region;go_wp2_with fail;obtain ⟨j0,j1,hr9,hg9⟩:=HT.out;have HH:Hid (ZG p K lb nl dp Y w (.returned (.tuple #[.int .i64 v1,.agg #[.int .i64 k1,.int .i64 t1]])) _):=zhi (by rw [HY2.out]; exact ⟨rfl,hr9,hg9⟩);clear hr9 hg9;exact q_3 (by simp [results,Tryz.results77,go_sem,j0,j1]) rfl HH.out
end
section
variable {p:Nat} {K:RK} {D d:Nat} {fs:List Fz} {nd:Nat} {C:Cz}
theorem zek (hM:MoC K.ls C) {dt:Nat} (hB:z5u p K D d fs nd C dt) (hC:z4L p K D d fs nd C):zdE p K D d fs nd C dt:=by
 intro lb nl dp s g q t w h hd hP hx hg hw;obtain ⟨k,n,es,ts,us⟩:=t;obtain ⟨⟨hl,hk1,hk2,hk3,htl,hul⟩,hwe,hwt,hwu⟩:=hw;cases es with
 | nil=>simp at hl
 | cons x es =>
 have hwx:=hwe.1;have hF:=zhi (FwZ.new h);have HS:=zhi (za3 (h.below ((q_i _ w).alloc (q_2 _) (.cells #[.int .i64 0,.int .i64 0] 61))));have HX:=zhi (fun (w':World) (hb:Below p w w')=>hx.low hg hb);obtain ⟨dx,rfl⟩:∃ dx,D=dx+1:=by
  cases D with
  | zero =>
   obtain ⟨_,_,_,_,_,_,_,_,_,_,_,he,_,_⟩:=hx;have:=z1S he;simp at this
  | succ dx=>exact ⟨dx,rfl⟩
 have HP:=zhi hP;have HB:=zhi hB;have HC:=zhi hC;have HE:=zhi (z2X hC dx);have HD:=zhi hd;have HM:=zhi hM;have HWt:=zhi hwt;have HWu:=zhi hwu;have HWe:=zhi hwe;have Htl:=zhi htl;have Hul:=zhi hul;have Hk1:=zhi hk1;have Hk2:=zhi hk2;have Hk3:=zhi hk3;obtain ⟨Y,hY⟩:∃ Y,Y=zS K.ls (pnZ fs) C (.mk k n (x :: es) ts us) s:=⟨_,rfl⟩;rw [<- hY];rw [zS] at hY;have HY:=zhi hY;obtain ⟨W,hW⟩:∃ W,W=w.alloc (.cells #[.int .i64 0,.int .i64 0] 61):=⟨_,rfl⟩;rw [<- hW] at hF HS;have hpw:=hF.out.p;clear hx hB hP hd hwe hwt hwu h hY hC hM htl hul hk1 hk2 hk3 hl;go_enter Tryz.func53,Tryz.ntmps53;go_upto_region 1 with fail;rw [<- hW];clear hW;go_wp2_with fail;refine HS.out.mono ?_;rintro e w2 ⟨rfl,hrs2,hfr2⟩
 by_cases hst:K.ls<=s.st
 ·have eqs:z2y K.ls s=((0,3,0),s):=if_pos hst;rw [eqs] at hrs2 ⊢;have HYe:Hid (Y=((0,3,0),s)):=zhi (by rw [HY.out]; exact if_pos hst);have HF2:=zhi (hF.out.call hrs2 hfr2);have hz2:=HF2.out.z;have hs2:=HF2.out.lt;have z0:=zcr 0 hz2;have z1':=zcr 1 hz2;have f0:=z09 hz2 0;have f1:=z09 hz2 1;have hE3:=q_4 w2 (.cells #[.int .i64 3,.int .i64 0] 61);obtain ⟨e0,e1⟩:=cl2 hE3;have HT:=zhi (HF2.out.twoE (.int .i64 3) (.int .i64 0) (.cells #[.int .i64 3,.int .i64 0] 61));clear hrs2 hfr2 hz2 hE3 hF HS HY HX HP HB HC HE HD HM HWt HWu HWe Htl Hul Hk1 Hk2 Hk3 HF2 eqs hst hwx;dsimp only;go_wp2_with fail;go_region;go_wp2_with fail;obtain ⟨j0,j1,hr9,hg9⟩:=HT.out;have HH:Hid (ZG p K lb nl dp Y w (.returned (.tuple #[.int .i64 0,.agg #[.int .i64 3,.int .i64 0]])) _):=zhi (by rw [HYe.out]; exact ⟨rfl,hr9,hg9⟩);clear hr9 hg9;exact q_3 (by simp [results,Tryz.results53,go_sem,j0,j1]) rfl HH.out
 ·have eqs:z2y K.ls s=((0,0,0),tick s):=if_neg hst;rw [eqs] at hrs2 ⊢;have HYs:=zhi (HY.out.trans (if_neg hst));have HF2:=zhi (hF.out.call hrs2 hfr2);have HF3:=zhi (HF2.out.alloc (.cells #[.int .i64 0,.int .i64 0] 61));have hE3:=q_4 w2 (.cells #[.int .i64 0,.int .i64 0] 61);obtain ⟨e0,e1⟩:=cl2 hE3;have hx3:=HX.out _ HF3.out.fr.lo;obtain ⟨eA,ec,tA,tc,uA,uc,d0,_,d2,_,_,he,_,_⟩:=hx3;obtain ⟨kx,ox,ax,lx,nx,ys⟩:=x;obtain ⟨g',off,rfl,hg',hp'⟩:=z20 (i:=0) he rfl;rw [Nat.zero_mul,Nat.add_zero] at hp';have HCx:=zhi (HE.out lb nl dp (tick s) g' off kx ox ax lx nx ys _ HF3.out.rs HD.out (HP.out.low HF3.out.fr.lo) hp' hg' hwx);obtain ⟨y1,hy1⟩:∃ y1,y1=zX K.ls (pnZ fs) C (.mk kx ox ax lx nx ys) (tick s):=⟨_,rfl⟩;have HYt:Hid (Y=z0W y1 (zSr k n (zsec (zX K.ls (pnZ fs) C) es) (zB K.ls (pnZ fs) C ts) (zB K.ls (pnZ fs) C us) (fun v s1=>zW K.ls (zB K.ls (pnZ fs) C ts) (zX K.ls (pnZ fs) C (.mk kx ox ax lx nx ys)) ((K.ls - s1.st).toNat+1) v s1))):=zhi (by rw [HYs.out,hy1]);have hmo:(tick s).st<=y1.2.st/\((tick s).st<=K.ls->y1.2.st<=K.ls):=by
   rw [hy1];exact (z68 (ls:=K.ls) (pn:=pnZ fs) (C:=C) HM.out (.mk kx ox ax lx nx ys) (tick s)).2
  have hts:(tick s).st=s.st+1:=rfl;have HSt:Hid (y1.2.st<=K.ls):=zhi (hmo.2 (by omega));rw [<- hy1] at HCx;obtain ⟨⟨v1,k1,t1⟩,s1⟩:=y1;dsimp only at HSt;have hpos:(0:Int)<((Ex.mk kx ox ax lx nx ys :: es).length:Int):=by simp
  obtain ⟨el,hel⟩:∃ el,el=(Ex.mk kx ox ax lx nx ys :: es).length:=⟨_,rfl⟩;rw [<- hel] at d2 hpos;have Hwx:=zhi hwx;clear hrs2 hfr2 hE3 hF HS HY eqs hst HYs he hp' hg' hy1 hmo hts hel hwx HF2;dsimp only;go_wp2_with fail;refine HCx.out.mono ?_;rintro e w4 ⟨rfl,hrs4,hfr4⟩;dsimp only at hrs4 ⊢;have HF4:=zhi (HF3.out.call hrs4 hfr4);have hz2:=HF4.out.z;have hs2:=HF4.out.lt;have z0:=zcr 0 hz2;have z1':=zcr 1 hz2;have f0:=z09 hz2 0;have f1:=z09 hz2 1;have hE3:=q_4 w4 (.cells #[.int .i64 k1,.int .i64 t1] 61);obtain ⟨e0,e1⟩:=cl2 hE3;clear hrs4 hfr4 hz2 hE3 HCx HF3 d2 d0
  by_cases h0:k1=0
  ·subst h0;have HYz:Hid (Y=zSr k n (zsec (zX K.ls (pnZ fs) C) es) (zB K.ls (pnZ fs) C ts) (zB K.ls (pnZ fs) C us) (fun v s1=>zW K.ls (zB K.ls (pnZ fs) C ts) (zX K.ls (pnZ fs) C (.mk kx ox ax lx nx ys)) ((K.ls - s1.st).toNat+1) v s1) v1 s1):=zhi (by rw [HYt.out]; rfl);have HF5:=zhi (HF4.out.alloc (.cells #[.int .i64 0,.int .i64 t1] 61));have hx5:=HX.out _ HF5.out.fr.lo;have HX5:=zhi hx5;obtain ⟨eA5,ec5,tA5,tc5,uA5,uc5,d0,d1,_,d3,d4,_,hrt,hru⟩:=hx5;clear HYt z0 z1' f0 f1
   by_cases hk1:k=1
   ·obtain ⟨hn0,hnl⟩:=Hk1.out hk1;subst hk1;have HYr:Hid (Y=((0,0,0),{ s1 with lv:=s1.lv.set n.toNat v1 })):=zhi (by rw [HYz.out]; rfl);obtain ⟨N,rfl⟩:∃ N:Nat,n=(N:Int):=⟨n.toNat,by omega⟩;rw [Int.toNat_natCast] at hnl HYr;obtain ⟨iv,ov,lv,hrm⟩:=HF4.out.rs;obtain ⟨hr6,hf6⟩:=hrm.setL (i:=N) (x:=v1) hnl;have hln:s1.lv.length=nl:=hrm.l.1;rcases hrm.l.2 with ⟨h1,_,_⟩ | ⟨h1,h2,h3,⟨c9,hc9⟩,h5⟩
    ·omega
    ·subst hc9;have c9':=zcr 9 hrm.r;obtain ⟨z0,hz0⟩:∃ z,s1.lv[N]?=some z:=⟨_,q_7 (by omega)⟩;have dl:=h5.at_ hz0;have df:=z09 h5 N;have hlbw:=h5.lt;have c9'':=hold ((q_i _ w4).alloc (q_2 _) (.cells #[.int .i64 0,.int .i64 t1] 61)) c9';have HF6:=zhi (((HF4.out.call ⟨_,_,_,hr6⟩ hf6).alloc (.cells #[.int .i64 0,.int .i64 t1] 61)).low (z0m (q_i _ _)));clear hr6 hf6 hrm hz0 h1 h2 h3 h5 hln HF4 HF5 HX5 hrt hru HX HP HB HC HE HD HM HWt HWu HWe Htl Hul Hk1 Hk2 Hk3 HYz HSt Hwx hn0 d3 d4;go_wp2_with fail;go_region;dsimp only [Exit.then,Exit.inBlock];go_wp2_with (with_reducible refine z0d ?_);refine z07.of (z00 _ rfl _ _ _ rfl w.heap.size _ rfl (by rfl) _ _ HF6.out.z (by kernel_rfl) (by rfl) (by simp [Value.oneCell']) ?_);intro w9 hrow9 hg9;obtain ⟨j0,j1⟩:=cl2 hrow9;have hfin:=HF6.out.fin hg9;have HH:Hid (ZG p K lb nl dp Y w (.returned (.tuple #[.int .i64 0,.agg #[.int .i64 0,.int .i64 0]])) w9):=zhi (by rw [HYr.out]; exact ⟨rfl,hfin⟩);clear hrow9 hg9 hfin;go_wp2_with fail;exact q_3 (by simp [results,Tryz.results53,go_sem,j0,j1]) rfl HH.out
   ·by_cases hk2:k=2
    ·obtain ⟨hn0,m,hm,hm0⟩:=Hk2.out hk2;subst hk2;have HYr:Hid (Y=((0,0,0),setG s1 n 0 v1)):=zhi (by rw [HYz.out]; rfl);obtain ⟨N,rfl⟩:∃ N:Nat,n=(N:Int):=⟨n.toNat,by omega⟩;rw [Int.toNat_natCast] at hm;obtain ⟨iv,ov,lv,hrm⟩:=HF4.out.rs;have hgn:=hrm.g.ln;rw [<- hgn,q_b,q_c] at hm;obtain ⟨l,hl,rfl⟩:=hm;obtain ⟨b,c8,hb,hc,hi⟩:=hrm.g.at_ N l hl;have hlI:=(List.getElem?_eq_some_iff.1 hl).1;obtain ⟨gc,hgv⟩:∃ c,K.gv=.slice (some ⟨K.gb,0,none⟩) s1.gl.length c:=by
      rcases hrm.g.sl with e | e
      ·rw [e] at hlI; simp at hlI
      ·exact e
     have c8':=zcr 8 hrm.r;rw [hgv] at c8';obtain ⟨hr6,hf6⟩:=hrm.setG (n:=N) (j:=0) (x:=v1) hl hb;have esg:({ s1 with gl:=s1.gl.set N (l.set 0 v1) }:Sx)=setG s1 (N:Int) 0 v1:=by
      unfold setG;rw [z8R hl];rfl
     rw [esg] at hr6;obtain ⟨z0,hz0⟩:∃ z,l[0]?=some z:=⟨_,q_7 hm0⟩;have dl:=hi.at_ hz0;have df:=z09 hi 0;have hbw:=hi.lt;have hcw:=q_k w4 _ hc;have hbl:=(q_i _ w4).alloc (q_2 _) (.cells #[.int .i64 0,.int .i64 t1] 61);have c8'':=hold hbl c8';obtain ⟨m,hm⟩:∃ m,m=l.length:=⟨_,rfl⟩;rw [<- hm] at hc hm0;have hc':=hold hbl hc;obtain ⟨gn,hgn2⟩:∃ gn,gn=s1.gl.length:=⟨_,rfl⟩;rw [<- hgn2] at c8' c8'' hlI;have HF6:=zhi (((HF4.out.call ⟨_,_,_,hr6⟩ hf6).alloc (.cells #[.int .i64 0,.int .i64 t1] 61)).low (z0m (q_i _ _)));clear hr6 hf6 hrm hz0 esg hgn hgv hb hl hi hm hgn2 hbl HF4 HF5 HX5 hrt hru HX HP HB HC HE HD HM HWt HWu HWe Htl Hul Hk1 Hk2 Hk3 HYz HSt Hwx hn0 d3 d4 hk1;go_wp2_with fail;go_region;dsimp only [Exit.then,Exit.inBlock];go_wp2_with (with_reducible refine z0d ?_);refine z07.of (z00 _ rfl _ _ _ rfl w.heap.size _ rfl (by rfl) _ _ HF6.out.z (by kernel_rfl) (by rfl) (by simp [Value.oneCell']) ?_);intro w9 hrow9 hg9;obtain ⟨j0,j1⟩:=cl2 hrow9;have hfin:=HF6.out.fin hg9;have HH:Hid (ZG p K lb nl dp Y w (.returned (.tuple #[.int .i64 0,.agg #[.int .i64 0,.int .i64 0]])) w9):=zhi (by rw [HYr.out]; exact ⟨rfl,hfin⟩);clear hrow9 hg9 hfin;go_wp2_with fail;exact q_3 (by simp [results,Tryz.results53,go_sem,j0,j1]) rfl HH.out
    ·by_cases hk3:k=3
     ·obtain ⟨hn0,hnl,hel⟩:=Hk3.out hk3;subst hk3;cases es with
      | nil=>simp at hel
      | cons y es =>
      have HYr:Hid (Y=z0W (zX K.ls (pnZ fs) C y s1) (zSt n v1)):=zhi (by rw [HYz.out]; rfl);have HCs:=zhi (zdh HC.out (v:=v1) HF5.out.rs HD.out (HP.out.low HF5.out.fr.lo) HX5.out hg hn0 hnl HWe.out.2.1);clear HF4 HX5 hrt hru HX HP HB HC HE HD HM HWt HWu HWe Htl Hul Hk1 Hk2 Hk3 HYz HSt Hwx d1 d3 d4 hk1 hk2;go_wp2_with fail;refine HCs.out.mono ?_;rintro e w6 ⟨rfl,hrs6,hfr6⟩;have HF6:=zhi (HF5.out.call hrs6 hfr6);have hy0:(z0W (zX K.ls (pnZ fs) C y s1) (zSt n v1)).1.1=0:=by
       unfold z0W;split
       ·unfold zSt;split <;> rfl
       ·rfl
      rw [<- HYr.out] at HF6 hy0 ⊢;have HY0:=zhi hy0;clear hrs6 hfr6 HF5 HCs hy0;go_wp2_with (with_reducible refine z0d ?_);refine z07.of (z00 _ rfl _ _ _ rfl w.heap.size _ rfl (by rfl) _ _ HF6.out.z (by kernel_rfl) (by rfl) (by simp [Value.oneCell']) ?_);intro w9 hrow9 hg9;obtain ⟨j0,j1⟩:=cl2 hrow9;have hfin:=HF6.out.fin hg9;have HH:Hid (ZG p K lb nl dp Y w (.returned (.tuple #[.int .i64 0,.agg #[.int .i64 Y.1.2.1,.int .i64 Y.1.2.2]])) w9):=zhi ⟨by rw [HY0.out],hfin⟩;clear hrow9 hg9 hfin;go_wp2_with fail;exact q_3 (by simp [results,Tryz.results53,go_sem,j0,j1]) rfl HH.out
     ·have j1:(k == 1)=false:=by simp [hk1]
      have j2:(k == 2)=false:=by simp [hk2]
      have j3:(k == 3)=false:=by simp [hk3]
      have HYz4:Hid (Y=if k=4 then (if v1≠0 then zB K.ls (pnZ fs) C ts s1 else zB K.ls (pnZ fs) C us s1) else if k=5 then zW K.ls (zB K.ls (pnZ fs) C ts) (zX K.ls (pnZ fs) C (.mk kx ox ax lx nx ys)) ((K.ls - s1.st).toNat+1) v1 s1 else if k=6 then ((v1,1,0),s1) else if k=7 then zPr v1 s1 else ((0,0,0),s1)):=zhi (by rw [HYz.out]; unfold zSr; rw [if_neg hk1,if_neg hk2,if_neg hk3]);clear HYz hk1 hk2 hk3 Hk1 Hk2 Hk3 HF4
      by_cases hk4:k=4
      ·subst hk4
       by_cases hv:v1=0
       ·have HYr:Hid (Y=zB K.ls (pnZ fs) C us s1):=zhi (by rw [HYz4.out]; simp [hv]);have i1:(v1 != 0)=false:=by simp [hv]
        have HCb:=zhi (HB.out lb nl dp s1 us uA5 us.length uc5 _ HF5.out.rs HD.out (HP.out.low HF5.out.fr.lo) hru rfl Hul.out HWu.out);clear HX5 hrt hru HX HP HB HC HE HD HM HWt HWu HWe Htl Hul HYz4 HSt Hwx d1 d3 hv j1 j2 j3;go_wp2_with fail;refine HCb.out.mono ?_;rintro e w6 ⟨rfl,hrs6,hfr6⟩;have HF6:=zhi (HF5.out.call hrs6 hfr6);rw [<- HYr.out] at HF6 ⊢;clear hrs6 hfr6 HF5 HCb;go_wp2_with (with_reducible refine z0d ?_);refine z07.of (z00 _ rfl _ _ _ rfl w.heap.size _ rfl (by rfl) _ _ HF6.out.z (by kernel_rfl) (by rfl) (by simp [Value.oneCell']) ?_);intro w9 hrow9 hg9;obtain ⟨j0,j1⟩:=cl2 hrow9;have hfin:=HF6.out.fin hg9;have HH:Hid (ZG p K lb nl dp Y w (.returned (.tuple #[.int .i64 Y.1.1,.agg #[.int .i64 Y.1.2.1,.int .i64 Y.1.2.2]])) w9):=zhi (⟨rfl,hfin⟩);clear hrow9 hg9 hfin;go_wp2_with fail;exact q_3 (by simp [results,Tryz.results53,go_sem,j0,j1]) rfl HH.out
       ·have HYr:Hid (Y=zB K.ls (pnZ fs) C ts s1):=zhi (by rw [HYz4.out]; simp [hv]);have i1:(v1 != 0)=true:=by simp [hv]
        have HCb:=zhi (HB.out lb nl dp s1 ts tA5 ts.length tc5 _ HF5.out.rs HD.out (HP.out.low HF5.out.fr.lo) hrt rfl Htl.out HWt.out);clear HX5 hrt hru HX HP HB HC HE HD HM HWt HWu HWe Htl Hul HYz4 HSt Hwx d1 d4 hv j1 j2 j3;go_wp2_with fail;refine HCb.out.mono ?_;rintro e w6 ⟨rfl,hrs6,hfr6⟩;have HF6:=zhi (HF5.out.call hrs6 hfr6);rw [<- HYr.out] at HF6 ⊢;clear hrs6 hfr6 HF5 HCb;go_wp2_with (with_reducible refine z0d ?_);refine z07.of (z00 _ rfl _ _ _ rfl w.heap.size _ rfl (by rfl) _ _ HF6.out.z (by kernel_rfl) (by rfl) (by simp [Value.oneCell']) ?_);intro w9 hrow9 hg9;obtain ⟨j0,j1⟩:=cl2 hrow9;have hfin:=HF6.out.fin hg9;have HH:Hid (ZG p K lb nl dp Y w (.returned (.tuple #[.int .i64 Y.1.1,.agg #[.int .i64 Y.1.2.1,.int .i64 Y.1.2.2]])) w9):=zhi (⟨rfl,hfin⟩);clear hrow9 hg9 hfin;go_wp2_with fail;exact q_3 (by simp [results,Tryz.results53,go_sem,j0,j1]) rfl HH.out
      ·by_cases hk5:k=5
       ·subst hk5;have HYr:Hid (Y=zW K.ls (zB K.ls (pnZ fs) C ts) (zX K.ls (pnZ fs) C (.mk kx ox ax lx nx ys)) ((K.ls - s1.st).toNat+1) v1 s1):=zhi (by rw [HYz4.out]; simp);have hle:=HSt.out;have HCb:=zhi (ze2 HM.out HB.out HC.out (v:=v1) ((K.ls - s1.st).toNat+1) HF5.out.rs HD.out (HP.out.low HF5.out.fr.lo) HX5.out hg Hwx.out HWt.out Htl.out (by omega) hle);clear HX5 hrt hru HX HP HB HC HE HD HM HWt HWu HWe Htl Hul HYz4 HSt Hwx d1 d3 d4 hk4 j1 j2 j3 hle;go_wp2_with fail;refine HCb.out.mono ?_;rintro e w6 ⟨rfl,hrs6,hfr6⟩;have HF6:=zhi (HF5.out.call hrs6 hfr6);rw [<- HYr.out] at HF6 ⊢;clear hrs6 hfr6 HF5 HCb;go_wp2_with (with_reducible refine z0d ?_);refine z07.of (z00 _ rfl _ _ _ rfl w.heap.size _ rfl (by rfl) _ _ HF6.out.z (by kernel_rfl) (by rfl) (by simp [Value.oneCell']) ?_);intro w9 hrow9 hg9;obtain ⟨j0,j1⟩:=cl2 hrow9;have hfin:=HF6.out.fin hg9;have HH:Hid (ZG p K lb nl dp Y w (.returned (.tuple #[.int .i64 Y.1.1,.agg #[.int .i64 Y.1.2.1,.int .i64 Y.1.2.2]])) w9):=zhi (⟨rfl,hfin⟩);clear hrow9 hg9 hfin;go_wp2_with fail;exact q_3 (by simp [results,Tryz.results53,go_sem,j0,j1]) rfl HH.out
       ·by_cases hk6:k=6
        ·subst hk6;have HYr:Hid (Y=((v1,1,0),s1)):=zhi (by rw [HYz4.out]; simp);clear HX5 hrt hru HX HP HB HC HE HD HM HWt HWu HWe Htl Hul HYz4 HSt Hwx d1 d3 d4 hk4 hk5 j1 j2 j3;go_upto_region 21 with fail;go_wp2_with (with_reducible refine z0d ?_);refine z07.of (z00 _ rfl _ _ _ rfl w.heap.size _ rfl (by rfl) _ _ HF5.out.z (by kernel_rfl) (by rfl) (by simp [Value.oneCell']) ?_);intro w9 hrow9 hg9;obtain ⟨j0,j1⟩:=cl2 hrow9;have hfin:=HF5.out.fin hg9;have HH:Hid (ZG p K lb nl dp Y w (.returned (.tuple #[.int .i64 v1,.agg #[.int .i64 1,.int .i64 0]])) w9):=zhi (by rw [HYr.out]; exact ⟨rfl,hfin⟩);clear hrow9 hg9 hfin;go_wp2_with fail;exact q_3 (by simp [results,Tryz.results53,go_sem,j0,j1]) rfl HH.out
        ·by_cases hk7:k=7
         ·subst hk7;have HYr:Hid (Y=zPr v1 s1):=zhi (by rw [HYz4.out]; simp);have HCp:=zhi (zd0 HF5.out.rs v1);clear HX5 hrt hru HX HP HB HC HE HD HM HWt HWu HWe Htl Hul HYz4 HSt Hwx d1 d3 d4 hk4 hk5 hk6 j1 j2 j3;go_wp2_with fail;refine HCp.out.mono ?_;rintro e w6 ⟨rfl,hrs6,hfr6⟩;have HF6:=zhi (HF5.out.call hrs6 hfr6);have hy0:(zPr v1 s1).1.1=0:=by
           unfold zPr;split <;> rfl
          rw [<- HYr.out] at HF6 hy0 ⊢;have HY0:=zhi hy0;clear hrs6 hfr6 HF5 HCp hy0;go_wp2_with (with_reducible refine z0d ?_);refine z07.of (z00 _ rfl _ _ _ rfl w.heap.size _ rfl (by rfl) _ _ HF6.out.z (by kernel_rfl) (by rfl) (by simp [Value.oneCell']) ?_);intro w9 hrow9 hg9;obtain ⟨j0,j1⟩:=cl2 hrow9;have hfin:=HF6.out.fin hg9;have HH:Hid (ZG p K lb nl dp Y w (.returned (.tuple #[.int .i64 0,.agg #[.int .i64 Y.1.2.1,.int .i64 Y.1.2.2]])) w9):=zhi ⟨by rw [HY0.out],hfin⟩;clear hrow9 hg9 hfin;go_wp2_with fail;exact q_3 (by simp [results,Tryz.results53,go_sem,j0,j1]) rfl HH.out
         ·have j4:(k == 4)=false:=by simp [hk4]
          have j5:(k == 5)=false:=by simp [hk5]
          have j6:(k == 6)=false:=by simp [hk6]
          have j7:(k == 7)=false:=by simp [hk7]
          have HYr:Hid (Y=((0,0,0),s1)):=zhi (by rw [HYz4.out,if_neg hk4,if_neg hk5,if_neg hk6,if_neg hk7]);clear HX5 hrt hru HX HP HB HC HE HD HM HWt HWu HWe Htl Hul HYz4 HSt Hwx d1 d3 d4 hk4 hk5 hk6 hk7;go_upto_region 24 with fail;go_wp2_with (with_reducible refine z0d ?_);refine z07.of (z00 _ rfl _ _ _ rfl w.heap.size _ rfl (by rfl) _ _ HF5.out.z (by kernel_rfl) (by rfl) (by simp [Value.oneCell']) ?_);intro w9 hrow9 hg9;obtain ⟨j0,j1⟩:=cl2 hrow9;have hfin:=HF5.out.fin hg9;have HH:Hid (ZG p K lb nl dp Y w (.returned (.tuple #[.int .i64 0,.agg #[.int .i64 0,.int .i64 0]])) w9):=zhi (by rw [HYr.out]; exact ⟨rfl,hfin⟩);clear hrow9 hg9 hfin;go_wp2_with fail;exact q_3 (by simp [results,Tryz.results53,go_sem,j0,j1]) rfl HH.out
  ·have HYe:Hid (Y=((0,k1,t1),s1)):=zhi (by rw [HYt.out]; exact if_neg h0);have h0':(k1 != 0)=true:=by simp [h0]
   have HT:=zhi (HF4.out.twoE (.int .i64 k1) (.int .i64 t1) (.cells #[.int .i64 k1,.int .i64 t1] 61));clear h0 HYt HF4 HX HP HB HC HE HD HM HWt HWu HWe Htl Hul Hk1 Hk2 Hk3 HSt Hwx;go_wp2_with fail;go_region;go_wp2_with fail;obtain ⟨j0,j1,hr9,hg9⟩:=HT.out;have HH:Hid (ZG p K lb nl dp Y w (.returned (.tuple #[.int .i64 0,.agg #[.int .i64 k1,.int .i64 t1]])) _):=zhi (by rw [HYe.out]; exact ⟨rfl,hr9,hg9⟩);clear hr9 hg9;exact q_3 (by simp [results,Tryz.results53,go_sem,j0,j1]) rfl HH.out
end
end Go.Proofs.YtdflbhofmmlpgaaGreat
