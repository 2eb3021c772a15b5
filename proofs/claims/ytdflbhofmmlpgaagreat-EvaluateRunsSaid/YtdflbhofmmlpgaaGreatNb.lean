/-
  Nb: Yy. Part of the proof. No condition.
-/
import Derived.Test.YtdflbhofmmlpgaaGreatNa
import Derived.Test.YtdflbhofmmlpgaaGreatMg
set_option maxRecDepth 100000
set_option maxHeartbeats 8000000
namespace Go.Proofs.YtdflbhofmmlpgaaGreat
open Go.RowKit
def nmT (gl:GlL) (ns:List Zb) (L O:NmF) (k:Int) (s:Zb) (m:Nat):Prop :=
 (k=1->∃ i:Nat,z0S ns s=some i/\L s=some (i:Int))/\(k=2->(∃ i:Nat,z0S ns s=some i/\L s=some (i:Int))\/(z0S ns s=none/\L s=none/\∃ i:Nat,z0S (gl.map (·.1)) s=some i/\O s=some (i:Int))) /\
 (k=3->L s=none/\∃ i:Nat,z0S (gl.map (·.1)) s=some i/\O s=some (i:Int))/\(4<=k->L s=none)/\(1<=k/\k<=8)/\(k=3->m=2)/\(k≠3->m=1)
mutual
def nmHt (gl:GlL) (fl:List Fn) (ns:List Zb) (L O:NmF):St->Prop
 | .mk k _ s es ts us=>nmT gl ns L O k s es.length/\nmL gl fl ns L O es/\nmHs gl fl ns L O ts/\nmHs gl fl ns L O us
def nmHs (gl:GlL) (fl:List Fn) (ns:List Zb) (L O:NmF):List St->Prop
 | []=>True
 | t :: ts=>nmHt gl fl ns L O t/\nmHs gl fl ns L O ts
end
theorem z9o {gl:GlL} {fl:List Fn} {ns:List Zb} {L O:NmF}:∀ {xs:List St} {i:Nat} {x:St},nmHs gl fl ns L O xs->xs[i]?=some x->nmHt gl fl ns L O x
 | [],_,_,_,h=>by simp at h
 | y :: ys,0,x,h,hi=>by
  simp at hi;subst hi;exact h.1
 | y :: ys,i+1,x,h,hi=>z9o h.2 (by simpa using hi)
theorem zeR {L O:NmF} {xs:List St} {i:Nat} {x:St} (h:xs[i]?=some x):(nB L O xs)[i]?=some (nS L O x):=by
 induction xs generalizing i with
 | nil=>simp at h
 | cons y ys ih =>
  cases i with
  | zero =>
   simp at h;subst h;rfl
  | succ i=>exact ih (by simpa using h)
theorem zdt {ls:Int} {pn:List Nat} {C:Cz} {x y:Ex} {s:Sx} {g:Int->Int->Sx->Rz} {f:List Int->Sx->Rz} (hf:∀ v u s,f [v,u] s=g v u s):z0W (zX ls pn C x s) (fun v s1=>z0W (zX ls pn C y s1) fun u s2=>g v u s2)=z0V (zL ls pn C [x,y] s) f:=by
 have e:zL ls pn C [x,y] s=zcons (zX ls pn C x s) (zL ls pn C [y]):=rfl;rw [e];obtain ⟨⟨v,k,t⟩,s1⟩:=zX ls pn C x s
 by_cases h:k=0
 ·subst h;have e2:zL ls pn C [y] s1=zcons (zX ls pn C y s1) (zL ls pn C []):=rfl;unfold z0W zcons z0V;dsimp only;rw [if_pos rfl,if_pos rfl,e2];obtain ⟨⟨u,k2,t2⟩,s2⟩:=zX ls pn C y s1;unfold zcons
  by_cases h2:k2=0
  ·subst h2;simp [zL,hf]
  ·simp [h2]
 ·unfold z0W zcons z0V;simp [h]
def zbft (k n:Int) (th el:Sx->Rz) (lp:Int->Sx->Rz) (vs:List Int) (s:Sx):Rz :=
 if k=3 then zSt n (vs.headD 0) (vs.tail.headD 0) s else zSr k n (fun s=>((0,0,0),s)) th el lp (vs.headD 0) s
theorem zex {ls:Int} {pn:List Nat} {C:Cz} {k n:Int} {es:List Ex} {ts us:List Sn} {s:Sx} (hs:¬ ls<=s.st) (h3:k=3->es.length=2) (h1:k≠3->es.length=1) :
  ∃ x r,es=x :: r/\zS ls pn C (.mk k n es ts us) s=z0V (zL ls pn C es (tick s)) (zbft k n (zB ls pn C ts) (zB ls pn C us) (fun v s1=>zW ls (zB ls pn C ts) (zX ls pn C x) ((ls - s1.st).toNat+1) v s1)):=by
 by_cases hk:k=3
 ·subst hk
  match es,h3 rfl with
  | [x,y],_ =>
   refine ⟨x,[y],rfl,?_⟩;rw [zS,if_neg hs];rw [<- zdt (g:=fun v u s=>zSt n v u s) (fun v u s=>by simp [zbft])];rfl
 ·match es,h1 hk with
  | [x],_ =>
   refine ⟨x,[],rfl,?_⟩;rw [zS,if_neg hs];rw [<- zam (g:=fun v s1=>zSr k n (fun s=>((0,0,0),s)) (zB ls pn C ts) (zB ls pn C us) (fun v s1=>zW ls (zB ls pn C ts) (zX ls pn C x) ((ls - s1.st).toNat+1) v s1) v s1) (fun v s=>by simp [zbft,hk])]
   congr 1
section
variable (p:Nat) (K:RK) (D d:Nat) (gl:GlL) (fl:List Fn) (nd:Nat) (C:Cz) (O:NmF)
def z6Q (dt:Nat):Prop:=∀ (lb fb nl:Nat) (dp:Int) (s:Sx) (ns:List Zb) (L:NmF) (ts:List St) (A:Option Addr) (n c:Nat) (w:World),RuS7 p K lb nl dp s w->DpZ K dp nd->Pg7 p K D d gl fl w->Frm7 p K lb fb ns w->ns.length=nl->RowS (fun b=>b<p) w D dt ts A c->ts.length=n->n<=1000000->nmHs gl fl ns L O ts->wzB nl K.gs fl.length (nB L O ts) ->
 Calls Tryz.prog 37 #[.pointer (some ⟨p,0,none⟩),.pointer (some ⟨fb,0,none⟩),.slice A n c] w (S7 p K lb nl dp (zB K.ls (pn7 fl) C (nB L O ts) s) w)
def zdD (dt:Nat):Prop:=∀ (lb fb nl:Nat) (dp:Int) (s:Sx) (ns:List Zb) (L:NmF) (t:St) (v:Value) (w:World),RuS7 p K lb nl dp s w->DpZ K dp nd->Pg7 p K D d gl fl w->Frm7 p K lb fb ns w->ns.length=nl->StV (fun b=>b<p) w D dt t v->nmHt gl fl ns L O t->wzS nl K.gs fl.length (nS L O t) ->
 Calls Tryz.prog 54 #[.pointer (some ⟨p,0,none⟩),.pointer (some ⟨fb,0,none⟩),v] w (S7 p K lb nl dp (zS K.ls (pn7 fl) C (nS L O t) s) w)
end
section
variable {p:Nat} {K:RK} {D d:Nat} {gl:GlL} {fl:List Fn} {nd:Nat} {C:Cz} {O:NmF} {lb fb nl:Nat} {dp:Int} {s s':Sx} {ns:List Zb} {w W W':World}
theorem z8t {dt:Nat} (hS:zdD p K D d gl fl nd C O dt):z6Q p K D d gl fl nd C O dt:=by
 intro lb fb nl dp s ns L ts A n c w h hd hP hfm hns he hn hn2 hnm hw;have hnc:n<=c:=by rw [<- hn]; exact he.1
 have HS:=zhi hS;have HD:=zhi hd;have HP:=zhi hP;have HFm:=zhi hfm;have HR:=zhi (fun (w':World) (hb:Below p w w')=>RowS.keep (F:=fun b=>b<p) (G:=fun b=>b<p) (fun _ h=>h) (fun b hb'=>hb.block b hb') he);have HW:=zhi hw;have HNm:=zhi hnm;have Hn:=zhi hn;have Hns:=zhi hns;have HF0:Hid (RuS7 p K lb nl dp s w/\Fr7 p K lb w w):=zhi ⟨h,Fr7.refl _ _ _ _⟩;obtain ⟨Y,hY⟩:∃ Y,Y=zB K.ls (pn7 fl) C (nB L O ts) s:=⟨_,rfl⟩;rw [<- hY];have HY:=zhi hY;clear hS hd hP he hn hw h hY hfm hnm hns;go_enter Tryz.func37,Tryz.ntmps37;go_wp2_with fail
 go_loopw [7] (fun v wr=>∃ (pre rest:List St) (s':Sx) (j:Nat),v=.int .i64 (j:Int)/\Hid (ts=pre++rest/\j=pre.length)/\Hid (Y=zB K.ls (pn7 fl) C (nB L O rest) s')/\Hid (RuS7 p K lb nl dp s' wr/\Fr7 p K lb w wr)) (fun v _=>n - (intOf v).toNat)
 case atStart=>exact ⟨[],ts,s,0,rfl,zhi ⟨rfl,rfl⟩,HY,HF0⟩
 case round =>
  obtain ⟨pre,rest,s',j,rfl,HXS,HYr,HFr⟩:=hrel;cases rest with
  | nil =>
   have hjn:n<=j:=by rw [<- Hn.out,HXS.out.1,HXS.out.2]; simp
   have HH:Hid (S7 p K lb nl dp Y w (.returned (.int .i64 0)) wr):=zhi (by
    rw [show Y=((0,0,0),s') from HYr.out];exact ⟨rfl,(fun e=>by cases e),(fun e=>by cases e),HFr.out⟩)
   clear HYr HS HP HR HW HFr;go_wp2_with fail;go_ret;exact HH.out
  | cons t rest =>
   have hlt:j<n:=by rw [<- Hn.out,HXS.out.1,HXS.out.2]; simp
   have htj:ts[j]?=some t:=by rw [HXS.out.1,HXS.out.2]; simp
   obtain ⟨g,off,c0,c1,c2,c3,c4,c5,rfl,hg,e0,e1,e2,e3,e4,e5,hv⟩:=(HR.out wr HFr.out.2.lo).2 j t htj;have HCx:=zhi (HS.out lb fb nl dp s' ns L t _ wr HFr.out.1 HD.out (HP.out.low HFr.out.2.lo) (HFm.out.fr HFr.out.2) Hns.out hv (z9o HNm.out htj) (zai HW.out (zeR htj)));have hYc:=HYr.out;have ezl:zB K.ls (pn7 fl) C (nB L O (t :: rest)) s'=if (zS K.ls (pn7 fl) C (nS L O t) s').1.2.1=0 then zB K.ls (pn7 fl) C (nB L O rest) (zS K.ls (pn7 fl) C (nS L O t) s').2 else zS K.ls (pn7 fl) C (nS L O t) s':=by rw [nB,zB]
   rw [ezl] at hYc;generalize zS K.ls (pn7 fl) C (nS L O t) s'=y1 at HCx hYc;obtain ⟨⟨v1,k1,t1⟩,s1⟩:=y1;have HYc:=zhi hYc;clear hYc ezl hv HYr htj;go_wp2_with fail;refine HCx.out.mono ?_;rintro e w2 ⟨rfl,hvl,htr,hrs2,hfr2⟩;dsimp only at hvl htr hrs2 HYc ⊢;have HF3:=zhi (And.intro hrs2 (HFr.out.2.trans hfr2));have HT:=zhi (And.intro hvl htr);clear hrs2 hfr2 hvl htr HCx HFr HS HP HR HW e0 e1 e2 e3 e4 e5
   by_cases h0:k1=0
   ·subst h0;have HY2:Hid (Y=zB K.ls (pn7 fl) C (nB L O rest) s1):=zhi (by rw [HYc.out]; exact if_pos rfl);have HXS2:Hid (ts=(pre++[t])++rest/\j+1=(pre++[t]).length):=zhi ⟨by rw [HXS.out.1]; simp,by rw [HXS.out.2]; simp⟩;clear HYc HT;go_wp2_with fail;exact ⟨⟨pre++[t],rest,s1,j+1,by go_num,HXS2,HY2,HF3⟩,by simp [intOf]; omega⟩
   ·have h0':(k1 != 0)=true:=by simp [h0]
    have HH:Hid (S7 p K lb nl dp Y w (.returned (.int .i64 k1)) w2):=zhi (by
     rw [show Y=((v1,k1,t1),s1) from HYc.out.trans (if_neg h0)];exact ⟨rfl,HT.out.1,HT.out.2,HF3.out⟩)
    clear h0 HF3 HYc HT;go_wp2_with fail;go_ret;exact HH.out
end
end Go.Proofs.YtdflbhofmmlpgaaGreat
