/-
  Lc: RsH. Part of the proof. No condition.
-/
import Derived.Test.YtdflbhofmmlpgaaGreatLb
import Derived.Deep.CutBlock
set_option maxRecDepth 100000
set_option maxHeartbeats 8000000
namespace Go.Proofs.YtdflbhofmmlpgaaGreat
open Go.RowKit
def hdS (k:Int) (s:Zb):List Zb:=if k=1 then [s] else []
mutual
def rsS (gl:GlL) (fl:List Fn):List Zb->St->St
 | L,.mk k l s es ts us=>.mk k l s (rsL gl fl L es) (rsB gl fl (L++hdS k s) ts) (rsB gl fl (L++hdS k s++vrL ts) us)
def rsB (gl:GlL) (fl:List Fn):List Zb->List St->List St
 | _,[]=>[]
 | L,t :: ts=>rsS gl fl L t :: rsB gl fl (L++vrS t) ts
end
theorem z1m {gl:GlL} {fl:List Fn}:∀ (ts:List St) (L:List Zb),(rsB gl fl L ts).length=ts.length
 | [],_=>rfl
 | t :: ts,L=>by simp [rsB,z1m ts]
theorem z9M {gl:GlL} {fl:List Fn}:∀ (ts us:List St) (L:List Zb),rsB gl fl L (ts++us)=rsB gl fl L ts++rsB gl fl (L++vrL ts) us
 | [],us,L=>by simp [rsB,vrL]
 | t :: ts,us,L=>by simp [rsB,z9M ts us,vrL]
mutual
def okS (gl:GlL) (fl:List Fn):List Zb->St->Prop
 | L,.mk k _ s es ts us=>(okL gl fl L es/\fwL es/\htL es<=64/\es.length<=3)/\((k=1->z0s gl fl L s=0)/\(k=2->z0s gl fl L s=1\/z0s gl fl L s=2)/\(k=3->z0s gl fl L s=3))/\(ts.length<=1000/\us.length<=1000)/\okB gl fl (L++hdS k s) ts/\okB gl fl (L++hdS k s++vrL ts) us
def okB (gl:GlL) (fl:List Fn):List Zb->List St->Prop
 | _,[]=>True
 | L,t :: ts=>okS gl fl L t/\okB gl fl (L++vrS t) ts
end
theorem z9v {gl:GlL} {fl:List Fn}:∀ (ys:List St) (z:St) (zs:List St) (L:List Zb),okB gl fl L (ys++z :: zs)->okS gl fl (L++vrL ys) z
 | [],z,zs,L,h=>by
  have:okS gl fl L z:=h.1;simpa [vrL] using this
 | y :: ys,z,zs,L,h=>by
  have:=z9v ys z zs _ h.2;simpa [vrL,List.append_assoc] using this
def BlkG (F:Nat->Prop) (base D dd:Nat) (gl:GlL) (fl:List Fn) (p:Nat) (d:Nat) (ls:List Zb) (ts:List St) (w:World) (e:Ending) (w':World):Prop :=
 ∃ A m c,e=.returned (.slice A m c)/\m=ts.length/\RowS (fun b=>w.heap.size<=b/\b<w'.heap.size/\lbR w' p≠some b) w' (D+1) d (rsB gl fl ls ts) A c/\ScR F base D dd gl fl p (ls++vrL ts) w'/\ChR p w w'
def z8c (d:Nat):Prop:=∀ (F:Nat->Prop) (base D dd:Nat) (gl:GlL) (fl:List Fn) (p:Nat) (ls:List Zb) (ts:List St) (A:Option Addr) (n c:Nat) (w:World),ScR F base D dd gl fl p ls w->RowS F w D d ts A c->n=ts.length->okB gl fl ls ts->n<=1000->ls.length+(vrL ts).length<=1000 ->
 Calls Tryz.prog 31 #[.pointer (some ⟨p,0,none⟩),.slice A n c] w (BlkG F base D dd gl fl p d ls ts w)
def BkR (F:Nat->Prop) (base D dd:Nat) (gl:GlL) (fl:List Fn) (p d:Nat) (ls:List Zb) (ts:List St) (w:World) (v i:Value) (wr:World):Prop :=
 ∃ (ys zs:List St) (k:Nat) (L:List Value),ts=ys++zs/\i=.int .i64 (k:Int)/\Hid (k=ys.length)/\Hid (ScR F base D dd gl fl p (ls++vrL ys) wr)/\Hid (ChR p w wr)/\Hid (StRr p w.heap.size (D+1) d wr v (rsB gl fl ls ys) L)
theorem zcM {xs:List Ex} {i:Nat} {x:Ex} (h:xs[i]?=some x):htX x<=htL xs:=by
 induction xs generalizing i with
 | nil=>simp at h
 | cons y ys ih =>
  cases i with
  | zero =>
   simp at h;subst h
   show htX y<=max (htX y) (htL ys)
   omega
  | succ i =>
   have:=ih (by simpa using h)
   show htX x<=max (htX y) (htL ys)
   omega
theorem z3x {F:Nat->Prop} {base D d:Nat} {gl:GlL} {fl:List Fn} {p:Nat} {ls:List Zb} {ops:Array Oper} {o:Oper} {a:Act} {K:Act->World->Prop} {Q:Exit->Act->World->Prop} {E:Prop} {w0:World} (w:World) (hgd:o.guard=none) (sl x:Operand)
  (ho:o.op=.call { callee:=.builtin .append,args:=#[sl,x],argTypes:=#[80,80] }) (lA:Option Addr) (n lc b:Nat) (s:Zb)
  (hs:a.eval sl=.slice lA n lc) (hx:a.eval x=.slice (some ⟨b,0,none⟩) 1 1) (hal:w.heap[b]?=some (.cells #[.string s] 9 (0,0))) (h:ScR F base D d gl fl p ls w0) (hv:w0.cell? ⟨p,2,none⟩=some (.slice lA n lc)) (hn:n=ls.length) (hb:Below w0.heap.size w0 w) (hlen:n<=2000)
  (hk:∀ g cap wx,ScR F base D d gl fl p (ls++[s]) (wx.setCell ⟨p,2,none⟩ (.slice (some ⟨g,0,none⟩) (n+1) cap))->ChR p w0 (wx.setCell ⟨p,2,none⟩ (.slice (some ⟨g,0,none⟩) (n+1) cap))->wx.cell? ⟨p,2,none⟩=some (.slice lA n lc)->wx.frozen? ⟨p,2,none⟩=false->K (a.put o.dst (.slice (some ⟨g,0,none⟩) (n+1) cap)) wx) :
  if Region.wanted o (yielded ops a.tmps)=true then Oper.wp Tryz.prog o a w K Q else E:=by
 subst hn;obtain ⟨i,hi,hz,hsz,hby⟩:=info_parts z30;have hown:w.ownsRow base 9 1 (.slice lA ls.length lc) ls.length (ls.map Value.string):=by
  obtain ⟨gA,gc,fA,fc,v',h1,h2,h3,h4,h5,h6,h7,h8⟩:=h;have e:=zcr 2 h5;rw [hv] at e;have e2:v'=.slice lA ls.length lc:=by simpa using e.symm
  subst e2;exact z1j h6 (fun b hb'=>hb.block b (h6.lt b hb').2)
 have hbs:base<=w.heap.size:=by
  obtain ⟨gA,gc,fA,fc,v',h1,h2,h3,h4,h5,h6,h7,h8⟩:=h;exact q_9 h4 hb.size
 refine step_append_lies _ hgd sl x _ ho base 9 i _ 1 16 Tryz.underlying80 hi hz hsz hby rfl (by decide) _ ls.length _ hs hown ⟨b,0,none⟩ 1 1 [.string s] hx (by simp) ?_ ?_ (by decide) (by unfold maxLen; omega) (by omega) hbs _ rfl fun g cap wx k1 k2 k3 _=>?_
 ·intro j u hu;rw [Addr.add_lit,Nat.zero_add];exact (zcr _ hal).trans (by simpa using hu)
 ·intro u hu;simp at hu;subst hu;rfl
 ·obtain ⟨p1,p2,p3,p4⟩:=h.push hv hb k1 k2 k3 (by omega);exact hk g cap wx p1 p2 p3 p4
theorem ScR.farO {F:Nat->Prop} {base D d:Nat} {gl:GlL} {fl:List Fn} {p:Nat} {ls:List Zb} {w w':World} {row:Option Nat} (h:ScR F base D d gl fl p ls w) (hg:w.grownBy w' row) (hr:∀ b,row=some b->base<=b/\b≠p/\lbR w p≠some b):ScR F base D d gl fl p ls w':=by
 cases row with
 | none=>exact h.below (z05 hg (fun _ e=>by cases e) (q_2 _))
 | some b =>
  obtain ⟨h1,h2,h3⟩:=hr b rfl;exact h.far hg h1 h2 h3
theorem zdI {F:Nat->Prop} {base D d:Nat} {gl:GlL} {fl:List Fn} {p:Nat} {ls:List Zb} {w w':World} (h:ScR F base D d gl fl p ls w) (hc:ChR p w w'):∀ b,F b->w'.heap[b]?=w.heap[b]?:=fun b hb=>by
 have hbw:=h.low b hb;have hl:=h.lbl;obtain ⟨gA,gc,fA,fc,v,h1,h2,h3,h4,h5,h6,h7,h8⟩:=h;have:=h2 b hb;exact hc.block b hbw (by omega) (fun e=>by have:=(hl b e).1; omega)
structure BS (F:Nat->Prop) (base D dd:Nat) (gl:GlL) (fl:List Fn) (p:Nat) (L:List Zb) (wo:World) (kk l:Int) (s:Zb) (eA:Option Addr) (rn ec:Nat) (rs:List Ex) (tv uv:Value) (w:World):Prop where
 sc:ScR F base D dd gl fl p L w
 co:ChR p wo w
 x:w.heap[wo.heap.size]?=some (.cells #[.int .i64 kk,.int .i64 l,.string s,.slice eA rn ec,tv,uv] 121 (0,0))
 lx:lbR w p≠some wo.heap.size
 es:RowE (MdR p wo wo.heap.size w) w (D+1) rs eA ec
 bs:base<=wo.heap.size
 po:p<wo.heap.size
section
variable {F:Nat->Prop} {base D dd:Nat} {gl:GlL} {fl:List Fn} {p:Nat} {L L':List Zb} {wo w w':World} {kk l:Int} {s:Zb} {eA:Option Addr} {rn ec:Nat} {rs:List Ex} {tv uv:Value}
theorem BS.chg (h:BS F base D dd gl fl p L wo kk l s eA rn ec rs tv uv w) (hs:ScR F base D dd gl fl p L' w') (hc:ChR p w w'):BS F base D dd gl fl p L' wo kk l s eA rn ec rs tv uv w':=by
 have hpo:=h.po;obtain ⟨h1,h2⟩:=zcv hc h.x (by omega) h.lx;exact ⟨hs,h.co.trans hc,h1,h2,h.es.keep (fun b hb=>(z5a hc hpo b hb).1) (fun b hb=>(z5a hc hpo b hb).2),h.bs,hpo⟩
theorem BS.below (h:BS F base D dd gl fl p L wo kk l s eA rn ec rs tv uv w) (hb:Below w.heap.size w w'):BS F base D dd gl fl p L wo kk l s eA rn ec rs tv uv w':=h.chg (h.sc.below hb) (ChR.below hb h.sc.plt)
theorem BS.set4 (v:Value) (h:BS F base D dd gl fl p L wo kk l s eA rn ec rs tv uv w):BS F base D dd gl fl p L wo kk l s eA rn ec rs v uv (w.setCell ⟨wo.heap.size,4,none⟩ v):=by
 have hpo:=h.po;have hpw:=h.sc.plt;have hg:w.grownBy (w.setCell ⟨wo.heap.size,4,none⟩ v) (some wo.heap.size):=z03 w ⟨wo.heap.size,4,none⟩ v;have hl:lbR (w.setCell ⟨wo.heap.size,4,none⟩ v) p=lbR w p:=z43 (q_6 (hg.block p hpw (fun e=>by injection e with e; omega)));exact ⟨h.sc.far hg h.bs (by show wo.heap.size≠p; omega) h.lx,h.co.far (z05 hg (fun k hk=>by injection hk with hk; omega) h.co.size) hpo,z0a (i:=4) v h.x,by rw [hl]; exact h.lx,h.es.keep (fun b hb=>(z22 4 v (by omega) hpw b hb).1) (fun b hb=>(z22 4 v (by omega) hpw b hb).2),h.bs,hpo⟩
theorem BS.set5 (v:Value) (h:BS F base D dd gl fl p L wo kk l s eA rn ec rs tv uv w):BS F base D dd gl fl p L wo kk l s eA rn ec rs tv v (w.setCell ⟨wo.heap.size,5,none⟩ v):=by
 have hpo:=h.po;have hpw:=h.sc.plt;have hg:w.grownBy (w.setCell ⟨wo.heap.size,5,none⟩ v) (some wo.heap.size):=z03 w ⟨wo.heap.size,5,none⟩ v;have hl:lbR (w.setCell ⟨wo.heap.size,5,none⟩ v) p=lbR w p:=z43 (q_6 (hg.block p hpw (fun e=>by injection e with e; omega)));exact ⟨h.sc.far hg h.bs (by show wo.heap.size≠p; omega) h.lx,h.co.far (z05 hg (fun k hk=>by injection hk with hk; omega) h.co.size) hpo,z0a (i:=5) v h.x,by rw [hl]; exact h.lx,h.es.keep (fun b hb=>(z22 5 v (by omega) hpw b hb).1) (fun b hb=>(z22 5 v (by omega) hpw b hb).2),h.bs,hpo⟩
theorem BS.start {wr W1:World} {eA0:Option Addr} {en ec0:Nat} {Lt:List Value} (hs:ScR F base D dd gl fl p L wo) (hb:Below wo.heap.size wo wr) (hx:wr.heap[wo.heap.size]?=some (.cells #[.int .i64 kk,.int .i64 l,.string s,.slice eA0 en ec0,tv,uv] 121 (0,0))) (h1:wo.heap.size+1=W1.heap.size) (har:z0p W1.heap.size (D+1) wr (.slice eA rn ec) rs Lt) :
  BS F base D dd gl fl p L wo kk l s eA rn ec rs tv uv (wr.setCell ⟨wo.heap.size,3,none⟩ (.slice eA rn ec)):=by
 have hpo:=hs.plt;have hbs:base<=wo.heap.size:=by obtain ⟨gA,gc,fA,fc,v,h1,h2,h3,h4,h5,h6,h7,h8⟩:=hs; exact h4
 have hwr:=hb.size;have hg:wr.grownBy (wr.setCell ⟨wo.heap.size,3,none⟩ (.slice eA rn ec)) (some wo.heap.size):=z03 wr ⟨wo.heap.size,3,none⟩ (.slice eA rn ec);have hbb:Below wo.heap.size wo (wr.setCell ⟨wo.heap.size,3,none⟩ (.slice eA rn ec)):=hb.trans (z05 hg (fun k hk=>by injection hk with hk; omega) hwr);have hl:lbR (wr.setCell ⟨wo.heap.size,3,none⟩ (.slice eA rn ec)) p=lbR wo p:=z43 (q_6 (hbb.block p hpo));have hlr:lbR wr p=lbR wo p:=z43 (q_6 (hb.block p hpo));have hlt:∀ b,wo.heap.size<=b->lbR wo p≠some b:=fun b hb e=>by have:=(hs.lbl b e).2.1; omega
 exact ⟨(hs.below hb).far hg hbs (by show wo.heap.size≠p; omega) (by rw [hlr]; exact hlt _ (q_2 _)),(ChR.refl p wo).far hbb hpo,z0a (i:=3) _ hx,by rw [hl]; exact hlt _ (q_2 _),har.row.2.keep (fun b hb=>⟨⟨by omega,q_1 hb.2 hg.size,by rw [hl]; exact hlt _ (by omega)⟩,by omega⟩) (fun b hb=>hg.block b hb.2 (fun e=>by injection e with e; omega)),hbs,hpo⟩
end
theorem z6X {d:Nat} (hE:∀ d',d=d'+1->z8c d'):z8c d:=by
 intro F base D dd gl fl p ls ts A n c w hs h hn hok hn2 hvl;have hc:n<=c:=by rw [hn]; exact h.1
 have hpw:=hs.plt;have HE:=zhi hE;have Hn:=zhi hn;have H:=zhi h;have Hok:=zhi hok;have Hvl:=zhi hvl;have HSc:=zhi hs;clear hn h hok hE hvl hs;go_enter Tryz.func31,Tryz.ntmps31;go_wp2_with fail
 go_loopw [5,6] (fun v i wr=>BkR F base D dd gl fl p d ls ts w v i wr) (fun _ i _=>n - (intOf i).toNat)
 case atStart=>exact ⟨[],ts,0,[],rfl,rfl,zhi rfl,zhi (by have h:=HSc.out; simpa [vrL] using h),zhi (ChR.refl _ _),zhi (StRr.nil _ _ _ _ _)⟩
 case round =>
  obtain ⟨wo,rfl⟩:∃ wo:World,wo=wr:=⟨_,rfl⟩;obtain ⟨ys,zs,k,L,hts,rfl,Hk,HS,HC,HR⟩:=hrel;obtain ⟨vA,vc,rfl⟩:=z0x HR.out.own;obtain ⟨vn,hvn⟩:∃ vn,vn=(rsB gl fl ls ys).length:=⟨_,rfl⟩;have Hvn:Hid (vn=k):=zhi (by rw [hvn,z1m,Hk.out]);rw [<- hvn];have HRv:Hid (StRr p w.heap.size (D+1) d wo (.slice vA vn vc) (rsB gl fl ls ys) L):=zhi (by rw [hvn]; exact HR.out);have HTS:=zhi hts;clear hts hvn HR;cases zs with
  | nil =>
   have hk:n<=k:=by rw [Hn.out,Hk.out,HTS.out]; simp
   have HG:Hid (BlkG F base D dd gl fl p d ls ts w (.returned (.slice vA vn vc)) wo):=zhi (by
    have e:ys=ts:=by rw [HTS.out,List.append_nil]
    have h1:=HRv.out.row;rw [e] at h1;have h2:=HS.out;rw [e] at h2;exact ⟨vA,vn,vc,rfl,by rw [Hvn.out,Hk.out,e],h1.2,h2,HC.out⟩)
   go_wp2_with fail;go_ret;exact HG.out
  | cons z zs =>
   have hlt:k<n:=by rw [Hn.out,Hk.out,HTS.out]; simp
   have hz:ts[k]?=some z:=by rw [Hk.out,HTS.out]; simp
   cases d with
   | zero =>
    have:=z2u H.out;rw [this] at hz;cases hz
   | succ d' =>
    obtain ⟨g,off,kk,l,s,es,us,vs,eA,ec,tA,tc,uA,uc,rfl,rfl,hFg,e0,e1,e2,e3,e4,e5,r1,r2,r3⟩:=z28 H.out hz;have hoz:okS gl fl (ls++vrL ys) (.mk kk l s es us vs):=by
     have h:=Hok.out;rw [HTS.out] at h;exact z9v ys _ zs ls h
    have hcz:(ls++vrL ys).length+(hdS kk s).length+(vrL us).length+(vrL vs).length<=1000:=by
     have:=Hvl.out;rw [HTS.out,z2U] at this;have e:vrL (St.mk kk l s es us vs :: zs)=hdS kk s++vrL us++vrL vs++vrL zs:=rfl;rw [e] at this;simp only [List.length_append] at this ⊢;omega
    have hpo:p<wo.heap.size:=HS.out.plt;have hFlow:∀ b,F b->b<wo.heap.size:=HS.out.low;have hFk:∀ b,F b->wo.heap[b]?=w.heap[b]?:=fun b hb=>by
     have hbw:=HSc.out.low b hb;have h1:b≠p:=by
      obtain ⟨gA,gc,fA,fc,v,h1,h2,h3,h4,h5,h6,h7,h8⟩:=HSc.out;have:=h2 b hb;omega
     have h2:lbR w p≠some b:=fun e=>by
      obtain ⟨gA,gc,fA,fc,v,h1,h2,h3,h4,h5,h6,h7,h8⟩:=HSc.out;rw [z4B (zcr 2 h5)] at e;have e2:v.ownBlock=some b:=by simpa using e
      have:=(h6.lt b e2).1;have:=h2 b hb;omega
     exact HC.out.block b hbw h1 h2
    have hko:∀ o,wo.cell? ⟨g,o,none⟩=w.cell? ⟨g,o,none⟩:=fun o=>q_6 (hFk g hFg)
    have d0:=(hko _).trans e0;have d1:=(hko _).trans e1;have d2:=(hko _).trans e2;have d3:=(hko _).trans e3;have d4:=(hko _).trans e4;have d5:=(hko _).trans e5;obtain ⟨lsy,hlsy⟩:∃ lsy,lsy=ls++vrL ys:=⟨_,rfl⟩;rw [<- hlsy] at hoz hcz HS;have Hlsy:=zhi hlsy;have HOz:=zhi hoz;have HCz:=zhi hcz;have HLow:=zhi hFlow;have HRe:=zhi (RowE.keep (w:=w) (w':=wo) (fun _ h=>h) hFk r1);have HRt:=zhi (RowS.keep (w:=w) (w':=wo) (fun _ h=>h) hFk r2);have HRu:=zhi (RowS.keep (w:=w) (w':=wo) (fun _ h=>h) hFk r3);have hb1:=(q_i _ wo).alloc (q_2 _) (.cells #[.int .i64 kk,.int .i64 l,.string s,.slice eA es.length ec,.slice tA us.length tc,.slice uA vs.length uc] 121);have HX1:=zhi (q_4 wo (.cells #[.int .i64 kk,.int .i64 l,.string s,.slice eA es.length ec,.slice tA us.length tc,.slice uA vs.length uc] 121));have hsz1:wo.heap.size+1=(wo.alloc (.cells #[.int .i64 kk,.int .i64 l,.string s,.slice eA es.length ec,.slice tA us.length tc,.slice uA vs.length uc] 121)).heap.size:=by simp
    have HB1:=zhi hb1;obtain ⟨m,hm⟩:∃ m,m=es.length:=⟨_,rfl⟩;have hec:m<=ec:=by rw [hm]; exact r1.1
    have hm3:m<=3:=by rw [hm]; exact hoz.1.2.2.2
    obtain ⟨tn,htn⟩:∃ tn,tn=us.length:=⟨_,rfl⟩;obtain ⟨un,hun⟩:∃ un,un=vs.length:=⟨_,rfl⟩;rw [<- hm,<- htn,<- hun] at HX1 hsz1 HB1;rw [<- hm] at d3;rw [<- htn] at d4;rw [<- hun] at d5;have Hm:=zhi hm;have Htn:=zhi htn;have Hun:=zhi hun;clear hlsy hoz hcz hFlow hFk hko e0 e1 e2 e3 e4 e5 r1 r2 r3 hb1 hm htn hun hz hFg;have i1:(0:Int)<=(k:Int):=by omega
    have i2:(k:Int)<(n:Int):=by omega
    go_upto_region 6 with fail;obtain ⟨W1,hW1⟩:∃ W1,W1=wo.alloc (.cells #[.int .i64 kk,.int .i64 l,.string s,.slice eA m ec,.slice tA tn tc,.slice uA un uc] 121):=⟨_,rfl⟩;rw [<- hW1] at HX1 hsz1 HB1 ⊢;clear hW1 d0 d1 d2 d3 d4 d5;go_wp2_with fail
    go_loopw [8,9] (fun v i wr=>zaq gl fl lsy es (D+1) W1 v i wr) (fun _ i _=>m - (intOf i).toNat)
    case atStart=>exact ⟨[],es,[],rfl,rfl,z0p.nil _ _ _,fun _=>rfl,q_i _ _⟩
    case round =>
     obtain ⟨yt,zt,Lt,hes,rfl,har,hnil,hb⟩:=hrel;obtain ⟨tvA,tvc,rfl⟩:=z4t har;have hym:yt.length<=m:=by rw [Hm.out,hes]; simp
     have hX2:=(hb.block wo.heap.size (by omega)).trans HX1.out;have HX2:=zhi hX2;have HBW:=zhi hb;have HB2:=zhi (HB1.out.trans (hb.mono (by omega)));have HAR:=zhi har;have HES:=zhi hes;have HNil:=zhi hnil;have Hlen:=zhi (z11 (gl:=gl) (fl:=fl) (ls:=lsy) yt);have hszt:=hb.size;clear har hnil;cases zt with
     | nil =>
      have hym2:m<=yt.length:=by rw [Hm.out,hes]; simp
      obtain rfl:es=yt:=by rw [hes]; simp
      have f3:=z09 hX2 3;have b3:=zcr 3 hX2;obtain ⟨rn,hrn⟩:∃ rn,rn=(rsL gl fl lsy es).length:=⟨_,rfl⟩;rw [<- hrn] at HAR ⊢;have HB:=zhi (BS.start HS.out HB2.out hX2 hsz1 HAR.out);have Hrn:=zhi hrn;clear hX2 hes hrn HAR HX2 HBW HX1 HB1 HB2 hb hec;go_upto_region 14 with fail;obtain ⟨w2,hw2⟩:∃ w2,w2=wr.setCell ⟨wo.heap.size,3,none⟩ (.slice tvA rn tvc):=⟨_,rfl⟩;rw [<- hw2] at HB ⊢;clear hw2 f3 b3;have HW:=zhi (z66 s w2 HB.out.sc);obtain ⟨zz,hzz⟩:∃ zz:Int,zz=z0s gl fl lsy s:=⟨_,rfl⟩;rw [<- hzz] at HW;have Hzz:=zhi hzz;clear hzz;have b2:=zcr 2 HB.out.x;go_wp2_with fail;refine HW.out.mono ?_;rintro e w3 ⟨rfl,hb3⟩;replace HB:=zhi (HB.out.below hb3);clear hb3 HW b2;have b0:=zcr 0 HB.out.x
      go_upto_block 4 with fail
      go_cut [] from 11 to 126 (fun wd=>BS F base D dd gl fl p (lsy++hdS kk s) wo kk l s tvA rn tvc (rsL gl fl lsy es) (.slice tA tn tc) (.slice uA un uc) wd)
      case first =>
       rename_i hJ hK;have HOk:=zhi HOz.out.2.1
       by_cases h1:kk=1
       ·subst h1;have hz0:zz=0:=by rw [Hzz.out]; exact HOk.out.1 rfl
        subst hz0;have Hhd:Hid (hdS 1 s=[s]):=zhi rfl;obtain ⟨gA,gc,fA,fc,v,h1,h2,h3,h4,h5,h6,h7,h8⟩:=HB.out.sc;obtain ⟨lA,lc,rfl⟩:=z0x h6;have hlc:lsy.length<=lc:=by
         rcases h6.2 with ⟨e,h0⟩ | ⟨g',cap',cur,e,_,_,hc,_⟩
         ·rw [h0]; exact q_h _
         ·injection e with e1 e2 e3;subst e3;exact hc
        have c2:=zcr 2 h5;have f2:=z09 h5 2;have b2:=zcr 2 HB.out.x;have hls:lsy.length<=1000:=by have:=HCz.out; omega
        obtain ⟨ln,hln⟩:∃ ln,ln=lsy.length:=⟨_,rfl⟩;rw [<- hln] at c2 hls hlc;have Hln:=zhi hln;have HC2:Hid (w3.cell? ⟨p,2,none⟩=some (.slice lA ln lc)):=zhi c2;clear h1 h2 h3 h4 h5 h6 h7 h8 hln b0;go_upto_region 19 with fail;have hba:=((q_i w3.heap.size w3).alloc (q_2 _) (.cells #[.string s] 9)).drew;have hal:((w3.alloc (.cells #[.string s] 9)).drew).heap[w3.heap.size]?=some (.cells #[.string s] 9 (0,0)):=q_4 w3 _;have c2a:=hold ((q_i w3.heap.size w3).alloc (q_2 _) (.cells #[.string s] 9)) c2;have b2a:=hold ((q_i w3.heap.size w3).alloc (q_2 _) (.cells #[.string s] 9)) b2;have HBA:=zhi hba;have HAL:=zhi hal;clear hba hal
        go_region_law (first | ((with_reducible refine z3x _ rfl (.tmp 73) (.tmp 76) rfl lA ln lc w3.heap.size s rfl rfl HAL.out HB.out.sc HC2.out Hln.out HBA.out (by omega) ?_); intro g9 cap9 wx hs9 hc9 c9 f9; have HS9:=zhi hs9; have HC9:=zhi hc9; clear hs9 hc9))
        all_goals
         have hbs:=HB.out.chg HS9.out HC9.out;rw [<- Hhd.out] at hbs;have HBS:=zhi hbs;dsimp only [Exit.then,Exit.inBlock];generalize wx.setCell ⟨p,2,none⟩ (.slice (some ⟨g9,0,none⟩) (ln+1) cap9)=w4 at *;clear hbs c9 f9;refine hK _ _ (Met.intro (hJ _ _ ?_))
         (repeat apply Exists.intro)
         refine ⟨?rel,rfl⟩
         case rel=>exact HBS.out
       ·have Hhd:Hid (lsy++hdS kk s=lsy):=zhi (by rw [hdS,if_neg h1,List.append_nil]);have HBS:Hid (BS F base D dd gl fl p (lsy++hdS kk s) wo kk l s tvA rn tvc (rsL gl fl lsy es) (.slice tA tn tc) (.slice uA un uc) w3):=zhi (by rw [Hhd.out]; exact HB.out)
        by_cases h2:kk=2
        ·subst h2;have hz:zz=1\/zz=2:=by rw [Hzz.out]; exact HOk.out.2.1 rfl
         clear h1;rcases hz with rfl | rfl
         all_goals
          go_wp2_with fail
          go_meet
          case rel=>exact HBS.out
        ·by_cases h3:kk=3
         ·subst h3;have hz:zz=3:=by rw [Hzz.out]; exact HOk.out.2.2 rfl
          clear h1 h2;subst hz;go_wp2_with fail
          go_meet
          case rel=>exact HBS.out
         ·have b1:(kk == 1)=false:=by simpa using h1
          have b2:(kk == 2)=false:=by simpa using h2
          have b3:(kk == 3)=false:=by simpa using h3
          clear h1 h2 h3;go_wp2_with fail
          go_meet
          case rel=>exact HBS.out
      case rest =>
       have hwo:=hcut.co.size;have hqw:=(q_0.1 hcut.x).1;have c4:=zcr 4 hcut.x;have f4:=z09 hcut.x 4;have HB4:=zhi hcut;have HT:=zhi (HE.out d' rfl F base D dd gl fl p (lsy++hdS kk s) us tA tn tc wc hcut.sc (RowS.keep (w:=wo) (fun _ h=>h) (zdI HS.out hcut.co) HRt.out) Htn.out HOz.out.2.2.2.1 (by rw [Htn.out]; exact HOz.out.2.2.1.1) (by have:=HCz.out; simp only [List.length_append] at this ⊢; omega));clear hcut HB b0;go_wp2_with fail;refine HT.out.mono ?_;rintro e w5 ⟨A5,m5,c5,rfl,hm5,hr5,hs5,hc5⟩;have HB5:=zhi (HB4.out.chg hs5 hc5);have hsz5:=hc5.size;have HT5:=zhi (RowS.keep (w:=w5) (w':=w5) (G:=MdR p wo wo.heap.size w5) (fun b hb=>⟨⟨by have:=hb.1; omega,hb.2.1,hb.2.2⟩,by have:=hb.1; omega⟩) (fun _ _=>rfl) hr5);have Hm5:=zhi hm5;have hpw5:=hs5.plt;clear hm5 hr5 hs5 hc5 HB4 HT c4 f4;have c4:=zcr 4 HB5.out.x;have f4:=z09 HB5.out.x 4;go_upto_region 27 with fail;have hqp:wo.heap.size≠p:=by have:=HB5.out.po; omega
       have HB6:=zhi (HB5.out.set4 (.slice A5 m5 c5));have HT6:=zhi (RowS.keep (fun b hb=>(z22 4 (.slice A5 m5 c5) hqp hpw5 b hb).1) (fun b hb=>(z22 4 (.slice A5 m5 c5) hqp hpw5 b hb).2) HT5.out);obtain ⟨w6,hw6⟩:∃ w6,w6=w5.setCell ⟨wo.heap.size,4,none⟩ (.slice A5 m5 c5):=⟨_,rfl⟩;rw [<- hw6] at HB6 HT6 ⊢;clear hw6 c4 f4 HB5 HT5 hpw5;have hqw6:=(q_0.1 HB6.out.x).1;have hwo6:=HB6.out.co.size;have c5':=zcr 5 HB6.out.x;have HU:=zhi (HE.out d' rfl F base D dd gl fl p (lsy++hdS kk s++vrL us) vs uA un uc w6 HB6.out.sc (RowS.keep (w:=wo) (fun _ h=>h) (zdI HS.out HB6.out.co) HRu.out) Hun.out HOz.out.2.2.2.2 (by rw [Hun.out]; exact HOz.out.2.2.1.2) (by have:=HCz.out; simp only [List.length_append] at this ⊢; omega));go_wp2_with fail;refine HU.out.mono ?_;rintro e w7 ⟨A7,m7,c7,rfl,hm7,hr7,hs7,hc7⟩;have HB7:=zhi (HB6.out.chg hs7 hc7);have hsz7:=hc7.size;have HT7:=zhi (RowS.keep (fun b hb=>(z5a hc7 HB6.out.po b hb).1) (fun b hb=>(z5a hc7 HB6.out.po b hb).2) HT6.out);have HU7:=zhi (RowS.keep (w:=w7) (w':=w7) (G:=MdR p wo wo.heap.size w7) (fun b hb=>⟨⟨by have:=hb.1; omega,hb.2.1,hb.2.2⟩,by have:=hb.1; omega⟩) (fun _ _=>rfl) hr7);have Hm7:=zhi hm7;have hpw7:=hs7.plt;clear hm7 hr7 hs7 hc7 HB6 HU c5' HT6;have c5':=zcr 5 HB7.out.x;have f5:=z09 HB7.out.x 5;go_upto_region 28 with fail;have HB8:=zhi (HB7.out.set5 (.slice A7 m7 c7));have HT8:=zhi (RowS.keep (fun b hb=>(z22 5 (.slice A7 m7 c7) hqp hpw7 b hb).1) (fun b hb=>(z22 5 (.slice A7 m7 c7) hqp hpw7 b hb).2) HT7.out);have HU8:=zhi (RowS.keep (fun b hb=>(z22 5 (.slice A7 m7 c7) hqp hpw7 b hb).1) (fun b hb=>(z22 5 (.slice A7 m7 c7) hqp hpw7 b hb).2) HU7.out);obtain ⟨w8,hw8⟩:∃ w8,w8=w7.setCell ⟨wo.heap.size,5,none⟩ (.slice A7 m7 c7):=⟨_,rfl⟩;rw [<- hw8] at HB8 HT8 HU8 ⊢;clear hw8 c5' f5 HB7 HT7 HU7 hpw7;obtain ⟨x0,x1,x2,x3,x4,x5⟩:=cl6 HB8.out.x;have hwo8:=HB8.out.co.size;have HR8:=zhi (HRv.out.chg HB8.out.co hpw);have hvn:vn=(rsB gl fl ls ys).length:=by rw [z1m,Hvn.out,Hk.out]
       rw [hvn] at HR8;have HY:Hid (StV (MdR p wo wo.heap.size w8) w8 (D+1) (d'+1) (.mk kk l s (rsL gl fl lsy es) (rsB gl fl (lsy++hdS kk s) us) (rsB gl fl (lsy++hdS kk s++vrL us) vs)) (.agg #[.int .i64 kk,.int .i64 l,.string s,.slice tvA rn tvc,.slice A5 m5 c5,.slice A7 m7 c7])):=zhi (z6N.2 ⟨tvA,tvc,A5,c5,A7,c7,by rw [Hrn.out,Hm5.out,Hm7.out,z1m,z1m],HB8.out.es,HT8.out,HU8.out⟩);have HF8:Hid (∀ b,MdR p wo wo.heap.size w8 b->w.heap.size<=b/\b<w8.heap.size/\(Value.slice vA (rsB gl fl ls ys).length vc).ownBlock≠some b/\lbR w8 p≠some b):=zhi (fun b hb=>⟨by have:=hb.1.1; have:=HC.out.size; omega,hb.1.2.1,fun e=>by
        have h1:=HRv.out.own.lt b (by rw [hvn]; exact e);have:=hb.1.1;omega,hb.1.2.2⟩)
       have HKn:Hid (vn=(rsB gl fl ls ys).length):=zhi hvn;have hn8:(rsB gl fl ls ys).length<=1000:=by rw [<- hvn,Hvn.out]; omega
       have hw8s:w.heap.size<=w8.heap.size:=by have:=HC.out.size; omega
       clear hvn;go_wp2_with (at_builtin; refine z07.out ?_);refine z07.of (z3p w8 rfl (.tmp 123) (.tmp 125) rfl p w.heap.size (D+1) (d'+1) (.slice vA (rsB gl fl ls ys).length vc) (rsB gl fl ls ys) L _ kk l s tvA A5 A7 rn tvc m5 c5 m7 c7 _ (by rw [<- HKn.out]; rfl) rfl HR8.out (by omega) hw8s hpw (fun b hb=>(HB8.out.sc.lbl b hb).2.1) HY.out HF8.out ?_);intro g9 cap9 w9 hst9 hg9;have HOwn:=HR8.out.own;have HSep:=HR8.out.sep;have hsc9:=HB8.out.sc.farO hg9 (fun b hb=>⟨by have:=(HOwn.lt b hb).1; have:=HB8.out.bs; obtain ⟨gA,gc,fA,fc,v,h1,h2,h3,h4,h5,h6,h7,h8⟩:=HSc.out; omega,by have:=(HOwn.lt b hb).1; omega,HSep b hb⟩);have hch9:=(HC.out.trans HB8.out.co).far (z05 hg9 (fun b hb=>(HOwn.lt b hb).1) hw8s) hpw;have HEnd:Hid (BkR F base D dd gl fl p (d'+1) ls ts w (.slice (some ⟨g9,0,none⟩) ((rsB gl fl ls ys).length+1) cap9) (.int .i64 ((k:Int)+1)) w9):=zhi ⟨ys++[.mk kk l s es us vs],zs,k+1,_,by rw [HTS.out]; simp,by go_num,zhi (by rw [Hk.out]; simp),zhi (by
        have e:lsy++hdS kk s++vrL us++vrL vs=ls++vrL (ys++[.mk kk l s es us vs]):=by rw [Hlsy.out,z2U]; simp [vrL,vrS,hdS,List.append_assoc]
        rw [e] at hsc9;exact hsc9),zhi hch9,zhi (by
        have e:rsB gl fl ls (ys++[.mk kk l s es us vs])=rsB gl fl ls ys++[.mk kk l s (rsL gl fl lsy es) (rsB gl fl (lsy++hdS kk s) us) (rsB gl fl (lsy++hdS kk s++vrL us) vs)]:=by rw [z9M,<- Hlsy.out]; rfl
        rw [e];exact hst9)⟩
       clear hst9 hg9 hsc9 hch9 HOwn HSep x0 x1 x2 x3 x4 x5;go_wp2_with fail;exact ⟨HEnd.out,by simp [intOf]; omega⟩
     | cons zx zt =>
      have hlt2:yt.length<m:=by rw [Hm.out,hes]; simp
      have hzx:es[yt.length]?=some zx:=by rw [hes]; simp
      have hh:htX zx<=64:=q_9 (zcM hzx) HOz.out.1.2.2.1;obtain ⟨q,qo,c0,c1,c2,c3,c4,c5,rfl,hFq,e0,e1,e2,e3,e4,e5,hv⟩:=HRe.out.2 _ _ hzx;have hqo:q<wo.heap.size:=HLow.out q hFq;have hk:∀ o,World.cell? wr ⟨q,o,none⟩=World.cell? wo ⟨q,o,none⟩:=fun o=>q_6 (HB2.out.block q hqo)
      have d0:=(hk _).trans e0;have d1:=(hk _).trans e1;have d2:=(hk _).trans e2;have d3:=(hk _).trans e3;have d4:=(hk _).trans e4;have d5:=(hk _).trans e5;have hvr:=hv.keep (G:=F) (w':=wr) (fun _ h=>h) (fun b hb=>HB2.out.block b (HLow.out b hb));have x3:=zcr 3 hX2;have HX:=zhi (z3Z D F zx _ wr hvr (z8O HOz.out.1.2.1 hzx) (by omega) (fun b hb'=>by have:=HLow.out b hb'; have:=HB2.out.size; omega));have HY:=zhi (fun (w2:World) (hb:Below wr.heap.size wr w2)=>z5F D F base D dd gl fl p lsy zx _ w2 (HS.out.below (HB2.out.trans (hb.mono HB2.out.size))) (hvr.keep (fun _ h=>h) (fun b hb'=>hb.block b (by have:=HLow.out b hb'; have:=HB2.out.size; omega))) (z9w HOz.out.1.1 hzx));have HD:=zhi (And.intro d0 (And.intro d1 (And.intro d2 (And.intro d3 (And.intro d4 d5)))));have hqr:q<wr.heap.size:=by have:=HB2.out.size; omega
      have hxr:wo.heap.size<wr.heap.size:=by omega
      clear e0 e1 e2 e3 e4 e5 hv hk hes hzx hFq hvr hX2 hb;go_wp2_with fail;refine HX.out.mono ?_;rintro e w2 ⟨rfl,hb2⟩;have hk:∀ o,World.cell? w2 ⟨q,o,none⟩=World.cell? wr ⟨q,o,none⟩:=fun o=>q_6 (hb2.block q hqr)
      obtain ⟨d0',d1',d2',d3',d4',d5'⟩:=HD.out;have g0:=(hk _).trans d0';have g1:=(hk _).trans d1';have g2:=(hk _).trans d2';have g3:=(hk _).trans d3';have g4:=(hk _).trans d4';have g5:=(hk _).trans d5';have x3':=zcr 3 ((hb2.block _ hxr).trans HX2.out);have HY2:=zhi (HY.out w2 hb2);have HAR2:=zhi (z3i HAR.out hb2);have HBt2:=zhi (HB2.out.trans (hb2.mono HB2.out.size));have HBu2:Hid (Below W1.heap.size W1 w2):=zhi (HBW.out.trans (hb2.mono hszt));have hsz2:=hb2.size;clear hb2 hk d0 d1 d2 d3 d4 d5 d0' d1' d2' d3' d4' d5' x3 HD HY HX HAR HX2;go_wp2_with fail;refine HY2.out.mono ?_;rintro e w3 ⟨k4,o4,a4,l4,s4,A4,n4,c4',rfl,hx4,hb3⟩;have hsz3:=hb3.size;have hown:=HAR2.out.own;have HOB:Hid (∀ b,w2.heap.size<=b->(Value.slice tvA (rsL gl fl lsy yt).length tvc).ownBlock≠some b):=zhi (fun b hb e=>absurd (hown.lt b e).2 (Nat.not_lt.2 hb));have HAR3:=zhi (z3i HAR2.out hb3);have HB3:=zhi (HBu2.out.trans (hb3.mono (by omega)));have HV3:=zhi hx4;clear hx4 hb3 hown HY2 HAR2 HBt2 HBu2 g0 g1 g2 g3 g4 g5 x3';go_wp2_with (at_builtin; refine z07.out ?_);refine z07.of (z0M w3 rfl (.tmp 43) (.tmp 51) rfl W1.heap.size (D+1) (.slice tvA (rsL gl fl lsy yt).length tvc) (rsL gl fl lsy yt) Lt (rsX gl fl lsy zx) _ _ _ _ _ _ _ _ _ rfl rfl HAR3.out (by rw [Hlen.out]; omega) (by omega) HV3.out (fun b hb=>⟨by omega,hb.2,HOB.out b hb.1⟩) ?_);intro g7 cap w7 har7 hg7;have HS7:Hid (zaq gl fl lsy es (D+1) W1 (.slice (some ⟨g7,0,none⟩) ((rsL gl fl lsy yt).length+1) cap) (.int .i64 ((yt.length:Int)+1)) w7):=zhi ⟨yt++[zx],zt,_,by rw [HES.out]; simp,by simp,by rw [z6F]; exact har7,fun e=>by simp at e,HB3.out.trans (z3j HAR3.out.own hg7 (q_2 _) (by omega))⟩;clear har7 hg7 HAR3 HB3 HV3 HOB;go_wp2_with fail;exact ⟨HS7.out,by simp [intOf]; omega⟩
end Go.Proofs.YtdflbhofmmlpgaaGreat
