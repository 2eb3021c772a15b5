/-
  Lb: RsE, RsF, RsG. Part of the proof. No condition.
-/
import Derived.Test.YtdflbhofmmlpgaaGreatLa
set_option maxRecDepth 100000
set_option maxHeartbeats 8000000
namespace Go.Proofs.YtdflbhofmmlpgaaGreat
open Go.RowKit
mutual
def fwX:Ex->Prop
 | .mk _ _ _ _ _ xs=>xs.length<=3/\fwL xs
def fwL:List Ex->Prop
 | []=>True
 | x :: xs=>fwX x/\fwL xs
end
theorem z8O:∀ {xs:List Ex} {i:Nat} {x:Ex},fwL xs->xs[i]?=some x->fwX x
 | [],_,_,_,h=>by simp at h
 | y :: ys,0,x,h,hi=>by
  simp at hi;subst hi;exact h.1
 | y :: ys,i+1,x,h,hi=>z8O h.2 (by simpa using hi)
mutual
def htX:Ex->Nat
 | .mk _ _ _ _ _ xs=>htL xs+1
def htL:List Ex->Nat
 | []=>0
 | x :: xs=>max (htX x) (htL xs)
end
theorem z51:∀ (xs ys:List Ex),htL (xs++ys)=max (htL xs) (htL ys)
 | [],ys=>by show htL ys=max 0 (htL ys); omega
 | x :: xs,ys=>by
  show max (htX x) (htL (xs++ys))=max (max (htX x) (htL xs)) (htL ys)
  rw [z51 xs ys];omega
def z6b (d:Nat):Prop:=∀ (F:Nat->Prop) (x:Ex) (v:Value) (w:World),ExV F w d x v->fwX x->htX x<=1000000->(∀ b,F b->b<w.heap.size)->Calls Tryz.prog 45 #[v] w (IntR (htX x:Int) w)
def HtRr (xs:List Ex) (w:World) (v i:Value) (wr:World):Prop:=∃ ys zs,xs=ys++zs/\v=.int .i64 (htL ys:Int)/\i=.int .i64 (ys.length:Int)/\Below w.heap.size w wr
theorem z8Z {d:Nat} (hE:z6b d):z6b (d+1):=by
 intro F x v w hv hpl hht hF;obtain ⟨k,o,a,l,s,xs⟩:=x;obtain ⟨A,c,rfl,hr⟩:=z1D.1 hv;have hpl3:=hpl;obtain ⟨hlen3,hpl2⟩:=hpl3;have hlen:xs.length<=1000000:=by omega
 have hht2:htL xs+1<=1000000:=hht;have hc:xs.length<=c:=hr.1;have hb0:=(q_i _ w).alloc (q_2 _) (.cells #[.int .i64 k,.int .i64 o,.int .i64 a,.int .i64 l,.string s,.slice A xs.length c] 124);have hrow:=q_4 w (.cells #[.int .i64 k,.int .i64 o,.int .i64 a,.int .i64 l,.string s,.slice A xs.length c] 124);have hlt:w.heap.size<(w.alloc (.cells #[.int .i64 k,.int .i64 o,.int .i64 a,.int .i64 l,.string s,.slice A xs.length c] 124)).heap.size:=by simp
 have Hr:=zhi (hr.keep (G:=F) (fun _ h=>h) (fun b hb=>hb0.block b (hF b hb)));have HF:=zhi (fun b hb=>q_1 (hF b hb) hb0.size);have HE:=zhi hE;have HB0:=zhi hb0;have HRow:=zhi hrow;have Hpl:=zhi hpl2;clear hlen3;have HO:Hid ((htX (.mk k o a l s xs):Int)=((htL xs+1:Nat):Int)):=zhi rfl;obtain ⟨n,hn⟩:∃ n,n=xs.length:=⟨_,rfl⟩;rw [<- hn] at Hr HF HB0 HRow hlt hlen hc ⊢;have Hn:=zhi hn;clear hv hpl hht hF hr hb0 hrow hE hpl2 hn;go_enter Tryz.func45,Tryz.ntmps45;go_wp2_with fail;obtain ⟨W,hW⟩:∃ W,W=w.alloc (.cells #[.int .i64 k,.int .i64 o,.int .i64 a,.int .i64 l,.string s,.slice A n c] 124):=⟨_,rfl⟩;rw [<- hW] at Hr HF HB0 HRow hlt ⊢;clear hW
 go_loopw [3,4] (fun v i wr=>HtRr xs W v i wr) (fun _ i _=>n - (intOf i).toNat)
 case atStart=>exact ⟨[],xs,rfl,rfl,rfl,q_i _ _⟩
 case round =>
  obtain ⟨ys,zs,hxs,rfl,rfl,hb⟩:=hrel;have hyn:ys.length<=n:=by rw [Hn.out,hxs]; simp
  have c5:=zcr 5 ((hb.block _ hlt).trans HRow.out);have hle:htL ys<=htL xs:=by rw [hxs,z51]; omega
  have HB:=zhi hb;have HXS:=zhi hxs;clear hb;cases zs with
  | nil =>
   have hyn2:n<=ys.length:=by rw [Hn.out,hxs]; simp
   have HR:Hid (ys=xs):=zhi (by rw [hxs]; simp);clear hxs;go_wp2_with fail;go_ret;exact ⟨by rw [HO.out,<- HR.out]; rfl,HB0.out.trans (HB.out.mono HB0.out.size)⟩
  | cons z zs =>
   have hlt2:ys.length<n:=by rw [Hn.out,hxs]; simp
   have hz:xs[ys.length]?=some z:=by rw [hxs]; simp
   obtain ⟨g,off,c0,c1,c2,c3,c4,c5',rfl,hFg,e0,e1,e2,e3,e4,e5,hv⟩:=Hr.out.2 _ _ hz;have hk:∀ o,World.cell? wr ⟨g,o,none⟩=World.cell? W ⟨g,o,none⟩:=fun o=>q_6 (HB.out.block g (HF.out g hFg))
   have d0:=(hk _).trans e0;have d1:=(hk _).trans e1;have d2:=(hk _).trans e2;have d3:=(hk _).trans e3;have d4:=(hk _).trans e4;have d5:=(hk _).trans e5;have hzh:htX z<=htL xs:=by
    rw [hxs,z51]
    show _<=max _ (max (htX z) _)
    omega
   have HX:=zhi (HE.out F z _ wr (hv.keep (fun _ h=>h) (fun b hb=>HB.out.block b (HF.out b hb))) (z8O Hpl.out hz) (by omega) (fun b hb=>q_1 (HF.out b hb) HB.out.size));have HM:Hid (htL (ys++[z])=max (htL ys) (htX z)):=zhi (by rw [z51]; show max _ (max _ 0)=_; omega);have hszB:=HB.out.size;clear e0 e1 e2 e3 e4 e5 hv hk hxs hz hFg;go_wp2_with fail;refine HX.out.mono ?_;rintro e w1 ⟨rfl,hb1⟩;have HB1:=zhi (HB.out.trans (hb1.mono hszB));clear hb1 HB HX d0 d1 d2 d3 d4 d5;go_wp2_with fail;exact ⟨⟨ys++[z],zs,by rw [HXS.out]; simp,by rw [HM.out]; simp; omega,by simp,HB1.out⟩,by simp [intOf]; omega⟩
theorem z3Z:∀ d:Nat,z6b d
 | 0=>fun _ _ _ _ h _ _ _=>h.elim
 | d+1=>z8Z (z3Z d)
mutual
def ntS:St->Nat
 | .mk _ _ _ _ ts us=>max (1+ntL ts) (1+ntL us)
def ntL:List St->Nat
 | []=>0
 | x :: xs=>max (ntS x) (ntL xs)
end
theorem z6v:∀ (xs ys:List St),ntL (xs++ys)=max (ntL xs) (ntL ys)
 | [],ys=>by show ntL ys=max 0 (ntL ys); omega
 | x :: xs,ys=>by
  show max (ntS x) (ntL (xs++ys))=max (max (ntS x) (ntL xs)) (ntL ys)
  rw [z6v xs ys];omega
mutual
def fwS:St->Prop
 | .mk _ _ _ _ ts us=>(ts.length<=1000000/\us.length<=1000000)/\fwB ts/\fwB us
def fwB:List St->Prop
 | []=>True
 | x :: xs=>fwS x/\fwB xs
end
theorem z71:∀ {xs:List St} {i:Nat} {x:St},fwB xs->xs[i]?=some x->fwS x
 | [],_,_,_,h=>by simp at h
 | y :: ys,0,x,h,hi=>by
  simp at hi;subst hi;exact h.1
 | y :: ys,i+1,x,h,hi=>z71 h.2 (by simpa using hi)
theorem z28 {F:Nat->Prop} {w:World} {D d:Nat} {ts:List St} {A:Option Addr} {c i:Nat} {x:St} (h:RowS F w D (d+1) ts A c) (hi:ts[i]?=some x):∃ g off k l s es us vs eA ec tA tc uA uc,x=.mk k l s es us vs/\A=some ⟨g,off,none⟩/\F g/\w.cell? ⟨g,off+i * 6,none⟩=some (.int .i64 k)/\w.cell? ⟨g,off+i * 6+1,none⟩=some (.int .i64 l)/\w.cell? ⟨g,off+i * 6+2,none⟩=some (.string s)/\w.cell? ⟨g,off+i * 6+3,none⟩=some (.slice eA es.length ec)/\w.cell? ⟨g,off+i * 6+4,none⟩=some (.slice tA us.length tc)/\w.cell? ⟨g,off+i * 6+5,none⟩=some (.slice uA vs.length uc)/\RowE F w D es eA ec/\RowS F w D d us tA tc/\RowS F w D d vs uA uc:=by
 obtain ⟨g,off,c0,c1,c2,c3,c4,c5,hA,hF,e0,e1,e2,e3,e4,e5,hv⟩:=h.2 i x hi;obtain ⟨k,l,s,es,us,vs⟩:=x;obtain ⟨eA,ec,tA,tc,uA,uc,he,h1,h2,h3⟩:=z6N.1 hv;injection he with he;injection he with he;simp only [List.cons.injEq,and_true] at he;obtain ⟨rfl,rfl,rfl,rfl,rfl,rfl⟩:=he;exact ⟨g,off,k,l,s,es,us,vs,eA,ec,tA,tc,uA,uc,rfl,hA,hF,e0,e1,e2,e3,e4,e5,h1,h2,h3⟩
theorem z2u {F:Nat->Prop} {w:World} {D:Nat} {ts:List St} {A:Option Addr} {c:Nat} (h:RowS F w D 0 ts A c):ts=[]:=by
 cases ts with
 | nil=>rfl
 | cons x xs =>
  obtain ⟨_,_,_,_,_,_,_,_,_,_,_,_,_,_,_,_,hv⟩:=h.2 0 x rfl;exact hv.elim
def zcj (d:Nat):Prop:=∀ (F:Nat->Prop) (D:Nat) (ts:List St) (A:Option Addr) (n c:Nat) (w:World),n=ts.length->RowS F w D d ts A c->fwB ts->n<=1000000->ntL ts<=100000->Calls Tryz.prog 28 #[.slice A n c] w fun e w'=>e=.returned (.int .i64 (ntL ts:Int))/\∃ q,w'=w.drewN q
theorem z9m {d:Nat} (hE:∀ d',d=d'+1->zcj d'):zcj d:=by
 intro F D ts A n c w hn h hf hn2 hnt;have hc:n<=c:=by rw [hn]; exact h.1
 have HE:=zhi hE;have Hn:=zhi hn;have H:=zhi h;have Hf:=zhi hf;have Hnt:=zhi hnt;clear hn h hf hE hnt;go_enter Tryz.func28,Tryz.ntmps28;go_wp2_with fail
 go_loopw [3,4] (fun v i wr=>∃ (ys zs:List St) (m k:Nat),ts=ys++zs/\v=.int .i64 (m:Int)/\i=.int .i64 (k:Int)/\Hid (m=ntL ys/\k=ys.length)/\Hid (∃ q,wr=w.drewN q)) (fun _ i _=>n - (intOf i).toNat)
 case atStart=>exact ⟨[],ts,0,0,rfl,rfl,rfl,zhi ⟨rfl,rfl⟩,zhi ⟨0,rfl⟩⟩
 case round =>
  obtain ⟨ys,zs,m,k,hxs,rfl,rfl,HM,HQ⟩:=hrel;have HXS:=zhi hxs;clear hxs;cases zs with
  | nil =>
   have hk:n<=k:=by rw [Hn.out,HM.out.2,HXS.out]; simp
   have HR:Hid ((m:Int)=ntL ts):=zhi (by rw [HM.out.1,HXS.out,List.append_nil]);go_wp2_with fail;go_ret;exact ⟨by first | rfl | (rw [HR.out]; rfl),HQ.out⟩
  | cons z zs =>
   have hlt:k<n:=by rw [Hn.out,HM.out.2,HXS.out]; simp
   have hz:ts[k]?=some z:=by rw [HM.out.2,HXS.out]; simp
   cases d with
   | zero =>
    have:=z2u H.out;rw [this] at hz;cases hz
   | succ d' =>
    obtain ⟨g,off,kk,l,s,es,us,vs,eA,ec,tA,tc,uA,uc,rfl,rfl,hFg,e0,e1,e2,e3,e4,e5,r1,r2,r3⟩:=z28 H.out hz;obtain ⟨⟨f1,f2⟩,f3,f4⟩:=z71 Hf.out hz;have hmz:ntS (.mk kk l s es us vs)<=ntL ts/\ntL ys<=ntL ts:=by
     rw [HXS.out,z6v]
     show ntS _<=max _ (max (ntS _) _)/\_
     omega
    have hmz2:ntS (.mk kk l s es us vs)=max (1+ntL us) (1+ntL vs):=rfl;obtain ⟨a,ha⟩:∃ a,a=ntL us:=⟨_,rfl⟩;obtain ⟨b,hb⟩:∃ b,b=ntL vs:=⟨_,rfl⟩;have hab:a<=100000/\b<=100000/\m<=100000:=by have:=Hnt.out; have:=HM.out.1; omega
    obtain ⟨ha1,hb1,hm1⟩:=hab;have HT:=zhi (fun (W:World) (hW:∃ q,W=w.drewN q)=>HE.out d' rfl F D us tA us.length tc W rfl (by obtain ⟨q,rfl⟩:=hW; exact RowS.keep (w:=w) (fun _ h=>h) (fun _ _=>rfl) r2) f3 f1 (by omega));have HU:=zhi (fun (W:World) (hW:∃ q,W=w.drewN q)=>HE.out d' rfl F D vs uA vs.length uc W rfl (by obtain ⟨q,rfl⟩:=hW; exact RowS.keep (w:=w) (fun _ h=>h) (fun _ _=>rfl) r3) f4 f2 (by omega));have d4:wr.cell? ⟨g,off+k * 6+4,none⟩=some (.slice tA us.length tc):=by obtain ⟨q,rfl⟩:=HQ.out; exact e4
    have d5:wr.cell? ⟨g,off+k * 6+5,none⟩=some (.slice uA vs.length uc):=by obtain ⟨q,rfl⟩:=HQ.out; exact e5
    rw [<- ha] at HT;rw [<- hb] at HU;have HMX:Hid (ntL (ys++[St.mk kk l s es us vs])=max m (max (1+a) (1+b))):=zhi (by rw [z6v,<- HM.out.1]; show max m (max (ntS _) 0)=_; rw [hmz2]; omega);have Hk1:Hid (k+1=(ys++[St.mk kk l s es us vs]).length):=zhi (by rw [HM.out.2]; simp);have HX2:Hid (ts=(ys++[St.mk kk l s es us vs])++zs):=zhi (by rw [HXS.out]; simp);have hDQ:Hid (∀ j,∃ q,wr.drewN j=w.drewN q):=zhi (fun j=>by obtain ⟨q,rfl⟩:=HQ.out; exact ⟨q+j,by rw [World.drewN_drewN]⟩);clear e0 e1 e2 e3 e4 e5 r1 r2 r3 f1 f2 f3 f4 hmz hmz2 ha hb hz hFg;have i1:(0:Int)<=(k:Int):=by omega
    have i2:(k:Int)<(n:Int):=by omega
    go_wp2_with fail;go_quiet ((go_at_call 28; (first | (with_reducible exact Calls.quiet_of (HT.out _ (hDQ.out _))) | (with_reducible exact Calls.quiet_of (HU.out _ (hDQ.out _))))));go_wp2_with fail;exact ⟨⟨ys++[.mk kk l s es us vs],zs,max m (max (1+a) (1+b)),k+1,HX2.out,by simp; omega,by go_num,zhi ⟨HMX.out.symm,Hk1.out⟩,zhi (hDQ.out _)⟩,by simp [intOf]; omega⟩
theorem z5I:∀ d:Nat,zcj d
 | 0=>z9m (fun _ h=>by omega)
 | d+1=>z9m (fun d' h=>by
                   obtain rfl:d=d':=by omega
                   exact z5I d)
mutual
def vrS:St->List Zb
 | .mk k _ s _ ts us=>(if k=1 then [s] else [])++vrL ts++vrL us
def vrL:List St->List Zb
 | []=>[]
 | x :: xs=>vrS x++vrL xs
end
theorem z2U:∀ (xs ys:List St),vrL (xs++ys)=vrL xs++vrL ys
 | [],_=>rfl
 | x :: xs,ys=>by
  show vrS x++vrL (xs++ys)=vrS x++vrL xs++vrL ys
  rw [z2U xs ys,List.append_assoc]
def NmsR (base:Nat) (ls:List Zb) (w:World) (e:Ending) (w':World):Prop:=∃ A m c,e=.returned (.slice A m c)/\m=ls.length/\w'.ownsRow base 9 1 (.slice A m c) ls.length (ls.map Value.string)/\Below base w w'
def zcl (d:Nat):Prop:=∀ (F:Nat->Prop) (D base:Nat) (ls:List Zb) (lA:Option Addr) (ln lc:Nat) (ts:List St) (A:Option Addr) (n c:Nat) (w:World),n=ts.length->ln=ls.length->w.ownsRow base 9 1 (.slice lA ln lc) ls.length (ls.map Value.string)->base<=w.heap.size->RowS F w D d ts A c->(∀ b,F b->b<base)->fwB ts->n<=1000000->ls.length+(vrL ts).length<=100000->Calls Tryz.prog 44 #[.slice lA ln lc,.slice A n c] w (NmsR base (ls++vrL ts) w)
theorem z30:(Tryz.prog.info? 9).map (fun i=>(i.zero,i.size,i.bytes))=some (some (.string ⟨#[]⟩),1,16):=by kernel_rfl
theorem z3D {ops:Array Oper} {rest:List Oper} {o:Oper} {a:Act} {Q:Exit->Act->World->Prop} (w:World) (hgd:o.guard=none) (s x:Operand)
  (ho:o.op=.call { callee:=.builtin .append,args:=#[s,x],argTypes:=#[80,80] }) (base:Nat) (v:Value) (ls:List Zb) (n:Zb)
  (hs:a.eval s=v) (hx:a.eval x=.slice (some ⟨w.heap.size,0,none⟩) 1 1) (h:w.ownsRow base 9 1 v ls.length (ls.map Value.string)) (hlen:ls.length<=1000000) (hbase:base<=w.heap.size)
  (hk:∀ g cap w',w'.ownsRow base 9 1 (.slice (some ⟨g,0,none⟩) (ls.length+1) cap) (ls++[n]).length ((ls++[n]).map Value.string)->Below base w w'->wpList Tryz.prog ops Q rest (a.put o.dst (.slice (some ⟨g,0,none⟩) (ls.length+1) cap)) w') :
  wpList Tryz.prog ops Q (o :: rest) a (w.alloc (.cells #[.string n] 9)):=by
 obtain ⟨i,hi,hz,hsz,hby⟩:=info_parts z30;refine wpList_append_lies _ hgd s x _ ho base 9 i _ 1 16 Tryz.underlying80 hi hz hsz hby rfl (by decide) v ls.length _ hs (h.alloc _) ⟨w.heap.size,0,none⟩ 1 1 [.string n] hx (by simp) ?_ ?_ (by decide) (by unfold maxLen; omega) (by omega) (by simp; omega) _ rfl fun g cap w' h1 h2 h3 _=>hk g cap w' (by simpa using h1) (((q_i base w).alloc hbase _).trans (z05 h2 (fun k hk=>(h.lt k hk).1) (by simp; omega)))
 ·intro j u hu;rw [Addr.add_lit,Nat.zero_add];exact (zcr _ (q_4 w _)).trans (by simpa using hu)
 ·intro u hu;simp at hu;subst hu;rfl
theorem zad {d:Nat} (hE:∀ d',d=d'+1->zcl d'):zcl d:=by
 intro F D base ls lA ln lc ts A n c w hn hln hown hbs h hF hf hn2 hnt;have hc:n<=c:=by rw [hn]; exact h.1
 have HE:=zhi hE;have Hn:=zhi hn;have H:=zhi h;have Hf:=zhi hf;have HF:=zhi hF;have Hnt:=zhi hnt;have Hown:=zhi hown;subst hln;clear hn h hf hE hnt hF hown;go_enter Tryz.func44,Tryz.ntmps44;go_wp2_with fail
 go_loopw [0,5] (fun v i wr=>∃ (ys zs:List St) (ms:List Zb) (mA:Option Addr) (mn mc k:Nat),ts=ys++zs/\v=.slice mA mn mc/\i=.int .i64 (k:Int)/\Hid (ms=ls++vrL ys/\k=ys.length/\mn=ms.length)/\Hid (wr.ownsRow base 9 1 (.slice mA mn mc) ms.length (ms.map Value.string))/\Hid (Below base w wr)) (fun _ i _=>n - (intOf i).toNat)
 case atStart=>exact ⟨[],ts,ls,lA,_,lc,0,rfl,rfl,rfl,zhi ⟨by simp [vrL],rfl,rfl⟩,Hown,zhi (q_i _ _)⟩
 case round =>
  obtain ⟨ys,zs,ms,mA,mn,mc,k,hxs,rfl,rfl,HM,HO,HB⟩:=hrel;have HXS:=zhi hxs;clear hxs;cases zs with
  | nil =>
   have hk:n<=k:=by rw [Hn.out,HM.out.2.1,HXS.out]; simp
   have HR:Hid (NmsR base (ls++vrL ts) w (.returned (.slice mA mn mc)) wr):=zhi ⟨mA,mn,mc,rfl,by rw [HM.out.2.2,HM.out.1,HXS.out,List.append_nil],by have h:=HO.out; rw [HM.out.1] at h; rw [HXS.out,List.append_nil]; exact h,HB.out⟩;go_wp2_with fail;go_ret;exact HR.out
  | cons z zs =>
   have hlt:k<n:=by rw [Hn.out,HM.out.2.1,HXS.out]; simp
   have hz:ts[k]?=some z:=by rw [HM.out.2.1,HXS.out]; simp
   cases d with
   | zero =>
    have:=z2u H.out;rw [this] at hz;cases hz
   | succ d' =>
    obtain ⟨g,off,kk,l,s,es,us,vs,eA,ec,tA,tc,uA,uc,rfl,rfl,hFg,e0,e1,e2,e3,e4,e5,r1,r2,r3⟩:=z28 H.out hz;obtain ⟨⟨f1,f2⟩,f3,f4⟩:=z71 Hf.out hz;have hcnt:ls.length+(vrL ys).length+((if kk=1 then [s] else []).length+(vrL us).length+(vrL vs).length)<=100000:=by
     have:=Hnt.out;rw [HXS.out,z2U] at this;have e:vrL (St.mk kk l s es us vs :: zs)=(if kk=1 then [s] else [])++vrL us++vrL vs++vrL zs:=rfl;rw [e] at this;simp only [List.length_append] at this;omega
    have hms:ms.length=ls.length+(vrL ys).length:=by rw [HM.out.1]; simp
    have HT:Hid (∀ (W:World) (ns:List Zb) (nA:Option Addr) (nn nc:Nat),Below base w W->nn=ns.length->W.ownsRow base 9 1 (.slice nA nn nc) ns.length (ns.map Value.string)->ns.length+(vrL us).length<=100000->Calls Tryz.prog 44 #[.slice nA nn nc,.slice tA us.length tc] W (NmsR base (ns++vrL us) W)):=zhi (fun W ns nA nn nc hb hnn ho hl=>HE.out d' rfl F D base ns nA nn nc us tA us.length tc W rfl hnn ho (q_9 hbs hb.size) (RowS.keep (w:=w) (fun _ h=>h) (fun b hb'=>hb.block b (HF.out b hb')) r2) HF.out f3 f1 hl);have HU:Hid (∀ (W:World) (ns:List Zb) (nA:Option Addr) (nn nc:Nat),Below base w W->nn=ns.length->W.ownsRow base 9 1 (.slice nA nn nc) ns.length (ns.map Value.string)->ns.length+(vrL vs).length<=100000->Calls Tryz.prog 44 #[.slice nA nn nc,.slice uA vs.length uc] W (NmsR base (ns++vrL vs) W)):=zhi (fun W ns nA nn nc hb hnn ho hl=>HE.out d' rfl F D base ns nA nn nc vs uA vs.length uc W rfl hnn ho (q_9 hbs hb.size) (RowS.keep (w:=w) (fun _ h=>h) (fun b hb'=>hb.block b (HF.out b hb')) r3) HF.out f4 f2 hl);have HCx:Hid (∀ W,Below base w W->W.cell? ⟨g,off+k * 6,none⟩=some (.int .i64 kk)/\W.cell? ⟨g,off+k * 6+2,none⟩=some (.string s)/\W.cell? ⟨g,off+k * 6+4,none⟩=some (.slice tA us.length tc)/\W.cell? ⟨g,off+k * 6+5,none⟩=some (.slice uA vs.length uc)):=zhi (fun W hb=>by
     have hk:∀ o,W.cell? ⟨g,o,none⟩=w.cell? ⟨g,o,none⟩:=fun o=>q_6 (hb.block g (HF.out g hFg))
     exact ⟨(hk _).trans e0,(hk _).trans e2,(hk _).trans e4,(hk _).trans e5⟩)
    have Hk1:Hid (k+1=(ys++[St.mk kk l s es us vs]).length):=zhi (by rw [HM.out.2.1]; simp);have HX2:Hid (ts=(ys++[St.mk kk l s es us vs])++zs):=zhi (by rw [HXS.out]; simp);have HV2:Hid (vrL (ys++[St.mk kk l s es us vs])=vrL ys++((if kk=1 then [s] else [])++vrL us++vrL vs)):=zhi (by rw [z2U]; simp [vrL,vrS]);obtain ⟨x0,x2,_,_⟩:=HCx.out wr HB.out;have Hcnt:=zhi hcnt;have Hms:=zhi hms;have hmle:ms.length<=100000:=by omega
    have Hmn:=zhi HM.out.2.2;clear e0 e1 e2 e3 e4 e5 r1 r2 r3 f1 f2 f3 f4 hz hFg hcnt hms;have i1:(0:Int)<=(k:Int):=by omega
    have i2:(k:Int)<(n:Int):=by omega
    go_upto_if 17 with fail
    go_cut [0] from 6 to 38 (fun v wd=>∃ (ns:List Zb) (nA:Option Addr) (nn nc:Nat),v=.slice nA nn nc/\nn=ns.length/\ns=ms++(if kk=1 then [s] else [])/\wd.ownsRow base 9 1 (.slice nA nn nc) ns.length (ns.map Value.string)/\Below base w wd)
    case first =>
     by_cases h1:kk=1
     ·subst h1;go_wp2_with (at_builtin; refine z07.out ?_);refine z07.of (z3D wr rfl (.tmp 18) (.tmp 24) rfl base (.slice mA mn mc) ms s rfl rfl HO.out (by omega) (q_9 hbs HB.out.size) ?_);intro g8 cap8 w8 ho8 hb8;have HO8:=zhi ho8;have HB8:=zhi (HB.out.trans hb8);clear ho8 hb8;go_wp2_with fail
      go_meet
      case rel=>exact ⟨ms++[s],_,_,_,rfl,by simp,by simp,HO8.out,HB8.out⟩
     ·have h1b:(kk == 1)=false:=by simpa using h1
      have H1:=zhi h1;clear h1;go_wp2_with fail
      go_meet
      case rel=>exact ⟨ms,_,_,_,rfl,Hmn.out,by rw [if_neg H1.out,List.append_nil],HO.out,HB.out⟩
    case rest =>
     obtain ⟨ns,nA,nn,nc,rfl,hnn,hns,hno,hbw⟩:=hcut;have hnl:ns.length+(vrL us).length<=100000/\(ns++vrL us).length+(vrL vs).length<=100000:=by
      have e:ns.length=ms.length+(if kk=1 then [s] else []).length:=by rw [hns]; simp
      rw [List.length_append,e,Hms.out];have:=Hcnt.out;omega
     have HNL:=zhi hnl;have HNN:=zhi hnn;have HNS:=zhi hns;have HNO:Hid (wc.drew.ownsRow base 9 1 (.slice nA nn nc) ns.length (ns.map Value.string)):=zhi hno;have HBW:=zhi hbw;have hS0:wc.drew.cell? ⟨g,off+k * 6+4,none⟩=some (.slice tA us.length tc)/\wc.drew.cell? ⟨g,off+k * 6+5,none⟩=some (.slice uA vs.length uc)/\Below base w wc.drew:=⟨(HCx.out wc hbw).2.2.1,(HCx.out wc hbw).2.2.2,hbw.drew⟩;have HS0:=zhi hS0;clear hnl hnn hns hno hbw hS0 x0 x2;go_upto_region 6 with fail
     go_region_held3 (fun w'=>w'.cell? ⟨g,off+k * 6+4,none⟩=some (.slice tA us.length tc)/\w'.cell? ⟨g,off+k * 6+5,none⟩=some (.slice uA vs.length uc)/\Below base w w')
      (first | (with_reducible exact HS0.out) | (with_reducible exact HS2.out) | (with_reducible exact HS3.out))
      (first | (go_at_call 44; (first
        | ((with_reducible refine (HT.out _ ns nA nn nc HS0.out.2.2 HNN.out HNO.out HNL.out.1).mono ?_); rintro e w2 ⟨A2,m2,c2,rfl,hm2,ho2,hb2⟩; have HM2:=zhi hm2; have HO2:=zhi ho2; have hb2a:=HS0.out.2.2.trans hb2; have HS2:=zhi (And.intro (HCx.out _ hb2a).2.2.1 (And.intro (HCx.out _ hb2a).2.2.2 hb2a)); clear hm2 ho2 hb2 hb2a)
        | ((with_reducible refine (HU.out _ (ns++vrL us) A2 m2 c2 HS2.out.2.2 HM2.out HO2.out HNL.out.2).mono ?_); rintro e w3 ⟨A3,m3,c3,rfl,hm3,ho3,hb3⟩; have HM3:=zhi hm3; have HO3:=zhi ho3; have hb3a:=HS2.out.2.2.trans hb3; have HS3:=zhi (And.intro (HCx.out _ hb3a).2.2.1 (And.intro (HCx.out _ hb3a).2.2.2 hb3a)); clear hm3 ho3 hb3 hb3a))))
     dsimp only [Exit.then,Exit.inBlock];have HR:Hid (∃ (ys' zs':List St) (ms':List Zb) (mA':Option Addr) (mn' mc' k':Nat),ts=ys'++zs'/\Value.slice A3 m3 c3=.slice mA' mn' mc'/\Value.int .i64 ((k:Int)+1)=.int .i64 (k':Int)/\Hid (ms'=ls++vrL ys'/\k'=ys'.length/\mn'=ms'.length)/\Hid (w3.ownsRow base 9 1 (.slice mA' mn' mc') ms'.length (ms'.map Value.string))/\Hid (Below base w w3)):=zhi ⟨ys++[St.mk kk l s es us vs],zs,ns++vrL us++vrL vs,A3,m3,c3,k+1,HX2.out,rfl,by go_num,zhi ⟨by rw [HNS.out,HM.out.1,HV2.out]; simp only [List.append_assoc],Hk1.out,HM3.out⟩,HO3,zhi HS3.out.2.2⟩;go_wp2_with fail;exact ⟨HR.out,by simp [intOf]; omega⟩
theorem z4k:∀ d:Nat,zcl d
 | 0=>zad (fun _ h=>by omega)
 | d+1=>zad (fun d' h=>by
                   obtain rfl:d=d':=by omega
                   exact z4k d)
theorem z37 {F:Nat->Prop} {w:World} (ty:TypeId) (ps:List Zb) (pA:Option Addr) (n pc:Nat) (hn:n=ps.length) (hp:z0l F w ps pA pc) (hlen:n<=1000) :
  ∃ lA lc w',(Builtin.append_ #[80,80] ty #[.slice none 0 0,.slice pA n pc]).run Tryz.prog w=.ok (.slice lA n lc) w'/\w'.ownsRow w.heap.size 9 1 (.slice lA n lc) ps.length (ps.map Value.string)/\Below w.heap.size w w':=by
 subst hn;obtain ⟨i,hi,hz,hsz,hby⟩:=info_parts z30;have hnil:=World.ownsRow_nil w w.heap.size 9 1;rcases Nat.eq_zero_or_pos ps.length with h0 | hpos
 ·refine ⟨none,0,w,?_,?_,q_i _ _⟩
  ·rw [h0];cases pA <;> simp [Builtin.append_,run_underlying Tryz.underlying80,sizeOf,typeInfo,hi,Builtin.lenOf,Builtin.firstCells,loadCells,loadCellsFrom]
  ·rw [q_g h0];exact hnil
 ·obtain ⟨g,hA,_,_⟩:=hp.2 0 _ (q_7 hpos);subst hA;obtain ⟨v',w',hr,ho,hg,_,_⟩:=run_append_own_at (P:=Tryz.prog) w w.heap.size 80 ty 9 i _ 1 16 Tryz.underlying80 hi hz hsz hby rfl (by decide) (.slice none 0 0) 0 [] hnil ⟨g,0,none⟩ ps.length pc (ps.map Value.string) (by simp) (fun j u hu=>by
   rw [q_b] at hu;obtain ⟨y,hy,rfl⟩:=q_c.1 hu;obtain ⟨g',hg',_,hc⟩:=hp.2 j y hy;injection hg' with hg';injection hg' with hg';subst hg';rw [Addr.add_lit,Nat.zero_add];exact hc) (fun u hu=>by
   obtain ⟨y,_,rfl⟩:=List.mem_map.1 hu;rfl) (by unfold maxLen; omega) (by omega) (q_2 _)
  simp only [Nat.zero_add,List.nil_append] at ho;obtain ⟨lA,lc,rfl⟩:=z0x ho;exact ⟨lA,lc,w',hr,ho,hg.os,hg.tape,hg.output,hg.size,fun k hk=>hg.block k hk (fun e=>by cases e)⟩
theorem z3A {F:Nat->Prop} {ops:Array Oper} {rest:List Oper} {o:Oper} {a:Act} {Q:Exit->Act->World->Prop} (w:World) (hgd:o.guard=none) (s x:Operand)
  (ho:o.op=.call { callee:=.builtin .append,args:=#[s,x],argTypes:=#[80,80] }) (ps:List Zb) (pA:Option Addr) (n pc:Nat) (hn:n=ps.length) (hs:a.eval s=.slice none 0 0) (hx:a.eval x=.slice pA n pc) (hp:z0l F w ps pA pc) (hlen:n<=1000)
  (hk:∀ lA lc w',w'.ownsRow w.heap.size 9 1 (.slice lA n lc) ps.length (ps.map Value.string)->Below w.heap.size w w'->wpList Tryz.prog ops Q rest (a.put o.dst (.slice lA n lc)) w') :
  wpList Tryz.prog ops Q (o :: rest) a w:=by
 refine wpList_plain hgd fun K hK=>?_
 obtain ⟨lA,lc,w',hrun,h1,h2⟩:=z37 o.type ps pA n pc hn hp hlen;unfold Oper.wp;simp [execOp,ho,resolve,invoke,builtin,hs,hx,hrun,Result.andThen];exact hK _ _ (hk lA lc w' h1 h2)
theorem z23 {F:Nat->Prop} {ops:Array Oper} {o:Oper} {a:Act} {K:Act->World->Prop} {Q:Exit->Act->World->Prop} {E:Prop} (w:World) (hgd:o.guard=none) (s x:Operand)
  (ho:o.op=.call { callee:=.builtin .append,args:=#[s,x],argTypes:=#[80,80] }) (ps:List Zb) (pA:Option Addr) (n pc:Nat) (hn:n=ps.length) (hs:a.eval s=.slice none 0 0) (hx:a.eval x=.slice pA n pc) (hp:z0l F w ps pA pc) (hlen:n<=1000)
  (hk:∀ lA lc w',w'.ownsRow w.heap.size 9 1 (.slice lA n lc) ps.length (ps.map Value.string)->Below w.heap.size w w'->K (a.put o.dst (.slice lA n lc)) w') :
  if Region.wanted o (yielded ops a.tmps)=true then Oper.wp Tryz.prog o a w K Q else E:=by
 rw [if_pos (by simp [Region.wanted,hgd])];obtain ⟨lA,lc,w',hrun,h1,h2⟩:=z37 o.type ps pA n pc hn hp hlen;unfold Oper.wp;simp [execOp,ho,resolve,invoke,builtin,hs,hx,hrun,Result.andThen];exact hk lA lc w' h1 h2
theorem zaU {F:Nat->Prop} {D d:Nat} (nm:Zb) (l:Int) (ps:List Zb) (pA:Option Addr) (pn pc:Nat) (ts:List St) (A:Option Addr) (n c:Nat) (w:World) (hpn:pn=ps.length) (hn:n=ts.length) (hp:z0l F w ps pA pc) (h:RowS F w D d ts A c) (hF:∀ b,F b->b<w.heap.size) (hf:fwB ts) (hn2:n<=1000000) (hp2:pn<=1000) (hl:ps.length+(vrL ts).length<=100000) :
  Calls Tryz.prog 27 #[.agg #[.string nm,.int .i64 l,.slice pA pn pc,.slice A n c]] w fun e w'=>(∃ B m k,e=.returned (.slice B m k)/\m=ps.length+(vrL ts).length)/\Below w.heap.size w w':=by
 have hb1:=(q_i w.heap.size w).alloc (q_2 _) (.cells #[.string nm,.int .i64 l,.slice pA pn pc,.slice A n c] 83);have hr1:=q_4 w (.cells #[.string nm,.int .i64 l,.slice pA pn pc,.slice A n c] 83);obtain ⟨W,hW⟩:∃ W,W=w.alloc (.cells #[.string nm,.int .i64 l,.slice pA pn pc,.slice A n c] 83):=⟨_,rfl⟩;have hlt:w.heap.size<W.heap.size:=by rw [hW]; simp
 rw [<- hW] at hb1 hr1;have HV:Hid (∀ (W2:World) (base:Nat) (lA:Option Addr) (lc:Nat),Below W.heap.size W W2->W.heap.size<=base->base<=W2.heap.size->W2.ownsRow base 9 1 (.slice lA pn lc) ps.length (ps.map Value.string)->Calls Tryz.prog 44 #[.slice lA pn lc,.slice A n c] W2 (NmsR base (ps++vrL ts) W2)):=zhi (fun W2 base lA lc hb hbs hbs2 ho=>by
  have hlo:=hb1.trans (hb.mono hb1.size);exact z4k d F D base ps lA pn lc ts A n c W2 hn hpn ho hbs2 (RowS.keep (w:=w) (fun _ h=>h) (fun b hb'=>hlo.block b (hF b hb')) h) (fun b hb'=>q_1 (hF b hb') (q_9 hb1.size hbs)) hf hn2 hl)
 have HP:Hid (∀ W2,Below W.heap.size W W2->z0l F W2 ps pA pc):=zhi (fun W2 hb=>hp.keepR (fun _ h=>h) (fun b hb'=>(hb1.trans (hb.mono hb1.size)).block b (hF b hb')));have HC:Hid (∀ W2,Below W.heap.size W W2->W2.cell? ⟨w.heap.size,2,none⟩=some (.slice pA pn pc)/\W2.cell? ⟨w.heap.size,3,none⟩=some (.slice A n c)/\Below W.heap.size W W2):=zhi (fun W2 hb=>⟨zcr 2 ((hb.block _ hlt).trans hr1),zcr 3 ((hb.block _ hlt).trans hr1),hb⟩);have HS0:=zhi (HC.out W.drew (q_i W.heap.size W).drew);have HB1:=zhi hb1;have Hpn:=zhi hpn;clear hb1 hr1 h hp hF hf hl hn hpn;go_enter Tryz.func27,Tryz.ntmps27;go_upto_region 1 with fail;rw [<- hW];clear hW
 go_region_held3 (fun w'=>w'.cell? ⟨w.heap.size,2,none⟩=some (.slice pA pn pc)/\w'.cell? ⟨w.heap.size,3,none⟩=some (.slice A n c)/\Below W.heap.size W w')
  (first | (with_reducible exact HS0.out) | (with_reducible exact HS2.out) | (with_reducible exact HS3.out))
  (first
   | ((with_reducible refine z23 _ rfl (.const (.slice none 0 0)) (.tmp 4) rfl ps pA pn pc Hpn.out rfl rfl (HP.out _ HS0.out.2.2) hp2 ?_); intro lA lc w2 ho2 hb2; have HO2:Hid (w2.ownsRow W.heap.size 9 1 (.slice lA pn lc) ps.length (ps.map Value.string)):=zhi ho2; have hb2a:=z08 HS0.out.2.2 hb2; have HS2:=zhi (HC.out _ hb2a); clear ho2 hb2 hb2a)
   | (go_at_call 44; (with_reducible refine (HV.out _ _ lA lc HS2.out.2.2 (q_2 _) HS2.out.2.2.size HO2.out).mono ?_); rintro e w3 ⟨A3,m3,c3,rfl,hm3,ho3,hb3⟩; have HM3:=zhi hm3; have hb3a:=HS2.out.2.2.trans hb3; have HS3:=zhi (HC.out _ hb3a); clear hm3 ho3 hb3 hb3a))
 have HR:Hid ((∃ B m k,Ending.returned (Value.slice A3 m3 c3)=.returned (.slice B m k)/\m=ps.length+(vrL ts).length)/\Below w.heap.size w w3):=zhi ⟨⟨A3,m3,c3,rfl,by rw [HM3.out]; simp⟩,HB1.out.trans (HS3.out.2.2.mono HB1.out.size)⟩;dsimp only [Exit.then,Exit.inBlock];go_wp2_with fail;go_ret;exact HR.out
def lbR (w:World) (p:Nat):Option Nat:=match w.cell? ⟨p,2,none⟩ with | some v=>v.ownBlock | none=>none
theorem z43 {w w':World} {p:Nat} (h:w'.cell? ⟨p,2,none⟩=w.cell? ⟨p,2,none⟩):lbR w' p=lbR w p:=by unfold lbR; rw [h]
theorem z4B {w:World} {p:Nat} {v:Value} (h:w.cell? ⟨p,2,none⟩=some v):lbR w p=v.ownBlock:=by unfold lbR; rw [h]
structure ChR (p:Nat) (w w':World):Prop where
 os:w'.os=w.os
 tape:w'.tape=w.tape
 output:w'.output=w.output
 size:w.heap.size<=w'.heap.size
 block:∀ k,k<w.heap.size->k≠p->lbR w p≠some k->w'.heap[k]?=w.heap[k]?
 lbs:lbR w' p=lbR w p\/∃ k,lbR w' p=some k/\w.heap.size<=k
theorem ChR.refl (p:Nat) (w:World):ChR p w w:=⟨rfl,rfl,rfl,q_2 _,fun _ _ _ _=>rfl,.inl rfl⟩
theorem ChR.trans {p:Nat} {a b c:World} (h:ChR p a b) (k:ChR p b c):ChR p a c:=by
 refine ⟨k.os.trans h.os,k.tape.trans h.tape,k.output.trans h.output,q_9 h.size k.size,fun i hi h1 h3=>?_,?_⟩
 ·refine (k.block i (q_1 hi h.size) h1 ?_).trans (h.block i hi h1 h3);rcases h.lbs with e | ⟨q,e,hq⟩
  ·rw [e]; exact h3
  ·rw [e];intro e2;injection e2 with e2;omega
 ·rcases k.lbs with e | ⟨q,e,hq⟩
  ·rw [e];exact h.lbs
  ·exact .inr ⟨q,e,q_9 h.size hq⟩
theorem ChR.far {p:Nat} {w0 w w':World} (h:ChR p w0 w) (hb:Below w0.heap.size w w') (hp:p<w0.heap.size):ChR p w0 w':=by
 have hl:lbR w' p=lbR w p:=z43 (q_6 (hb.block p hp));exact ⟨hb.os.trans h.os,hb.tape.trans h.tape,hb.output.trans h.output,q_9 h.size hb.size,fun k hk h1 h3=>(hb.block k hk).trans (h.block k hk h1 h3),by rw [hl]; exact h.lbs⟩
theorem ChR.below {p:Nat} {w w':World} (hb:Below w.heap.size w w') (hp:p<w.heap.size):ChR p w w':=(ChR.refl p w).far hb hp
theorem z57 {p:Nat} {w w':World} (h:ChR p w w') {b:Nat} (hb:b<w.heap.size) (hl:lbR w p≠some b):lbR w' p≠some b:=by
 rcases h.lbs with e | ⟨q,e,hq⟩
 ·rw [e]; exact hl
 ·rw [e];intro e2;injection e2 with e2;omega
def MdR (p:Nat) (w0:World) (q:Nat) (w:World) (b:Nat):Prop:=(w0.heap.size<=b/\b<w.heap.size/\lbR w p≠some b)/\b≠q
theorem z5a {p q:Nat} {w0 w w':World} (h:ChR p w w') (hp:p<w0.heap.size):∀ b,MdR p w0 q w b->MdR p w0 q w' b/\w'.heap[b]?=w.heap[b]?:=fun b ⟨⟨h1,h2,h3⟩,h4⟩ =>
 ⟨⟨⟨h1,q_1 h2 h.size,z57 h h2 h3⟩,h4⟩,h.block b h2 (by omega) h3⟩
theorem z22 {p q:Nat} {w0 w:World} (i:Nat) (v:Value) (hq:q≠p) (hpw:p<w.heap.size):∀ b,MdR p w0 q w b->MdR p w0 q (w.setCell ⟨q,i,none⟩ v) b/\(w.setCell ⟨q,i,none⟩ v).heap[b]?=w.heap[b]?:=fun b ⟨⟨h1,h2,h3⟩,h4⟩=>by
 have hg:=z03 w ⟨q,i,none⟩ v;have hl:lbR (w.setCell ⟨q,i,none⟩ v) p=lbR w p:=z43 (q_6 (hg.block p hpw (fun e=>hq (by injection e with e; exact e.symm))));exact ⟨⟨⟨h1,q_1 h2 hg.size,by rw [hl]; exact h3⟩,h4⟩,hg.block b h2 (fun e=>h4 (by injection e))⟩
theorem zcv {p q:Nat} {w w':World} {o:Obj} (h:ChR p w w') (hr:w.heap[q]?=some o) (hq:q≠p) (hl:lbR w p≠some q):w'.heap[q]?=some o/\lbR w' p≠some q :=
 ⟨(h.block q (q_0.1 hr).1 hq hl).trans hr,z57 h (q_0.1 hr).1 hl⟩
section
variable {F:Nat->Prop} {base D d:Nat} {gl:GlL} {fl:List Fn} {p:Nat} {ls:List Zb} {w w':World}
theorem ScR.lbl (h:ScR F base D d gl fl p ls w):∀ b,lbR w p=some b->base<=b/\b<w.heap.size/\b≠p:=by
 obtain ⟨gA,gc,fA,fc,v,h1,h2,h3,h4,h5,h6,h7,h8⟩:=h;intro b hb;rw [z4B (zcr 2 h5)] at hb;have hb2:v.ownBlock=some b:=by simpa using hb
 exact ⟨(h6.lt b hb2).1,(h6.lt b hb2).2,fun e=>h7 (by rw [hb2,e])⟩
theorem ScR.far {b:Nat} (h:ScR F base D d gl fl p ls w) (hg:w.grownBy w' (some b)) (hb:base<=b) (hp:b≠p) (hl:lbR w p≠some b):ScR F base D d gl fl p ls w':=by
 have hlb:=z4B (w:=w) (p:=p) (v:=(w.cell? ⟨p,2,none⟩).getD undef);obtain ⟨gA,gc,fA,fc,v,h1,h2,h3,h4,h5,h6,h7,h8⟩:=h;have hlt:=(q_0.1 h5).1;have hv:lbR w p=v.ownBlock:=by simpa using z4B (zcr 2 h5)
 exact ⟨gA,gc,fA,fc,v,h1.keep (fun _ h=>h) (fun c hc=>hg.block c (q_1 (h2 c hc) h4) (fun e=>by injection e with e; have:=h2 c hc; omega)),h2,h3,q_9 h4 hg.size,(hg.block p hlt (fun e=>by injection e with e; exact hp e.symm)).trans h5,
  z1j h6 (fun c hc=>hg.block c (h6.lt c hc).2 (fun e=>by injection e with e; subst e; exact hl (by rw [hv,hc]))),h7,h8⟩
theorem ScR.push {wa wx:World} {v:Value} {g cap:Nat} {s:Zb} (h:ScR F base D d gl fl p ls w) (hv:w.cell? ⟨p,2,none⟩=some v) (ha:Below w.heap.size w wa) (hown:wx.ownsRow base 9 1 (.slice (some ⟨g,0,none⟩) (ls.length+1) cap) (ls.length+1) (ls.map Value.string++[.string s])) (hg:wa.grownBy wx v.ownBlock) (hat:v.ownBlock=some g\/g=wa.heap.size) (hlen:ls.length+1<=1000000) :
  ScR F base D d gl fl p (ls++[s]) (wx.setCell ⟨p,2,none⟩ (.slice (some ⟨g,0,none⟩) (ls.length+1) cap))/\ChR p w (wx.setCell ⟨p,2,none⟩ (.slice (some ⟨g,0,none⟩) (ls.length+1) cap))/\wx.cell? ⟨p,2,none⟩=some v/\wx.frozen? ⟨p,2,none⟩=false:=by
 have hlw:=h.plt;obtain ⟨gA,gc,fA,fc,v',h1,h2,h3,h4,h5,h6,h7,h8⟩:=h;have hvv:v'=v:=by
  have:=zcr 2 h5;rw [hv] at this;simpa using this.symm
 subst hvv;have hlb:lbR w p=v'.ownBlock:=z4B hv;have has:=ha.size;have hgs:=hg.size;have hpx:wx.heap[p]?=_:=(hg.block p (by omega) (fun e=>h7 e.symm)).trans ((ha.block p hlw).trans h5);have hsg:=z03 wx ⟨p,2,none⟩ (.slice (some ⟨g,0,none⟩) (ls.length+1) cap);have hgp:g≠p:=by
  rcases hat with e | e
  ·intro e2; subst e2; exact h7 e
  ·omega
 have hrow:=z0a (i:=2) (.slice (some ⟨g,0,none⟩) (ls.length+1) cap) hpx;have hl2:lbR (wx.setCell ⟨p,2,none⟩ (.slice (some ⟨g,0,none⟩) (ls.length+1) cap)) p=some g:=by
  rw [z4B (v:=.slice (some ⟨g,0,none⟩) (ls.length+1) cap) (by rw [zcr 2 hrow]; rfl)];rfl
 have hbx:∀ c,c<w.heap.size->c≠p->v'.ownBlock≠some c->(wx.setCell ⟨p,2,none⟩ (.slice (some ⟨g,0,none⟩) (ls.length+1) cap)).heap[c]?=w.heap[c]?:=fun c hc h1 h2 =>
  (hsg.block c (by omega) (fun e=>h1 (by injection e))).trans ((hg.block c (by omega) (fun e=>h2 e.symm)).trans (ha.block c hc))
 refine ⟨⟨gA,gc,fA,fc,_,h1.keep (fun _ h=>h) (fun c hc=>hbx c (q_1 (h2 c hc) h4) (by have:=h2 c hc; omega) (fun e=>by have:=(h6.lt c e).1; have:=h2 c hc; omega)),h2,h3,q_9 h4 (q_9 has (q_9 hgs hsg.size)),hrow,?_,fun e=>hgp (by simpa [Value.ownBlock] using e),by simp; omega⟩,⟨?_,?_,?_,q_9 has (q_9 hgs hsg.size),fun c hc h1 h3=>hbx c hc h1 (by rw [<- hlb]; exact h3),?_⟩,by rw [zcr 2 hpx]; rfl,z09 hpx 2⟩
 ·have:=z1j hown (fun c hc=>hsg.block c (hown.lt c hc).2 (fun e=>by
   have e2:g=c:=by simpa [Value.ownBlock] using hc
   injection e with e;exact hgp (by rw [e2,e])))
  simpa using this
 ·exact hsg.os.trans (hg.os.trans ha.os)
 ·exact hsg.tape.trans (hg.tape.trans ha.tape)
 ·exact hsg.output.trans (hg.output.trans ha.output)
 ·rw [hl2,hlb];rcases hat with e | e
  ·exact .inl e.symm
  ·exact .inr ⟨g,rfl,by omega⟩
end
theorem z96:(Tryz.prog.info? 121).map (fun i=>(i.zero,i.size,i.bytes))=some (some (.agg #[.int .i64 0,.int .i64 0,.string ⟨#[]⟩,.slice none 0 0,.slice none 0 0,.slice none 0 0]),6,104):=by kernel_rfl
structure StRr (m base D d:Nat) (w:World) (v:Value) (ts:List St) (L:List Value):Prop where
 own:w.ownsRow base 121 6 v ts.length L
 sep:∀ b,v.ownBlock=some b->lbR w m≠some b
 at_:∀ j x,ts[j]?=some x->∃ c0 c1 c2 c3 c4 c5,L[j * 6]?=some c0/\L[j * 6+1]?=some c1/\L[j * 6+2]?=some c2/\L[j * 6+3]?=some c3/\L[j * 6+4]?=some c4/\L[j * 6+5]?=some c5/\StV (fun b=>base<=b/\b<w.heap.size/\v.ownBlock≠some b/\lbR w m≠some b) w D d x (.agg #[c0,c1,c2,c3,c4,c5])
theorem StRr.nil (m base D d:Nat) (w:World):StRr m base D d w (.slice none 0 0) [] []:=⟨World.ownsRow_nil _ _ _ _,fun b h=>by simp [Value.ownBlock] at h,fun j x h=>by simp at h⟩
theorem StRr.chg {m base D d:Nat} {w w':World} {v:Value} {ts:List St} {L:List Value} (h:StRr m base D d w v ts L) (hc:ChR m w w') (hm:m<base):StRr m base D d w' v ts L:=by
 refine ⟨?_,fun b hb=>z57 hc (h.own.lt b hb).2 (h.sep b hb),fun j x hj=>?_⟩
 ·rcases h.own.2 with hn | ⟨g',cap,cur,e,hb',hh,rest⟩
  ·exact ⟨h.own.1,.inl hn⟩
  ·exact ⟨h.own.1,.inr ⟨g',cap,cur,e,hb',(hc.block g' (q_0.1 hh).1 (by omega) (h.sep g' (by rw [e]; rfl))).trans hh,rest⟩⟩
 ·obtain ⟨c0,c1,c2,c3,c4,c5,e0,e1,e2,e3,e4,e5,hx⟩:=h.at_ j x hj;exact ⟨c0,c1,c2,c3,c4,c5,e0,e1,e2,e3,e4,e5,hx.keep (fun k hk=>⟨hk.1,q_1 hk.2.1 hc.size,hk.2.2.1,z57 hc hk.2.1 hk.2.2.2⟩) (fun k hk=>hc.block k hk.2.1 (by omega) hk.2.2.2)⟩
theorem StRr.push {m base D d g:Nat} {w wa w':World} {v:Value} {ts:List St} {L:List Value} {x:St} {cap:Nat} {c0 c1 c2 c3 c4 c5:Value} {F:Nat->Prop} (h:StRr m base D d w v ts L) (hx:StV F w D d x (.agg #[c0,c1,c2,c3,c4,c5])) (hF:∀ b,F b->base<=b/\b<w.heap.size/\v.ownBlock≠some b/\lbR w m≠some b)
  (hm:m<base) (hmw:m<w.heap.size) (hlb:∀ b,lbR w m=some b->b<w.heap.size) (hown:w'.ownsRow base 121 6 (.slice (some ⟨g,0,none⟩) (ts.length+1) cap) (ts.length+1) (L++[c0,c1,c2,c3,c4,c5])) (ha:Below w.heap.size w wa) (hg:wa.grownBy w' v.ownBlock) (hat:v.ownBlock=some g\/g=wa.heap.size) :
  StRr m base D d w' (.slice (some ⟨g,0,none⟩) (ts.length+1) cap) (ts++[x]) (L++[c0,c1,c2,c3,c4,c5]):=by
 have hL:L.length=ts.length * 6:=h.own.1;have has:=ha.size;have hl:lbR w' m=lbR w m:=z43 (q_6 ((hg.block m (q_1 hmw has) (fun e=>by have:=(h.own.lt m e.symm).1; omega)).trans (ha.block m hmw)));have step:∀ {F:Nat->Prop} {y:St} {u:Value},StV F w D d y u->(∀ b,F b->base<=b/\b<w.heap.size/\v.ownBlock≠some b/\lbR w m≠some b)->StV (fun b=>base<=b/\b<w'.heap.size/\(Value.slice (some ⟨g,0,none⟩) (ts.length+1) cap).ownBlock≠some b/\lbR w' m≠some b) w' D d y u:=fun hy hF=>hy.keep (fun b hb=>by
   obtain ⟨h1,h2,h3,h4⟩:=hF b hb;refine ⟨h1,q_1 h2 (q_9 ha.size hg.size),?_,by rw [hl]; exact h4⟩;intro e;have e2:g=b:=by simpa [Value.ownBlock] using e
   subst e2;rcases hat with hh | hh
   ·exact h3 hh
   ·omega) (fun b hb=>by
   obtain ⟨h1,h2,h3,_⟩:=hF b hb;exact (hg.block b (q_1 h2 ha.size) (fun e=>h3 e.symm)).trans (ha.block b h2))
 refine ⟨by simpa using hown,fun b hb=>?_,fun j y hj=>?_⟩
 ·have e2:g=b:=by simpa [Value.ownBlock] using hb
  subst e2;rw [hl];rcases hat with hh | hh
  ·exact h.sep g hh
  ·intro e;have:=hlb g e;omega
 rcases q_f j ts.length with hlt | hge
 ·rw [List.getElem?_append_left hlt] at hj;obtain ⟨d0,d1,d2,d3,d4,d5,e0,e1,e2,e3,e4,e5,hy⟩:=h.at_ j y hj;have hl:∀ k u,L[k]?=some u->(L++[c0,c1,c2,c3,c4,c5])[k]?=some u:=fun k u hk=>by
   have hk2:k<L.length:=by
    rcases q_f k L.length with h' | h'
    ·exact h'
    ·rw [q_j h'] at hk; cases hk
   rw [List.getElem?_append_left hk2]; exact hk
  exact ⟨d0,d1,d2,d3,d4,d5,hl _ _ e0,hl _ _ e1,hl _ _ e2,hl _ _ e3,hl _ _ e4,hl _ _ e5,step hy (fun b hb=>hb)⟩
 ·have hjx:j=ts.length:=by
   rcases q_f ts.length j with h' | h'
   ·rw [q_j (by simp; omega)] at hj; cases hj
   ·omega
  subst hjx;simp at hj;subst hj;have hr:∀ k,(L++[c0,c1,c2,c3,c4,c5])[ts.length * 6+k]?=[c0,c1,c2,c3,c4,c5][k]?:=fun k=>by
   rw [List.getElem?_append_right (by omega)]
   congr 1
   omega
  exact ⟨c0,c1,c2,c3,c4,c5,hr 0,hr 1,hr 2,hr 3,hr 4,hr 5,step hx hF⟩
theorem StRr.row {m base D d:Nat} {w:World} {A:Option Addr} {n c:Nat} {ts:List St} {L:List Value} (h:StRr m base D d w (.slice A n c) ts L):n=ts.length/\RowS (fun b=>base<=b/\b<w.heap.size/\lbR w m≠some b) w D d ts A c:=by
 rcases h.own.2 with ⟨e,h0⟩ | ⟨g,cap,cur,e,hb,hh,hc,_⟩
 ·injection e with e1 e2 e3;subst e1 e2 e3;exact ⟨h0.symm,by rw [h0]; exact q_2 _,fun i x hi=>by rw [q_g h0] at hi; simp at hi⟩
 ·injection e with e1 e2 e3;subst e1 e2 e3;refine ⟨rfl,hc,fun i x hi=>?_⟩;obtain ⟨c0,c1,c2,c3,c4,c5,e0,e1,e2,e3,e4,e5,hx⟩:=h.at_ i x hi;have hi2:i<ts.length:=by
   rcases q_f i ts.length with h' | h'
   ·exact h'
   ·rw [q_j h'] at hi; cases hi
  have hcell:∀ k u,L[k]?=some u->w.cell? ⟨g,0+k,none⟩=some u:=fun k u hk=>by
   rw [Nat.zero_add];have hk2:k<L.length:=by
    rcases q_f k L.length with h' | h'
    ·exact h'
    ·rw [q_j h'] at hk; cases hk
   exact (h.own.cellAt k (by have:=h.own.1; omega)).trans hk
  exact ⟨g,0,c0,c1,c2,c3,c4,c5,rfl,⟨hb,(q_0.1 hh).1,h.sep g rfl⟩,hcell _ _ e0,hcell _ _ e1,hcell _ _ e2,hcell _ _ e3,hcell _ _ e4,hcell _ _ e5,hx.keep (fun b hb=>⟨hb.1,hb.2.1,hb.2.2.2⟩) (fun _ _=>rfl)⟩
theorem z3p {ops:Array Oper} {rest:List Oper} {o:Oper} {a:Act} {Q:Exit->Act->World->Prop} (w:World) (hgd:o.guard=none) (s x:Operand)
  (ho:o.op=.call { callee:=.builtin .append,args:=#[s,x],argTypes:=#[81,81] }) (m base D d:Nat) (v:Value) (ts:List St) (L:List Value) (y:St) (k l:Int) (t:Zb) (eA tA uA:Option Addr) (en ec tn tc un uc:Nat) (F:Nat->Prop)
  (hs:a.eval s=v) (hx:a.eval x=.slice (some ⟨w.heap.size,0,none⟩) 1 1) (h:StRr m base D d w v ts L) (hlen:ts.length<=1000000) (hbase:base<=w.heap.size) (hm:m<base) (hlb:∀ b,lbR w m=some b->b<w.heap.size)
  (hy:StV F w D d y (.agg #[.int .i64 k,.int .i64 l,.string t,.slice eA en ec,.slice tA tn tc,.slice uA un uc])) (hF:∀ b,F b->base<=b/\b<w.heap.size/\v.ownBlock≠some b/\lbR w m≠some b)
  (hk:∀ g cap w',StRr m base D d w' (.slice (some ⟨g,0,none⟩) (ts.length+1) cap) (ts++[y]) (L++[.int .i64 k,.int .i64 l,.string t,.slice eA en ec,.slice tA tn tc,.slice uA un uc])->w.grownBy w' v.ownBlock->wpList Tryz.prog ops Q rest (a.put o.dst (.slice (some ⟨g,0,none⟩) (ts.length+1) cap)) w') :
  wpList Tryz.prog ops Q (o :: rest) a (w.alloc (.cells #[.int .i64 k,.int .i64 l,.string t,.slice eA en ec,.slice tA tn tc,.slice uA un uc] 121)):=by
 obtain ⟨i,hi,hz,hsz,hby⟩:=info_parts z96;refine wpList_append_lies _ hgd s x _ ho base 121 i _ 6 104 Tryz.underlying81 hi hz hsz hby rfl (by decide) v ts.length L hs (h.own.alloc _) ⟨w.heap.size,0,none⟩ 1 1 [.int .i64 k,.int .i64 l,.string t,.slice eA en ec,.slice tA tn tc,.slice uA un uc] hx (by simp) ?_ ?_ (by decide) (by unfold maxLen; omega) (by omega) (by simp; omega) _ rfl fun g cap w' h1 h2 h3 _=>hk g cap w' (h.push hy hF hm (by omega) hlb h1 ((q_i _ w).alloc (q_2 _) _) h2 h3) ((World.grownBy_alloc _ _ _).trans h2)
 ·intro j u hu;rw [Addr.add_lit,Nat.zero_add];exact (zcr _ (q_4 w _)).trans (by simpa using hu)
 ·intro u hu;simp at hu;rcases hu with rfl | rfl | rfl | rfl | rfl | rfl <;> rfl
end Go.Proofs.YtdflbhofmmlpgaaGreat
