/-
  Nd: Nz, Yz. Part of the proof. No condition.
-/
import Derived.Test.YtdflbhofmmlpgaaGreatNc
import Derived.Test.YtdflbhofmmlpgaaGreatNb
set_option maxRecDepth 100000
set_option maxHeartbeats 8000000
namespace Go.Proofs.YtdflbhofmmlpgaaGreat
open Go.RowKit
def NzR (r:Rz):Prop:=(r.1.2.1=0/\r.1.2.2=0)\/(r.1.2.1=2/\r.1.1=0)\/(r.1.2.1=3/\r.1.1=0/\r.1.2.2=0)
def NzF (f:Sx->Rz):Prop:=∀ s,NzR (f s)
def NzC (C:Cz):Prop:=∀ a l,NzF (C a l)
def NzQ (q:Lz):Prop:=(q.2.1.1=0/\q.2.1.2=0)\/q.2.1.1=2\/(q.2.1.1=3/\q.2.1.2=0)
def NzT (r:Rz):Prop:=(r.1.2.1=0/\r.1.1=0/\r.1.2.2=0)\/(r.1.2.1=1/\r.1.2.2=0)\/(r.1.2.1=2/\r.1.1=0)\/(r.1.2.1=3/\r.1.1=0/\r.1.2.2=0)
def NzG (f:Sx->Rz):Prop:=∀ s,NzT (f s)
theorem z9u {s:Sx}:NzR ((0,3,0),s):=.inr (.inr ⟨rfl,rfl,rfl⟩)
theorem z3n {v:Int} {s:Sx}:NzR ((v,0,0),s):=.inl ⟨rfl,rfl⟩
theorem z5f {t:Int} {s:Sx}:NzR ((0,2,t),s):=.inr (.inl ⟨rfl,rfl⟩)
theorem NzR.t {r:Rz} (h:NzR r) (hv:r.1.2.1=0->r.1.1=0):NzT r:=by
 rcases h with h | h | h
 ·exact .inl ⟨h.1,hv h.1,h.2⟩
 ·exact .inr (.inr (.inl h))
 ·exact .inr (.inr (.inr h))
theorem z6e {r:Rz} {g:Int->Sx->Rz} (h:NzR r) (hg:∀ v,NzF (g v)):NzR (z0W r g):=by
 unfold z0W;split
 ·exact hg _ _
 ·rename_i h0;rcases h with h | h | h
  ·exact absurd h.1 h0
  ·exact .inr (.inl ⟨h.1,rfl⟩)
  ·exact .inr (.inr ⟨h.1,rfl,h.2.2⟩)
theorem z6W {r:Rz} {g:Int->Sx->Rz} (h:NzR r) (hg:∀ v,NzG (g v)):NzT (z0W r g):=by
 unfold z0W;split
 ·exact hg _ _
 ·rename_i h0;rcases h with h | h | h
  ·exact absurd h.1 h0
  ·exact .inr (.inr (.inl ⟨h.1,rfl⟩))
  ·exact .inr (.inr (.inr ⟨h.1,rfl,h.2.2⟩))
theorem z6V {q:Lz} {g:List Int->Sx->Rz} (h:NzQ q) (hg:∀ v,NzF (g v)):NzR (z0V q g):=by
 unfold z0V;split
 ·exact hg _ _
 ·rename_i h0;rcases h with h | h | h
  ·exact absurd h.1 h0
  ·exact .inr (.inl ⟨h,rfl⟩)
  ·exact .inr (.inr ⟨h.1,rfl,h.2⟩)
theorem zbG {r:Rz} {f:Sx->Lz} (h:NzR r) (hf:∀ t,NzQ (f t)):NzQ (zcons r f):=by
 unfold zcons;split
 ·split
  ·exact .inl ⟨rfl,rfl⟩
  ·exact hf _
 ·rcases h with h | h | h
  ·exact .inl h
  ·exact .inr (.inl h.1)
  ·exact .inr (.inr ⟨h.1,h.2.2⟩)
theorem zeH (l:List Int) (v:Int):NzF (zel l v):=fun s=>by
 unfold zel;split
 ·exact z3n
 ·exact z5f
theorem zf4 (k o a v:Int):NzF (z1 k o a v):=fun s=>by
 unfold z1;split
 ·exact zeH _ _ _
 ·exact z3n
theorem zet (k o v u:Int) (s:Sx):NzR (z2v k o v u,s):=by
 unfold z2v appP;split
 ·split
  ·exact z3n
  ·exact z5f
 ·exact z3n
theorem zf6 {f:Sx->Rz} (hf:NzF f) (k o v:Int):NzF (z2 k o f v):=fun s=>by
 unfold z2;split
 ·exact z3n
 ·split
  ·exact z3n
  ·exact z6e (hf s) fun _ _=>zet _ _ _ _ _
theorem zbJ {pn:List Nat} {C:Cz} (hC:NzC C) (l:List Int):NzF (z18 pn C l):=fun s=>by
 unfold z18;split
 ·exact z5f
 ·split
  ·exact hC _ _ _
  ·exact z5f
theorem zbD {ls:Int} {pn:List Nat} {C:Cz}:∀ (xs:List Ex),(∀ x∈xs,NzF (zX ls pn C x))->∀ s,NzQ (zL ls pn C xs s)
 | [],_,s=>.inl ⟨rfl,rfl⟩
 | x :: xs,h,s=>zbG (h x (by simp) s) (zbD xs fun y hy=>h y (by simp [hy]))
theorem zao {ls:Int} {pn:List Nat} {C:Cz} (hC:NzC C):∀ x,NzF (zX ls pn C x):=by
 refine z8G fun k o a l nm xs ih s=>?_
 rw [z8b];split
 ·exact z9u
 ·split
  ·exact z3n
  ·split
   ·exact z3n
   ·split
    ·exact z3n
    ·split
     ·exact z3n
     ·split
      ·exact z6V (zbD xs ih _) (hC a)
      ·split
       ·exact z6V (zbD xs ih _) (zbJ hC)
       ·unfold zO;split
        ·exact z6e (ih _ (by simp) _) (zf4 k o a)
        ·exact z6e (ih _ (by simp) _) (zf6 (ih _ (by simp)) k o)
        ·exact z3n
theorem zeE {ls:Int} {b c:Sx->Rz} (hb:NzG b) (hc:NzF c):∀ (n:Nat) (v:Int),NzG (zW ls b c n v)
 | 0,_,s=>.inr (.inr (.inr ⟨rfl,rfl,rfl⟩))
 | n+1,v,s=>by
  have h1:=hb s;have hv:(b s).1.2.1=0->(b s).1.1=0:=fun e=>by
   rcases h1 with h | h | h | h
   ·exact h.2.1
   ·omega
   ·omega
   ·omega
  unfold zW;split
  ·exact .inl ⟨rfl,rfl,rfl⟩
  ·split
   ·rename_i h0;split
    ·exact .inr (.inr (.inr ⟨rfl,hv h0,rfl⟩))
    ·split
     ·exact zeE hb hc n _ _
     ·rename_i h2;rcases hc (tick (b s).2) with h | h | h
      ·exact absurd h.1 h2
      ·exact .inr (.inr (.inl ⟨h.1,hv h0⟩))
      ·exact .inr (.inr (.inr ⟨h.1,hv h0,h.2.2⟩))
   ·exact h1
theorem zew (v:Int):NzG (zPr v):=fun s=>by
 unfold zPr;split
 ·exact .inr (.inr (.inr ⟨rfl,rfl,rfl⟩))
 ·exact .inl ⟨rfl,rfl,rfl⟩
theorem zeC (n v x:Int):NzG (zSt n v x):=fun s=>by
 unfold zSt;split
 ·exact .inl ⟨rfl,rfl,rfl⟩
 ·exact .inr (.inr (.inl ⟨rfl,rfl⟩))
theorem zeA {sec th el:Sx->Rz} {lp:Int->Sx->Rz} (h1:NzF sec) (h2:NzG th) (h3:NzG el) (h4:∀ v,NzG (lp v)) (k n v:Int):NzG (zSr k n sec th el lp v):=fun s=>by
 unfold zSr;split
 ·exact .inl ⟨rfl,rfl,rfl⟩
 ·split
  ·exact .inl ⟨rfl,rfl,rfl⟩
  ·split
   ·exact z6W (h1 s) (zeC n v)
   ·split
    ·split
     ·exact h2 s
     ·exact h3 s
    ·split
     ·exact h4 v s
     ·split
      ·exact .inr (.inl ⟨rfl,rfl⟩)
      ·split
       ·exact zew v s
       ·exact .inl ⟨rfl,rfl,rfl⟩
theorem zdw {f:Ex->Sx->Rz} (hf:∀ x,NzF (f x)):∀ r,NzF (zsec f r)
 | []=>fun _=>z3n
 | y :: _=>hf y
theorem zal {ls:Int} {pn:List Nat} {C:Cz}:∀ (ts:List Sn),(∀ t∈ts,NzG (zS ls pn C t))->NzG (zB ls pn C ts)
 | [],_,s=>.inl ⟨rfl,rfl,rfl⟩
 | t :: ts,h,s=>by
  unfold zB;split
  ·exact zal ts (fun y hy=>h y (by simp [hy])) _
  ·exact h t (by simp) s
theorem zey {ls:Int} {pn:List Nat} {C:Cz} (hC:NzC C):∀ t,NzG (zS ls pn C t):=by
 refine z9V fun k n es ts us h1 h2 s=>?_
 have hts:=zal ts h1;have hus:=zal us h2;unfold zS;split
 ·exact .inr (.inr (.inr ⟨rfl,rfl,rfl⟩))
 ·split
  ·exact .inl ⟨rfl,rfl,rfl⟩
  ·exact z6W (zao hC _ _) fun v=>zeA (zdw (zao hC) _) hts hus (fun v s=>zeE hts (zao hC _) _ _ _) k n v
theorem zbB {ls:Int} {fs:List Fz}:∀ n,NzC (zC ls fs n)
 | 0=>fun _ _ _=>z9u
 | n+1=>fun f args s=>by
  unfold zC;split
  ·exact z3n
  ·rename_i F hF;rcases zal (ls:=ls) F.body (fun t _=>zey (pn:=fs.map (·.params)) (zbB n) t) { s with lv:=args.take F.locals++List.replicate (F.locals - args.length) 0 } with h | h | h | h
   ·exact .inl ⟨by show retK _=0; rw [h.1]; rfl,h.2.2⟩
   ·exact .inl ⟨by show retK _=0; rw [h.1]; rfl,h.2⟩
   ·exact .inr (.inl ⟨by show retK _=2; rw [h.1]; rfl,h.2⟩)
   ·exact .inr (.inr ⟨by show retK _=3; rw [h.1]; rfl,h.2.1,h.2.2⟩)
def z9Y (p:Nat) (w:World):Int:=intOf ((w.cell? ⟨p,5,none⟩).getD (.int .i64 0))
theorem RuS7.stOf {p:Nat} {K:RK} {lb nl:Nat} {dp:Int} {s:Sx} {w:World} (h:RuS7 p K lb nl dp s w):z9Y p w=s.st:=by
 obtain ⟨iv,ov,tr,vl,h⟩:=h;have c5:w.cell? ⟨p,5,none⟩=some (.int .i64 s.st):=zcr 5 h.r;unfold z9Y;rw [c5];rfl
section
variable {p:Nat} {K:RK} {D d:Nat} {gl:GlL} {fl:List Fn} {nd:Nat} {C:Cz} {O:NmF} {lb fb nl:Nat} {dp:Int} {s s':Sx} {ns:List Zb} {w W W':World} {row:Array Value} {T:TypeId}
theorem Bx7.retS {v k t:Int} {y:Rz} (h:Bx7 p K lb nl dp w row T s W) (hy:y=((v,k,t),s)) (hv:k=1->Vl7 p v W) (ht:k=2->Tr7 p t W):S7 p K lb nl dp y w (.returned (.int .i64 k)) W:=by
 subst hy;exact ⟨rfl,hv,ht,h.rs,h.fr⟩
theorem Bx7.setL {i:Nat} {x:Int} (h:Bx7 p K lb nl dp w row T s W) (hi:i<nl):Bx7 p K lb nl dp w row T { s with lv:=s.lv.set i x } (W.setCell ⟨lb,i,none⟩ (.int .i64 x)):=by
 obtain ⟨iv,ov,tr,vl,hr⟩:=h.rs;have h2:=hr.setL (x:=x) hi;exact h.call ⟨iv,ov,tr,vl,h2.1⟩ h2.2
theorem Bx7.setG {n j b:Nat} {x:Int} {l:List Int} (h:Bx7 p K lb nl dp w row T s W) (hn:s.gl[n]?=some l) (hb:K.ga[n]?=some b):Bx7 p K lb nl dp w row T { s with gl:=s.gl.set n (l.set j x) } (W.setCell ⟨b,j,none⟩ (.int .i64 x)):=by
 obtain ⟨iv,ov,tr,vl,hr⟩:=h.rs;have h2:=hr.setG (x:=x) (j:=j) hn hb;exact h.call ⟨iv,ov,tr,vl,h2.1⟩ h2.2
theorem Bx7.setV (h:Bx7 p K lb nl dp w row T s W) (v:Int):Bx7 p K lb nl dp w row T s (W.setCell ⟨p,10,none⟩ (.int .i64 v))/\Vl7 p v (W.setCell ⟨p,10,none⟩ (.int .i64 v))/\(∃ vl:Int,W.cell? ⟨p,10,none⟩=some (.int .i64 vl))/\W.frozen? ⟨p,10,none⟩=false:=by
 obtain ⟨iv,ov,tr,vl,hm⟩:=h.rs;have hg:W.grownBy (W.setCell ⟨p,10,none⟩ (.int .i64 v)) (some p):=z03 _ ⟨p,10,none⟩ _;have hr:Rn7 p K s.st dp iv ov tr v (W.setCell ⟨p,10,none⟩ (.int .i64 v)):=z0a (i:=10) _ hm.r;have hm2:=hm.self (s':=s) hg hr (z1M hm.i hg hm.plt) (hm.l.grown hg) rfl rfl (fun b hb=>(hm.on b hb).1) hm.st hm.dp hm.nl;have hf:=z2C hg hm.plt (fun b e=>(hm.out_iff b).2 ((hm2.out_iff b).1 e)) (K:=K) (lb:=lb);exact ⟨h.call ⟨iv,ov,tr,v,hm2⟩ hf,zcr 10 hr,⟨vl,zcr 10 hm.r⟩,z09 hm.r 10⟩
theorem RuS7.lI (h:RuS7 p K lb nl dp s W) {i:Nat} (hi:i<nl):IntB W lb s.lv:=by
 obtain ⟨iv,ov,tr,vl,hm⟩:=h;rcases hm.l.2 with ⟨hh,_,_⟩ | ⟨_,_,_,_,h5⟩
 ·omega
 ·exact h5
theorem z86 {ops:Array Oper} {o:Oper} {a:Act} {KK:Act->World->Prop} {Q:Exit->Act->World->Prop} {E:Prop} (p:Nat) (wd wa:World) (hgd:o.guard=none) (s x:Operand)
  (ho:o.op=.call { callee:=.builtin .append,args:=#[s,x],argTypes:=#[23,23] }) (v:Value) (xs:List Int) (L:List Value) (z:Int) (hs:a.eval s=v) (hx:a.eval x=.slice (some ⟨wd.heap.size,0,none⟩) 1 1)
  (h:GRow 1 3 ZInt (p+1) wd v xs L) (hp:p<wd.heap.size) (hlen:xs.length<=1000000)
  (hwa:Below wd.heap.size wd wa) (hca:wa.heap[wd.heap.size]?=some (.cells #[.int .i64 z] 3 (0,0)))
  (hk:∀ g cap w' L',GRow 1 3 ZInt (p+1) w' (.slice (some ⟨g,0,none⟩) (xs.length+1) cap) (xs++[z]) L'->wd.grownBy w' v.ownBlock->(v.ownBlock=some g\/wd.heap.size<=g)->KK (a.put o.dst (.slice (some ⟨g,0,none⟩) (xs.length+1) cap)) w') :
  if Region.wanted o (yielded ops a.tmps)=true then Oper.wp Tryz.prog o a wa KK Q else E:=by
 obtain ⟨i,hi,hz,hsz,hby⟩:=info_parts z2E;have hsa:=hwa.size;have hlt:=(q_0.1 hca).1;refine step_append_lies _ hgd s x _ ho (p+1) 3 i _ 1 8 Tryz.underlying23 hi hz hsz hby rfl (by decide) v xs.length L hs (z15 z0f h hwa).own ⟨wd.heap.size,0,none⟩ 1 1 [.int .i64 z] hx (by simp) ?_ (by simp [Value.oneCell']) (by decide) (by unfold maxLen; omega) (by omega) (by omega) _ rfl fun g cap w' k1 k2 k3 _=>hk g cap w' _ (h.push z0f rfl (F:=fun _=>False) (y:=z) rfl (fun b e=>e.elim) k1 hwa k2 k3) ((z02 hwa _).trans k2) (k3.imp id (fun e=>by omega))
 intro j u hu;rw [Addr.add_lit,Nat.zero_add];exact (zcr _ hca).trans (by simpa using hu)
theorem Bx7.outs (h:Bx7 p K lb nl dp w row T s W):∃ oA oc L,W.cell? ⟨p,8,none⟩=some (.slice oA s.out.length oc)/\s.out.length<=4096/\GRow 1 3 ZInt (p+1) W (.slice oA s.out.length oc) s.out L /\
  (∀ (W2:World) (v2:Value) (z:Int) (L2:List Value),W.grownBy W2 (Value.slice oA s.out.length oc).ownBlock->GRow 1 3 ZInt (p+1) W2 v2 (s.out++[z]) L2->(∀ b,v2.ownBlock=some b->(Value.slice oA s.out.length oc).ownBlock=some b\/W.heap.size<=b)->s.out.length<4096->Bx7 p K lb nl dp w row T { s with out:=s.out++[z] } (W2.setCell ⟨p,8,none⟩ v2)):=by
 obtain ⟨iv,ov,tr,vl,hm⟩:=h.rs;obtain ⟨L,hg⟩:=hm.o;obtain ⟨oA,oc,rfl⟩:=z2b hg;refine ⟨oA,oc,L,zcr 8 hm.r,hm.ol,hg,fun W2 v2 z L2 h1 h2 h3 h4=>?_⟩;obtain ⟨h5,h6⟩:=hm.outp h1 h2 h3 h4;exact h.call ⟨iv,v2,tr,vl,h5⟩ h6
def Kp7 (b:Nat) (W W':World):Prop:=∀ x,x<W.heap.size->x≠b->W'.heap[x]?=W.heap[x]?
theorem zbW {b:Nat} (h:Below W.heap.size W W'):Kp7 b W W':=fun x hx _=>h.block x hx
theorem zdU {b j:Nat} {v:Value} (h:Below W.heap.size W W'):Kp7 b W (W'.setCell ⟨b,j,none⟩ v):=fun x hx hn=>((z03 W' ⟨b,j,none⟩ v).block x (q_1 hx h.size) (fun e=>hn (by injection e))).trans (h.block x hx)
theorem Kp7.cell {b:Nat} {a:Addr} {v:Value} (h:Kp7 b W W') (hc:W.cell? a=some v) (hn:a.block≠b):W'.cell? a=some v:=(q_6 (h _ (q_k _ _ hc) hn)).trans hc
theorem zen {vs:List Int} (h:vs.length=2):∃ v0 v1,vs=[v0,v1]:=by
 match vs,h with
 | [v0,v1],_=>exact ⟨v0,v1,rfl⟩
theorem z3s {vs:List Int} (h:vs.length=1):∃ v0,vs=[v0]:=by
 match vs,h with
 | [v0],_=>exact ⟨v0,rfl⟩
theorem zei {dt:Nat} (hM:MoC K.ls C) (hN:NzC C) (hL:zcg p K D d gl fl nd C O D) (hBl:z6Q p K D d gl fl nd C O dt):zdD p K D d gl fl nd C O (dt+1):=by
 intro lb fb nl dp s ns L t v w h hd hP hfm hns hv hnm hw;obtain ⟨k,l,nm,es,ts,us⟩:=t;obtain ⟨eA,ec,tA,tc,uA,uc,rfl,he,htr,hur⟩:=z6N.1 hv;obtain ⟨⟨n1,n2,n3,n4,nk,ne3,ne1⟩,hne,hnt,hnu⟩:=hnm;obtain ⟨k2,hk2⟩:∃ k2:Int,k2=if (L nm).isSome then 1 else k:=⟨_,rfl⟩
 obtain ⟨nn,hnn⟩:∃ nn:Int,nn=if (L nm).isSome then (L nm).getD 0 else (O nm).getD 0:=⟨_,rfl⟩
 have hnS:nS L O (.mk k l nm es ts us)=.mk k2 nn (nL L O es) (nB L O ts) (nB L O us):=by rw [hk2,hnn]; rfl
 rw [hnS] at hw ⊢;obtain ⟨⟨w1,wl1,wl2,wl3,wlt,wlu⟩,hwe,hwt,hwu⟩:=hw;rw [z1Z] at wlt wlu;rw [z1G] at wl3;obtain ⟨Y,hY⟩:∃ Y,Y=zS K.ls (pn7 fl) C (.mk k2 nn (nL L O es) (nB L O ts) (nB L O us)) s:=⟨_,rfl⟩;rw [<- hY];have hk23:k2=3 ↔ k=3:=by
  rw [hk2];constructor
  ·intro e;split at e
   ·cases e
   ·exact e
  ·intro e;rw [(n3 e).1];exact e
 obtain ⟨en,hen⟩:∃ en,en=es.length:=⟨_,rfl⟩;obtain ⟨tn,htn⟩:∃ tn,tn=ts.length:=⟨_,rfl⟩;obtain ⟨un,hun⟩:∃ un,un=us.length:=⟨_,rfl⟩;have hB:=Bx7.new h #[.int .i64 k,.int .i64 l,.string nm,.slice eA es.length ec,.slice tA ts.length tc,.slice uA us.length uc] 121;rw [<- hen,<- htn,<- hun] at hB ⊢;rw [<- hen] at ne3 ne1 wl3;rw [<- htn] at wlt;rw [<- hun] at wlu;have hlt:=hB.lt;have HB:=zhi hB;have HSt:=zhi (za2 hB.rs);have HD:=zhi hd;have HP:=zhi hP;have HFm:=zhi hfm;have Hns:=zhi hns;have HR:=zhi (fun (w':World) (hb:Below p w w')=>And.intro (he.keep (G:=fun b=>b<p) (fun _ h=>h) (fun b hb'=>hb.block b hb')) (And.intro (RowS.keep (F:=fun b=>b<p) (G:=fun b=>b<p) (fun _ h=>h) (fun b hb'=>hb.block b hb') htr) (RowS.keep (F:=fun b=>b<p) (G:=fun b=>b<p) (fun _ h=>h) (fun b hb'=>hb.block b hb') hur)));have HX:=zhi (And.intro hne hwe);have HTs:=zhi (And.intro hnt hwt);have HUs:=zhi (And.intro hnu hwu);have HLn:=zhi (And.intro hen (And.intro htn hun));have N1:=zhi n1;have N2:=zhi n2;have N3:=zhi n3;have N4:=zhi n4;have HK2:=zhi hk2;have HNn:=zhi hnn;have HW1:=zhi (And.intro wl1 (And.intro wl2 wl3));have hen2:en<=2:=by
  by_cases e:k=3
  ·rw [ne3 e]; decide
  ·rw [ne1 e]; decide
 have NE:=zhi (And.intro ne3 ne1);have HLs:=zhi (fun (W:World) (s1:Sx) (hb:Bx7 p K lb nl dp w #[.int .i64 k,.int .i64 l,.string nm,.slice eA en ec,.slice tA tn tc,.slice uA un uc] 121 s1 W)=>hL lb fb nl dp s1 ns L es eA en ec W hb.rs HD.out (HP.out.low hb.fr.lo) (HFm.out.fr hb.fr) Hns.out (HR.out W hb.fr.lo).1 HLn.out.1.symm (by omega) HX.out.1 HX.out.2);have HBt:=zhi (fun (W:World) (s1:Sx) (hb:Bx7 p K lb nl dp w #[.int .i64 k,.int .i64 l,.string nm,.slice eA en ec,.slice tA tn tc,.slice uA un uc] 121 s1 W)=>hBl lb fb nl dp s1 ns L ts tA tn tc W hb.rs HD.out (HP.out.low hb.fr.lo) (HFm.out.fr hb.fr) Hns.out (HR.out W hb.fr.lo).2.1 HLn.out.2.1.symm wlt HTs.out.1 HTs.out.2);have HBu:=zhi (fun (W:World) (s1:Sx) (hb:Bx7 p K lb nl dp w #[.int .i64 k,.int .i64 l,.string nm,.slice eA en ec,.slice tA tn tc,.slice uA un uc] 121 s1 W)=>hBl lb fb nl dp s1 ns L us uA un uc W hb.rs HD.out (HP.out.low hb.fr.lo) (HFm.out.fr hb.fr) Hns.out (HR.out W hb.fr.lo).2.2 HLn.out.2.2.symm wlu HUs.out.1 HUs.out.2);have hqz:=zbD (ls:=K.ls) (pn:=pn7 fl) (C:=C) (nL L O es) (fun x _=>zao hN x) (tick s);have hlen:=z67 (ls:=K.ls) (pn:=pn7 fl) (C:=C) (nL L O es) (tick s);rw [z1G,<- hen] at hlen;have hnle:(nL L O es).length=en:=by rw [z1G]; exact hen.symm
 have hbft:=fun hls=>zex (ls:=K.ls) (pn:=pn7 fl) (C:=C) (k:=k2) (n:=nn) (es:=nL L O es) (ts:=nB L O ts) (us:=nB L O us) (s:=s) hls (fun e=>by rw [hnle]; exact ne3 (hk23.1 e)) (fun e=>by rw [hnle]; exact ne1 (fun e2=>e (hk23.2 e2)))
 have HY:=zhi hY;have HBf:=zhi hbft;have HLz:=zhi (And.intro hqz hlen);clear hv h hd hP hfm hns he htr hur hne hwe hnt hwt hnu hwu hB hY hen htn hun n1 n2 n3 n4 hk2 hnn hnS hL hBl ne3 ne1 w1 wl1 wl2 wl3 hbft hqz hlen hnle hk23;obtain ⟨W0,hW0⟩:∃ W0,W0=w.alloc (.cells #[.int .i64 k,.int .i64 l,.string nm,.slice eA en ec,.slice tA tn tc,.slice uA un uc] 121):=⟨_,rfl⟩;rw [<- hW0] at HB HSt hlt
 by_cases hls:K.ls<=s.st
 ·have hst:z2y K.ls s=((0,3,0),s):=if_pos hls;rw [hst] at HSt;have hY2:Y=((0,3,0),s):=by
   rw [HY.out];unfold zS;exact if_pos hls
  have HY2:=zhi hY2;clear hst hls hY2 HY HX HR HFm HP HD HLs HBt HBu HBf HLz;go_enter Tryz.func54,Tryz.ntmps54;go_upto_region 1 with fail;rw [<- hW0];clear hW0;go_wp2_with fail;refine HSt.out.mono ?_;rintro e w1 ⟨rfl,_,_,hrs1,hfr1⟩;have HH:Hid (S7 p K lb nl dp Y w (.returned (.int .i64 3)) w1):=zhi ((HB.out.call hrs1 hfr1).retS HY2.out (fun e=>by cases e) (fun e=>by cases e));clear hrs1 hfr1 HB HSt;go_wp2_with fail;go_ret;exact HH.out
 ·have hst:z2y K.ls s=((0,0,0),tick s):=if_neg hls;rw [hst] at HSt;obtain ⟨x,r,hxr,hYb⟩:=HBf.out hls;have hY2:=HY.out.trans hYb;have HXR:=zhi hxr;have HY2:=zhi hY2;have hls0:s.st+1<=K.ls:=by omega
  clear hst hls hxr hYb hY2 HBf HY;go_enter Tryz.func54,Tryz.ntmps54;go_upto_region 1 with fail;rw [<- hW0];clear hW0;go_wp2_with fail;refine HSt.out.mono ?_;rintro e w1 ⟨rfl,_,_,hrs1,hfr1⟩;replace HB:=zhi (HB.out.call hrs1 hfr1);have HCl:=zhi (HLs.out w1 _ HB.out);obtain ⟨x0,x1,x2,x3,x4,x5⟩:=HB.out.cells;clear hrs1 hfr1 HSt;go_wp2_with fail;refine HCl.out.mono ?_;rintro e w2 ⟨A2,m,c2,rfl,hq2,htr2,hrs2,hfr2⟩;replace HY2:=HY2.out;replace HLz:=HLz.out;have hmo:=(zbC (ls:=K.ls) (pn:=pn7 fl) (C:=C) (nL L O es) (fun x _=>z68 hM x) (tick s)).2.2;generalize zL K.ls (pn7 fl) C (nL L O es) (tick s)=q at hq2 htr2 hrs2 HY2 HLz hmo;obtain ⟨vs,⟨q2,t2⟩,s2⟩:=q;dsimp only at hq2 htr2 hrs2 HLz hmo ⊢;have hs2:s2.st<=K.ls:=hmo hls0;replace HB:=zhi (HB.out.call hrs2 hfr2);obtain ⟨x0,x1,x2,x3,x4,x5⟩:=HB.out.cells;clear hrs2 hfr2 HCl hmo
  by_cases h0:q2=0
  ·subst h0;replace HY2:Y=zbft k2 nn (zB K.ls (pn7 fl) C (nB L O ts)) (zB K.ls (pn7 fl) C (nB L O us)) (fun v s1=>zW K.ls (zB K.ls (pn7 fl) C (nB L O ts)) (zX K.ls (pn7 fl) C x) ((K.ls - s1.st).toNat+1) v s1) vs s2:=HY2.trans (if_pos rfl);obtain ⟨hmv,hmc,hrd,hfa⟩:=hq2 rfl;have HFa:=zhi hfa;have hvn:vs.length=en:=HLz.2.2 rfl;have HRd:=zhi hrd;have hmn:m=en:=hmv.trans hvn;have Hvn:=zhi hvn;clear hq2 htr2 HLz hrd hmv hvn hfa;subst hmn;have hb2:Below w2.heap.size w2 w2.drew:=z0m (q_i _ _);rcases (show k=1\/k=2\/k=3\/k=4\/k=5\/k=6\/k=7\/k=8 by omega) with rfl | rfl | rfl | rfl | rfl | rfl | rfl | rfl
   ·obtain ⟨i,hi,hLs⟩:=N1.out rfl
    ·skip
     obtain rfl:m=1:=NE.out.2 (by decide);obtain ⟨v0,rfl⟩:=z3s Hvn.out;obtain ⟨ad,rfl,ca0⟩:=HRd.out 0 _ rfl;rw [z0N] at ca0;have hk2:k2=1:=by rw [HK2.out,hLs]; rfl
     have hnn:nn=(i:Int):=by rw [HNn.out,hLs]; rfl
     have hil:i<nl:=by have:=(HW1.out.1 hk2).2; rw [hnn] at this; simpa using this
     have hYs:Y=((0,0,0),{ s2 with lv:=s2.lv.set i v0 }):=by
      rw [HY2,hk2,hnn];simp [zbft,zSr]
     obtain ⟨nA,nc,vc,z,hfr,hst,hnl,hz,hcell⟩:=HB.out.rs.loc (HFm.out.fr HB.out.fr) Hns.out hil;have f1:w2.cell? ⟨fb,1,none⟩=some (.slice (some ⟨lb,0,none⟩) nl vc):=zcr 1 hfr;have fz:w2.frozen? ⟨lb,i,none⟩=false:=z09 (HB.out.rs.lI hil) i;have HF:Hid (Calls Tryz.prog 81 #[.pointer (some ⟨fb,0,none⟩),.string nm] w2 (ZI7 (i:Int) w2)):=zhi (by
      have:=z7r nm ns nA ns.length nc _ w2 rfl hfr hst (by rw [Hns.out]; omega);rw [hi] at this;exact this)
     have HYs:=zhi hYs;clear HY2 HP HFm hi hLs hfr hst hz hYs hk2 hnn HLs HBt HBu;go_wp2_with fail;refine HF.out.mono ?_;rintro e w3 ⟨rfl,q,rfl⟩;go_upto_region 11 with fail;go_region;have HH:Hid (S7 p K lb nl dp Y w (.returned (.int .i64 0)) ((w2.drewN (q+1)).setCell ⟨lb,i,none⟩ (.int .i64 v0))):=zhi (((HB.out.up (z12 (q_i _ _) (q+1))).setL hil).retS HYs.out (fun e=>by cases e) (fun e=>by cases e));clear HYs HB HF f1 fz hcell;go_wp2_with fail;go_ret;exact HH.out
   ·rcases N2.out rfl with ⟨i,hi,hLs⟩ | ⟨hi,hLs,g,hg,hO⟩
    ·skip
     obtain rfl:m=1:=NE.out.2 (by decide);obtain ⟨v0,rfl⟩:=z3s Hvn.out;obtain ⟨ad,rfl,ca0⟩:=HRd.out 0 _ rfl;rw [z0N] at ca0;have hk2:k2=1:=by rw [HK2.out,hLs]; rfl
     have hnn:nn=(i:Int):=by rw [HNn.out,hLs]; rfl
     have hil:i<nl:=by have:=(HW1.out.1 hk2).2; rw [hnn] at this; simpa using this
     have hYs:Y=((0,0,0),{ s2 with lv:=s2.lv.set i v0 }):=by
      rw [HY2,hk2,hnn];simp [zbft,zSr]
     obtain ⟨nA,nc,vc,z,hfr,hst,hnl,hz,hcell⟩:=HB.out.rs.loc (HFm.out.fr HB.out.fr) Hns.out hil;have f1:w2.cell? ⟨fb,1,none⟩=some (.slice (some ⟨lb,0,none⟩) nl vc):=zcr 1 hfr;have fz:w2.frozen? ⟨lb,i,none⟩=false:=z09 (HB.out.rs.lI hil) i;have HF:Hid (Calls Tryz.prog 81 #[.pointer (some ⟨fb,0,none⟩),.string nm] w2 (ZI7 (i:Int) w2)):=zhi (by
      have:=z7r nm ns nA ns.length nc _ w2 rfl hfr hst (by rw [Hns.out]; omega);rw [hi] at this;exact this)
     have HYs:=zhi hYs;clear HY2 HP HFm hi hLs hfr hst hz hYs hk2 hnn HLs HBt HBu;go_wp2_with fail;refine HF.out.mono ?_;rintro e w3 ⟨rfl,q,rfl⟩;go_upto_region 11 with fail;go_region;have HH:Hid (S7 p K lb nl dp Y w (.returned (.int .i64 0)) ((w2.drewN (q+1)).setCell ⟨lb,i,none⟩ (.int .i64 v0))):=zhi (((HB.out.up (z12 (q_i _ _) (q+1))).setL hil).retS HYs.out (fun e=>by cases e) (fun e=>by cases e));clear HYs HB HF f1 fz hcell;go_wp2_with fail;go_ret;exact HH.out
    ·obtain rfl:m=1:=NE.out.2 (by decide);obtain ⟨v0,rfl⟩:=z3s Hvn.out;obtain ⟨ad,rfl,ca0⟩:=HRd.out 0 _ rfl;rw [z0N] at ca0;have hfad:=HFa.out ad rfl;have hk2:k2=2:=by rw [HK2.out,hLs]; rfl
     have hnn:nn=(g:Int):=by rw [HNn.out,hLs,hO]; rfl
     obtain ⟨_,m3,hm3,hm0⟩:=HW1.out.2.1 hk2;rw [hnn,Int.toNat_natCast] at hm3;obtain ⟨b,cb,gn,gvc,la,hgb,hgl,hga,hgs,hin,hgn,hlm,c7,cgb,hib⟩:=HB.out.rs.arr (List.getElem?_eq_some_iff.1 hm3).1;rw [hm3] at hgs;injection hgs with hgs;have hYs:Y=((0,0,0),{ s2 with gl:=s2.gl.set g (la.set 0 v0) }):=by
      rw [HY2,hk2,hnn];simp [zbft,zSr,setG,hga]
     obtain ⟨z,hz⟩:∃ z,la[0]?=some z:=⟨_,q_7 (by omega)⟩;obtain ⟨ll,hll⟩:∃ ll,ll=la.length:=⟨_,rfl⟩;rw [<- hll] at hlm cgb;have hll0:0<ll:=by omega
     obtain ⟨gA,gc,fA,fc,p0,p1,_,_,hga2,_⟩:=HB.out.rs.pg (HP.out.low HB.out.fr.lo);have hgl2:=HP.out.gn;have hkg:K.gb≠b/\p≠b/\w.heap.size≠b/\ad.block≠b:=by
      obtain ⟨iv,ov,tr,vl,hm⟩:=HB.out.rs;have hbm:=q_a hgb;refine ⟨fun e=>hm.k.gn (e ▸ hbm),fun e=>?_,fun e=>HB.out.f.2.2.1 (e ▸ hbm),fun e=>hfad.2.2.1 (e ▸ hbm)⟩;have:=hm.k.ga b hbm;omega
     obtain ⟨nA,nc,vc,hfr,hst⟩:=(HFm.out.fr HB.out.fr).f;have hnl:nl<=1000:=HB.out.rs.bound.2.2.2.2.2.2.2;have HFs:Hid (Calls Tryz.prog 81 #[.pointer (some ⟨fb,0,none⟩),.string nm] w2 (ZI7 (-1) w2)):=zhi (by
      have:=z7r nm ns nA ns.length nc _ w2 rfl hfr hst (by rw [Hns.out]; omega);rw [hi] at this;exact this)
     have HF:Hid (∀ W,Below w2.heap.size w2 W->Calls Tryz.prog 25 #[.agg #[.slice gA gl.length gc,.slice fA fl.length fc],.string nm] W (IntR (g:Int) W)):=zhi (fun W hW=>by
      have:=z2D nm gl gA gl.length gc (.slice fA fl.length fc) W rfl (hga2.keepR (G:=fun b=>b<p) (fun _ h=>h) (fun b hb=>hW.block b (by have:=HB.out.wp; omega))) (fun b hb=>by have:=hW.size; have:=HB.out.wp; omega) (by omega) fA fl.length fc rfl;rw [hg] at this;exact this)
     have HSk:Hid (∀ W,Kp7 b w2 W->W.cell? ⟨p,0,none⟩=some (.slice gA gl.length gc)/\W.cell? ⟨p,1,none⟩=some (.slice fA fl.length fc)/\W.cell? ⟨w.heap.size,2,none⟩=some (.string nm)/\W.cell? ⟨p,7,none⟩=some (.slice (some ⟨K.gb,0,none⟩) gn gvc)/\W.cell? ⟨K.gb,g,none⟩=some (.slice (some ⟨b,0,none⟩) ll cb)/\W.cell? ad=some (.int .i64 v0)/\Kp7 b w2 W):=zhi (fun W hb=>⟨hb.cell p0 hkg.2.1,hb.cell p1 hkg.2.1,hb.cell x2 hkg.2.2.1,hb.cell c7 hkg.2.1,hb.cell cgb hkg.1,hb.cell ca0 hkg.2.2.2,hb⟩);have HFin:Hid (∀ W,Below w2.heap.size w2 W->S7 p K lb nl dp Y w (.returned (.int .i64 0)) (W.setCell ⟨b,0,none⟩ (.int .i64 v0))):=zhi (fun W hb=>((HB.out.up hb).setG (j:=0) hgl hgb).retS hYs (fun e=>by cases e) (fun e=>by cases e));have HIb:Hid (∀ W,Below w2.heap.size w2 W->W.cell? ⟨b,0,none⟩=some (.int .i64 z)/\W.frozen? ⟨b,0,none⟩=false):=zhi (fun W hb=>⟨(hib.below hb).at_ hz,z09 (hib.below hb) 0⟩);clear HY2 HP HFm hi hLs hfr hst hz hYs hk2 hnn HLs HBt HBu hgb hgl hga hib hga2 hm3 hm0 hll hgs hg hO hfad HB hkg;go_wp2_with fail;refine HFs.out.mono ?_;rintro e w3 ⟨rfl,q,rfl⟩;go_upto_region 12 with fail;obtain ⟨W3,hW3⟩:∃ W3,W3=w2.drewN q:=⟨_,rfl⟩;have hb3:Below w2.heap.size w2 W3:=by rw [hW3]; exact z12 (q_i _ _) q
     rw [<- hW3];clear hW3;have hb3d:Below w2.heap.size w2 W3.drew:=z0m hb3;have hS0:=HSk.out _ (zbW (b:=b) hb3d)
     go_region_held3 (fun W=>W.cell? ⟨p,0,none⟩=some (.slice gA gl.length gc)/\W.cell? ⟨p,1,none⟩=some (.slice fA fl.length fc)/\W.cell? ⟨w.heap.size,2,none⟩=some (.string nm)/\W.cell? ⟨p,7,none⟩=some (.slice (some ⟨K.gb,0,none⟩) gn gvc)/\W.cell? ⟨K.gb,g,none⟩=some (.slice (some ⟨b,0,none⟩) ll cb)/\W.cell? ad=some (.int .i64 v0)/\Kp7 b w2 W)
      (first | (with_reducible exact hS0) | (with_reducible exact HSk.out _ (zbW hb5)) | (with_reducible exact HSk.out _ (zdU hb5)))
      ((go_at_call 25; (with_reducible refine (HF.out _ hb3d).mono ?_); rintro e w5 ⟨rfl,hb4⟩; have hb5:=z08 hb3d hb4; obtain ⟨cz,fz⟩:=HIb.out _ hb5))
     have HH:=zhi (HFin.out _ hb5);clear HFin HIb HF HSk hS0;go_wp2_with fail;go_ret;exact HH.out
   ·obtain ⟨hLs,g,hg,hO⟩:=N3.out rfl;obtain rfl:m=2:=NE.out.1 rfl;obtain ⟨v0,v1,rfl⟩:=zen Hvn.out;obtain ⟨ad,rfl,ca0⟩:=HRd.out 0 _ rfl;obtain ⟨ad',e',ca1⟩:=HRd.out 1 _ rfl;injection e' with e';subst e';rw [z0N] at ca0;have hk2:k2=3:=by rw [HK2.out,hLs]; rfl
    have hnn:nn=(g:Int):=by rw [HNn.out,hLs,hO]; rfl
    obtain ⟨_,hgn0,_⟩:=HW1.out.2.2 hk2;rw [hnn,Int.toNat_natCast] at hgn0;obtain ⟨b,cb,gn,gvc,la,hgb,hgl,hga,hgs,hin,hgn,hlm,c7,cgb,hib⟩:=HB.out.rs.arr hgn0;have hYz:Y=zSt (g:Int) v0 v1 s2:=by
     rw [HY2,hk2,hnn];rfl
    have HYz:=zhi hYz;have HG:=zhi (And.intro hgb (And.intro hgl (And.intro hga hib)));have HF:Hid (∀ W,Below w2.heap.size w2 W->Calls Tryz.prog 82 #[.pointer (some ⟨p,0,none⟩),.string nm,.int .i64 v0] W (El7 K s2 g v0 W)):=zhi (fun W hW=>z5C (HB.out.rs.below hW) (HP.out.low (HB.out.up hW).fr.lo) nm g hg v0);have HS:Hid (∀ W,Below w2.heap.size w2 W->W.cell? ⟨w.heap.size,2,none⟩=some (.string nm)/\W.cell? ad=some (.int .i64 v0)/\Below w2.heap.size w2 W):=zhi (fun W hb=>⟨hold hb x2,hold hb ca0,hb⟩);have hS0:=HS.out _ hb2;clear HY2 HP HFm hLs hYz hk2 hnn HLs HBt HBu hgb hgl hga hib hg hO c7 cgb hgs;go_upto_region 14 with fail
    go_region_held3 (fun W=>W.cell? ⟨w.heap.size,2,none⟩=some (.string nm)/\W.cell? ad=some (.int .i64 v0)/\Below w2.heap.size w2 W)
     (first | (with_reducible exact hS0) | (with_reducible exact HS.out _ (by with_reducible assumption)))
     ((go_at_call 82; (with_reducible refine (HF.out _ hb2).mono ?_); rintro e w3 ⟨b3,c3,m3,ok,hb3g,hm3,hok,rfl,hb3⟩; have Hm3:=zhi hm3; have Hok:=zhi hok; clear hm3 hok; have hb4:=z08 hb2 hb3))
    rw [HG.out.1] at hb3g;injection hb3g with hb3g;subst hb3g;have hm3:=Hm3.out;have hok:=Hok.out;clear Hm3 Hok;rw [HG.out.2.2.1] at hm3 hok;have HBw:=zhi (HB.out.up hb4);have ca3:=hold hb4 ca0;have ca4:w3.cell? ⟨ad.block,ad.off+1,none⟩=some (.int .i64 v1):=hold hb4 ca1;have hib3:IntB w3 b la:=HG.out.2.2.2.below hb4;have hYz:=HYz.out;unfold zSt at hYz;rw [HG.out.2.2.1] at hYz
    by_cases hr:0<=v0/\v0<(la.length:Int)
    ·have hok2:ok=true:=by rw [hok]; simp [hr]
     subst hok2;rw [if_pos hr] at hYz;obtain ⟨V,rfl⟩:∃ V:Nat,v0=(V:Int):=⟨v0.toNat,by omega⟩;obtain ⟨z,hz⟩:∃ z,la[V]?=some z:=⟨_,q_7 (by omega)⟩;have cz:=hib3.at_ hz;have fz:w3.frozen? ⟨b,V,none⟩=false:=z09 hib3 V;have hV:V<m3:=by omega
     have hm3l:m3<=1000000:=by omega
     have hYs:Y=((0,0,0),{ s2 with gl:=s2.gl.set g (la.set V v1) }):=by
      rw [hYz];simp [setG,HG.out.2.2.1]
     have HFin:Hid (∀ n,S7 p K lb nl dp Y w (.returned (.int .i64 0)) ((w3.drewN n).setCell ⟨b,V,none⟩ (.int .i64 v1))):=zhi (fun n=>((HBw.out.up (z12 (q_i _ _) n)).setG (j:=V) HG.out.2.1 HG.out.1).retS hYs (fun e=>by cases e) (fun e=>by cases e));clear HG HYz HBw HB hib3 hok hr hm3 hz HS hS0 HF HRd Hvn hYz hYs;go_upto_region 17 with fail;go_region;go_wp2_with fail;go_ret;exact HFin.out _
    ·have hok2:ok=false:=by rw [hok]; simpa using hr
     subst hok2;rw [if_neg hr] at hYz;have HTr:=zhi (z3d HBw.out.rs 2);have HYn:=zhi hYz;clear HG HYz HB hib3 hok hr hm3 HS hS0 HF HRd Hvn hYz;go_wp2_with fail;refine HTr.out.mono ?_;rintro e w5 ⟨rfl,htr,hrs,hfr⟩;have HH:Hid (S7 p K lb nl dp Y w (.returned (.int .i64 2)) w5):=zhi ((HBw.out.call hrs hfr).retS HYn.out (fun e=>by cases e) (fun _=>htr));clear htr hrs hfr HTr HBw;go_wp2_with fail;go_ret;exact HH.out
   ·skip
    obtain rfl:m=1:=NE.out.2 (by decide);obtain ⟨v0,rfl⟩:=z3s Hvn.out;obtain ⟨ad,rfl,ca0⟩:=HRd.out 0 _ rfl;rw [z0N] at ca0;have hk2:k2=4:=by rw [HK2.out,N4.out (by decide)]; rfl
    by_cases hv:v0=0
    ·have hYz:Y=zB K.ls (pn7 fl) C (nB L O us) s2:=by
      rw [HY2,hk2];simp [zbft,zSr,hv]
     have HC:=zhi (HBu.out w2 s2 HB.out);rw [<- hYz] at HC;have i1:(v0 != 0)=false:=by simp [hv]
     clear HY2 HP HFm hYz hk2 HLs HBt HBu hv;go_wp2_with fail;refine HC.out.mono ?_;rintro e w3 ⟨rfl,hvl,htr,hrs,hfr⟩;have HH:Hid (S7 p K lb nl dp Y w (.returned (.int .i64 Y.1.2.1)) w3):=zhi ⟨rfl,hvl,htr,hrs,HB.out.fr.trans hfr⟩;clear hvl htr hrs hfr HB HC;go_wp2_with fail;go_ret;exact HH.out
    ·have hYz:Y=zB K.ls (pn7 fl) C (nB L O ts) s2:=by
      rw [HY2,hk2];simp [zbft,zSr,hv]
     have HC:=zhi (HBt.out w2 s2 HB.out);rw [<- hYz] at HC;have i1:(v0 != 0)=true:=by simp [hv]
     clear HY2 HP HFm hYz hk2 HLs HBt HBu hv;go_wp2_with fail;refine HC.out.mono ?_;rintro e w3 ⟨rfl,hvl,htr,hrs,hfr⟩;have HH:Hid (S7 p K lb nl dp Y w (.returned (.int .i64 Y.1.2.1)) w3):=zhi ⟨rfl,hvl,htr,hrs,HB.out.fr.trans hfr⟩;clear hvl htr hrs hfr HB HC;go_wp2_with fail;go_ret;exact HH.out
   ·skip
    obtain rfl:m=1:=NE.out.2 (by decide);obtain ⟨v0,rfl⟩:=z3s Hvn.out;obtain ⟨ad,rfl,ca0⟩:=HRd.out 0 _ rfl;rw [z0N] at ca0;have hk2:k2=5:=by rw [HK2.out,N4.out (by decide)]; rfl
    obtain ⟨zb,hzb⟩:∃ zb,zb=zB K.ls (pn7 fl) C (nB L O ts):=⟨_,rfl⟩;have hYz:Y=zW K.ls zb (zX K.ls (pn7 fl) C x) ((K.ls - s2.st).toNat+1) v0 s2:=by
     rw [HY2,hk2,hzb];simp [zbft,zSr]
    have hxl:nL L O es=[x]:=by
     have h:=congrArg List.length HXR.out;rw [z1G,<- HLn.out.1] at h;rw [HXR.out];have:r=[]:=q_g (by simpa using h);rw [this]
    have HYz:=zhi hYz;have HXl:=zhi hxl;have HZb:=zhi hzb;have HSc:Hid (K.ls<s2.st+(((K.ls - s2.st).toNat+1:Nat):Int)/\s2.st<=K.ls):=zhi ⟨by omega,hs2⟩;clear HY2 HP HFm hYz hk2 HBu hxl hzb HR HX HTs HUs hs2 x0 x1 x2 x3 x4 x5;obtain ⟨x0,x1,x2,x3,x4,x5⟩:=HB.out.cells;go_wp2_with fail
    go_loopw [7] (fun o wr=>∃ (v':Int) (m':Nat) (s':Sx) (ad':Addr) (oc:Nat),o=.slice (some ad') 1 oc/\wr.cell? ad'=some (.int .i64 v')/\Hid (Y=zW K.ls zb (zX K.ls (pn7 fl) C x) m' v' s')/\Hid (Bx7 p K lb nl dp w #[.int .i64 5,.int .i64 l,.string nm,.slice eA 1 ec,.slice tA tn tc,.slice uA un uc] 121 s' wr)/\Hid (K.ls<s'.st+m'/\s'.st<=K.ls)) (fun _ wr=>(K.ls+1 - z9Y p wr).toNat)
    case atStart=>exact ⟨v0,_,s2,ad,c2,rfl,ca0,HYz,HB,HSc⟩
    case round =>
     obtain ⟨v',m',s',ad',oc,rfl,ca',HYr,HBr,HMs⟩:=hrel;have Hsr:=zhi HBr.out.rs.stOf;clear HYz HB HSc ca0 x0 x1 x2 x3 x4 x5;obtain ⟨x0,x1,x2,x3,x4,x5⟩:=HBr.out.cells
     by_cases hv:v'=0
     ·have i1:(v' != 0)=false:=by simp [hv]
      have HH:Hid (S7 p K lb nl dp Y w (.returned (.int .i64 0)) wr):=zhi (HBr.out.retS (v:=0) (t:=0) (by
       rw [HYr.out];cases m' with
       | zero=>have:=HMs.out; omega
       | succ m'=>rw [zW,if_pos hv]) (fun e=>by cases e) (fun e=>by cases e))
      clear HYr HBr HLs HBt hv;go_wp2_with fail;go_ret;exact HH.out
     ·have i1:(v' != 0)=true:=by simp [hv]
      obtain ⟨m1,rfl⟩:∃ m1,m'=m1+1:=by
       have:=HMs.out;cases m' with
       | zero=>omega
       | succ m1=>exact ⟨m1,rfl⟩
      have hYc:=HYr.out;rw [zW,if_neg hv] at hYc;have HCb:=zhi (HBt.out wr s' HBr.out);rw [<- HZb.out] at HCb;obtain ⟨y1,hy1⟩:∃ y1,y1=zb s':=⟨_,rfl⟩;rw [<- hy1] at HCb hYc;have Hy1:=zhi hy1;obtain ⟨⟨v1,k1,t1⟩,s1⟩:=y1;have HYc:=zhi hYc;clear hYc hy1 HYr hv;go_wp2_with fail;refine HCb.out.mono ?_;rintro e w3 ⟨rfl,hvl,htr,hrs3,hfr3⟩;dsimp only at hvl htr hrs3 HYc ⊢;have HB3:=zhi (HBr.out.call hrs3 hfr3);have HT:=zhi (And.intro hvl htr);clear hrs3 hfr3 hvl htr HCb ca' x0 x1 x2 x3 x4 x5;obtain ⟨x0,x1,x2,x3,x4,x5⟩:=HB3.out.cells
      by_cases h0:k1=0
      ·subst h0;have HYd:=zhi (HYc.out.trans (if_pos rfl));have HSt:=zhi (za2 HB3.out.rs)
       by_cases hst:K.ls<=s1.st
       ·have eqs:z2y K.ls s1=((0,3,0),s1):=if_pos hst;rw [eqs] at HSt;have hY2:Y=((v1,3,0),s1):=by rw [HYd.out]; exact if_pos hst
        have HY2:=zhi hY2;clear hY2 HYd HYc eqs hst;go_wp2_with fail;refine HSt.out.mono ?_;rintro e w4 ⟨rfl,_,_,hrs4,hfr4⟩;have HH:Hid (S7 p K lb nl dp Y w (.returned (.int .i64 3)) w4):=zhi ((HB3.out.call hrs4 hfr4).retS HY2.out (fun e=>by cases e) (fun e=>by cases e));clear hrs4 hfr4 HSt HB3 HBr HLs HBt;go_wp2_with fail;go_ret;exact HH.out
       ·have eqs:z2y K.ls s1=((0,0,0),tick s1):=if_neg hst;rw [eqs] at HSt;have HYe:=zhi (HYd.out.trans (if_neg hst));have Hst:=zhi hst;clear HYd HYc eqs hst;go_wp2_with fail;refine HSt.out.mono ?_;rintro e w4 ⟨rfl,_,_,hrs4,hfr4⟩;have HB4:=zhi (HB3.out.call hrs4 hfr4);have HCl:=zhi (HLs.out w4 _ HB4.out);rw [HXl.out] at HCl;clear hrs4 hfr4 HSt x0 x1 x2 x3 x4 x5;obtain ⟨x0,x1,x2,x3,x4,x5⟩:=HB4.out.cells;obtain ⟨y2,hy2⟩:∃ y2,y2=zX K.ls (pn7 fl) C x (tick s1):=⟨_,rfl⟩;have hq:zL K.ls (pn7 fl) C [x] (tick s1)=zcons y2 (zL K.ls (pn7 fl) C []):=by rw [hy2]; rfl
        rw [hq] at HCl;rw [<- hy2] at HYe;have Hy2:=zhi hy2;obtain ⟨⟨v2,k3,t2⟩,s3⟩:=y2;clear hq hy2
        by_cases h2:k3=0
        ·subst h2;have hq2:zcons ((v2,0,t2),s3) (zL K.ls (pn7 fl) C [])=([v2],(0,0),s3):=by simp [zcons,zL]
         rw [hq2] at HCl;have HY2:=zhi (HYe.out.trans (if_pos rfl));clear hq2;go_wp2_with fail;refine HCl.out.mono ?_;rintro e w5 ⟨A5,n5,c5,rfl,hq5,_,hrs5,hfr5⟩;dsimp only at hq5 hrs5 HY2 ⊢;obtain ⟨hn5,_,hrd5,_⟩:=hq5 rfl;obtain rfl:n5=1:=hn5;obtain ⟨ad5,rfl,ca5⟩:=hrd5 0 _ rfl;rw [z0N] at ca5;have HB5:=zhi (HB4.out.call hrs5 hfr5);have hs5:=HB5.out.rs.stOf;have hMs:=HMs.out;have hmo1:s'.st<=s1.st:=by
          have h:=(z8a (ls:=K.ls) (pn:=pn7 fl) (C:=C) (nB L O ts) (fun t _=>zdu hM t) s').2.1;rw [<- HZb.out,<- Hy1.out] at h;exact h
         have hmo2:s1.st+1<=s3.st/\s3.st<=K.ls:=by
          have h:=(z68 (ls:=K.ls) (pn:=pn7 fl) (C:=C) hM x (tick s1)).2;rw [<- Hy2.out] at h;have hle:=Hst.out;exact ⟨h.1,h.2 (by show s1.st+1<=K.ls; omega)⟩
         have hmeas:(K.ls+1 - z9Y p w5).toNat<(K.ls+1 - z9Y p wr).toNat:=by rw [hs5,Hsr.out]; omega
         have HMs2:Hid (K.ls<s3.st+m1/\s3.st<=K.ls):=zhi ⟨by omega,hmo2.2⟩;have HM5:=zhi hmeas;clear hq5 hrs5 hfr5 hrd5 hs5 hMs hmo1 hmo2 hmeas HCl HYe HB4 HB3 HBr;go_wp2_with fail;exact ⟨⟨v2,m1,s3,ad5,c5,rfl,ca5,HY2,HB5,HMs2⟩,HM5.out⟩
        ·have hq2:zcons ((v2,k3,t2),s3) (zL K.ls (pn7 fl) C [])=([],(k3,t2),s3):=by simp [zcons,h2]
         rw [hq2] at HCl;have hk1:k3≠1:=fun e=>by
          have h:=zao (ls:=K.ls) (pn:=pn7 fl) hN x (tick s1);rw [<- Hy2.out] at h;rcases h with h | h | h
          ·exact h2 h.1
          ·have h:k3=2:=h.1;omega
          ·have h:k3=3:=h.1;omega
         have HY2:Hid (Y=((v1,k3,t2),s3)):=zhi (HYe.out.trans (if_neg h2));have h2':(k3 != 0)=true:=by simp [h2]
         have HK1:=zhi hk1;clear hq2 h2 hk1;go_wp2_with fail;refine HCl.out.mono ?_;rintro e w5 ⟨A5,n5,c5,rfl,_,htq5,hrs5,hfr5⟩;have HH:Hid (S7 p K lb nl dp Y w (.returned (.int .i64 k3)) w5):=zhi ((HB4.out.call hrs5 hfr5).retS HY2.out (fun e=>absurd e HK1.out) htq5);clear htq5 hrs5 hfr5 HCl HYe HB4 HB3 HBr HLs HBt;go_wp2_with fail;go_ret;exact HH.out
      ·have hY2:Y=((v1,k1,t1),s1):=HYc.out.trans (if_neg h0);have h0':(k1 != 0)=true:=by simp [h0]
       have HH:Hid (S7 p K lb nl dp Y w (.returned (.int .i64 k1)) w3):=zhi (HB3.out.retS hY2 HT.out.1 HT.out.2);clear hY2 h0 HB3 HBr HYc HT HLs HBt;go_wp2_with fail;go_ret;exact HH.out
   ·skip
    obtain rfl:m=1:=NE.out.2 (by decide);obtain ⟨v0,rfl⟩:=z3s Hvn.out;obtain ⟨ad,rfl,ca0⟩:=HRd.out 0 _ rfl;rw [z0N] at ca0;have hk2:k2=6:=by rw [HK2.out,N4.out (by decide)]; rfl
    have hYz:Y=((v0,1,0),s2):=by
     rw [HY2,hk2];simp [zbft,zSr]
    obtain ⟨hb6,hvl6,⟨vl6,c10⟩,f10⟩:=HB.out.setV v0;have HH:Hid (S7 p K lb nl dp Y w (.returned (.int .i64 1)) (w2.setCell ⟨p,10,none⟩ (.int .i64 v0))):=zhi (hb6.retS hYz (fun _=>hvl6) (fun e=>by cases e));clear HY2 HP HFm hYz hk2 HLs HBt HBu hb6 hvl6 HB;go_wp2_with fail;go_ret;exact HH.out
   ·skip
    obtain rfl:m=1:=NE.out.2 (by decide);obtain ⟨v0,rfl⟩:=z3s Hvn.out;obtain ⟨ad,rfl,ca0⟩:=HRd.out 0 _ rfl;rw [z0N] at ca0;have hk2:k2=7:=by rw [HK2.out,N4.out (by decide)]; rfl
    have hYz:Y=zPr v0 s2:=by
     rw [HY2,hk2];simp [zbft,zSr]
    obtain ⟨oA,oc,L0,c8,hol,hgr,hfin⟩:=HB.out.outs;obtain ⟨m8,hm8⟩:∃ m8,m8=s2.out.length:=⟨_,rfl⟩;rw [<- hm8] at c8 hol hgr hfin;have HB0:=zhi HB.out;have Hm8:=zhi hm8
    by_cases hl:m8=4096
    ·have hYs:Y=((0,3,0),s2):=by
      rw [hYz];exact if_pos (by omega)
     have HH:Hid (S7 p K lb nl dp Y w (.returned (.int .i64 3)) w2):=zhi (HB.out.retS hYs (fun e=>by cases e) (fun e=>by cases e));have i1:((4096:Int)<=(m8:Int))=True:=eq_true (by omega);clear HY2 HP HFm hYz hk2 HLs HBt HBu HB HB0 hYs hgr hfin hm8 hl;go_wp2_with fail;go_ret;exact HH.out
    ·have hYs:Y=((0,0,0),{ s2 with out:=s2.out++[v0] }):=by
      rw [hYz];exact if_neg (by omega)
     have i1:((4096:Int)<=(m8:Int))=False:=eq_false (by omega);have hml:m8<4096:=by omega
     have HGr:=zhi hgr;have HFin:Hid (∀ (W2:World) (g:Nat) (cap:Nat) (L2:List Value),w2.grownBy W2 (Value.slice oA m8 oc).ownBlock->GRow 1 3 ZInt (p+1) W2 (.slice (some ⟨g,0,none⟩) (s2.out.length+1) cap) (s2.out++[v0]) L2->((Value.slice oA m8 oc).ownBlock=some g\/w2.heap.size<=g)->S7 p K lb nl dp Y w (.returned (.int .i64 0)) (W2.setCell ⟨p,8,none⟩ (.slice (some ⟨g,0,none⟩) (s2.out.length+1) cap))):=zhi (fun W2 g cap L2 h1 h2 h3=>(hfin W2 _ v0 L2 h1 h2 (fun b hb=>by
      have e:g=b:=by simpa [Value.ownBlock] using hb
      subst e;exact h3) hml).retS hYs (fun e=>by cases e) (fun e=>by cases e))
     have hpw:=HB.out.wp;have HP8:Hid (∀ W',w2.grownBy W' (Value.slice oA m8 oc).ownBlock->W'.cell? ⟨p,8,none⟩=some (.slice oA m8 oc)/\W'.frozen? ⟨p,8,none⟩=false):=zhi (fun W' hg=>by
      obtain ⟨iv,ov,tr,vl,hm⟩:=HB0.out.rs;have hk:=hg.block p hpw (fun e=>by have:=(hgr.own.lt _ e.symm).1; omega);have hr:=hk.trans hm.r;have c8':w2.cell? ⟨p,8,none⟩=some ov:=zcr 8 hm.r;rw [c8] at c8';injection c8' with c8';subst c8';exact ⟨zcr 8 hr,z09 hr 8⟩)
     have hlen8:s2.out.length<=1000000:=by omega
     clear HY2 HP HFm hYz hk2 HLs HBt HBu HB HB0 hYs hgr hfin hm8 hl;go_upto_region 38 with fail
     go_region_law (refine z86 p w2 _ rfl (.tmp 152) (.tmp 156) rfl (.slice oA m8 oc) s2.out L0 v0 rfl rfl HGr.out hpw hlen8 (by first | exact z0m ((q_i _ _).alloc (q_2 _) _) | exact z12 ((q_i _ _).alloc (q_2 _) _) _ | exact (q_i _ _).alloc (q_2 _) _) (q_4 w2 _) ?_; intro g7 cap7 w7 L7 hgr7 hg7 hat7; have hp8:=HP8.out _ hg7; have y8:=hp8.1; have f8:=hp8.2)
     all_goals
      have HH:=zhi (HFin.out _ _ _ _ hg7 hgr7 hat7);clear hgr7 hg7 hat7 hp8 HFin HP8 HGr;go_wp2_with fail;go_ret;exact HH.out
   ·skip
    obtain rfl:m=1:=NE.out.2 (by decide);obtain ⟨v0,rfl⟩:=z3s Hvn.out;obtain ⟨ad,rfl,ca0⟩:=HRd.out 0 _ rfl;rw [z0N] at ca0;have hk2:k2=8:=by rw [HK2.out,N4.out (by decide)]; rfl
    have hYz:Y=((0,0,0),s2):=by
     rw [HY2,hk2];simp [zbft,zSr]
    have HH:Hid (S7 p K lb nl dp Y w (.returned (.int .i64 0)) w2):=zhi (HB.out.retS hYz (fun e=>by cases e) (fun e=>by cases e));clear HY2 HP HFm hYz hk2 HLs HBt HBu HB;go_wp2_with fail;go_ret;exact HH.out
  ·have hq1:q2≠1:=fun e=>by
    rcases HLz.1 with h | h | h
    ·exact h0 h.1
    ·have h:q2=2:=h;omega
    ·have h:q2=3:=h.1;omega
   replace HY2:Y=((0,q2,t2),s2):=HY2.trans (if_neg h0);have h0':(q2 != 0)=true:=by simp [h0]
   have HH:Hid (S7 p K lb nl dp Y w (.returned (.int .i64 q2)) w2):=zhi (HB.out.retS HY2 (fun e=>absurd e hq1) htr2);clear HY2 hq2 htr2 HLz h0 hq1 HB x0 x1 x2 x3 x4 x5 HLs HBt HBu;go_wp2_with fail;go_ret;exact HH.out
end
end Go.Proofs.YtdflbhofmmlpgaaGreat
