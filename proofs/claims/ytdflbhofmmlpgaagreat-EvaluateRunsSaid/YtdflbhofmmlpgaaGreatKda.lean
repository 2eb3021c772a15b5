/-
  Kda: RpOp, RpLev, RpLev2, RpUn, RpPrim, RpCall0. Part of the proof. No condition.
-/
import Derived.Test.YtdflbhofmmlpgaaGreatKh
set_option maxRecDepth 100000
set_option maxHeartbeats 8000000
namespace Go.Proofs.YtdflbhofmmlpgaaGreat
open Go.RowKit
def zdF (w:World) (g:Nat) (l:List z0e):Prop:=∀ i x,l[i]?=some x->w.cell? ⟨g,i,none⟩=some (.string (nmB x))
def zdz (w:World) (g:Nat) (l:List Nat):Prop:=∀ (i x:Nat),l[i]?=some x->w.cell? ⟨g,i,none⟩=some (.int .i64 (x:Int))
def OpRG (p tb:Nat) (l:List z0e) (ops:List Nat) (s:RS) (w:World) (e:Ending) (w':World):Prop:=∃ (o ln:Nat) (s':RS),e=.returned (.tuple #[.int .i64 (o:Int),.int .i64 (ln:Int)])/\RA w' p tb s'/\w.grownBy w' (some p) /\
 ((∃ (i:Nat) (t:z0e),l[i]?=some t/\isR t s=true/\ops[i]?=some o/\ln=(hdR s).line/\s'=popR s)\/(z1K l s=false/\o=0/\ln=0/\s'=s))
theorem z2H {p tb:Nat} {s:RS} (l:List z0e) (ops:List Nat) (n g1 g2 c1 c2:Nat) (w:World) (h:RA w p tb s) (hn:l.length=n) (hn2:ops.length=n) (hn3:n<=1000) (_hc1:n<=c1) (_hc2:n<=c2) (h1:zdF w g1 l) (h2:zdz w g2 ops) (hg:g2≠p) :
  Calls Tryz.prog 110 #[.pointer (some ⟨p,0,none⟩),.slice (some ⟨g1,0,none⟩) n c1,.slice (some ⟨g2,0,none⟩) n c2] w (OpRG p tb l ops s w):=by
 have HA:=zhi h;have HN:=zhi hn;have HN2:=zhi hn2;have H1:=zhi h1;have H2:=zhi h2;clear h hn hn2 h1 h2;go_enter Tryz.func110,Tryz.ntmps110;go_wp2_with fail
 go_loopw [8] (fun i wr=>∃ k:Nat,k<=n/\i=.int .i64 (k:Int)/\Hid (Below w.heap.size w wr)/\Hid (∀ j t,j<k->l[j]?=some t->isR t s=false)) (fun i _=>n - (intOf i).toNat)
 case atStart=>exact ⟨0,q_h _,rfl,zhi (q_i _ _),zhi (fun j t hj=>by omega)⟩
 case round =>
  obtain ⟨k,hk,rfl,HB,HP⟩:=hrel
  by_cases hlt:k<n
  ·obtain ⟨t,ht⟩:∃ t,l[k]?=some t:=⟨l[k]'(by rw [HN.out]; exact hlt),q_7 _⟩;obtain ⟨o,ho⟩:∃ o,ops[k]?=some o:=⟨ops[k]'(by rw [HN2.out]; exact hlt),q_7 _⟩;have d0:=hold HB.out (H1.out k t ht);have HT:=zhi ht;have HO:=zhi ho;have HI:=zhi (is_r t wr (HA.out.below HB.out));clear ht ho;go_wp2_with fail;refine HI.out.mono ?_;rintro e w1 ⟨rfl,hb1⟩;have HB1:=zhi (z08 HB.out hb1);have HA1:=zhi (HA.out.below (z08 HB.out hb1));clear hb1 HI;cases hv:isR t s with
   | true =>
    have HNow:=zhi (z3m w1 HA1.out);have HV:=zhi hv;clear hv;go_wp2_with fail;refine HNow.out.mono ?_;rintro e w2 ⟨rfl,hb2⟩;have HB2:=zhi (z08 HB1.out hb2);obtain ⟨a,c,N,hr⟩:=HA1.out.below hb2;have e1:=hr.cells.2.1;have f1:=hr.cells.2.2.2.2 1;have hsm:=hr.sm;have hlt2:=hr.lt;have hgs:=z03 w2 ⟨p,1,none⟩ (.int .i64 ((a:Int)+1));have HE:=zhi (hr.popSet (z1O hr.wf HV.out));have d2:(w2.setCell ⟨p,1,none⟩ (.int .i64 ((a:Int)+1))).cell? ⟨g2,k,none⟩=some (.int .i64 (o:Int)):=z0b hgs hg (hold HB2.out (H2.out k o HO.out));have HG:=zhi ((z02 HB2.out (some p)).trans hgs);clear hr hgs HNow hb2;unfold z1F;have hfd:∀ w:World,(Instr.field 110 (.agg #[.int .i64 ((hdR s).kind:Int),.int .i64 ((hdR s).line:Int),.int .i64 ((hdR s).value:Int),.string (nmB (hdR s).text)]) 1).run Tryz.prog w=.ok (.int .i64 ((hdR s).line:Int)) w:=fun _=>by kernel_rfl
    go_wp2_with fail
    go_ret2
    exact ⟨o,(hdR s).line,popR s,rfl,⟨_,_,_,HE.out⟩,HG.out,.inl ⟨k,t,HT.out,HV.out,HO.out,rfl,rfl⟩⟩
   | false =>
    have HP2:Hid (∀ j t,j<k+1->l[j]?=some t->isR t s=false):=zhi (fun j u hj hu=>by
     rcases q_f j k with h | h
     ·exact HP.out j u h hu
     ·obtain rfl:j=k:=by omega
      have:=HT.out.symm.trans hu;injection this with this;rw [<- this]; exact hv)
    clear hv;go_wp2_with fail;exact ⟨⟨k+1,by omega,by go_num,HB1,HP2⟩,by simp [intOf]; omega⟩
  ·have HS:Hid (z1K l s=false):=zhi (by
    rw [z1K,List.any_eq_false];intro t ht;obtain ⟨j,hj⟩:=q_l ht;have hjn:j<l.length:=by
     rcases q_f j l.length with h' | h'
     ·exact h'
     ·rw [q_j h'] at hj; cases hj
    rw [HP.out j t (by have:=HN.out; omega) hj];simp)
   go_wp2_with fail
   go_ret2
   exact ⟨0,0,s,rfl,HA.out.below HB.out,z02 HB.out _,.inr ⟨HS.out,rfl,rfl,rfl⟩⟩
def TwoG (F:Nat->Prop) (k o l:Int) (x y:Ex) (w:World) (e:Ending) (w':World):Prop:=∃ d b,e=.returned (.agg #[.int .i64 k,.int .i64 o,.int .i64 0,.int .i64 l,.string ⟨#[]⟩,.slice (some ⟨b,0,none⟩) 2 2])/\ExV (fun q=>F q\/w.heap.size<=q/\q<w'.heap.size) w' d (.mk k o 0 l ⟨#[]⟩ [x,y]) (.agg #[.int .i64 k,.int .i64 o,.int .i64 0,.int .i64 l,.string ⟨#[]⟩,.slice (some ⟨b,0,none⟩) 2 2])/\Below w.heap.size w w'
theorem zdn {F:Nat->Prop} {dx dy:Nat} {x y:Ex} {c0 c1 c2 c3 c4 c5 e0 e1 e2 e3 e4 e5:Value} {k o l:Int} {w:World} {A1 A2 A3:Obj} {t:TypeId} {b1 b2:Nat} (hb1:b1=w.heap.size+1+1) (hb2:b2=w.heap.size+1+1+1) (hF:∀ q,F q->q<w.heap.size) (hx:ExV F w dx x (.agg #[c0,c1,c2,c3,c4,c5])) (hy:ExV F w dy y (.agg #[e0,e1,e2,e3,e4,e5])) :
  (((w.alloc A1).alloc A2).alloc A3 |>.alloc (.cells #[c0,c1,c2,c3,c4,c5,e0,e1,e2,e3,e4,e5] t)).heap[b1]?=some A3 /\
  TwoG F k o l x y w (.returned (.agg #[.int .i64 k,.int .i64 o,.int .i64 0,.int .i64 l,.string ⟨#[]⟩,.slice (some ⟨b2,0,none⟩) 2 2])) (((w.alloc A1).alloc A2).alloc A3 |>.alloc (.cells #[c0,c1,c2,c3,c4,c5,e0,e1,e2,e3,e4,e5] t)):=by
 subst hb1 hb2;have z2:((w.alloc A1).alloc A2).heap.size=w.heap.size+1+1:=by simp
 have z3:(((w.alloc A1).alloc A2).alloc A3).heap.size=w.heap.size+1+1+1:=by simp
 have h1:=z14 ((w.alloc A1).alloc A2) A3 (.cells #[c0,c1,c2,c3,c4,c5,e0,e1,e2,e3,e4,e5] t);have h2:=q_4 (((w.alloc A1).alloc A2).alloc A3) (.cells #[c0,c1,c2,c3,c4,c5,e0,e1,e2,e3,e4,e5] t);have hb:=((((q_i _ w).alloc (q_2 _) A1).alloc (by simp) A2).alloc (by simp; omega) A3).alloc (by simp; omega) (.cells #[c0,c1,c2,c3,c4,c5,e0,e1,e2,e3,e4,e5] t);rw [z2] at h1;rw [z3] at h2;have hX:=(hx.mono dy).keep (G:=fun q=>F q\/w.heap.size<=q/\q<(((w.alloc A1).alloc A2).alloc A3 |>.alloc (.cells #[c0,c1,c2,c3,c4,c5,e0,e1,e2,e3,e4,e5] t)).heap.size) (fun q hq=>.inl hq) (fun q hq=>hb.block q (hF q hq));have hY:=(hy.mono dx).keep (G:=fun q=>F q\/w.heap.size<=q/\q<(((w.alloc A1).alloc A2).alloc A3 |>.alloc (.cells #[c0,c1,c2,c3,c4,c5,e0,e1,e2,e3,e4,e5] t)).heap.size) (fun q hq=>.inl hq) (fun q hq=>hb.block q (hF q hq));rw [Nat.add_comm] at hY;exact ⟨h1,dx+dy+1,_,rfl,⟨_,_,rfl,z2j hX hY (.inr ⟨by omega,by simp⟩) h2⟩,hb⟩
theorem za8 {F:Nat->Prop} {dx dy:Nat} {x y:Ex} {c0 c1 c2 c3 c4 c5 e0 e1 e2 e3 e4 e5:Value} (k o l:Int) (w:World) (hF:∀ q,F q->q<w.heap.size) (hx:ExV F w dx x (.agg #[c0,c1,c2,c3,c4,c5])) (hy:ExV F w dy y (.agg #[e0,e1,e2,e3,e4,e5])) :
  Calls Tryz.prog 105 #[.int .i64 k,.int .i64 o,.int .i64 l,.agg #[c0,c1,c2,c3,c4,c5],.agg #[e0,e1,e2,e3,e4,e5]] w (TwoG F k o l x y w):=by
 obtain ⟨hrow,hE⟩:=zdn (k:=k) (o:=o) (l:=l) (A1:=.cells #[c0,c1,c2,c3,c4,c5] 124) (A2:=.cells #[e0,e1,e2,e3,e4,e5] 124) (A3:=.cells #[.int .i64 k,.int .i64 o,.int .i64 0,.int .i64 l,.string ⟨#[]⟩,.slice (some ⟨w.heap.size+1+1+1,0,none⟩) 2 2] 124) (t:=124) rfl rfl hF hx hy;obtain ⟨j0,j1,j2,j3,j4,j5⟩:=cl6 hrow;have HE:=zhi hE;clear hx hy hrow hE hF;go_enter Tryz.func105,Tryz.ntmps105;go_wp2_with fail;exact q_3 (by simp [results,Tryz.results105,go_sem,j0,j1,j2,j3,j4,j5]) rfl HE.out
def XRG (p tb:Nat) (x:Ex) (s s':RS) (w:World) (e:Ending) (w':World):Prop:=∃ d k o a l t A n c,e=.returned (.agg #[.int .i64 k,.int .i64 o,.int .i64 a,.int .i64 l,.string t,.slice A n c]) /\
 ExV (fun q=>w.heap.size<=q/\q<w'.heap.size) w' d x (.agg #[.int .i64 k,.int .i64 o,.int .i64 a,.int .i64 l,.string t,.slice A n c])/\RA w' p tb s'/\w.grownBy w' (some p)/\s'.rest.length<=s.rest.length
def SubR (f:FuncId) (P:R1):Prop:=∀ (p tb:Nat) (s s':RS) (x:Ex) (w:World),RA w p tb s->P s=some (x,s')->Calls Tryz.prog f #[.pointer (some ⟨p,0,none⟩)] w (XRG p tb x s s' w)
def z0y (w:World) (p:Nat):Nat:=match w.cell? ⟨p,0,none⟩,w.cell? ⟨p,1,none⟩ with | some (.slice _ n _),some (.int _ a)=>n - a.toNat | _,_=>0
theorem RA.rest {w:World} {p tb:Nat} {s:RS} (h:RA w p tb s):z0y w p=s.rest.length:=by
 obtain ⟨a,c,n,h⟩:=h;have:=h.len;simp [z0y,h.cells.1,h.cells.2.1];omega
theorem z3b (t:z0e) (s:RS):z1K [t] s=isR t s:=by simp [z1K]
theorem z33 {P:R1} {l:List z0e} {n:Nat} {x xr:Ex} {s sr:RS} (h:z45 P l n x s=some (xr,sr)) (hs:z1K l s=true):∃ m y s2,n=m+1/\P (popR s)=some (y,s2)/\z45 P l m (binP (hdR s) x y) s2=some (xr,sr):=by
 cases n with
 | zero=>cases h
 | succ m =>
  simp only [z45,hs,if_true] at h;cases hp:P (popR s) with
  | none=>rw [hp] at h; cases h
  | some q=>rw [hp] at h; exact ⟨m,q.1,q.2,rfl,rfl,h⟩
theorem z32 {P:R1} {l:List z0e} {n:Nat} {x xr:Ex} {s sr:RS} (h:z45 P l n x s=some (xr,sr)) (hs:z1K l s=false):xr=x/\sr=s:=by
 cases n with
 | zero=>cases h
 | succ m =>
  simp only [z45,hs] at h;injection h with h;injection h with h1 h2;exact ⟨h1.symm,h2.symm⟩
theorem z1Y {P:R1} {l:List z0e} {xr:Ex} {s sr:RS} (h:z2N P l s=some (xr,sr)):∃ x1 s1 n,P s=some (x1,s1)/\z45 P l n x1 s1=some (xr,sr):=by
 unfold z2N at h;cases hp:P s with
 | none=>rw [hp] at h; cases h
 | some q=>rw [hp] at h; exact ⟨q.1,q.2,_,rfl,h⟩
theorem z31 {t:z0e} {s:RS} (h:isR t s=true):(hdR s).text=t:=by
 simp only [isR,Bool.and_eq_true,decide_eq_true_eq] at h;exact h.2.2
def z1o:Obj:=.cells #[.int .i64 0,.int .i64 0,.int .i64 0,.int .i64 0,.string { data:=#[] },.slice none 0 0] 124
def XBox (lo:Nat) (w:World) (b:Nat) (x:Ex):Prop:=lo<=b/\∃ d k o a l s A n c,w.heap[b]?=some (.cells #[.int .i64 k,.int .i64 o,.int .i64 a,.int .i64 l,.string s,.slice A n c] 124 (0,0))/\ExV (fun q=>lo<=q/\q<w.heap.size/\q≠b) w d x (.agg #[.int .i64 k,.int .i64 o,.int .i64 a,.int .i64 l,.string s,.slice A n c])
theorem XBox.lt {lo:Nat} {w:World} {b:Nat} {x:Ex} (h:XBox lo w b x):b<w.heap.size:=by
 obtain ⟨_,d,k,o,a,l,s,A,n,c,hr,_⟩:=h;exact (q_0.1 hr).1
theorem XBox.keep {lo:Nat} {w w':World} {b:Nat} {x:Ex} (h:XBox lo w b x) (hs:w.heap.size<=w'.heap.size) (hk:∀ q,lo<=q->q<w.heap.size->w'.heap[q]?=w.heap[q]?):XBox lo w' b x:=by
 have hlt:=h.lt;obtain ⟨h1,d,k,o,a,l,s,A,n,c,hr,hx⟩:=h;exact ⟨h1,d,k,o,a,l,s,A,n,c,(hk b h1 hlt).trans hr,hx.keep (fun q hq=>⟨hq.1,q_1 hq.2.1 hs,hq.2.2⟩) (fun q hq=>hk q hq.1 hq.2.1)⟩
theorem XBox.below {lo:Nat} {w w':World} {b:Nat} {x:Ex} (h:XBox lo w b x) (hb:Below w.heap.size w w'):XBox lo w' b x:=h.keep hb.size (fun q _ hq=>hb.block q hq)
theorem XBox.grown {lo p:Nat} {w w':World} {b:Nat} {x:Ex} (h:XBox lo w b x) (hg:w.grownBy w' (some p)) (hp:p<lo):XBox lo w' b x:=h.keep hg.size (fun q hq hq2=>hg.block q hq2 (fun e=>by injection e with e; omega))
def LevR (P:R1) (l:List z0e) (p tb xb:Nat) (x:Ex) (s s':RS) (w wr:World):Prop :=
 ∃ n xx ss,z45 P l n xx ss=some (x,s')/\XBox (w.heap.size+1) wr xb xx/\RA wr p tb ss/\w.grownBy wr (some p)/\wr.heap[w.heap.size]?=some z1o/\ss.rest.length<=s.rest.length
theorem zak {lo d:Nat} {w:World} {x:Ex} {k o a l:Int} {t:Zb} {A:Option Addr} {n c:Nat} (hlo:lo<=w.heap.size) (h:ExV (fun q=>lo<=q/\q<w.heap.size) w d x (.agg #[.int .i64 k,.int .i64 o,.int .i64 a,.int .i64 l,.string t,.slice A n c])) :
  XBox lo (w.alloc (.cells #[.int .i64 k,.int .i64 o,.int .i64 a,.int .i64 l,.string t,.slice A n c] 124)) w.heap.size x :=
 ⟨hlo,d,k,o,a,l,t,A,n,c,q_4 _ _,h.keep (fun q hq=>⟨hq.1,by simp; omega,by omega⟩) (fun q hq=>((q_i _ w).alloc (q_2 _) _).block q hq.2)⟩
theorem z2q {P:R1} {l:List z0e} {p tb n d:Nat} {x x1:Ex} {s s1 s':RS} {w w1:World} {k o a ln:Int} {t:Zb} {A:Option Addr} {m c:Nat} (hlp:z45 P l n x1 s1=some (x,s')) (hp:p<w.heap.size)
  (hv:ExV (fun q=>(w.alloc z1o).heap.size<=q/\q<w1.heap.size) w1 d x1 (.agg #[.int .i64 k,.int .i64 o,.int .i64 a,.int .i64 ln,.string t,.slice A m c])) (h1:RA w1 p tb s1) (hg:(w.alloc z1o).grownBy w1 (some p)) (hl:s1.rest.length<=s.rest.length) :
  LevR P l p tb w1.heap.size x s s' w (w1.alloc (.cells #[.int .i64 k,.int .i64 o,.int .i64 a,.int .i64 ln,.string t,.slice A m c] 124)):=by
 have hz:=hg.size;simp at hz;have hz1:=(hg.block w.heap.size (by simp) (fun e=>by injection e with e; omega)).trans (q_4 w z1o);refine ⟨n,x1,s1,hlp,zak (by omega) (hv.keep (fun q hq=>⟨by have:=hq.1; simp at this; omega,hq.2⟩) (fun _ _=>rfl)),h1.alloc _,((z02 ((q_i _ w).alloc (q_2 _) _) (some p)).trans hg).trans (z02 ((q_i _ w1).alloc (q_2 _) _) _),?_,hl⟩;exact (((q_i _ w1).alloc (q_2 _) _).block _ (by omega)).trans hz1
theorem z1P {p tb d xb:Nat} {x:Ex} {s s':RS} {w wr w9:World} {k o a ln:Int} {t:Zb} {A:Option Addr} {m c:Nat} (hx:ExV (fun q=>w.heap.size+1<=q/\q<wr.heap.size/\q≠xb) wr d x (.agg #[.int .i64 k,.int .i64 o,.int .i64 a,.int .i64 ln,.string t,.slice A m c])) (h:RA wr p tb s') (hg:w.grownBy wr (some p)) (hl:s'.rest.length<=s.rest.length) (hp:p<w.heap.size) (ht:tb<w.heap.size) (hg9:wr.grownBy w9 (some w.heap.size)) :
  XRG p tb x s s' w (.returned (.agg #[.int .i64 k,.int .i64 o,.int .i64 a,.int .i64 ln,.string t,.slice A m c])) w9 :=
 ⟨d,k,o,a,ln,t,A,m,c,rfl,z0H hx (fun q hq=>⟨⟨by omega,q_1 hq.2.1 hg9.size⟩,hq.2.1,by omega⟩) hg9,h.other hg9 (by omega) (by omega),z0r hg hg9 (q_2 _),hl⟩
theorem z3N {P:R1} {l:List z0e} {p tb xb m d6:Nat} {x x2:Ex} {s s' s2:RS} {w w6 w9:World} {k o a ln:Int} {t:Zb} {A:Option Addr} {n c:Nat} (hlp:z45 P l m x2 s2=some (x,s')) (hx:w.heap.size+1<=xb) (hp:p<w.heap.size) (ht:tb<w.heap.size)
  (hv:ExV (fun q=>w.heap.size+1<=q/\q<w6.heap.size/\q≠xb) w6 d6 x2 (.agg #[.int .i64 k,.int .i64 o,.int .i64 a,.int .i64 ln,.string t,.slice A n c])) (h6:RA w6 p tb s2) (hg6:w.grownBy w6 (some p)) (hz6:w6.heap[w.heap.size]?=some z1o) (hl:s2.rest.length<=s.rest.length)
  (hrow:w9.heap[xb]?=some (.cells #[.int .i64 k,.int .i64 o,.int .i64 a,.int .i64 ln,.string t,.slice A n c] 124 (0,0))) (hg9:w6.grownBy w9 (some xb)):LevR P l p tb xb x s s' w w9/\z0y w9 p=s2.rest.length :=
 ⟨⟨m,x2,s2,hlp,⟨hx,d6,k,o,a,ln,t,A,n,c,hrow,z0H hv (fun q hq=>⟨⟨hq.1,q_1 hq.2.1 hg9.size,hq.2.2⟩,hq.2.1,hq.2.2⟩) hg9⟩,h6.other hg9 (by omega) (by omega),z0r hg6 hg9 (by omega),(hg9.block w.heap.size (q_0.1 hz6).1 (fun e=>by injection e with e; omega)).trans hz6,hl⟩,(h6.other hg9 (by omega) (by omega)).rest⟩
theorem z1v {w w':World} {row:Option Nat} (h:w.drew.grownBy w' row):w.grownBy w' row:=⟨h.os,h.tape,h.output,h.size,h.block⟩
theorem z9b {lo d p xb:Nat} {w w':World} {x:Ex} {v:Value} (hx:ExV (fun q=>lo<=q/\q<w.heap.size/\q≠xb) w d x v) (hg:w.grownBy w' (some p)) (hp:p<lo):ExV (fun q=>lo<=q/\q<w'.heap.size/\q≠xb) w' d x v :=
 z0H hx (fun q hq=>⟨⟨hq.1,q_1 hq.2.1 hg.size,hq.2.2⟩,hq.2.1,by omega⟩) hg
theorem z9c {lo d xb n:Nat} {w':World} {y:Ex} {v:Value} (hy:ExV (fun q=>n<=q/\q<w'.heap.size) w' d y v) (hlo:lo<=n) (hxb:xb<n):ExV (fun q=>lo<=q/\q<w'.heap.size/\q≠xb) w' d y v :=
 hy.keep (fun q hq=>⟨by omega,hq.2,by omega⟩) (fun _ _=>rfl)
theorem z6r {t:Tok} {x y:Ex} {b:z0e} {k o:Int} (h:t.text=b) (hk:binK b=k) (ho:binO b=o):binP t x y=.mk k o 0 (t.line:Int) ⟨#[]⟩ [x,y]:=by
 unfold binP;rw [h,hk,ho]
theorem z44 {lo d xb:Nat} {w5 w6:World} {x:Ex} {v:Value} (h:ExV (fun q=>(lo<=q/\q<w5.heap.size/\q≠xb)\/w5.heap.size<=q/\q<w6.heap.size) w6 d x v) (hs:w5.heap.size<=w6.heap.size) (hx:xb<w5.heap.size) (hlo:lo<=w5.heap.size):ExV (fun q=>lo<=q/\q<w6.heap.size/\q≠xb) w6 d x v :=
 h.keep (fun q hq=>by
  rcases hq with hq | hq
  ·exact ⟨hq.1,q_1 hq.2.1 hs,hq.2.2⟩
  ·exact ⟨by omega,hq.2,by omega⟩) (fun _ _=>rfl)
theorem z0z {P:Program} {w:World} {ops:Array Oper} {rest:List Oper} {d:Option Tmp} {ty:TypeId} {x y:Operand} {pos:String} {af:Array Edge} {gd:Option (Nat × Bool)} {a:Act} {Q:Exit->Act->World->Prop}
  (h:z07 (wpList P ops Q ({ dst:=d,op:=.store 124 x y,type:=ty,pos:=pos,after:=af,guard:=gd } :: rest) a w)):wpList P ops Q ({ dst:=d,op:=.store 124 x y,type:=ty,pos:=pos,after:=af,guard:=gd } :: rest) a w:=h
theorem z8I (P:R1) (hsub:SubR 104 P):SubR 96 (z2N P [[124,124]]):=by
 intro p tb s s' x w h hP;obtain ⟨x1,s1,n1,hp1,hloop⟩:=z1Y hP;have HS:=zhi hsub;have H1:=zhi (hsub p tb s s1 x1 (w.alloc z1o) (h.alloc _) hp1);have HL:=zhi hloop;have plt:=h.lt.1;have tlt:=h.lt.2.1;unfold z1o at H1;clear hsub hP hp1 hloop h;go_enter Tryz.func96,Tryz.ntmps96;go_wp2_with fail;refine H1.out.mono ?_;rintro e w1 ⟨d1,k1,o1,a1,l1,t1,A1,n2,c1,rfl,hv1,hp1,hg1,hl1⟩;have HR:Hid (LevR P [[124,124]] p tb w1.heap.size x s s' w (w1.alloc (.cells #[.int .i64 k1,.int .i64 o1,.int .i64 a1,.int .i64 l1,.string t1,.slice A1 n2 c1] 124))):=zhi (z2q HL.out plt hv1 hp1 hg1 hl1);have hsz1:w.heap.size+1<=w1.heap.size:=by have:=hg1.size; simpa using this
 clear H1 HL hv1 hp1 hg1 hl1;go_wp2_with fail;obtain ⟨xb,hxb⟩:∃ xb,xb=w1.heap.size:=⟨_,rfl⟩;rw [<- hxb] at HR hsz1 ⊢;clear hxb
 go_loopw [4] (fun _ wr=>LevR P [[124,124]] p tb xb x s s' w wr) (fun _ wr=>z0y wr p)
 case atStart=>exact HR.out
 case round =>
  obtain ⟨n,xx,ss,hloop,hx,hp,hg,hz,hl⟩:=hrel;clear HR;have HRL:=zhi hp.rest;have HI:=zhi (is_r [124,124] wr hp);have HX:=zhi hx;have HP:=zhi hp;have HG:=zhi hg;have HZ:=zhi hz;have Hl:=zhi hl;have HLP:=zhi hloop;have hszr:=hg.size;clear hloop hx hp hg hz hl;go_wp2_with fail;refine HI.out.mono ?_;rintro e w2 ⟨rfl,hb2⟩;have HP2:=zhi (HP.out.below hb2);have HX2:=zhi (HX.out.below hb2);have HG2:=zhi (HG.out.trans (z02 hb2 _));have HZ2:=zhi ((hb2.block _ (q_0.1 HZ.out).1).trans HZ.out);clear hb2 HI HX HP HG HZ;cases hs:isR [124,124] ss with
  | true =>
   obtain ⟨m,y,s2,rfl,hsubp,hloop2⟩:=z33 HLP.out (by rw [z3b]; exact hs);have HNow:=zhi (z3m w2 HP2.out);have HSP:=zhi hsubp;rw [z6r (k:=8) (o:=0) (z31 hs) rfl rfl] at hloop2;have HL2:=zhi hloop2;have HV:=zhi hs;clear hsubp hloop2 hs HLP;go_wp2_with fail;refine HNow.out.mono ?_;rintro e w3 ⟨rfl,hb3⟩;obtain ⟨a,c,N,hr⟩:=HP2.out.below hb3;have e1:=hr.cells.2.1;have f1:=hr.cells.2.2.2.2 1;have hsm:=hr.sm;have hlt2:=hr.lt;have hgs:w3.grownBy (w3.setCell ⟨p,1,none⟩ (.int .i64 ((a:Int)+1))) (some p):=z03 w3 ⟨p,1,none⟩ (.int .i64 ((a:Int)+1));have h2:=z1O hr.wf HV.out;have HP4:=zhi (show RA (w3.setCell ⟨p,1,none⟩ (.int .i64 ((a:Int)+1))) p tb (popR ss) from ⟨_,_,_,hr.popSet h2⟩);have HX4:=zhi ((HX2.out.below hb3).grown hgs (by omega));have hg4:=(HG2.out.trans (z02 hb3 _)).trans hgs;have HG4:=zhi hg4;have HZ4:=zhi (z04 hgs (by omega) ((hb3.block _ (q_0.1 HZ2.out).1).trans HZ2.out));have hsz4:=hg4.size;have h2':2<=ss.rest.length:=h2;have H2:=zhi h2';unfold z1F;have hfd:∀ w:World,(Instr.field 110 (.agg #[.int .i64 ((hdR ss).kind:Int),.int .i64 ((hdR ss).line:Int),.int .i64 ((hdR ss).value:Int),.string (nmB (hdR ss).text)]) 1).run Tryz.prog w=.ok (.int .i64 ((hdR ss).line:Int)) w:=fun _=>by kernel_rfl
   clear hr hgs HNow hb3 h2 h2' hg4 HP2 HX2 HG2 HZ2;go_upto_region 5 with fail;clear e1 f1 hfd;generalize w3.setCell ⟨p,1,none⟩ (.int .i64 ((a:Int)+1))=w4 at *;obtain ⟨hxlo,dx,kx,ox,ax,lx,tx,Ax,nx,cx,rx,vx⟩:=HX4.out;have xlt:=(q_0.1 rx).1;obtain ⟨a0,a1,a2,a3,a4,a5⟩:=cl6 rx;have RX:=zhi rx;have VX:=zhi vx;have HC:=zhi (HS.out p tb (popR ss) s2 y w4.drew HP4.out.drew HSP.out);clear rx vx HX4
   go_region_with
    (first
     | (go_at_call 104; (with_reducible refine HC.out.mono ?_); rintro e w5 ⟨d5,k5,o5,a5',l5,t5,A5,n5,c5,rfl,hv5,hp5,hg5,hl5⟩; have hg5':=(z1v hg5); have rx5:=(z04 hg5' (by omega) RX.out); have b0:=(zcr 0 rx5); have b1:=(zcr 1 rx5); have b2:=(zcr 2 rx5); have b3:=(zcr 3 rx5); have b4:=(zcr 4 rx5); have b5:=(zcr 5 rx5); have HTW:=zhi (za8 (F:=(fun q=>w.heap.size+1<=q/\q<w5.heap.size/\q≠xb)) 8 0 ((hdR ss).line:Int) w5 (fun q hq=>hq.2.1) (z9b VX.out hg5' (by omega)) (z9c hv5 (show w.heap.size+1<=w4.heap.size by omega) xlt)); have RX5:=zhi rx5; have HP5:=zhi hp5; have HG5:=zhi (HG4.out.trans hg5'); have HZ5:=zhi (z04 hg5' (by omega) HZ4.out); have Hl5:=zhi hl5; have hszx:xb<w5.heap.size:=q_1 xlt hg5'.size; clear hg5 hg5' rx5 hv5 hp5 hl5)
     | (go_at_call 105; (with_reducible refine HTW.out.mono ?_); rintro e w6 ⟨d6,bb,rfl,hv6,hb6⟩; have rx6:=((hb6.block _ (by omega)).trans RX5.out); have g0:=(z09 rx6 0); have g1:=(z09 rx6 1); have g2:=(z09 rx6 2); have g3:=(z09 rx6 3); have g4:=(z09 rx6 4); have g5:=(z09 rx6 5); have q0:=(zcr 0 rx6); have q1:=(zcr 1 rx6); have q2:=(zcr 2 rx6); have q3:=(zcr 3 rx6); have q4:=(zcr 4 rx6); have q5:=(zcr 5 rx6); have RX6:=zhi rx6; have HV6:=zhi hv6; have HB6:=zhi hb6; clear rx6 hv6 hb6))
   all_goals
    have h6:=z1l (.int .i64 8) (.int .i64 0) (.int .i64 0) (.int .i64 ((hdR ss).line:Int)) (.string ⟨#[]⟩) (.slice (some ⟨bb,0,none⟩) 2 2) RX6.out;have hlen:=Hl5.out;rw [z0u] at hlen;have h2q:=H2.out;have hE:=z3N (P:=P) (l:=[[124,124]]) (s:=s) HL2.out hxlo plt tlt (z44 HV6.out HB6.out.size hszx (by omega)) (HP5.out.below HB6.out) (HG5.out.trans (z02 HB6.out _)) ((HB6.out.block _ (q_0.1 HZ5.out).1).trans HZ5.out) (by have:=Hl.out; omega) h6.1 h6.2;have HE:=zhi (And.intro hE.1 (q_e (Nat.le_of_eq hE.2) (show s2.rest.length<z0y wr p by rw [HRL.out]; omega)));clear h6 hE hlen h2q;clear q0 q1 q2 q3 q4 q5 g0 g1 g2 g3 g4 g5;go_wp2_with fail;exact HE.out
  | false =>
   obtain ⟨rfl,rfl⟩:=z32 HLP.out (by rw [z3b]; exact hs);obtain ⟨hxlo,dx,kx,ox,ax,lx,tx,Ax,nx,cx,rx,vx⟩:=HX2.out;obtain ⟨a0,a1,a2,a3,a4,a5⟩:=cl6 rx;have VX:=zhi vx;clear rx vx hs;go_wp2_with (with_reducible refine z0z ?_);refine z07.of (z00 _ rfl _ _ _ rfl w.heap.size _ rfl (by rfl) _ _ HZ2.out (by kernel_rfl) (by rfl) (by simp [Value.oneCell']) ?_);intro w9 hrow9 hg9;obtain ⟨j0,j1,j2,j3,j4,j5⟩:=cl6 hrow9;have HH:=zhi (z1P VX.out HP2.out HG2.out Hl.out plt tlt hg9);clear hrow9 hg9 a0 a1 a2 a3 a4 a5;go_wp2_with fail;exact q_3 (by simp [results,Tryz.results96,go_sem,j0,j1,j2,j3,j4,j5]) rfl HH.out
theorem zax (P:R1) (hsub:SubR 108 P):SubR 104 (z2N P [[38,38]]):=by
 intro p tb s s' x w h hP;obtain ⟨x1,s1,n1,hp1,hloop⟩:=z1Y hP;have HS:=zhi hsub;have H1:=zhi (hsub p tb s s1 x1 (w.alloc z1o) (h.alloc _) hp1);have HL:=zhi hloop;have plt:=h.lt.1;have tlt:=h.lt.2.1;unfold z1o at H1;clear hsub hP hp1 hloop h;go_enter Tryz.func104,Tryz.ntmps104;go_wp2_with fail;refine H1.out.mono ?_;rintro e w1 ⟨d1,k1,o1,a1,l1,t1,A1,n2,c1,rfl,hv1,hp1,hg1,hl1⟩;have HR:Hid (LevR P [[38,38]] p tb w1.heap.size x s s' w (w1.alloc (.cells #[.int .i64 k1,.int .i64 o1,.int .i64 a1,.int .i64 l1,.string t1,.slice A1 n2 c1] 124))):=zhi (z2q HL.out plt hv1 hp1 hg1 hl1);have hsz1:w.heap.size+1<=w1.heap.size:=by have:=hg1.size; simpa using this
 clear H1 HL hv1 hp1 hg1 hl1;go_wp2_with fail;obtain ⟨xb,hxb⟩:∃ xb,xb=w1.heap.size:=⟨_,rfl⟩;rw [<- hxb] at HR hsz1 ⊢;clear hxb
 go_loopw [4] (fun _ wr=>LevR P [[38,38]] p tb xb x s s' w wr) (fun _ wr=>z0y wr p)
 case atStart=>exact HR.out
 case round =>
  obtain ⟨n,xx,ss,hloop,hx,hp,hg,hz,hl⟩:=hrel;clear HR;have HRL:=zhi hp.rest;have HI:=zhi (is_r [38,38] wr hp);have HX:=zhi hx;have HP:=zhi hp;have HG:=zhi hg;have HZ:=zhi hz;have Hl:=zhi hl;have HLP:=zhi hloop;have hszr:=hg.size;clear hloop hx hp hg hz hl;go_wp2_with fail;refine HI.out.mono ?_;rintro e w2 ⟨rfl,hb2⟩;have HP2:=zhi (HP.out.below hb2);have HX2:=zhi (HX.out.below hb2);have HG2:=zhi (HG.out.trans (z02 hb2 _));have HZ2:=zhi ((hb2.block _ (q_0.1 HZ.out).1).trans HZ.out);clear hb2 HI HX HP HG HZ;cases hs:isR [38,38] ss with
  | true =>
   obtain ⟨m,y,s2,rfl,hsubp,hloop2⟩:=z33 HLP.out (by rw [z3b]; exact hs);have HNow:=zhi (z3m w2 HP2.out);have HSP:=zhi hsubp;rw [z6r (k:=7) (o:=0) (z31 hs) rfl rfl] at hloop2;have HL2:=zhi hloop2;have HV:=zhi hs;clear hsubp hloop2 hs HLP;go_wp2_with fail;refine HNow.out.mono ?_;rintro e w3 ⟨rfl,hb3⟩;obtain ⟨a,c,N,hr⟩:=HP2.out.below hb3;have e1:=hr.cells.2.1;have f1:=hr.cells.2.2.2.2 1;have hsm:=hr.sm;have hlt2:=hr.lt;have hgs:w3.grownBy (w3.setCell ⟨p,1,none⟩ (.int .i64 ((a:Int)+1))) (some p):=z03 w3 ⟨p,1,none⟩ (.int .i64 ((a:Int)+1));have h2:=z1O hr.wf HV.out;have HP4:=zhi (show RA (w3.setCell ⟨p,1,none⟩ (.int .i64 ((a:Int)+1))) p tb (popR ss) from ⟨_,_,_,hr.popSet h2⟩);have HX4:=zhi ((HX2.out.below hb3).grown hgs (by omega));have hg4:=(HG2.out.trans (z02 hb3 _)).trans hgs;have HG4:=zhi hg4;have HZ4:=zhi (z04 hgs (by omega) ((hb3.block _ (q_0.1 HZ2.out).1).trans HZ2.out));have hsz4:=hg4.size;have h2':2<=ss.rest.length:=h2;have H2:=zhi h2';unfold z1F;have hfd:∀ w:World,(Instr.field 110 (.agg #[.int .i64 ((hdR ss).kind:Int),.int .i64 ((hdR ss).line:Int),.int .i64 ((hdR ss).value:Int),.string (nmB (hdR ss).text)]) 1).run Tryz.prog w=.ok (.int .i64 ((hdR ss).line:Int)) w:=fun _=>by kernel_rfl
   clear hr hgs HNow hb3 h2 h2' hg4 HP2 HX2 HG2 HZ2;go_upto_region 5 with fail;clear e1 f1 hfd;generalize w3.setCell ⟨p,1,none⟩ (.int .i64 ((a:Int)+1))=w4 at *;obtain ⟨hxlo,dx,kx,ox,ax,lx,tx,Ax,nx,cx,rx,vx⟩:=HX4.out;have xlt:=(q_0.1 rx).1;obtain ⟨a0,a1,a2,a3,a4,a5⟩:=cl6 rx;have RX:=zhi rx;have VX:=zhi vx;have HC:=zhi (HS.out p tb (popR ss) s2 y w4.drew HP4.out.drew HSP.out);clear rx vx HX4
   go_region_with
    (first
     | (go_at_call 108; (with_reducible refine HC.out.mono ?_); rintro e w5 ⟨d5,k5,o5,a5',l5,t5,A5,n5,c5,rfl,hv5,hp5,hg5,hl5⟩; have hg5':=(z1v hg5); have rx5:=(z04 hg5' (by omega) RX.out); have b0:=(zcr 0 rx5); have b1:=(zcr 1 rx5); have b2:=(zcr 2 rx5); have b3:=(zcr 3 rx5); have b4:=(zcr 4 rx5); have b5:=(zcr 5 rx5); have HTW:=zhi (za8 (F:=(fun q=>w.heap.size+1<=q/\q<w5.heap.size/\q≠xb)) 7 0 ((hdR ss).line:Int) w5 (fun q hq=>hq.2.1) (z9b VX.out hg5' (by omega)) (z9c hv5 (show w.heap.size+1<=w4.heap.size by omega) xlt)); have RX5:=zhi rx5; have HP5:=zhi hp5; have HG5:=zhi (HG4.out.trans hg5'); have HZ5:=zhi (z04 hg5' (by omega) HZ4.out); have Hl5:=zhi hl5; have hszx:xb<w5.heap.size:=q_1 xlt hg5'.size; clear hg5 hg5' rx5 hv5 hp5 hl5)
     | (go_at_call 105; (with_reducible refine HTW.out.mono ?_); rintro e w6 ⟨d6,bb,rfl,hv6,hb6⟩; have rx6:=((hb6.block _ (by omega)).trans RX5.out); have g0:=(z09 rx6 0); have g1:=(z09 rx6 1); have g2:=(z09 rx6 2); have g3:=(z09 rx6 3); have g4:=(z09 rx6 4); have g5:=(z09 rx6 5); have q0:=(zcr 0 rx6); have q1:=(zcr 1 rx6); have q2:=(zcr 2 rx6); have q3:=(zcr 3 rx6); have q4:=(zcr 4 rx6); have q5:=(zcr 5 rx6); have RX6:=zhi rx6; have HV6:=zhi hv6; have HB6:=zhi hb6; clear rx6 hv6 hb6))
   all_goals
    have h6:=z1l (.int .i64 7) (.int .i64 0) (.int .i64 0) (.int .i64 ((hdR ss).line:Int)) (.string ⟨#[]⟩) (.slice (some ⟨bb,0,none⟩) 2 2) RX6.out;have hlen:=Hl5.out;rw [z0u] at hlen;have h2q:=H2.out;have hE:=z3N (P:=P) (l:=[[38,38]]) (s:=s) HL2.out hxlo plt tlt (z44 HV6.out HB6.out.size hszx (by omega)) (HP5.out.below HB6.out) (HG5.out.trans (z02 HB6.out _)) ((HB6.out.block _ (q_0.1 HZ5.out).1).trans HZ5.out) (by have:=Hl.out; omega) h6.1 h6.2;have HE:=zhi (And.intro hE.1 (q_e (Nat.le_of_eq hE.2) (show s2.rest.length<z0y wr p by rw [HRL.out]; omega)));clear h6 hE hlen h2q;clear q0 q1 q2 q3 q4 q5 g0 g1 g2 g3 g4 g5;go_wp2_with fail;exact HE.out
  | false =>
   obtain ⟨rfl,rfl⟩:=z32 HLP.out (by rw [z3b]; exact hs);obtain ⟨hxlo,dx,kx,ox,ax,lx,tx,Ax,nx,cx,rx,vx⟩:=HX2.out;obtain ⟨a0,a1,a2,a3,a4,a5⟩:=cl6 rx;have VX:=zhi vx;clear rx vx hs;go_wp2_with (with_reducible refine z0z ?_);refine z07.of (z00 _ rfl _ _ _ rfl w.heap.size _ rfl (by rfl) _ _ HZ2.out (by kernel_rfl) (by rfl) (by simp [Value.oneCell']) ?_);intro w9 hrow9 hg9;obtain ⟨j0,j1,j2,j3,j4,j5⟩:=cl6 hrow9;have HH:=zhi (z1P VX.out HP2.out HG2.out Hl.out plt tlt hg9);clear hrow9 hg9 a0 a1 a2 a3 a4 a5;go_wp2_with fail;exact q_3 (by simp [results,Tryz.results104,go_sem,j0,j1,j2,j3,j4,j5]) rfl HH.out
theorem z5q (w:World) (l:List z0e) (t:TypeId) (o:Obj):zdF ((w.alloc (.cells (l.map fun x=>Value.string (nmB x)).toArray t)).alloc o) w.heap.size l:=fun i x hi=>by
 rw [zcr i (z14 w _ o)];simp [hi]
theorem z53 (w:World) (l:List Nat) (t:TypeId) (o:Obj):zdz ((w.alloc o).alloc (.cells (l.map fun (x:Nat)=>Value.int .i64 (x:Int)).toArray t)) (w.heap.size+1) l:=fun i x hi=>by
 rw [zcr i (z0T w o _)];simp [hi]
def zav (l:List z0e) (ops:List Nat) (K:Int):Prop:=∀ (i:Nat) (t:z0e) (o:Nat),l[i]?=some t->ops[i]?=some o->binK t=K/\binO t=(o:Int)/\0<o
theorem zcV:zav [[43],[45]] [3,4] 6:=by
 intro i t o h1 h2
 match i,h1,h2 with
 | 0,h1,h2=>cases h1; cases h2; exact ⟨rfl,rfl,by decide⟩
 | 1,h1,h2=>cases h1; cases h2; exact ⟨rfl,rfl,by decide⟩
 | n+2,h1,_=>simp at h1
theorem zb0:zav [[42],[47],[37]] [5,6,7] 6:=by
 intro i t o h1 h2
 match i,h1,h2 with
 | 0,h1,h2=>cases h1; cases h2; exact ⟨rfl,rfl,by decide⟩
 | 1,h1,h2=>cases h1; cases h2; exact ⟨rfl,rfl,by decide⟩
 | 2,h1,h2=>cases h1; cases h2; exact ⟨rfl,rfl,by decide⟩
 | n+3,h1,_=>simp at h1
theorem z6z:zav [[60],[60,61],[61,61],[33,61]] [8,9,10,11] 6:=by
 intro i t o h1 h2
 match i,h1,h2 with
 | 0,h1,h2=>cases h1; cases h2; exact ⟨rfl,rfl,by decide⟩
 | 1,h1,h2=>cases h1; cases h2; exact ⟨rfl,rfl,by decide⟩
 | 2,h1,h2=>cases h1; cases h2; exact ⟨rfl,rfl,by decide⟩
 | 3,h1,h2=>cases h1; cases h2; exact ⟨rfl,rfl,by decide⟩
 | n+4,h1,_=>simp at h1
theorem z9A {l:List z0e} {ops:List Nat} {K:Int} {s s1:RS} {o ln:Nat} (hok:zav l ops K) (h:(∃ (i:Nat) (t:z0e),l[i]?=some t/\isR t s=true/\ops[i]?=some o/\ln=(hdR s).line/\s1=popR s)\/(z1K l s=false/\o=0/\ln=0/\s1=s)) (hs:z1K l s=true) :
  ln=(hdR s).line/\s1=popR s/\0<o/\(∃ t,isR t s=true)/\∀ x y,binP (hdR s) x y=.mk K (o:Int) 0 ((hdR s).line:Int) ⟨#[]⟩ [x,y]:=by
 rcases h with ⟨i,t,hi,ht,ho,rfl,rfl⟩ | ⟨h,_⟩
 ·obtain ⟨hK,hO,h0⟩:=hok i t o hi ho;exact ⟨rfl,rfl,h0,⟨t,ht⟩,fun x y=>z6r (z31 ht) hK hO⟩
 ·rw [hs] at h; cases h
theorem zaZ {l:List z0e} {ops:List Nat} {s s1:RS} {o ln:Nat} (h:(∃ (i:Nat) (t:z0e),l[i]?=some t/\isR t s=true/\ops[i]?=some o/\ln=(hdR s).line/\s1=popR s)\/(z1K l s=false/\o=0/\ln=0/\s1=s)) (hs:z1K l s=false):o=0/\s1=s:=by
 rcases h with ⟨i,t,hi,ht,_⟩ | ⟨_,h1,_,h2⟩
 ·have:z1K l s=true:=by
   rw [z1K,List.any_eq_true];exact ⟨t,q_a hi,ht⟩
  rw [hs] at this; cases this
 ·exact ⟨h1,h2⟩
theorem zbn (P:R1) (hsub:SubR 111 P):SubR 109 (z2N P [[43],[45]]):=by
 intro p tb s s' x w h hP;obtain ⟨x1,s1,n1,hp1,hloop⟩:=z1Y hP;have HS:=zhi hsub;have H1:=zhi (hsub p tb s s1 x1 (w.alloc z1o) (h.alloc _) hp1);have HL:=zhi hloop;have plt:=h.lt.1;have tlt:=h.lt.2.1;unfold z1o at H1;clear hsub hP hp1 hloop h;go_enter Tryz.func109,Tryz.ntmps109;go_wp2_with fail;refine H1.out.mono ?_;rintro e w1 ⟨d1,k1,o1,a1,l1,t1,A1,n2,c1,rfl,hv1,hp1,hg1,hl1⟩;have HR:Hid (LevR P [[43],[45]] p tb w1.heap.size x s s' w (w1.alloc (.cells #[.int .i64 k1,.int .i64 o1,.int .i64 a1,.int .i64 l1,.string t1,.slice A1 n2 c1] 124))):=zhi (z2q HL.out plt hv1 hp1 hg1 hl1);have hsz1:w.heap.size+1<=w1.heap.size:=by have:=hg1.size; simpa using this
 clear H1 HL hv1 hp1 hg1 hl1;go_wp2_with fail;obtain ⟨xb,hxb⟩:∃ xb,xb=w1.heap.size:=⟨_,rfl⟩;rw [<- hxb] at HR hsz1 ⊢;clear hxb
 go_loopw [4,5] (fun _ _ wr=>LevR P [[43],[45]] p tb xb x s s' w wr) (fun _ _ wr=>z0y wr p)
 case atStart=>exact HR.out
 case round =>
  obtain ⟨n,xx,ss,hloop,hx,hp,hg,hz,hl⟩:=hrel;clear HR;have HRL:=zhi hp.rest;have hb2:=((q_i _ wr).alloc (q_2 _) (.cells #[.string ⟨#[43]⟩,.string ⟨#[45]⟩] 9)).alloc (by simp) (.cells #[.int .i64 3,.int .i64 4] 3);have HOP:=zhi (z2H [[43],[45]] [3,4] 2 wr.heap.size (wr.heap.size+1) 2 2 _ (hp.below hb2) rfl rfl (by omega) (q_2 _) (q_2 _) (z5q wr [[43],[45]] 9 _) (z53 wr [3,4] 3 _) (by have:=hp.lt.1; omega));have HX2:=zhi (hx.below hb2);have HG2:=zhi (hg.trans (z02 hb2 _));have HZ2:=zhi ((hb2.block _ (q_0.1 hz).1).trans hz);have Hl:=zhi hl;have HLP:=zhi hloop;have HW:=zhi hp.wf;have hszr:=hg.size;clear hloop hx hp hg hz hl hb2;go_wp2_with fail;refine HOP.out.mono ?_;rintro e w4 ⟨o,ln,sq,rfl,hp4,hg4,hcase⟩;have HX4:=zhi (HX2.out.grown hg4 (by omega));have HG4:=zhi (HG2.out.trans hg4);have HZ4:=zhi (z04 hg4 (by omega) HZ2.out);clear hg4 HOP HX2 HG2 HZ2;cases hs:z1K [[43],[45]] ss with
  | true =>
   obtain ⟨rfl,rfl,ho,⟨tt,htt⟩,hbin⟩:=z9A zcV hcase hs;obtain ⟨m,y,s2,rfl,hsubp,hloop2⟩:=z33 HLP.out hs;rw [hbin] at hloop2;have HSP:=zhi hsubp;have HL2:=zhi hloop2;have HP4:=zhi hp4;have H2:=zhi (z1O HW.out htt);have ho0:((o:Int) == 0)=false:=by simp; omega
   have hsz4:=HG4.out.size;clear hsubp hloop2 hs HLP hcase hbin hp4 htt;go_upto_region 5 with fail;clear ho0;obtain ⟨hxlo,dx,kx,ox,ax,lx,tx,Ax,nx,cx,rx,vx⟩:=HX4.out;have xlt:=(q_0.1 rx).1;obtain ⟨a0,a1,a2,a3,a4,a5⟩:=cl6 rx;have RX:=zhi rx;have VX:=zhi vx;have HC:=zhi (HS.out p tb (popR ss) s2 y w4.drew HP4.out.drew HSP.out);clear rx vx HX4
   go_region_with
    (first
     | (go_at_call 111; (with_reducible refine HC.out.mono ?_); rintro e w5 ⟨d5,k5,o5,a5',l5,t5,A5,n5,c5,rfl,hv5,hp5,hg5,hl5⟩; have hg5':=(z1v hg5); have rx5:=(z04 hg5' (by omega) RX.out); have b0:=(zcr 0 rx5); have b1:=(zcr 1 rx5); have b2:=(zcr 2 rx5); have b3:=(zcr 3 rx5); have b4:=(zcr 4 rx5); have b5:=(zcr 5 rx5); have HTW:=zhi (za8 (F:=(fun q=>w.heap.size+1<=q/\q<w5.heap.size/\q≠xb)) 6 (o:Int) ((hdR ss).line:Int) w5 (fun q hq=>hq.2.1) (z9b VX.out hg5' (by omega)) (z9c hv5 (show w.heap.size+1<=w4.heap.size by omega) xlt)); have RX5:=zhi rx5; have HP5:=zhi hp5; have HG5:=zhi (HG4.out.trans hg5'); have HZ5:=zhi (z04 hg5' (by omega) HZ4.out); have Hl5:=zhi hl5; have hszx:xb<w5.heap.size:=q_1 xlt hg5'.size; clear hg5 hg5' rx5 hv5 hp5 hl5)
     | (go_at_call 105; (with_reducible refine HTW.out.mono ?_); rintro e w6 ⟨d6,bb,rfl,hv6,hb6⟩; have rx6:=((hb6.block _ (by omega)).trans RX5.out); have g0:=(z09 rx6 0); have g1:=(z09 rx6 1); have g2:=(z09 rx6 2); have g3:=(z09 rx6 3); have g4:=(z09 rx6 4); have g5:=(z09 rx6 5); have q0:=(zcr 0 rx6); have q1:=(zcr 1 rx6); have q2:=(zcr 2 rx6); have q3:=(zcr 3 rx6); have q4:=(zcr 4 rx6); have q5:=(zcr 5 rx6); have RX6:=zhi rx6; have HV6:=zhi hv6; have HB6:=zhi hb6; clear rx6 hv6 hb6))
   all_goals
    have h6:=z1l (.int .i64 6) (.int .i64 (o:Int)) (.int .i64 0) (.int .i64 ((hdR ss).line:Int)) (.string ⟨#[]⟩) (.slice (some ⟨bb,0,none⟩) 2 2) RX6.out;have hlen:=Hl5.out;rw [z0u] at hlen;have h2q:=H2.out;have hE:=z3N (P:=P) (l:=[[43],[45]]) (s:=s) HL2.out hxlo plt tlt (z44 HV6.out HB6.out.size hszx (by omega)) (HP5.out.below HB6.out) (HG5.out.trans (z02 HB6.out _)) ((HB6.out.block _ (q_0.1 HZ5.out).1).trans HZ5.out) (by have:=Hl.out; omega) h6.1 h6.2;have HE:=zhi (And.intro hE.1 (q_e (Nat.le_of_eq hE.2) (show s2.rest.length<z0y wr p by rw [HRL.out]; omega)));clear h6 hE hlen h2q;clear q0 q1 q2 q3 q4 q5 g0 g1 g2 g3 g4 g5;go_wp2_with fail;exact HE.out
  | false =>
   obtain ⟨rfl,rfl⟩:=zaZ hcase hs;obtain ⟨rfl,rfl⟩:=z32 HLP.out hs;have HP2:=zhi hp4;have HG2:=HG4;have HZ2:=HZ4;have HX2:=HX4;clear hcase hp4 HG4 HZ4 HX4;obtain ⟨hxlo,dx,kx,ox,ax,lx,tx,Ax,nx,cx,rx,vx⟩:=HX2.out;obtain ⟨a0,a1,a2,a3,a4,a5⟩:=cl6 rx;have VX:=zhi vx;clear rx vx hs;go_wp2_with (with_reducible refine z0z ?_);refine z07.of (z00 _ rfl _ _ _ rfl w.heap.size _ rfl (by rfl) _ _ HZ2.out (by kernel_rfl) (by rfl) (by simp [Value.oneCell']) ?_);intro w9 hrow9 hg9;obtain ⟨j0,j1,j2,j3,j4,j5⟩:=cl6 hrow9;have HH:=zhi (z1P VX.out HP2.out HG2.out Hl.out plt tlt hg9);clear hrow9 hg9 a0 a1 a2 a3 a4 a5;go_wp2_with fail;exact q_3 (by simp [results,Tryz.results109,go_sem,j0,j1,j2,j3,j4,j5]) rfl HH.out
theorem za7 (P:R1) (hsub:SubR 112 P):SubR 111 (z2N P [[42],[47],[37]]):=by
 intro p tb s s' x w h hP;obtain ⟨x1,s1,n1,hp1,hloop⟩:=z1Y hP;have HS:=zhi hsub;have H1:=zhi (hsub p tb s s1 x1 (w.alloc z1o) (h.alloc _) hp1);have HL:=zhi hloop;have plt:=h.lt.1;have tlt:=h.lt.2.1;unfold z1o at H1;clear hsub hP hp1 hloop h;go_enter Tryz.func111,Tryz.ntmps111;go_wp2_with fail;refine H1.out.mono ?_;rintro e w1 ⟨d1,k1,o1,a1,l1,t1,A1,n2,c1,rfl,hv1,hp1,hg1,hl1⟩;have HR:Hid (LevR P [[42],[47],[37]] p tb w1.heap.size x s s' w (w1.alloc (.cells #[.int .i64 k1,.int .i64 o1,.int .i64 a1,.int .i64 l1,.string t1,.slice A1 n2 c1] 124))):=zhi (z2q HL.out plt hv1 hp1 hg1 hl1);have hsz1:w.heap.size+1<=w1.heap.size:=by have:=hg1.size; simpa using this
 clear H1 HL hv1 hp1 hg1 hl1;go_wp2_with fail;obtain ⟨xb,hxb⟩:∃ xb,xb=w1.heap.size:=⟨_,rfl⟩;rw [<- hxb] at HR hsz1 ⊢;clear hxb
 go_loopw [4,5] (fun _ _ wr=>LevR P [[42],[47],[37]] p tb xb x s s' w wr) (fun _ _ wr=>z0y wr p)
 case atStart=>exact HR.out
 case round =>
  obtain ⟨n,xx,ss,hloop,hx,hp,hg,hz,hl⟩:=hrel;clear HR;have HRL:=zhi hp.rest;have hb2:=((q_i _ wr).alloc (q_2 _) (.cells #[.string ⟨#[42]⟩,.string ⟨#[47]⟩,.string ⟨#[37]⟩] 9)).alloc (by simp) (.cells #[.int .i64 5,.int .i64 6,.int .i64 7] 3);have HOP:=zhi (z2H [[42],[47],[37]] [5,6,7] 3 wr.heap.size (wr.heap.size+1) 3 3 _ (hp.below hb2) rfl rfl (by omega) (q_2 _) (q_2 _) (z5q wr [[42],[47],[37]] 9 _) (z53 wr [5,6,7] 3 _) (by have:=hp.lt.1; omega));have HX2:=zhi (hx.below hb2);have HG2:=zhi (hg.trans (z02 hb2 _));have HZ2:=zhi ((hb2.block _ (q_0.1 hz).1).trans hz);have Hl:=zhi hl;have HLP:=zhi hloop;have HW:=zhi hp.wf;have hszr:=hg.size;clear hloop hx hp hg hz hl hb2;go_wp2_with fail;refine HOP.out.mono ?_;rintro e w4 ⟨o,ln,sq,rfl,hp4,hg4,hcase⟩;have HX4:=zhi (HX2.out.grown hg4 (by omega));have HG4:=zhi (HG2.out.trans hg4);have HZ4:=zhi (z04 hg4 (by omega) HZ2.out);clear hg4 HOP HX2 HG2 HZ2;cases hs:z1K [[42],[47],[37]] ss with
  | true =>
   obtain ⟨rfl,rfl,ho,⟨tt,htt⟩,hbin⟩:=z9A zb0 hcase hs;obtain ⟨m,y,s2,rfl,hsubp,hloop2⟩:=z33 HLP.out hs;rw [hbin] at hloop2;have HSP:=zhi hsubp;have HL2:=zhi hloop2;have HP4:=zhi hp4;have H2:=zhi (z1O HW.out htt);have ho0:((o:Int) == 0)=false:=by simp; omega
   have hsz4:=HG4.out.size;clear hsubp hloop2 hs HLP hcase hbin hp4 htt;go_upto_region 5 with fail;clear ho0;obtain ⟨hxlo,dx,kx,ox,ax,lx,tx,Ax,nx,cx,rx,vx⟩:=HX4.out;have xlt:=(q_0.1 rx).1;obtain ⟨a0,a1,a2,a3,a4,a5⟩:=cl6 rx;have RX:=zhi rx;have VX:=zhi vx;have HC:=zhi (HS.out p tb (popR ss) s2 y w4.drew HP4.out.drew HSP.out);clear rx vx HX4
   go_region_with
    (first
     | (go_at_call 112; (with_reducible refine HC.out.mono ?_); rintro e w5 ⟨d5,k5,o5,a5',l5,t5,A5,n5,c5,rfl,hv5,hp5,hg5,hl5⟩; have hg5':=(z1v hg5); have rx5:=(z04 hg5' (by omega) RX.out); have b0:=(zcr 0 rx5); have b1:=(zcr 1 rx5); have b2:=(zcr 2 rx5); have b3:=(zcr 3 rx5); have b4:=(zcr 4 rx5); have b5:=(zcr 5 rx5); have HTW:=zhi (za8 (F:=(fun q=>w.heap.size+1<=q/\q<w5.heap.size/\q≠xb)) 6 (o:Int) ((hdR ss).line:Int) w5 (fun q hq=>hq.2.1) (z9b VX.out hg5' (by omega)) (z9c hv5 (show w.heap.size+1<=w4.heap.size by omega) xlt)); have RX5:=zhi rx5; have HP5:=zhi hp5; have HG5:=zhi (HG4.out.trans hg5'); have HZ5:=zhi (z04 hg5' (by omega) HZ4.out); have Hl5:=zhi hl5; have hszx:xb<w5.heap.size:=q_1 xlt hg5'.size; clear hg5 hg5' rx5 hv5 hp5 hl5)
     | (go_at_call 105; (with_reducible refine HTW.out.mono ?_); rintro e w6 ⟨d6,bb,rfl,hv6,hb6⟩; have rx6:=((hb6.block _ (by omega)).trans RX5.out); have g0:=(z09 rx6 0); have g1:=(z09 rx6 1); have g2:=(z09 rx6 2); have g3:=(z09 rx6 3); have g4:=(z09 rx6 4); have g5:=(z09 rx6 5); have q0:=(zcr 0 rx6); have q1:=(zcr 1 rx6); have q2:=(zcr 2 rx6); have q3:=(zcr 3 rx6); have q4:=(zcr 4 rx6); have q5:=(zcr 5 rx6); have RX6:=zhi rx6; have HV6:=zhi hv6; have HB6:=zhi hb6; clear rx6 hv6 hb6))
   all_goals
    have h6:=z1l (.int .i64 6) (.int .i64 (o:Int)) (.int .i64 0) (.int .i64 ((hdR ss).line:Int)) (.string ⟨#[]⟩) (.slice (some ⟨bb,0,none⟩) 2 2) RX6.out;have hlen:=Hl5.out;rw [z0u] at hlen;have h2q:=H2.out;have hE:=z3N (P:=P) (l:=[[42],[47],[37]]) (s:=s) HL2.out hxlo plt tlt (z44 HV6.out HB6.out.size hszx (by omega)) (HP5.out.below HB6.out) (HG5.out.trans (z02 HB6.out _)) ((HB6.out.block _ (q_0.1 HZ5.out).1).trans HZ5.out) (by have:=Hl.out; omega) h6.1 h6.2;have HE:=zhi (And.intro hE.1 (q_e (Nat.le_of_eq hE.2) (show s2.rest.length<z0y wr p by rw [HRL.out]; omega)));clear h6 hE hlen h2q;clear q0 q1 q2 q3 q4 q5 g0 g1 g2 g3 g4 g5;go_wp2_with fail;exact HE.out
  | false =>
   obtain ⟨rfl,rfl⟩:=zaZ hcase hs;obtain ⟨rfl,rfl⟩:=z32 HLP.out hs;have HP2:=zhi hp4;have HG2:=HG4;have HZ2:=HZ4;have HX2:=HX4;clear hcase hp4 HG4 HZ4 HX4;obtain ⟨hxlo,dx,kx,ox,ax,lx,tx,Ax,nx,cx,rx,vx⟩:=HX2.out;obtain ⟨a0,a1,a2,a3,a4,a5⟩:=cl6 rx;have VX:=zhi vx;clear rx vx hs;go_wp2_with (with_reducible refine z0z ?_);refine z07.of (z00 _ rfl _ _ _ rfl w.heap.size _ rfl (by rfl) _ _ HZ2.out (by kernel_rfl) (by rfl) (by simp [Value.oneCell']) ?_);intro w9 hrow9 hg9;obtain ⟨j0,j1,j2,j3,j4,j5⟩:=cl6 hrow9;have HH:=zhi (z1P VX.out HP2.out HG2.out Hl.out plt tlt hg9);clear hrow9 hg9 a0 a1 a2 a3 a4 a5;go_wp2_with fail;exact q_3 (by simp [results,Tryz.results111,go_sem,j0,j1,j2,j3,j4,j5]) rfl HH.out
theorem zeo {s s1:RS} {o ln:Nat} (h:(∃ (i:Nat) (t:z0e),([[45],[33]]:List z0e)[i]?=some t/\isR t s=true/\([1,2]:List Nat)[i]?=some o/\ln=(hdR s).line/\s1=popR s)\/(z1K [[45],[33]] s=false/\o=0/\ln=0/\s1=s)) (hs:z1K [[45],[33]] s=true) :
  ln=(hdR s).line/\s1=popR s/\0<o/\(∃ t,isR t s=true)/\(o:Int)=unO (hdR s).text:=by
 rcases h with ⟨i,t,hi,ht,ho,rfl,rfl⟩ | ⟨h,_⟩
 ·match i,hi,ho with
  | 0,hi,ho=>cases hi; cases ho; exact ⟨rfl,rfl,by decide,⟨_,ht⟩,by rw [z31 ht]; rfl⟩
  | 1,hi,ho=>cases hi; cases ho; exact ⟨rfl,rfl,by decide,⟨_,ht⟩,by rw [z31 ht]; rfl⟩
  | n+2,hi,_=>simp at hi
 ·rw [hs] at h; cases h
theorem za9 {p tb d:Nat} {s s2:RS} {y:Ex} {k o l:Int} {nm:Zb} {w w4 w5 w9:World} {k5 o5 a5 l5:Int} {t5:Zb} {A5:Option Addr} {n5 c5:Nat} {t:TypeId} (hv:ExV (fun q=>w4.heap.size<=q/\q<w5.heap.size) w5 d y (.agg #[.int .i64 k5,.int .i64 o5,.int .i64 a5,.int .i64 l5,.string t5,.slice A5 n5 c5])) (h4:w.heap.size<w4.heap.size) (h45:w4.heap.size<=w5.heap.size) (h5:RA w5 p tb s2) (hg:w.grownBy w5 (some p)) (hl:s2.rest.length<=s.rest.length) (hp:p<w.heap.size) (ht:tb<w.heap.size)
  (hg9:(w5.alloc (.cells #[.int .i64 k5,.int .i64 o5,.int .i64 a5,.int .i64 l5,.string t5,.slice A5 n5 c5] t)).grownBy w9 (some w.heap.size)) :
  XRG p tb (.mk k o 0 l nm [y]) s s2 w (.returned (.agg #[.int .i64 k,.int .i64 o,.int .i64 0,.int .i64 l,.string nm,.slice (some ⟨w5.heap.size,0,none⟩) 1 1])) w9:=by
 have hb:=(q_i _ w5).alloc (q_2 _) (.cells #[.int .i64 k5,.int .i64 o5,.int .i64 a5,.int .i64 l5,.string t5,.slice A5 n5 c5] t);have hs5:=hg.size;have hs9:=hg9.size;simp at hs9;have hr:=z04 hg9 (by omega) (q_4 w5 (.cells #[.int .i64 k5,.int .i64 o5,.int .i64 a5,.int .i64 l5,.string t5,.slice A5 n5 c5] t));have hgw:=(hg.trans (z02 hb (some p)));refine ⟨d+1,k,o,0,l,nm,_,_,_,rfl,⟨_,_,rfl,z2w hv (fun q hq=>⟨by omega,by omega⟩) (fun q hq=>?_) ⟨by omega,by omega⟩ hr⟩,(h5.below hb).other hg9 (by omega) (by omega),z0r hgw hg9 (q_2 _),hl⟩;exact (hg9.block q (by simp; omega) (fun e=>by injection e with e; omega)).trans (hb.block q hq.2)
theorem z4R (P:R1) (hsub:SubR 109 P):SubR 108 (zcU P [[60],[60,61],[61,61],[33,61]]):=by
 intro p tb s s' x w h hP;obtain ⟨x1,s1,hp1,hcmp⟩:∃ x1 s1,P s=some (x1,s1)/\((z1K [[60],[60,61],[61,61],[33,61]] s1=true/\∃ y s2,P (popR s1)=some (y,s2)/\x=binP (hdR s1) x1 y/\s'=s2)\/(z1K [[60],[60,61],[61,61],[33,61]] s1=false/\x=x1/\s'=s1)):=by
  unfold zcU at hP;cases hp:P s with
  | none=>rw [hp] at hP; cases hP
  | some q =>
   obtain ⟨x1,s1⟩:=q;rw [hp] at hP;refine ⟨x1,s1,rfl,?_⟩;cases hs:z1K [[60],[60,61],[61,61],[33,61]] s1 with
   | true =>
    simp only [hs,if_true] at hP;cases hp2:P (popR s1) with
    | none=>rw [hp2] at hP; cases hP
    | some q2 =>
     obtain ⟨y,s2⟩:=q2;rw [hp2] at hP;injection hP with hP;injection hP with e1 e2;exact .inl ⟨rfl,y,s2,rfl,e1.symm,e2.symm⟩
   | false =>
    simp only [hs,if_false,Bool.false_eq_true] at hP;injection hP with hP;injection hP with e1 e2;exact .inr ⟨rfl,e1.symm,e2.symm⟩
 have HS:=zhi hsub;have H1:=zhi (hsub p tb s s1 x1 (w.alloc z1o) (h.alloc _) hp1);have HC0:=zhi hcmp;have plt:=h.lt.1;have tlt:=h.lt.2.1;unfold z1o at H1;clear hsub hP hp1 hcmp h;go_enter Tryz.func108,Tryz.ntmps108;go_wp2_with fail;refine H1.out.mono ?_;rintro e w1 ⟨d1,k1,o1,a1,l1,t1,A1,n2,c1,rfl,hv1,hp1,hg1,hl1⟩;obtain ⟨n,xx,ss,hlp,hx,hp,hg,hz,hl⟩:=z2q (P:=fun _=>none) (l:=[]) (n:=1) (s':=s1) rfl plt hv1 hp1 hg1 hl1;obtain ⟨rfl,rfl⟩:=z32 hlp rfl;have hsz1:w.heap.size+1<=w1.heap.size:=by have:=hg1.size; simpa using this
 clear H1 hlp hv1 hp1 hg1 hl1;have hW:(w1.alloc (.cells #[.int .i64 k1,.int .i64 o1,.int .i64 a1,.int .i64 l1,.string t1,.slice A1 n2 c1] 124)).heap.size=w1.heap.size+1:=by simp
 have hb2:=((q_i _ (w1.alloc (.cells #[.int .i64 k1,.int .i64 o1,.int .i64 a1,.int .i64 l1,.string t1,.slice A1 n2 c1] 124))).alloc (q_2 _) (.cells #[.string ⟨#[60]⟩,.string ⟨#[60,61]⟩,.string ⟨#[61,61]⟩,.string ⟨#[33,61]⟩] 9)).alloc (by simp) (.cells #[.int .i64 8,.int .i64 9,.int .i64 10,.int .i64 11] 3);have htr:=z5q (w1.alloc (.cells #[.int .i64 k1,.int .i64 o1,.int .i64 a1,.int .i64 l1,.string t1,.slice A1 n2 c1] 124)) [[60],[60,61],[61,61],[33,61]] 9 (.cells #[.int .i64 8,.int .i64 9,.int .i64 10,.int .i64 11] 3);have hir:=z53 (w1.alloc (.cells #[.int .i64 k1,.int .i64 o1,.int .i64 a1,.int .i64 l1,.string t1,.slice A1 n2 c1] 124)) [8,9,10,11] 3 (.cells #[.string ⟨#[60]⟩,.string ⟨#[60,61]⟩,.string ⟨#[61,61]⟩,.string ⟨#[33,61]⟩] 9);rw [hW] at htr hir;have HOP:=zhi (z2H [[60],[60,61],[61,61],[33,61]] [8,9,10,11] 4 (w1.heap.size+1) (w1.heap.size+1+1) 4 4 _ (hp.below hb2) rfl rfl (by omega) (q_2 _) (q_2 _) htr hir (by have:=hp.lt.1; omega));have HX2:=zhi (hx.below hb2);have HG2:=zhi (hg.trans (z02 hb2 _));have HZ2:=zhi ((hb2.block _ (q_0.1 hz).1).trans hz);have Hl:=zhi hl;have HW:=zhi hp.wf;clear hx hp hg hz hl hb2 hW htr hir;obtain ⟨xb,hxb⟩:∃ xb,xb=w1.heap.size:=⟨_,rfl⟩;rw [<- hxb] at HX2 hsz1;go_wp2_with fail;refine HOP.out.mono ?_;rintro e w4 ⟨o,ln,sq,rfl,hp4,hg4,hcase⟩;have HX4:=zhi (HX2.out.grown hg4 (by omega));have HG4:=zhi (HG2.out.trans hg4);have HZ4:=zhi (z04 hg4 (by omega) HZ2.out);rw [<- hxb];clear hg4 HOP HX2 HG2 HZ2 hxb;rcases HC0.out with ⟨hs,y,s2,hsubp,rfl,rfl⟩ | ⟨hs,rfl,rfl⟩
 ·obtain ⟨rfl,rfl,ho,⟨tt,htt⟩,hbin⟩:=z9A z6z hcase hs;have HSP:=zhi hsubp;have HBin:=zhi hbin;have HP4:=zhi hp4;have H2:=zhi (z1O HW.out htt);have ho0:0<(o:Int):=by omega
  have hsz4:=HG4.out.size;clear hsubp hs hcase hbin hp4 htt HC0;go_upto_region 4 with fail;clear ho0;obtain ⟨hxlo,dx,kx,ox,ax,lx,tx,Ax,nx,cx,rx,vx⟩:=HX4.out;have xlt:=(q_0.1 rx).1;obtain ⟨a0,a1,a2,a3,a4,a5⟩:=cl6 rx;have RX:=zhi rx;have VX:=zhi vx;have HC:=zhi (HS.out p tb (popR s1) s' y w4.drew HP4.out.drew HSP.out);clear rx vx HX4
  go_region_with
   (first
    | (go_at_call 109; (with_reducible refine HC.out.mono ?_); rintro e w5 ⟨d5,k5,o5,a5',l5,t5,A5,n5,c5,rfl,hv5,hp5,hg5,hl5⟩; have hg5':=(z1v hg5); have rx5:=(z04 hg5' (by omega) RX.out); have b0:=(zcr 0 rx5); have b1:=(zcr 1 rx5); have b2:=(zcr 2 rx5); have b3:=(zcr 3 rx5); have b4:=(zcr 4 rx5); have b5:=(zcr 5 rx5); have HTW:=zhi (za8 (F:=(fun q=>w.heap.size+1<=q/\q<w5.heap.size/\q≠xb)) 6 (o:Int) ((hdR s1).line:Int) w5 (fun q hq=>hq.2.1) (z9b VX.out hg5' (by omega)) (z9c hv5 (show w.heap.size+1<=w4.heap.size by omega) xlt)); have HP5:=zhi hp5; have HG5:=zhi (HG4.out.trans hg5'); have HZ5:=zhi (z04 hg5' (by omega) HZ4.out); have Hl5:=zhi hl5; have hszx:xb<w5.heap.size:=q_1 xlt hg5'.size; clear hg5 hg5' rx5 hv5 hp5 hl5)
    | (go_at_call 105; (with_reducible refine HTW.out.mono ?_); rintro e w6 ⟨d6,bb,rfl,hv6,hb6⟩; have rx6:=((hb6.block _ (by omega)).trans HZ5.out); have g0:=(z09 rx6 0); have g1:=(z09 rx6 1); have g2:=(z09 rx6 2); have g3:=(z09 rx6 3); have g4:=(z09 rx6 4); have g5:=(z09 rx6 5); have q0:=(zcr 0 rx6); have q1:=(zcr 1 rx6); have q2:=(zcr 2 rx6); have q3:=(zcr 3 rx6); have q4:=(zcr 4 rx6); have q5:=(zcr 5 rx6); have RX6:=zhi rx6; have HV6:=zhi hv6; have HB6:=zhi hb6; clear rx6 hv6 hb6))
  all_goals
   have h6:=z1l (.int .i64 6) (.int .i64 (o:Int)) (.int .i64 0) (.int .i64 ((hdR s1).line:Int)) (.string ⟨#[]⟩) (.slice (some ⟨bb,0,none⟩) 2 2) RX6.out;have hlen:=Hl5.out;rw [z0u] at hlen;have h2q:=H2.out;have hE:=z1P (s:=s) (z44 HV6.out HB6.out.size hszx (by omega)) (HP5.out.below HB6.out) (HG5.out.trans (z02 HB6.out _)) (by have:=Hl.out; omega) plt tlt h6.2;rw [<- HBin.out] at hE;have HE:=zhi hE;obtain ⟨j0,j1,j2,j3,j4,j5⟩:=cl6 h6.1;clear h6 hE hlen h2q;clear q0 q1 q2 q3 q4 q5 g0 g1 g2 g3 g4 g5;go_wp2_with fail;exact q_3 (by simp [results,Tryz.results108,go_sem,j0,j1,j2,j3,j4,j5]) rfl HE.out
 ·obtain ⟨rfl,rfl⟩:=zaZ hcase hs;obtain ⟨hxlo,dx,kx,ox,ax,lx,tx,Ax,nx,cx,rx,vx⟩:=HX4.out;obtain ⟨a0,a1,a2,a3,a4,a5⟩:=cl6 rx;have VX:=zhi vx;have HP2:=zhi hp4;clear rx vx hs hcase hp4;go_wp2_with (with_reducible refine z0z ?_);refine z07.of (z00 _ rfl _ _ _ rfl w.heap.size _ rfl (by rfl) _ _ HZ4.out (by kernel_rfl) (by rfl) (by simp [Value.oneCell']) ?_);intro w9 hrow9 hg9;obtain ⟨j0,j1,j2,j3,j4,j5⟩:=cl6 hrow9;have HH:=zhi (z1P VX.out HP2.out HG4.out Hl.out plt tlt hg9);clear hrow9 hg9 a0 a1 a2 a3 a4 a5;go_wp2_with fail;exact q_3 (by simp [results,Tryz.results108,go_sem,j0,j1,j2,j3,j4,j5]) rfl HH.out
theorem z89 (E:R1) (hc:SubR 113 (z3U E)) (n:Nat):SubR 112 (z4H E n):=by
 induction n with
 | zero=>intro p tb s s' x w h hP; cases hP
 | succ n ih =>
  intro p tb s s' x w h hP;have Ih:=zhi ih;have HC:=zhi hc;have plt:=h.lt.1;have tlt:=h.lt.2.1;have hW:(w.alloc z1o).heap.size=w.heap.size+1:=by simp
  have hb0:=(q_i _ w).alloc (q_2 _) z1o;have hb2:=((q_i _ (w.alloc z1o)).alloc (q_2 _) (.cells #[.string ⟨#[45]⟩,.string ⟨#[33]⟩] 9)).alloc (by simp) (.cells #[.int .i64 1,.int .i64 2] 3);have htr:=z5q (w.alloc z1o) [[45],[33]] 9 (.cells #[.int .i64 1,.int .i64 2] 3);have hir:=z53 (w.alloc z1o) [1,2] 3 (.cells #[.string ⟨#[45]⟩,.string ⟨#[33]⟩] 9);rw [hW] at htr hir;have HOP:=zhi (z2H [[45],[33]] [1,2] 2 (w.heap.size+1) (w.heap.size+1+1) 2 2 _ ((h.alloc z1o).below hb2) rfl rfl (by omega) (q_2 _) (q_2 _) htr hir (by omega));have HG2:=zhi ((z02 hb0 (some p)).trans (z02 hb2 _));have HZ2:=zhi ((hb2.block w.heap.size (by simp)).trans (q_4 w z1o));have HW:=zhi h.wf;unfold z1o at HOP HG2 HZ2;clear ih hc hW hb0 hb2 htr hir h;go_enter Tryz.func112,Tryz.ntmps112;go_wp2_with fail;refine HOP.out.mono ?_;rintro e w4 ⟨o,ln,sq,rfl,hp4,hg4,hcase⟩;have HG4:=zhi (HG2.out.trans hg4);have HZ4:=zhi (z04 hg4 (by omega) HZ2.out);have hsz4:w.heap.size<w4.heap.size:=(q_0.1 HZ4.out).1;clear hg4 HOP HG2 HZ2;cases hs:z1K [[45],[33]] s with
  | true =>
   obtain ⟨rfl,rfl,ho,⟨tt,htt⟩,hop⟩:=zeo hcase hs;simp only [z4H,hs,if_true] at hP;cases hq:z4H E n (popR s) with
   | none=>rw [hq] at hP; cases hP
   | some q =>
    obtain ⟨y,s2⟩:=q;rw [hq] at hP;injection hP with hP;injection hP with e1 e2;subst e1 e2;have HOp:=zhi hop;have HU:=zhi (Ih.out p tb (popR s) s2 y w4 hp4 hq);have H2:=zhi (z1O HW.out htt);have ho0:0<(o:Int):=by omega
    clear hq hs hcase hp4 htt hop Ih HC;go_wp2_with fail;refine HU.out.mono ?_;rintro e w5 ⟨d5,k5,o5,a5,l5,t5,A5,n5,c5,rfl,hv5,hp5,hg5,hl5⟩;have hlen:=hl5;rw [z0u] at hlen;have HL:=zhi hlen;have HV5:=zhi hv5;have HP5:=zhi hp5;have HG5:=zhi (HG4.out.trans hg5);have HZ5:=zhi (z04 hg5 (by omega) HZ4.out);have hsz5:=hg5.size;clear HU hv5 hp5 hg5 hl5 hlen HG4 HZ4;go_wp2_with (with_reducible refine z0z ?_);refine z07.of (z00 _ rfl _ _ _ rfl w.heap.size _ rfl (by rfl) _ _ ((((q_i _ w5).alloc (q_2 _) _).block _ (by omega)).trans HZ5.out) (by kernel_rfl) (by rfl) (by simp [Value.oneCell']) ?_);intro w9 hrow9 hg9;obtain ⟨j0,j1,j2,j3,j4,j5⟩:=cl6 hrow9;have hH:=(za9 (s:=s) (k:=5) (o:=(o:Int)) (nm:=⟨#[]⟩) (l:=((hdR s).line:Int)) (t:=124) HV5.out (by omega) hsz5 HP5.out HG5.out (by have:=HL.out; have:=H2.out; omega) plt tlt hg9);rw [HOp.out] at hH;have HH:=zhi hH;have k1:=HOp.out;clear hrow9 hg9 hH;go_wp2_with fail;exact q_3 (by simp [results,Tryz.results112,go_sem,k1,j0,j1,j2,j3,j4,j5]) rfl HH.out
  | false =>
   obtain ⟨rfl,rfl⟩:=zaZ hcase hs;simp only [z4H,hs,if_false,Bool.false_eq_true] at hP;have HU:=zhi (HC.out p tb sq s' x w4 hp4 hP);clear hs hcase hp4 Ih HC hP;go_wp2_with fail;refine HU.out.mono ?_;rintro e w5 ⟨d5,k5,o5,a5,l5,t5,A5,n5,c5,rfl,hv5,hp5,hg5,hl5⟩;have HZ5:=zhi (z04 hg5 (by omega) HZ4.out);have HV5:=zhi hv5;have HP5:=zhi hp5;have HG5:=zhi (HG4.out.trans hg5);have Hl5:=zhi hl5;clear HU hv5 hp5 hg5 hl5 HG4 HZ4;go_wp2_with (with_reducible refine z0z ?_);refine z07.of (z00 _ rfl _ _ _ rfl w.heap.size _ rfl (by rfl) _ _ HZ5.out (by kernel_rfl) (by rfl) (by simp [Value.oneCell']) ?_);intro w9 hrow9 hg9;obtain ⟨j0,j1,j2,j3,j4,j5⟩:=cl6 hrow9;have HH:=zhi (z1P (xb:=w.heap.size) (HV5.out.keep (fun q hq=>⟨by omega,hq.2,by omega⟩) (fun _ _=>rfl)) HP5.out HG5.out Hl5.out plt tlt hg9);clear hrow9 hg9;go_wp2_with fail;exact q_3 (by simp [results,Tryz.results112,go_sem,j0,j1,j2,j3,j4,j5]) rfl HH.out
theorem z2p {p tb:Nat} {s s':RS} {w wr w9:World} (k o a ln:Int) (t:Zb) (h:RA wr p tb s') (hg:w.grownBy wr (some p)) (hl:s'.rest.length<=s.rest.length) (hp:p<w.heap.size) (ht:tb<w.heap.size) (hg9:wr.grownBy w9 (some w.heap.size)) :
  XRG p tb (.mk k o a ln t []) s s' w (.returned (.agg #[.int .i64 k,.int .i64 o,.int .i64 a,.int .i64 ln,.string t,.slice none 0 0])) w9 :=
 z1P (xb:=w.heap.size) (d:=1) z2e h hg hl hp ht hg9
theorem z4r {E:R1} {s s':RS} {x:Ex} (h:z2I E s=some (x,s')):(s.bad=true/\x=noX/\s'=s)\/(s.bad=false /\
  (((hdR s).kind=2/\x=.mk 1 0 ((hdR s).value:Int) ((hdR s).line:Int) ⟨#[]⟩ []/\s'=popR s)\/((hdR s).kind≠2 /\
  (((hdR s).kind=1/\((isR [91] (popR s)=true/\∃ y s1,E (popR (popR s))=some (y,s1)/\x=.mk 4 0 0 ((hdR s).line:Int) (nmB (hdR s).text) [y]/\s'=z0h [93] s1) \/
   (isR [91] (popR s)=false/\x=.mk 13 0 0 ((hdR s).line:Int) (nmB (hdR s).text) []/\s'=popR s)))\/((hdR s).kind≠1 /\
  ((isR [38] s=true/\x=.mk 11 0 0 ((hdR s).line:Int) (nmB (z0n 1 (popR s)).1.text) []/\s'=(z0n 1 (popR s)).2)\/(isR [38] s=false /\
  ((isR [114,101,97,100] s=true/\x=.mk 12 0 0 ((hdR s).line:Int) ⟨#[]⟩ []/\s'=popR s)\/(isR [114,101,97,100] s=false /\
   ∃ s1,E (z0h [40] s)=some (x,s1)/\s'=z0h [41] s1))))))))):=by
 unfold z2I at h;cases hb:s.bad with
 | true =>
  simp only [hb,if_true] at h;injection h with h;injection h with h1 h2;exact .inl ⟨rfl,h1.symm,h2.symm⟩
 | false =>
  simp only [hb,Bool.false_eq_true,if_false] at h;refine .inr ⟨rfl,?_⟩
  by_cases hk:(hdR s).kind=2
  ·rw [if_pos hk] at h;injection h with h;injection h with h1 h2;exact .inl ⟨hk,h1.symm,h2.symm⟩
  ·rw [if_neg hk] at h;refine .inr ⟨hk,?_⟩
   by_cases hk1:(hdR s).kind=1
   ·rw [if_pos hk1] at h;refine .inl ⟨hk1,?_⟩;cases h4:isR [91] (popR s) with
    | true =>
     simp only [h4,if_true] at h;cases hq:E (popR (popR s)) with
     | none=>rw [hq] at h; cases h
     | some q =>
      obtain ⟨y,s1⟩:=q;rw [hq] at h;injection h with h;injection h with e1 e2;exact .inl ⟨rfl,y,s1,rfl,e1.symm,e2.symm⟩
    | false =>
     simp only [h4,Bool.false_eq_true,if_false] at h;injection h with h;injection h with e1 e2;exact .inr ⟨rfl,e1.symm,e2.symm⟩
   ·rw [if_neg hk1] at h;refine .inr ⟨hk1,?_⟩;cases h1:isR [38] s with
    | true =>
     simp only [h1,if_true] at h;injection h with h;injection h with e1 e2;exact .inl ⟨rfl,e1.symm,e2.symm⟩
    | false =>
     simp only [h1,if_false,Bool.false_eq_true] at h;refine .inr ⟨rfl,?_⟩;cases h2:isR [114,101,97,100] s with
     | true =>
      simp only [h2,if_true] at h;injection h with h;injection h with e1 e2;exact .inl ⟨rfl,e1.symm,e2.symm⟩
     | false =>
      simp only [h2,if_false,Bool.false_eq_true] at h;refine .inr ⟨rfl,?_⟩;cases hq:E (z0h [40] s) with
      | none=>rw [hq] at h; cases h
      | some q =>
       obtain ⟨y,s1⟩:=q;rw [hq] at h;injection h with h;injection h with e1 e2;subst e1;exact ⟨s1,rfl,e2.symm⟩
theorem zcB {p tb d:Nat} {s s2:RS} {y:Ex} {l:Int} {nm:Zb} {w w4 w5 w7 w9:World} {k5 o5 a5 l5:Int} {t5:Zb} {A5:Option Addr} {n5 c5:Nat} {t:TypeId} (hv:ExV (fun q=>w4.heap.size<=q/\q<w5.heap.size) w5 d y (.agg #[.int .i64 k5,.int .i64 o5,.int .i64 a5,.int .i64 l5,.string t5,.slice A5 n5 c5])) (h4:w.heap.size<w4.heap.size) (h45:w4.heap.size<=w5.heap.size) (h57:w5.grownBy w7 (some p)) (h7:RA w7 p tb s2) (hg:w.grownBy w7 (some p)) (hl:s2.rest.length<=s.rest.length) (hp:p<w.heap.size) (ht:tb<w.heap.size)
  (hg9:(w7.alloc (.cells #[.int .i64 k5,.int .i64 o5,.int .i64 a5,.int .i64 l5,.string t5,.slice A5 n5 c5] t)).grownBy w9 (some w.heap.size)) :
  XRG p tb (.mk 4 0 0 l nm [y]) s s2 w (.returned (.agg #[.int .i64 4,.int .i64 0,.int .i64 0,.int .i64 l,.string nm,.slice (some ⟨w7.heap.size,0,none⟩) 1 1])) w9 :=
 za9 (z0H hv (fun q hq=>⟨⟨hq.1,q_1 hq.2 h57.size⟩,hq.2,by omega⟩) h57) h4 (q_9 h45 h57.size) h7 hg hl hp ht hg9
theorem z9F (E:R1) (he:SubR 96 E):SubR 114 (z2I E):=by
 intro p tb s s' x w h hP;have HCase:=zhi (z4r hP);have HE0:=zhi he;have HN:=zhi (z3m (w.alloc (.cells #[.int .i64 0,.int .i64 0,.int .i64 0,.int .i64 0,.string { data:=#[] },.slice none 0 0] 124)) (h.alloc _));obtain ⟨a,c,N,hr⟩:=h;have plt:=hr.plt;have tlt:=hr.tlt;have hsm:=hr.sm;have hlt:=hr.lt;have HR:=zhi hr;have hb0:=(q_i _ w).alloc (q_2 _) (.cells #[.int .i64 0,.int .i64 0,.int .i64 0,.int .i64 0,.string { data:=#[] },.slice none 0 0] 124);have HZ0:=zhi (q_4 w (.cells #[.int .i64 0,.int .i64 0,.int .i64 0,.int .i64 0,.string { data:=#[] },.slice none 0 0] 124));have HB0:=zhi hb0;clear hr hb0 hP he;go_enter Tryz.func114,Tryz.ntmps114;go_wp2_with fail;refine HN.out.mono ?_;rintro e w1 ⟨rfl,hb1⟩;unfold z1F;have hsz1:w.heap.size+1<=w1.heap.size:=by have:=hb1.size; simpa using this
 have hbt:=(q_i _ w1).alloc (q_2 _) (.cells #[.int .i64 ((hdR s).kind:Int),.int .i64 ((hdR s).line:Int),.int .i64 ((hdR s).value:Int),.string (nmB (hdR s).text)] 110);have HBW:=zhi ((HB0.out.trans (hb1.mono (by simp))).trans (hbt.mono (by omega)));have HZ2:=zhi ((hbt.block w.heap.size (by omega)).trans ((hb1.block _ (by simp)).trans HZ0.out));have HT2:=zhi (q_4 w1 (.cells #[.int .i64 ((hdR s).kind:Int),.int .i64 ((hdR s).line:Int),.int .i64 ((hdR s).value:Int),.string (nmB (hdR s).text)] 110));have hsz2:w1.heap.size<(w1.alloc (.cells #[.int .i64 ((hdR s).kind:Int),.int .i64 ((hdR s).line:Int),.int .i64 ((hdR s).value:Int),.string (nmB (hdR s).text)] 110)).heap.size:=by simp
 clear hb1 HN hbt HZ0 HB0;go_upto_region 2 with fail;obtain ⟨ub,hub⟩:∃ ub,ub=w1.heap.size:=⟨_,rfl⟩;rw [<- hub] at HT2 hsz1 hsz2 ⊢;generalize w1.alloc (.cells #[.int .i64 ((hdR s).kind:Int),.int .i64 ((hdR s).line:Int),.int .i64 ((hdR s).value:Int),.string (nmB (hdR s).text)] 110)=w2 at *;clear hub;have h2:=HR.out.keep (HBW.out.block _ plt) (HBW.out.block _ tlt);have c1:=h2.cells.2.1;have c2:=h2.cells.2.2.1;have f1:=h2.cells.2.2.2.2 1;have H2:=zhi h2;obtain ⟨r0,r1,r2,r3⟩:=cl4 HT2.out;have HG2:=zhi (z02 HBW.out (some p));clear h2 HR HBW;rcases HCase.out with ⟨hb,rfl,rfl⟩ | ⟨hb,hcase⟩
 ·rw [hb] at c2;clear hb HCase;go_wp2_with (with_reducible refine z0z ?_);refine z07.of (z00 _ rfl _ _ _ rfl w.heap.size _ rfl (by rfl) _ _ HZ2.out (by kernel_rfl) (by rfl) (by simp [Value.oneCell']) ?_);intro w9 hrow9 hg9;obtain ⟨j0,j1,j2,j3,j4,j5⟩:=cl6 hrow9;have HH:=zhi (z2p 0 0 0 0 ⟨#[]⟩ ⟨_,_,_,H2.out⟩ HG2.out (q_2 _) plt tlt hg9);clear hrow9 hg9;go_wp2_with fail;exact q_3 (by simp [results,Tryz.results114,go_sem,j0,j1,j2,j3,j4,j5]) rfl HH.out
 ·rw [hb] at c2;clear hb HCase;rcases hcase with ⟨hk,rfl,rfl⟩ | ⟨hk,hcase⟩
  ·have h22:=zhi (z56 H2.out.wf (by omega:(hdR s).kind≠0));have hk2:(((hdR s).kind:Int) == 2)=true:=by simp [hk]
   rw [hk] at r0;have hq:w2.grownBy (w2.setCell ⟨p,1,none⟩ (.int .i64 ((a:Int)+1))) (some p):=z03 w2 ⟨p,1,none⟩ (.int .i64 ((a:Int)+1));have ht3:=z04 hq (by omega) HT2.out;have HZ3:=zhi (z04 hq (by omega) HZ2.out);obtain ⟨q0,q1,q2,q3⟩:=cl4 ht3;have HP3:=zhi (show RA (w2.setCell ⟨p,1,none⟩ (.int .i64 ((a:Int)+1))) p tb (popR s) from ⟨_,_,_,H2.out.popSet h22.out⟩);have HG3:=zhi (HG2.out.trans hq);clear hq ht3 hk;go_wp2_with (with_reducible refine z0z ?_);refine z07.of (z00 _ rfl _ _ _ rfl w.heap.size _ rfl (by rfl) _ _ HZ3.out (by kernel_rfl) (by rfl) (by simp [Value.oneCell']) ?_);intro w9 hrow9 hg9;obtain ⟨j0,j1,j2,j3,j4,j5⟩:=cl6 hrow9;have HH:=zhi (z2p (s:=s) 1 0 ((hdR s).value:Int) ((hdR s).line:Int) ⟨#[]⟩ HP3.out HG3.out (by rw [z0u]; omega) plt tlt hg9);clear hrow9 hg9;go_wp2_with fail;exact q_3 (by simp [results,Tryz.results114,go_sem,j0,j1,j2,j3,j4,j5]) rfl HH.out
  ·have hk2:(((hdR s).kind:Int) == 2)=false:=by simp; omega
   rcases hcase with ⟨hk1,hcase⟩ | ⟨hk1,hcase⟩
   ·have h22:=zhi (z56 H2.out.wf (by omega:(hdR s).kind≠0));rw [hk1] at r0;have hq:w2.grownBy (w2.setCell ⟨p,1,none⟩ (.int .i64 ((a:Int)+1))) (some p):=z03 w2 ⟨p,1,none⟩ (.int .i64 ((a:Int)+1));have HT3:=zhi (z04 hq (by omega) HT2.out);have HZ3:=zhi (z04 hq (by omega) HZ2.out);have hp3:RA (w2.setCell ⟨p,1,none⟩ (.int .i64 ((a:Int)+1))) p tb (popR s):=⟨_,_,_,H2.out.popSet h22.out⟩;have HA:=zhi (z0U [91] _ hp3);have HG3:=zhi (HG2.out.trans hq);have hsz3:=hq.size;clear hq hk1 hp3 hk hk2;go_wp2_with fail;refine HA.out.mono ?_;rintro e w4 ⟨rfl,hp4,hg4⟩;have ht4:=z04 hg4 (by omega) HT3.out;have HZ4:=zhi (z04 hg4 (by omega) HZ3.out);have HG4:=zhi (HG3.out.trans hg4);have hsz4:=hg4.size;clear HA hg4 HT3 HZ3 HG3 c1 c2 f1 r0 r1 r2 r3;rcases hcase with ⟨hv,y,s1,hq,rfl,rfl⟩ | ⟨hv,rfl,rfl⟩
    ·rw [z1h hv] at hp4;have HX:=zhi (HE0.out p tb (popR (popR s)) s1 y w4 hp4 hq);have HT4:=zhi ht4;clear hp4 hq ht4;go_wp2_with fail;refine HX.out.mono ?_;rintro e w5 ⟨d5,k5,o5,a5,l5,t5,A5,n5,c5,rfl,hv5,hp5,hg5,hl5⟩;have hba:=(q_i _ w5).alloc (q_2 _) (.cells #[.int .i64 k5,.int .i64 o5,.int .i64 a5,.int .i64 l5,.string t5,.slice A5 n5 c5] 124);have HX5:=zhi (z1X [93] (w5.alloc (.cells #[.int .i64 k5,.int .i64 o5,.int .i64 a5,.int .i64 l5,.string t5,.slice A5 n5 c5] 124)) (hp5.below hba));have HB5:=zhi (q_4 w5 (.cells #[.int .i64 k5,.int .i64 o5,.int .i64 a5,.int .i64 l5,.string t5,.slice A5 n5 c5] 124));have HBA:=zhi hba;have HV5:=zhi hv5;have hsz5:=hg5.size;have HT5:=zhi ((hba.block ub (by omega)).trans (z04 hg5 (by omega) HT4.out));have HZ5:=zhi ((hba.block w.heap.size (by omega)).trans (z04 hg5 (by omega) HZ4.out));have HG5:=zhi ((HG4.out.trans hg5).trans (z02 hba _));have HLn:=zhi hl5;clear hba hv5 hp5 hg5 hl5 HX HG4 HZ4 HT4;go_wp2_with fail;refine HX5.out.mono ?_;rintro e w6 ⟨⟨v6,rfl⟩,hp6,hg6⟩;have ht6:=z04 hg6 (by omega) HT5.out;have hx6:=z04 hg6 (by omega) HB5.out;have HZ6:=zhi (z04 hg6 (by omega) HZ5.out);obtain ⟨r0,r1,r2,r3⟩:=cl4 ht6;obtain ⟨q0,q1,q2,q3,q4,q5⟩:=cl6 hx6;have HP6:=zhi hp6;have HG6:=zhi (HG5.out.trans hg6);have H56:=zhi ((z02 HBA.out (some p)).trans hg6);have hsz6:w5.heap.size+1<=w6.heap.size:=by have:=hg6.size; simpa using this
     clear hp6 hg6 ht6 hx6 HX5 HG5 HZ5 HT5;go_wp2_with (with_reducible refine z0z ?_);refine z07.of (z00 _ rfl _ _ _ rfl w.heap.size _ rfl (by rfl) _ _ ((((q_i _ w6).alloc (q_2 _) _).block _ (by omega)).trans HZ6.out) (by kernel_rfl) (by rfl) (by simp [Value.oneCell']) ?_);intro w9 hrow9 hg9;obtain ⟨j0,j1,j2,j3,j4,j5⟩:=cl6 hrow9;have HH:=zhi (zcB (s:=s) (l:=((hdR s).line:Int)) (nm:=nmB (hdR s).text) (t:=124) HV5.out (by omega) hsz5 H56.out HP6.out HG6.out (by have:=HLn.out; have h1:=z13 [93] s1; rw [z0u,z0u] at this; omega) plt tlt hg9);clear hrow9 hg9 q0 q1 q2 q3 q4 q5 r0 r1 r2 r3;go_wp2_with fail;exact q_3 (by simp [results,Tryz.results114,go_sem,j0,j1,j2,j3,j4,j5]) rfl HH.out
    ·rw [z1b hv] at hp4;have HP4:=zhi hp4;obtain ⟨r0,r1,r2,r3⟩:=cl4 ht4;clear hp4 ht4;go_wp2_with (with_reducible refine z0z ?_);refine z07.of (z00 _ rfl _ _ _ rfl w.heap.size _ rfl (by rfl) _ _ HZ4.out (by kernel_rfl) (by rfl) (by simp [Value.oneCell']) ?_);intro w9 hrow9 hg9;obtain ⟨j0,j1,j2,j3,j4,j5⟩:=cl6 hrow9;have HH:=zhi (z2p (s:=s) 13 0 0 ((hdR s).line:Int) (nmB (hdR s).text) HP4.out HG4.out (by rw [z0u]; omega) plt tlt hg9);clear hrow9 hg9;go_wp2_with fail;exact q_3 (by simp [results,Tryz.results114,go_sem,j0,j1,j2,j3,j4,j5]) rfl HH.out
   ·have hk1':(((hdR s).kind:Int) == 1)=false:=by simp; omega
    have HA:=zhi (z0U [38] w2 ⟨_,_,_,H2.out⟩);clear hk1 hk;go_wp2_with fail;refine HA.out.mono ?_;rintro e w3 ⟨rfl,hp3,hg3⟩;have ht3:=z04 hg3 (by omega) HT2.out;have hz3:=z04 hg3 (by omega) HZ2.out;have HG3:=zhi (HG2.out.trans hg3);have hsz3:=hg3.size;clear HA hg3 HZ2 c1 c2 f1 r0 r1 r2 r3;rcases hcase with ⟨hv,rfl,rfl⟩ | ⟨hv,hcase⟩
    ·rw [z1h hv] at hp3;have h22:=zhi (z1O H2.out.wf hv);have HT3:=zhi ht3;have HZ3:=zhi hz3;obtain ⟨r0,r1,r2,r3⟩:=cl4 ht3;have hk0:=zbV 1 w3.drew hp3.drew (by omega);have HK:=zhi (show Calls Tryz.prog 62 #[.pointer (some ⟨p,0,none⟩),.int .i64 1] w3.drew (fun e w'=>e=.returned (.agg #[.int .i64 ((z0n 1 (popR s)).1.kind:Int),.int .i64 ((z0n 1 (popR s)).1.line:Int),.int .i64 ((z0n 1 (popR s)).1.value:Int),.string (nmB (z0n 1 (popR s)).1.text)])/\RA w' p tb (z0n 1 (popR s)).2/\w3.drew.grownBy w' (some p)) from hk0);have hfd:∀ w:World,(Instr.field 110 (.agg #[.int .i64 ((z0n 1 (popR s)).1.kind:Int),.int .i64 ((z0n 1 (popR s)).1.line:Int),.int .i64 ((z0n 1 (popR s)).1.value:Int),.string (nmB (z0n 1 (popR s)).1.text)]) 3).run Tryz.prog w=.ok (.string (nmB (z0n 1 (popR s)).1.text)) w:=fun _=>by kernel_rfl
     clear hk0;clear hp3 ht3 hz3 HE0 HT2 H2 HG2;go_upto_region 15 with fail
     go_region_with
      (go_at_call 62; (with_reducible refine HK.out.mono ?_); rintro e w5 ⟨rfl,hp5,hg5⟩; have hg5':=(z1v hg5); have ht5:=(z04 hg5' (by omega) HT3.out); have hz5:=(z04 hg5' (by omega) HZ3.out); have b1:=(zcr 1 ht5); have b3:=(zcr 3 ht5); have g0:=(z09 hz5 0); have g1:=(z09 hz5 1); have g2:=(z09 hz5 2); have g3:=(z09 hz5 3); have g4:=(z09 hz5 4); have g5:=(z09 hz5 5); have q0:=(zcr 0 hz5); have q1:=(zcr 1 hz5); have q2:=(zcr 2 hz5); have q3:=(zcr 3 hz5); have q4:=(zcr 4 hz5); have q5:=(zcr 5 hz5); have RX6:=zhi hz5; have HP5:=zhi hp5; have HG5:=zhi (HG3.out.trans hg5'); clear ht5 hz5 hp5 hg5 hg5')
     all_goals
      have h6:=z1l (.int .i64 11) (.int .i64 0) (.int .i64 0) (.int .i64 ((hdR s).line:Int)) (.string (nmB (z0n 1 (popR s)).1.text)) (.slice none 0 0) RX6.out;have hE:=z2p (s:=s) 11 0 0 ((hdR s).line:Int) (nmB (z0n 1 (popR s)).1.text) HP5.out HG5.out (by have:=z5H 1 (popR s); rw [z0u] at this; omega) plt tlt h6.2;have HE:=zhi hE;obtain ⟨j0,j1,j2,j3,j4,j5⟩:=cl6 h6.1;clear h6 hE;clear q0 q1 q2 q3 q4 q5 g0 g1 g2 g3 g4 g5;go_wp2_with fail;exact q_3 (by simp [results,Tryz.results114,go_sem,j0,j1,j2,j3,j4,j5]) rfl HE.out
    ·rw [z1b hv] at hp3;have HA3:=zhi (z0U [114,101,97,100] w3 hp3);have HT3:=zhi ht3;have HZ3:=zhi hz3;clear hp3 ht3 hz3;go_wp2_with fail;refine HA3.out.mono ?_;rintro e w4 ⟨rfl,hp4,hg4⟩;have ht4:=z04 hg4 (by omega) HT3.out;have hz4:=z04 hg4 (by omega) HZ3.out;have HG4:=zhi (HG3.out.trans hg4);have hsz4:=hg4.size;clear HA3 hg4 HZ3 HT3 HG3;rcases hcase with ⟨hv,rfl,rfl⟩ | ⟨hv,s1,hq,rfl⟩
     ·rw [z1h hv] at hp4;have HP4:=zhi hp4;have HZ4:=zhi hz4;obtain ⟨r0,r1,r2,r3⟩:=cl4 ht4;clear hp4 ht4 hz4;go_wp2_with (with_reducible refine z0z ?_);refine z07.of (z00 _ rfl _ _ _ rfl w.heap.size _ rfl (by rfl) _ _ HZ4.out (by kernel_rfl) (by rfl) (by simp [Value.oneCell']) ?_);intro w9 hrow9 hg9;obtain ⟨j0,j1,j2,j3,j4,j5⟩:=cl6 hrow9;have HH:=zhi (z2p (s:=s) 12 0 0 ((hdR s).line:Int) ⟨#[]⟩ HP4.out HG4.out (by rw [z0u]; omega) plt tlt hg9);clear hrow9 hg9;go_wp2_with fail;exact q_3 (by simp [results,Tryz.results114,go_sem,j0,j1,j2,j3,j4,j5]) rfl HH.out
     ·rw [z1b hv] at hp4;have HX4:=zhi (z1X [40] w4 hp4);have HZ4:=zhi hz4;have HQ:=zhi hq;clear hp4 ht4 hz4 hq;go_wp2_with fail;refine HX4.out.mono ?_;rintro e w5 ⟨⟨v5,rfl⟩,hp5,hg5⟩;have HX:=zhi (HE0.out p tb (z0h [40] s) s1 x w5 hp5 HQ.out);have HG5:=zhi (HG4.out.trans hg5);have HZ5:=zhi (z04 hg5 (by omega) HZ4.out);have hsz5:=hg5.size;clear HX4 hp5 hg5 HZ4 HG4 HQ;go_wp2_with fail;refine HX.out.mono ?_;rintro e w6 ⟨d5,k5,o5,a5,l5,t5,A5,n5,c5,rfl,hv5,hp6,hg6,hl5⟩;have hba:=(q_i _ w6).alloc (q_2 _) (.cells #[.int .i64 k5,.int .i64 o5,.int .i64 a5,.int .i64 l5,.string t5,.slice A5 n5 c5] 124);have HX6:=zhi (z1X [41] (w6.alloc (.cells #[.int .i64 k5,.int .i64 o5,.int .i64 a5,.int .i64 l5,.string t5,.slice A5 n5 c5] 124)) (hp6.below hba));have HB6:=zhi (q_4 w6 (.cells #[.int .i64 k5,.int .i64 o5,.int .i64 a5,.int .i64 l5,.string t5,.slice A5 n5 c5] 124));have HBA:=zhi hba;have HV5:=zhi hv5;have hsz6:=hg6.size;have HZ6:=zhi ((hba.block w.heap.size (by omega)).trans (z04 hg6 (by omega) HZ5.out));have HG6:=zhi ((HG5.out.trans hg6).trans (z02 hba _));have HLn:=zhi hl5;clear hba hv5 hp6 hg6 hl5 HX HG5 HZ5;go_wp2_with fail;refine HX6.out.mono ?_;rintro e w7 ⟨⟨v7,rfl⟩,hp7,hg7⟩;have hx7:=z04 hg7 (by omega) HB6.out;have HZ7:=zhi (z04 hg7 (by omega) HZ6.out);obtain ⟨q0,q1,q2,q3,q4,q5⟩:=cl6 hx7;have HP7:=zhi hp7;have HG7:=zhi (HG6.out.trans hg7);have H67:=zhi ((z02 HBA.out (some p)).trans hg7);clear hp7 hg7 hx7 HX6 HG6 HZ6;go_wp2_with (with_reducible refine z0z ?_);refine z07.of (z00 _ rfl _ _ _ rfl w.heap.size _ rfl (by rfl) _ _ HZ7.out (by kernel_rfl) (by rfl) (by simp [Value.oneCell']) ?_);intro w9 hrow9 hg9;obtain ⟨j0,j1,j2,j3,j4,j5⟩:=cl6 hrow9;have HH:=zhi (z1P (xb:=w.heap.size) (s:=s) ((z0H HV5.out (fun q hq=>⟨⟨by omega,q_1 hq.2 H67.out.size,by omega⟩,hq.2,by omega⟩) H67.out)) HP7.out HG7.out (by have:=HLn.out; have h1:=z13 [41] s1; have h2:=z13 [40] s; omega) plt tlt hg9);clear hrow9 hg9 q0 q1 q2 q3 q4 q5;go_wp2_with fail;exact q_3 (by simp [results,Tryz.results114,go_sem,j0,j1,j2,j3,j4,j5]) rfl HH.out
theorem z70 {F:Nat->Prop} {w:World} {d:Nat} {x:Ex} {k o a l:Int} {s:Zb} {A:Option Addr} {n c:Nat} (h:ExV F w d x (.agg #[.int .i64 k,.int .i64 o,.int .i64 a,.int .i64 l,.string s,.slice A n c])):x.kind=k/\x.nm=s:=by
 cases d with
 | zero=>exact h.elim
 | succ d =>
  match x,h with
  | .mk k' o' a' l' s' xs,⟨A',c',hv,_⟩ =>
   injection hv with hv;injection hv with hv;injection hv with h0 hv;injection hv with h1 hv;injection hv with h2 hv;injection hv with h3 hv;injection hv with h4 hv;injection h0 with _ h0;injection h4 with h4;exact ⟨h0.symm,h4.symm⟩
theorem z0p.up {base d:Nat} {w:World} {v:Value} {xs:List Ex} {L:List Value} (h:z0p base d w v xs L) (n:Nat):z0p base (d+n) w v xs L :=
 ⟨h.own,fun j x hj=>by
  obtain ⟨c0,c1,c2,c3,c4,c5,e0,e1,e2,e3,e4,e5,hx⟩:=h.at_ j x hj;exact ⟨c0,c1,c2,c3,c4,c5,e0,e1,e2,e3,e4,e5,hx.mono n⟩⟩
theorem zd5 {G:Nat->Prop} {base d:Nat} {w:World} {A:Option Addr} {m c:Nat} {xs:List Ex} {L:List Value} (hown:w.ownsRow base 124 6 (.slice A m c) m L) (hm:m=xs.length) (hat:∀ (j:Nat) (x:Ex),xs[j]?=some x->∃ c0 c1 c2 c3 c4 c5,L[j * 6]?=some c0/\L[j * 6+1]?=some c1/\L[j * 6+2]?=some c2/\L[j * 6+3]?=some c3/\L[j * 6+4]?=some c4/\L[j * 6+5]?=some c5/\ExV G w d x (.agg #[c0,c1,c2,c3,c4,c5])) (hG:∀ b,base<=b->b<w.heap.size->G b):RowE G w d xs A c:=by
 subst hm;rcases hown.2 with ⟨e,h0⟩ | ⟨g,cap,cur,e,hb,hh,hc,_⟩
 ·injection e with e1 e2 e3;subst e1 e3;exact ⟨by rw [h0]; exact q_2 _,fun i x hi=>by rw [q_g h0] at hi; simp at hi⟩
 ·injection e with e1 e2 e3;subst e1 e3;refine ⟨hc,fun i x hi=>?_⟩;obtain ⟨c0,c1,c2,c3,c4,c5,e0,e1,e2,e3,e4,e5,hx⟩:=hat i x hi;have hcell:∀ k u,L[k]?=some u->w.cell? ⟨g,0+k,none⟩=some u:=fun k u hk=>by
   rw [Nat.zero_add];have hk2:k<L.length:=by
    rcases q_f k L.length with h' | h'
    ·exact h'
    ·rw [q_j h'] at hk; cases hk
   exact (hown.cellAt k (by have:=hown.1; omega)).trans hk
  exact ⟨g,0,c0,c1,c2,c3,c4,c5,rfl,hG g hb (q_0.1 hh).1,hcell _ _ e0,hcell _ _ e1,hcell _ _ e2,hcell _ _ e3,hcell _ _ e4,hcell _ _ e5,hx⟩
theorem z0Y {ops:Array Oper} {rest:List Oper} {o:Oper} {a:Act} {Q:Exit->Act->World->Prop} (w:World) (hgd:o.guard=none) (s x:Operand)
  (ho:o.op=.call { callee:=.builtin .append,args:=#[s,x],argTypes:=#[119,119] }) (base d:Nat) (aA:Option Addr) (m aC:Nat) (xs:List Ex) (L:List Value) (y:Ex) (k o' a' l':Int) (t:Zb) (A:Option Addr) (n c:Nat) (F:Nat->Prop)
  (hs:a.eval s=.slice (some ⟨w.heap.size,0,none⟩) 1 1) (hx:a.eval x=.slice aA m aC) (hm:m=xs.length) (h:z0p base d w (.slice aA m aC) xs L) (hlen:xs.length<=1000000)
  (hy:ExV F w d y (.agg #[.int .i64 k,.int .i64 o',.int .i64 a',.int .i64 l',.string t,.slice A n c])) (hF:∀ b,F b->b<w.heap.size)
  (hk:∀ A' m' c' w',m'=(y :: xs).length->RowE (fun b=>(F b\/base<=b/\b<w.heap.size)\/w.heap.size<=b/\b<w'.heap.size) w' d (y :: xs) A' c'->Below w.heap.size w w'->wpList Tryz.prog ops Q rest (a.put o.dst (.slice A' m' c')) w') :
  wpList Tryz.prog ops Q (o :: rest) a (w.alloc (.cells #[.int .i64 k,.int .i64 o',.int .i64 a',.int .i64 l',.string t,.slice A n c] 124)):=by
 subst hm;obtain ⟨i,hi,hz,hsz,hby⟩:=info_parts z3L;have hlit:(w.alloc (.cells #[.int .i64 k,.int .i64 o',.int .i64 a',.int .i64 l',.string t,.slice A n c] 124)).ownsRow w.heap.size 124 6 (.slice (some ⟨w.heap.size,0,none⟩) 1 1) 1 [.int .i64 k,.int .i64 o',.int .i64 a',.int .i64 l',.string t,.slice A n c]:=World.ownsRow_lit w _ 1 (q_2 _) (by unfold maxLen; omega) (by simp);have hend:∀ v' w',w'.ownsRow w.heap.size 124 6 v' (1+xs.length) ([.int .i64 k,.int .i64 o',.int .i64 a',.int .i64 l',.string t,.slice A n c]++L)->Below w.heap.size w w'->wpList Tryz.prog ops Q rest (a.put o.dst v') w':=fun v' w' ho hw=>by
  obtain ⟨A',c',rfl⟩:=z0x ho;refine hk A' _ c' w' (by simp; omega) (zd5 ho (by simp; omega) ?_ (fun b h1 h2=>.inr ⟨h1,h2⟩)) hw;intro j z hj;cases j with
  | zero =>
   simp at hj;subst hj;exact ⟨_,_,_,_,_,_,rfl,rfl,rfl,rfl,rfl,rfl,hy.keep (fun b hb=>.inl (.inl hb)) (fun b hb=>hw.block b (hF b hb))⟩
  | succ j =>
   rw [List.getElem?_cons_succ] at hj;obtain ⟨d0,d1,d2,d3,d4,d5,e0,e1,e2,e3,e4,e5,hx⟩:=h.at_ j z hj;have hr:∀ q,([.int .i64 k,.int .i64 o',.int .i64 a',.int .i64 l',.string t,.slice A n c]++L)[(j+1) * 6+q]?=L[j * 6+q]?:=fun q=>by
    rw [List.getElem?_append_right (by simp; omega)]
    congr 1
    simp;omega
   exact ⟨d0,d1,d2,d3,d4,d5,(hr 0).trans e0,(hr 1).trans e1,(hr 2).trans e2,(hr 3).trans e3,(hr 4).trans e4,(hr 5).trans e5,hx.keep (fun b hb=>.inl (.inr ⟨hb.1,hb.2.1⟩)) (fun b hb=>hw.block b hb.2.1)⟩
 rcases h.own.2 with ⟨e,h0⟩ | ⟨g,cap,cur,e,hb,hh,hc,_⟩
 ·injection e with e1 e2 e3;subst e1 e3;have hx0:=q_g h0;subst hx0;have hL0:L=[]:=q_g (by have:=h.own.1; simpa using this);subst hL0;exact wpList_append_own_none hgd s x _ ho w.heap.size 124 i 6 Tryz.underlying119 hi _ 1 _ hs hlit hx (hend _ _ (by simpa using hlit) ((q_i _ w).alloc (q_2 _) _))
 ·injection e with e1 e2 e3;subst e1 e3;refine wpList_append_own _ hgd s x _ ho w.heap.size 124 i _ 6 72 Tryz.underlying119 hi hz hsz hby rfl (by decide) _ 1 _ hs hlit ⟨g,0,none⟩ xs.length aC L hx h.own.1 ?_ ?_ (by unfold maxLen; omega) (by omega) (by simp) fun v' w' h1 h2 _=>hend v' w' h1 ?_
  ·intro j u hu;have hj:j<xs.length * 6:=by
    rw [<- h.own.1];rcases q_f j L.length with h' | h'
    ·exact h'
    ·rw [q_j h'] at hu; cases hu
   rw [Addr.add_lit,Nat.zero_add];exact hold ((q_i _ w).alloc (q_2 _) _) ((h.own.cellAt j hj).trans hu)
  ·exact h.one
  ·exact ((q_i _ w).alloc (q_2 _) _).trans (z05 h2 (fun k hk=>Nat.le_of_eq (by simpa [Value.ownBlock] using hk)) (by simp))
def zc9 (t:Tok):Obj:=.cells #[.int .i64 (t.kind:Int),.int .i64 (t.line:Int),.int .i64 (t.value:Int),.string (nmB t.text)] 110
def CalR (E:R1) (nf:Bool) (p tb ub xb:Nat) (tk:Tok) (x:Ex) (s s':RS) (w wr:World):Prop :=
 ∃ n xx ss,z1V E nf n xx ss=some (x,s')/\XBox (w.heap.size+1) wr xb xx/\RA wr p tb ss/\w.grownBy wr (some p)/\wr.heap[w.heap.size]?=some z1o/\wr.heap[ub]?=some (zc9 tk)/\ss.rest.length<=s.rest.length
theorem z2B {E:R1} {nf:Bool} {p tb ub xb m d6:Nat} {tk:Tok} {x x2:Ex} {s s' s2:RS} {w w6 w9:World} {k o a ln:Int} {t:Zb} {A:Option Addr} {n c:Nat} (hlp:z1V E nf m x2 s2=some (x,s')) (hx:w.heap.size+1<=xb) (hp:p<w.heap.size) (ht:tb<w.heap.size) (hu:ub≠xb)
  (hv:ExV (fun q=>w.heap.size+1<=q/\q<w6.heap.size/\q≠xb) w6 d6 x2 (.agg #[.int .i64 k,.int .i64 o,.int .i64 a,.int .i64 ln,.string t,.slice A n c])) (h6:RA w6 p tb s2) (hg6:w.grownBy w6 (some p)) (hz6:w6.heap[w.heap.size]?=some z1o) (hu6:w6.heap[ub]?=some (zc9 tk)) (hl:s2.rest.length<=s.rest.length)
  (hrow:w9.heap[xb]?=some (.cells #[.int .i64 k,.int .i64 o,.int .i64 a,.int .i64 ln,.string t,.slice A n c] 124 (0,0))) (hg9:w6.grownBy w9 (some xb)):CalR E nf p tb ub xb tk x s s' w w9/\z0y w9 p=s2.rest.length :=
 ⟨⟨m,x2,s2,hlp,⟨hx,d6,k,o,a,ln,t,A,n,c,hrow,z0H hv (fun q hq=>⟨⟨hq.1,q_1 hq.2.1 hg9.size,hq.2.2⟩,hq.2.1,hq.2.2⟩) hg9⟩,h6.other hg9 (by omega) (by omega),z0r hg6 hg9 (by omega),(hg9.block w.heap.size (q_0.1 hz6).1 (fun e=>by injection e with e; omega)).trans hz6,(hg9.block ub (q_0.1 hu6).1 (fun e=>by injection e with e; omega)).trans hu6,hl⟩,(h6.other hg9 (by omega) (by omega)).rest⟩
theorem z7K {E:R1} {nf:Bool} {n:Nat} {x xr:Ex} {s sr:RS} (h:z1V E nf n x s=some (xr,sr)) (hs:isR [40] s=true):∃ m xs s1,z8o E (popR s)=some (xs,s1)/\z1V E nf m (z7G nf (hdR s).line x xs) s1=some (xr,sr):=by
 cases n with
 | zero=>cases h
 | succ m =>
  simp only [z1V,hs,if_true] at h;cases hp:z8o E (popR s) with
  | none=>rw [hp] at h; cases h
  | some q=>rw [hp] at h; exact ⟨m,q.1,q.2,rfl,h⟩
theorem z8y {E:R1} {nf:Bool} {n:Nat} {x xr:Ex} {s sr:RS} (h:z1V E nf n x s=some (xr,sr)) (hs:isR [40] s=false):xr=x/\sr=s:=by
 cases n with
 | zero=>cases h
 | succ m =>
  simp only [z1V,hs] at h;injection h with h;injection h with h1 h2;exact ⟨h1.symm,h2.symm⟩
theorem z6d {E:R1} {s s1:RS} {xs:List Ex} (h:z8o E s=some (xs,s1)):(isR [41] s=true/\xs=[]/\s1=popR s)\/(isR [41] s=false/\∃ x sx n,E s=some (x,sx)/\z5b E n [x] sx=some (xs,s1)):=by
 unfold z8o at h;cases h1:isR [41] s with
 | true =>
  simp only [h1,if_true] at h;injection h with h;injection h with e1 e2;exact .inl ⟨rfl,e1.symm,e2.symm⟩
 | false =>
  simp only [h1,Bool.false_eq_true,if_false] at h;refine .inr ⟨rfl,?_⟩;cases hq:E s with
  | none=>rw [hq] at h; cases h
  | some q=>rw [hq] at h; exact ⟨q.1,q.2,_,rfl,h⟩
theorem z9i {E:R1} {n:Nat} {xs ys:List Ex} {s sr:RS} (h:z5b E n xs s=some (ys,sr)) (hs:isR [44] s=true):∃ m y s2,E (popR s)=some (y,s2)/\z5b E m (xs++[y]) s2=some (ys,sr):=by
 cases n with
 | zero=>cases h
 | succ m =>
  simp only [z5b,hs,if_true] at h;cases hp:E (popR s) with
  | none=>rw [hp] at h; cases h
  | some q=>rw [hp] at h; exact ⟨m,q.1,q.2,rfl,h⟩
theorem zaV {E:R1} {n:Nat} {xs ys:List Ex} {s sr:RS} (h:z5b E n xs s=some (ys,sr)) (hs:isR [44] s=false):ys=xs/\sr=z0h [41] s:=by
 cases n with
 | zero=>cases h
 | succ m =>
  simp only [z5b,hs] at h;injection h with h;injection h with h1 h2;exact ⟨h1.symm,h2.symm⟩
theorem z4P {E:R1} {s s':RS} {x:Ex} (h:z3U E s=some (x,s')):∃ x1 s1 n,z2I E s=some (x1,s1)/\z1V E (decide ((hdR s).kind=1)) n x1 s1=some (x,s'):=by
 unfold z3U at h;cases hp:z2I E s with
 | none=>rw [hp] at h; cases h
 | some q=>rw [hp] at h; exact ⟨q.1,q.2,_,rfl,h⟩
def MorR (E:R1) (base p tb:Nat) (ys:List Ex) (s0 s1:RS) (W:World) (v:Value) (wr:World):Prop :=
 ∃ n xs ss L A m c d,v=.slice A m c/\m=xs.length/\z5b E n xs ss=some (ys,s1)/\z0p base d wr (.slice A m c) xs L/\RA wr p tb ss/\W.grownBy wr (some p)/\xs.length+ss.rest.length<=s0.rest.length+1/\ss.rest.length<=s0.rest.length
end Go.Proofs.YtdflbhofmmlpgaaGreat
