/-
  Mj: RpStm. Walks and laws that the statement's proof is made of. No condition of its own.
-/
import Derived.Test.YtleicdfkagejoaaMi
import Derived.Deep.RegionLawGrows
namespace Go.Proofs.Ytleicdfkagejoaa
open Go.RowKit
theorem z2y {k line:Int} {nm:ByteArray} {V:R1} {s s':RS} {x:St} (h:oneR k line nm V s=some (x,s')):∃ y s1,V s=some (y,s1)∧x=.mk k line nm [y] [] []∧s'=s1:=by
 unfold oneR at h
 cases hq:V s with
 | none=>rw [hq] at h; cases h
 | some q =>
  obtain ⟨y,s1⟩:=q
  rw [hq] at h
  injection h with h
  injection h with e1 e2
  exact ⟨y,s1,rfl,e1.symm,e2.symm⟩
theorem za1 {p tb:Nat} {s:RS} {w w1:World} {ln:Int} (h:RA w1 p tb s) (hb:Below (w.alloc z4K).heap.size (w.alloc z4K) w1):StU p tb w1.heap.size s (.mk 0 ln ⟨#[]⟩ [] [] []) w (w1.alloc (.cells #[.int .i64 0,.int .i64 ln,.string ⟨#[]⟩,.slice none 0 0,.slice none 0 0,.slice none 0 0] 109)):=by
 have hs:=hb.size
 simp at hs
 have hba:=(Below.refl _ w1).alloc (Nat.le_refl _) (.cells #[.int .i64 0,.int .i64 ln,.string ⟨#[]⟩,.slice none 0 0,.slice none 0 0,.slice none 0 0] 109)
 have hb0:=(Below.refl _ w).alloc (Nat.le_refl _) z4K
 exact ⟨h.alloc _,(z02 (hb0.trans (hb.mono (by simp))) (some p)).trans (z02 hba _),(hba.block _ (by omega)).trans ((hb.block _ (by simp)).trans (heap_alloc_new w z4K)),by omega,0,1,0,ln,⟨#[]⟩,none,0,0,none,0,0,none,0,0,heap_alloc_new _ _,none,0,none,0,none,0,rfl,⟨Nat.le_refl _,fun i x hi=>by simp at hi⟩,⟨Nat.le_refl _,fun i x hi=>by simp at hi⟩,⟨Nat.le_refl _,fun i x hi=>by simp at hi⟩⟩
def z6a (F:Nat→Prop) (w:World) (d:Nat) (es:List Ex) (L:List Value):Prop:=L.length=es.length * 6∧∀ (j:Nat) (x:Ex),es[j]?=some x→∃ c0 c1 c2 c3 c4 c5,L[j * 6]?=some c0∧L[j * 6+1]?=some c1∧L[j * 6+2]?=some c2∧L[j * 6+3]?=some c3∧L[j * 6+4]?=some c4∧L[j * 6+5]?=some c5∧ExV F w d x (.agg #[c0,c1,c2,c3,c4,c5])
theorem z9x {F:Nat→Prop} {w:World}:z6a F w 0 [] []:=⟨rfl,fun j x h=>by simp at h⟩
theorem z1N {F:Nat→Prop} {w:World} {d:Nat} {x:Ex} {c0 c1 c2 c3 c4 c5:Value} (h:ExV F w d x (.agg #[c0,c1,c2,c3,c4,c5])):z6a F w d [x] [c0,c1,c2,c3,c4,c5]:=⟨rfl,fun j y hj=>by
 match j,hj with
 | 0,hj=>cases hj; exact ⟨c0,c1,c2,c3,c4,c5,rfl,rfl,rfl,rfl,rfl,rfl,h⟩
 | j+1,hj=>simp at hj⟩
theorem z6a.keep {F G:Nat→Prop} {w w':World} {d:Nat} {es:List Ex} {L:List Value} (hFG:∀ k,F k→G k) (hk:∀ k,F k→w'.heap[k]?=w.heap[k]?) (h:z6a F w d es L):z6a G w' d es L :=
 ⟨h.1,fun j x hj=>by
  obtain ⟨c0,c1,c2,c3,c4,c5,e0,e1,e2,e3,e4,e5,hx⟩:=h.2 j x hj
  exact ⟨c0,c1,c2,c3,c4,c5,e0,e1,e2,e3,e4,e5,hx.keep hFG hk⟩⟩
theorem z78 {F:Nat→Prop} {base d d' m c:Nat} {w w':World} {es:List Ex} {L:List Value} {y:Ex} {A:Option Addr} {e0 e1 e2 e3 e4 e5:Value} (h:z6a F w d es L) (hy:ExV F w d' y (.agg #[e0,e1,e2,e3,e4,e5])) (hF:∀ q,F q→q<w.heap.size) (hw:Below w.heap.size w w') (own:w'.ownsRow base 112 6 (.slice A m c) m (L++[e0,e1,e2,e3,e4,e5])) (hm:m=(es++[y]).length) :
  RowE (fun q=>F q∨base≤q∧q<w'.heap.size) w' (d+d') (es++[y]) A c:=by
 refine z9L own hm ?_ (fun b h1 h2=>.inr ⟨h1,h2⟩)
 intro j x hj
 have hL:=h.1
 rcases Nat.lt_or_ge j es.length with hlt | hge
 ·rw [List.getElem?_append_left hlt] at hj
  obtain ⟨d0,d1,d2,d3,d4,d5,q0,q1,q2,q3,q4,q5,hx⟩:=h.2 j x hj
  have hl:∀ k u,L[k]?=some u→(L++[e0,e1,e2,e3,e4,e5])[k]?=some u:=fun k u hk=>by
   have hk2:k<L.length:=by
    rcases Nat.lt_or_ge k L.length with h' | h'
    ·exact h'
    ·rw [List.getElem?_eq_none h'] at hk; cases hk
   rw [List.getElem?_append_left hk2]; exact hk
  exact ⟨d0,d1,d2,d3,d4,d5,hl _ _ q0,hl _ _ q1,hl _ _ q2,hl _ _ q3,hl _ _ q4,hl _ _ q5,(hx.mono d').keep (fun q hq=>.inl hq) (fun q hq=>hw.block q (hF q hq))⟩
 ·have hjx:j=es.length:=by
   rcases Nat.lt_or_ge es.length j with h' | h'
   ·rw [List.getElem?_eq_none (by simp; omega)] at hj; cases hj
   ·omega
  subst hjx
  simp at hj
  subst hj
  have hr:∀ k,(L++[e0,e1,e2,e3,e4,e5])[es.length * 6+k]?=[e0,e1,e2,e3,e4,e5][k]?:=fun k=>by
   rw [List.getElem?_append_right (by omega)]
   congr 1
   omega
  have hy2:=hy.mono d
  rw [Nat.add_comm d' d] at hy2
  exact ⟨e0,e1,e2,e3,e4,e5,hr 0,hr 1,hr 2,hr 3,hr 4,hr 5,hy2.keep (fun q hq=>.inl hq) (fun q hq=>hw.block q (hF q hq))⟩
set_option maxRecDepth 10000 in
theorem z4F {ops:Array Oper} {o:Oper} {a:Act} {K:Act→World→Prop} {Q:Exit→Act→World→Prop} {E:Prop} (w:World) (hgd:o.guard=none) (s x:Operand)
  (ho:o.op=.call { callee:=.builtin .append,args:=#[s,x],argTypes:=#[107,107] }) (EA:Option Addr) (EN:Nat) (L:List Value) (k o' a' l':Int) (t:ByteArray) (A:Option Addr) (n c:Nat)
  (hs:a.eval s=.slice EA EN EN) (hx:a.eval x=.slice (some ⟨w.heap.size,0,none⟩) 1 1) (hnone:EA=none→EN=0) (hn:EN≤1) (hL:L.length=EN * 6) (holds:∀ b,EA=some b→∀ j u,L[j]?=some u→w.cell? (b.add j)=some u)
  (hk:∀ A' m' c' w',m'=EN+1→w'.ownsRow w.heap.size 112 6 (.slice A' m' c') m' (L++[.int .i64 k,.int .i64 o',.int .i64 a',.int .i64 l',.string t,.slice A n c])→Below w.heap.size w w'→K (a.put o.dst (.slice A' m' c')) w') :
  if Region.wanted o (yielded ops a.tmps)=true then Oper.wp Try.prog o a (w.alloc (.cells #[.int .i64 k,.int .i64 o',.int .i64 a',.int .i64 l',.string t,.slice A n c] 112)) K Q else E:=by
 obtain ⟨i,hi,hz,hsz,hby⟩:=info_parts z3a
 have hb:=(Below.refl _ w).alloc (Nat.le_refl _) (.cells #[.int .i64 k,.int .i64 o',.int .i64 a',.int .i64 l',.string t,.slice A n c] 112)
 refine step_append_grows hgd s x 107 ho 112 i _ 6 72 Try.underlying107 hi hz hsz hby rfl (by decide) EA EN EN L hs (fun h=>⟨hnone h,hnone h⟩) hL (fun b hb' j u hu=>hold hb (holds b hb' j u hu)) ⟨w.heap.size,0,none⟩ 1 1 [.int .i64 k,.int .i64 o',.int .i64 a',.int .i64 l',.string t,.slice A n c] hx rfl ?_ ?_ (by omega) (by unfold maxLen; omega) (by omega) fun v' w' h1 h2=>?_
 ·intro j u hu
  rw [Addr.add_lit,Nat.zero_add]
  exact (cell_of_row _ _ _ _ _ _ (heap_alloc_new w _)).trans (by simpa using hu)
 ·intro u hu
  simp at hu
  rcases hu with rfl | rfl | rfl | rfl | rfl | rfl <;> rfl
 ·obtain ⟨A',c',rfl⟩:=z0t h1
  exact hk A' _ c' w' rfl (z2J h1 (by simp)) (hb.trans (z07 h2 (fun k hk=>by cases hk) (by simp)))
theorem z5W {p tb sb:Nat} {s:RS} {x:St} {w wr:World} {v:Value} (h:StU p tb sb s x w wr) (hc:wr.cell? ⟨sb,3,none⟩=some v):∃ v0 v1 v2 v4 v5,wr.heap[sb]?=some (.cells #[v0,v1,v2,v,v4,v5] 109 (0,0)):=by
 obtain ⟨v0,v1,v2,v3,v4,v5,hr⟩:=h.row
 have h3:=(cell_of_row _ _ 3 _ _ _ hr).symm.trans hc
 have e:v3=v:=by simpa using h3
 subst e
 exact ⟨v0,v1,v2,v4,v5,hr⟩
theorem z6f {w w':World} {p j:Nat} {b:Addr} {u:Value} (hg:w.grownBy w' (some p)) (hb:b.block≠p∧b=⟨b.block,0,none⟩) (h:w.cell? (b.add j)=some u):w'.cell? (b.add j)=some u:=by
 rw [hb.2,Addr.add_lit] at h ⊢
 exact z0a hg hb.1 h
theorem z9K {w:World} {g p:Nat} {cs:List Value} {T:TypeId} (hr:w.heap[g]?=some (.cells cs.toArray T (0,0))) (hp:g≠p):∀ b:Addr,some (⟨g,0,none⟩:Addr)=some b→(b.block≠p∧b=⟨b.block,0,none⟩)∧∀ (j:Nat) (u:Value),cs[j]?=some u→w.cell? (b.add j)=some u:=by
 intro b hb
 injection hb with hb
 subst hb
 refine ⟨⟨hp,rfl⟩,fun j u hu=>?_⟩
 rw [Addr.add_lit,Nat.zero_add]
 exact (cell_of_row _ _ _ _ _ _ hr).trans (by simpa using hu)
theorem zaL {B:RSL} {E:R1} {s s':RS} {x:St} {ln:Int} (h:(match E (popR s) with
  | none=>none
  | some (x,s1) =>
   match B s1 with
   | none=>none
   | some (t,s2) =>
    if isR z7A s2 then
     match B (popR s2) with
     | none=>none
     | some (u,s3)=>some (St.mk 4 ln ⟨#[]⟩ [x] t u,s3)
    else some (.mk 4 ln ⟨#[]⟩ [x] t [],s2))=some (x,s')):∃ y s1 ts s2,E (popR s)=some (y,s1)∧B s1=some (ts,s2)∧((isR z7A s2=true∧∃ us,B (popR s2)=some (us,s')∧x=.mk 4 ln ⟨#[]⟩ [y] ts us)∨(isR z7A s2=false∧x=.mk 4 ln ⟨#[]⟩ [y] ts []∧s'=s2)):=by
 cases h1:E (popR s) with
 | none=>rw [h1] at h; cases h
 | some q =>
  obtain ⟨y,s1⟩:=q
  rw [h1] at h
  dsimp only at h
  cases h2:B s1 with
  | none=>rw [h2] at h; cases h
  | some q2 =>
   obtain ⟨ts,s2⟩:=q2
   rw [h2] at h
   dsimp only at h
   cases h3:isR z7A s2 with
   | true =>
    rw [if_pos h3] at h
    cases h4:B (popR s2) with
    | none=>rw [h4] at h; cases h
    | some q4 =>
     obtain ⟨us,s4⟩:=q4
     rw [h4] at h
     injection h with h
     injection h with e1 e2
     subst e2
     exact ⟨y,s1,ts,s2,rfl,h2,.inl ⟨h3,us,h4,e1.symm⟩⟩
   | false =>
    rw [if_neg (by rw [h3]; decide)] at h
    injection h with h
    injection h with e1 e2
    exact ⟨y,s1,ts,s2,rfl,h2,.inr ⟨h3,e1.symm,e2.symm⟩⟩
theorem z6J {B:RSL} {E:R1} {s s':RS} {x:St} {ln:Int} (h:(match E (popR s) with
  | none=>none
  | some (x,s1) =>
   match B s1 with
   | none=>none
   | some (t,s2)=>some (St.mk 5 ln ⟨#[]⟩ [x] t [],s2))=some (x,s')):∃ y s1 ts,E (popR s)=some (y,s1)∧B s1=some (ts,s')∧x=.mk 5 ln ⟨#[]⟩ [y] ts []:=by
 cases h1:E (popR s) with
 | none=>rw [h1] at h; cases h
 | some q =>
  obtain ⟨y,s1⟩:=q
  rw [h1] at h
  dsimp only at h
  cases h2:B s1 with
  | none=>rw [h2] at h; cases h
  | some q2 =>
   obtain ⟨ts,s2⟩:=q2
   rw [h2] at h
   injection h with h
   injection h with e1 e2
   subst e2
   exact ⟨y,s1,ts,rfl,h2,e1.symm⟩
theorem z6H {E:R1} {s1' s':RS} {x:St} {ln:Int} {nm:ByteArray} (h:(match E s1' with
  | none=>none
  | some (x,s1) =>
   match z2n E (z0c [61] (z0c [93] s1)) with
   | none=>none
   | some (y,s2)=>some (St.mk 3 ln nm [x,y] [] [],s2))=some (x,s')):∃ y s1 z,E s1'=some (y,s1)∧z2n E (z0c [61] (z0c [93] s1))=some (z,s')∧x=.mk 3 ln nm [y,z] [] []:=by
 cases h1:E s1' with
 | none=>rw [h1] at h; cases h
 | some q =>
  obtain ⟨y,s1⟩:=q
  rw [h1] at h
  dsimp only at h
  cases h2:z2n E (z0c [61] (z0c [93] s1)) with
  | none=>rw [h2] at h; cases h
  | some q2 =>
   obtain ⟨z,s2⟩:=q2
   rw [h2] at h
   injection h with h
   injection h with e1 e2
   subst e2
   exact ⟨y,s1,z,rfl,h2,e1.symm⟩
set_option maxRecDepth 100000 in
set_option maxHeartbeats 8000000 in
theorem zdS (B:RSL) (E:R1) (he:SubR 85 E) (hbk:SubB 58 B):SubS 75 (zd2 B E):=by
 intro p tb s s' x w h hP
 have HP:=zhi hP
 have HExp:=zhi he
 have HVal:=zhi (zdb E he)
 have HBlk:=zhi hbk
 have plt:=h.lt.1
 have tlt:=h.lt.2.1
 have HN:=zhi (z3w (w.alloc (.cells #[.int .i64 0,.int .i64 0,.string { data:=#[] },.slice none 0 0,.slice none 0 0,.slice none 0 0] 109)) (h.alloc _))
 have HA:=zhi (h.alloc (.cells #[.int .i64 0,.int .i64 0,.string { data:=#[] },.slice none 0 0,.slice none 0 0,.slice none 0 0] 109))
 clear he hbk hP h
 go_enter Try.func75,Try.ntmps75
 go_wp2_with fail
 refine HN.out.mono ?_
 rintro e w1 ⟨rfl,hb1⟩
 unfold z1C
 have hfd:∀ w:World,(Instr.field 98 (.agg #[.int .i64 ((hdR s).kind:Int),.int .i64 ((hdR s).line:Int),.int .i64 ((hdR s).value:Int),.string (nmB (hdR s).text)]) 1).run Try.prog w=.ok (.int .i64 ((hdR s).line:Int)) w:=fun _=>by kernel_rfl
 have H0:=zhi (za1 (ln:=((hdR s).line:Int)) (HA.out.below hb1) hb1)
 clear HN hb1 HA
 go_upto_region 8 with fail
 obtain ⟨sb,hsb0⟩:∃ sb,sb=w1.heap.size:=⟨_,rfl⟩
 rw [← hsb0] at H0 ⊢
 obtain ⟨w2,hw2⟩:∃ w2,w2=w1.alloc (.cells #[.int .i64 0,.int .i64 ((hdR s).line:Int),.string ⟨#[]⟩,.slice none 0 0,.slice none 0 0,.slice none 0 0] 109):=⟨_,rfl⟩
 rw [← hw2] at H0 ⊢
 have HC3:=zhi (show w2.cell? ⟨sb,3,none⟩=some (.slice none 0 0) by rw [hw2,hsb0]; exact cell_of_row _ _ 3 _ _ _ (heap_alloc_new w1 _))
 clear hw2 hsb0 hfd
 have H:=H0
 have hP:=HP.out
 unfold zd2 at hP
 have HP0:=zhi hP
 clear H0 HP hP
 have HAc:=zhi (z0F varW w2 H.out.ra)
 go_wp2_with fail
 refine HAc.out.mono ?_
 rintro e wa0 ⟨rfl,hpa,hga⟩
 have Hn:=zhi (fun s1 (hpa:RA wa0 p tb s1)=>H.out.step plt hga hpa)
 have hc3:=z0a hga (by have:=H.out.lt; omega) HC3.out
 have HPA:=zhi hpa
 clear hpa hga HAc HC3 H
 have HC3:=zhi hc3
 clear hc3
 cases hv:isR varW s with
 | true =>
  have hpa:=HPA.out
  rw [z0D hv] at hpa
  have H:=zhi (Hn.out _ hpa)
  have hP:=HP0.out
  rw [if_pos hv] at hP
  clear hpa HPA Hn HP0
  obtain ⟨y,s1,hq,rfl,rfl⟩:=z2y hP
  clear hP
  have HK:=zhi (show Calls Try.prog 57 #[.pointer (some ⟨p,0,none⟩),.int .i64 1] wa0 (fun e w'=>e=.returned (.agg #[.int .i64 ((z03 1 (popR s)).1.kind:Int),.int .i64 ((z03 1 (popR s)).1.line:Int),.int .i64 ((z03 1 (popR s)).1.value:Int),.string (nmB (z03 1 (popR s)).1.text)])∧RA w' p tb (z03 1 (popR s)).2∧World.grownBy wa0 w' (some p)) from z3B 1 wa0 H.out.ra (by omega))
  have hfd:∀ w:World,(Instr.field 98 (.agg #[.int .i64 ((z03 1 (popR s)).1.kind:Int),.int .i64 ((z03 1 (popR s)).1.line:Int),.int .i64 ((z03 1 (popR s)).1.value:Int),.string (nmB (z03 1 (popR s)).1.text)]) 3).run Try.prog w=.ok (.string (nmB (z03 1 (popR s)).1.text)) w:=fun _=>by kernel_rfl
  go_wp2_with fail
  refine HK.out.mono ?_
  rintro e w4 ⟨rfl,hp4,hg4⟩
  have H4:=zhi (H.out.step plt hg4 hp4)
  have hc3:=z0a hg4 (by have:=H.out.lt; omega) HC3.out
  have hsb:=H.out.lt
  clear hp4 hg4 HK H HC3
  obtain ⟨v0,v1,v2,v3,v4,v5,hrowU⟩:=H4.out.row
  obtain ⟨b0,b1,b2,b3,b4,b5⟩:=cl6 hrowU
  have f0:=z09 hrowU 0
  have f1:=z09 hrowU 1
  have f2:=z09 hrowU 2
  have f3:=z09 hrowU 3
  have f4:=z09 hrowU 4
  have f5:=z09 hrowU 5
  clear hrowU
  have H:=zhi ((H4.out.kind plt tlt 1).name plt tlt (nmB (z03 1 (popR s)).1.text))
  have HC3:=zhi (show ((w4.setCell ⟨sb,0,none⟩ (.int .i64 1)).setCell ⟨sb,2,none⟩ (.string (nmB (z03 1 (popR s)).1.text))).cell? ⟨sb,3,none⟩=some (.slice none 0 0) by
   rw [World.cell?_setCell_other _ _ _ _ (fun he=>by simp at he),World.cell?_setCell_other _ _ _ _ (fun he=>by simp at he)]
   exact hc3)
  clear H4 hc3
  have HXe:=zhi (z0r [61] ((w4.setCell ⟨sb,0,none⟩ (.int .i64 1)).setCell ⟨sb,2,none⟩ (.string (nmB (z03 1 (popR s)).1.text))) H.out.ra)
  go_wp2_with fail
  clear b0 b1 b2 b3 b4 b5 f0 f1 f2 f3 f4 f5
  refine HXe.out.mono ?_
  rintro e wq ⟨⟨vewq,rfl⟩,hpe,hge⟩
  clear hfd HC3
  have Hq:=zhi (H.out.step plt hge hpe)
  clear hpe hge HXe H
  have H:=Hq
  clear Hq
  have HXc:=zhi (HVal.out p tb (z0c [61] (z03 1 (popR s)).2) s' y wq H.out.ra hq)
  clear hq
  go_wp2_with fail
  refine HXc.out.mono ?_
  rintro e w5 ⟨d5,k5,o5,a5,l5,t5,A5,n5,c5,rfl,hv5,hp5,hg5,hl5⟩
  have hsb:=H.out.lt
  have hsl:=H.out.slt
  have hsz5:=hg5.size
  have H5:=H.out.step plt hg5 hp5
  have HO5:=zhi (z1N (hv5.keep (G:=fun q=>w.heap.size+1≤q∧q<w5.heap.size∧q≠sb) (fun q hq=>⟨by omega,hq.2,by omega⟩) (fun _ _=>rfl)))
  have HB5:=zhi (heap_alloc_new w5 (.cells #[.int .i64 k5,.int .i64 o5,.int .i64 a5,.int .i64 l5,.string t5,.slice A5 n5 c5] 112))
  have H6:=zhi (H5.alloc plt (.cells #[.int .i64 k5,.int .i64 o5,.int .i64 a5,.int .i64 l5,.string t5,.slice A5 n5 c5] 112))
  have HR6:=zhi (z2X (lo:=w.heap.size+1) (sb:=sb) (T:=112) (hv5.keep (G:=fun q=>w.heap.size+1≤q∧q<w5.heap.size∧q≠sb) (fun q hq=>⟨by omega,hq.2,by omega⟩) (fun _ _=>rfl)) (by omega) (by omega))
  have HL5:=zhi hl5
  clear hv5 hp5 hg5 hl5 HXc H5 H
  obtain ⟨v0,v1,v2,v3,v4,v5,hrowU⟩:=H6.out.row
  obtain ⟨b0,b1,b2,b3,b4,b5⟩:=cl6 hrowU
  have f0:=z09 hrowU 0
  have f1:=z09 hrowU 1
  have f2:=z09 hrowU 2
  have f3:=z09 hrowU 3
  have f4:=z09 hrowU 4
  have f5:=z09 hrowU 5
  clear hrowU
  have H:=zhi (H6.out.exprs (m:=1) plt tlt HR6.out rfl)
  clear H6 HR6
  have HL:=zhi (show s'.rest.length≤s.rest.length by
   have h1:=HL5.out
   have h2:=z0h [61] (z03 1 (popR s)).2
   have h3:=z0v 1 (popR s)
   rw [z0j] at h3
   omega)
  clear HO5 HB5
  go_upto_region 26 with fail
  clear b0 b1 b2 b3 b4 b5 f0 f1 f2 f3 f4 f5
  obtain ⟨wz,hwz⟩:∃ wz,wz=((w5.alloc (.cells #[.int .i64 k5,.int .i64 o5,.int .i64 a5,.int .i64 l5,.string t5,.slice A5 n5 c5] 112)).setCell ⟨sb,3,none⟩ (.slice (some ⟨w5.heap.size,0,none⟩) 1 1)):=⟨_,rfl⟩
  rw [← hwz] at H ⊢
  clear hwz
  obtain ⟨D9,d9,k9,l9,t9,eA9,en9,ec9,tA9,tn9,tc9,uA9,un9,uc9,hr9,hv9⟩:=H.out.at_
  obtain ⟨b0,b1,b2,b3,b4,b5⟩:=cl6 hr9
  have HV9:=zhi hv9
  clear hr9 hv9
  go_wp2_with (with_reducible refine z1F ?_)
  refine z08.of (z00 _ rfl _ _ _ rfl w.heap.size _ rfl (by rfl) _ _ H.out.z (by kernel_rfl) (by rfl) (by simp [Value.oneCell']) ?_)
  intro w9 hrow9 hg9
  obtain ⟨j0,j1,j2,j3,j4,j5⟩:=cl6 hrow9
  have HH:=zhi (z2j HV9.out H.out HL.out plt tlt hg9)
  clear hrow9 hg9 b0 b1 b2 b3 b4 b5
  go_wp2_with fail
  exact bodyPost_ret (by simp [results,Try.results75,go_sem,j0,j1,j2,j3,j4,j5]) rfl HH.out
 | false =>
  have hpa:=HPA.out
  rw [z0T hv] at hpa
  have H:=zhi (Hn.out _ hpa)
  have hP:=HP0.out
  rw [if_neg (by rw [hv]; decide)] at hP
  have HP1:=zhi hP
  clear hpa HPA Hn HP0 hP
  have HAc:=zhi (z0F ifW wa0 H.out.ra)
  go_wp2_with fail
  refine HAc.out.mono ?_
  rintro e wa1 ⟨rfl,hpa,hga⟩
  have Hn:=zhi (fun s1 (hpa:RA wa1 p tb s1)=>H.out.step plt hga hpa)
  have hc3:=z0a hga (by have:=H.out.lt; omega) HC3.out
  have HPA:=zhi hpa
  clear hpa hga HAc HC3 H
  have HC3:=zhi hc3
  clear hc3
  cases hv:isR ifW s with
  | true =>
   have hpa:=HPA.out
   rw [z0D hv] at hpa
   have H:=zhi (Hn.out _ hpa)
   have hP:=HP1.out
   rw [if_pos hv] at hP
   clear hpa HPA Hn HP1
   obtain ⟨y,s1,ts,s2,hq,hb,hcase⟩:=zaL hP
   clear hP
   have HXc:=zhi (HExp.out p tb (popR s) s1 y wa1 H.out.ra hq)
   clear hq
   go_wp2_with fail
   refine HXc.out.mono ?_
   rintro e w5 ⟨d5,k5,o5,a5,l5,t5,A5,n5,c5,rfl,hv5,hp5,hg5,hl5⟩
   have hsb:=H.out.lt
   have hsl:=H.out.slt
   have hsz5:=hg5.size
   have H5:=H.out.step plt hg5 hp5
   have HO5:=zhi (z1N (hv5.keep (G:=fun q=>w.heap.size+1≤q∧q<w5.heap.size∧q≠sb) (fun q hq=>⟨by omega,hq.2,by omega⟩) (fun _ _=>rfl)))
   have HB5:=zhi (heap_alloc_new w5 (.cells #[.int .i64 k5,.int .i64 o5,.int .i64 a5,.int .i64 l5,.string t5,.slice A5 n5 c5] 112))
   have H6:=zhi (H5.alloc plt (.cells #[.int .i64 k5,.int .i64 o5,.int .i64 a5,.int .i64 l5,.string t5,.slice A5 n5 c5] 112))
   have HR6:=zhi (z2X (lo:=w.heap.size+1) (sb:=sb) (T:=112) (hv5.keep (G:=fun q=>w.heap.size+1≤q∧q<w5.heap.size∧q≠sb) (fun q hq=>⟨by omega,hq.2,by omega⟩) (fun _ _=>rfl)) (by omega) (by omega))
   have HL5:=zhi hl5
   clear hv5 hp5 hg5 hl5 HXc H5 H
   obtain ⟨v0,v1,v2,v3,v4,v5,hrowU⟩:=H6.out.row
   obtain ⟨b0,b1,b2,b3,b4,b5⟩:=cl6 hrowU
   have f0:=z09 hrowU 0
   have f1:=z09 hrowU 1
   have f2:=z09 hrowU 2
   have f3:=z09 hrowU 3
   have f4:=z09 hrowU 4
   have f5:=z09 hrowU 5
   clear hrowU
   have H:=zhi ((H6.out.kind plt tlt 4).exprs (m:=1) plt tlt (HR6.out.keep (z1Z _ _ 0 _ _).1 (z1Z _ _ 0 _ _).2) rfl)
   clear H6 HR6
   clear HO5 HB5
   have HBc:=zhi (HBlk.out p tb s1 s2 ts (((w5.alloc (.cells #[.int .i64 k5,.int .i64 o5,.int .i64 a5,.int .i64 l5,.string t5,.slice A5 n5 c5] 112)).setCell ⟨sb,0,none⟩ (.int .i64 4)).setCell ⟨sb,3,none⟩ (.slice (some ⟨w5.heap.size,0,none⟩) 1 1)) H.out.ra hb)
   clear hb
   go_wp2_with fail
   clear b0 b1 b2 b3 b4 b5 f0 f1 f2 f3 f4 f5
   refine HBc.out.mono ?_
   rintro e wb ⟨Db,db,Ab,mb,cb,rfl,hmb,hrb,hpb,hgb,hlb⟩
   have hsb:=H.out.lt
   have hsl:=H.out.slt
   have Hb:=zhi (H.out.step plt hgb hpb)
   have HRb:=zhi (RowS.keep (G:=FF (w.heap.size+1) sb wb) (fun q hq=>⟨by omega,hq.2,by omega⟩) (fun _ _=>rfl) hrb)
   have HMb:=zhi hmb
   have HLb:=zhi hlb
   clear hmb hrb hpb hgb hlb HBc H
   obtain ⟨v0,v1,v2,v3,v4,v5,hrowU⟩:=Hb.out.row
   obtain ⟨b0,b1,b2,b3,b4,b5⟩:=cl6 hrowU
   have f0:=z09 hrowU 0
   have f1:=z09 hrowU 1
   have f2:=z09 hrowU 2
   have f3:=z09 hrowU 3
   have f4:=z09 hrowU 4
   have f5:=z09 hrowU 5
   clear hrowU
   have H:=zhi (Hb.out.thens plt tlt HRb.out HMb.out)
   clear Hb HRb HMb
   have HAc:=zhi (z0F z7A (wb.setCell ⟨sb,4,none⟩ (.slice Ab mb cb)) H.out.ra)
   go_wp2_with fail
   clear b0 b1 b2 b3 b4 b5 f0 f1 f2 f3 f4 f5
   refine HAc.out.mono ?_
   rintro e we ⟨rfl,hpa,hga⟩
   rcases hcase with ⟨hv2,us,hb,rfl⟩ | ⟨hv2,rfl,rfl⟩
   ·rw [z0D hv2] at hpa
    have Hq:=zhi (H.out.step plt hga hpa)
    clear hpa hga HAc H
    have H:=Hq
    clear Hq
    have HBc:=zhi (HBlk.out p tb (popR s2) s' us we H.out.ra hb)
    clear hb
    go_wp2_with fail
    refine HBc.out.mono ?_
    rintro e wf ⟨Db2,db2,Ab2,mb2,cb2,rfl,hmb2,hrb2,hpb2,hgb2,hlb2⟩
    have hsb:=H.out.lt
    have hsl:=H.out.slt
    have Hb2:=zhi (H.out.step plt hgb2 hpb2)
    have HRb2:=zhi (RowS.keep (G:=FF (w.heap.size+1) sb wf) (fun q hq=>⟨by omega,hq.2,by omega⟩) (fun _ _=>rfl) hrb2)
    have HMb2:=zhi hmb2
    have HLb2:=zhi hlb2
    clear hmb2 hrb2 hpb2 hgb2 hlb2 HBc H
    obtain ⟨v0,v1,v2,v3,v4,v5,hrowU⟩:=Hb2.out.row
    obtain ⟨b0,b1,b2,b3,b4,b5⟩:=cl6 hrowU
    have f0:=z09 hrowU 0
    have f1:=z09 hrowU 1
    have f2:=z09 hrowU 2
    have f3:=z09 hrowU 3
    have f4:=z09 hrowU 4
    have f5:=z09 hrowU 5
    clear hrowU
    have H:=zhi (Hb2.out.elses plt tlt HRb2.out HMb2.out)
    clear Hb2 HRb2 HMb2
    have HL:=zhi (show s'.rest.length≤s.rest.length by
     have h1:=HL5.out
     have h2:=HLb.out
     have h3:=HLb2.out
     rw [z0j] at h1 h3
     omega)
    go_upto_region 26 with fail
    clear b0 b1 b2 b3 b4 b5 f0 f1 f2 f3 f4 f5
    obtain ⟨wz,hwz⟩:∃ wz,wz=(wf.setCell ⟨sb,5,none⟩ (.slice Ab2 mb2 cb2)):=⟨_,rfl⟩
    rw [← hwz] at H ⊢
    clear hwz
    obtain ⟨D9,d9,k9,l9,t9,eA9,en9,ec9,tA9,tn9,tc9,uA9,un9,uc9,hr9,hv9⟩:=H.out.at_
    obtain ⟨b0,b1,b2,b3,b4,b5⟩:=cl6 hr9
    have HV9:=zhi hv9
    clear hr9 hv9
    go_wp2_with (with_reducible refine z1F ?_)
    refine z08.of (z00 _ rfl _ _ _ rfl w.heap.size _ rfl (by rfl) _ _ H.out.z (by kernel_rfl) (by rfl) (by simp [Value.oneCell']) ?_)
    intro w9 hrow9 hg9
    obtain ⟨j0,j1,j2,j3,j4,j5⟩:=cl6 hrow9
    have HH:=zhi (z2j HV9.out H.out HL.out plt tlt hg9)
    clear hrow9 hg9 b0 b1 b2 b3 b4 b5
    go_wp2_with fail
    exact bodyPost_ret (by simp [results,Try.results75,go_sem,j0,j1,j2,j3,j4,j5]) rfl HH.out
   ·rw [z0T hv2] at hpa
    have Hq:=zhi (H.out.step plt hga hpa)
    clear hpa hga HAc H
    have H:=Hq
    clear Hq
    have HL:=zhi (show s'.rest.length≤s.rest.length by
     have h1:=HL5.out
     have h2:=HLb.out
     rw [z0j] at h1
     omega)
    go_upto_region 26 with fail
    obtain ⟨wz,hwz⟩:∃ wz,wz=we:=⟨_,rfl⟩
    rw [← hwz] at H ⊢
    clear hwz
    obtain ⟨D9,d9,k9,l9,t9,eA9,en9,ec9,tA9,tn9,tc9,uA9,un9,uc9,hr9,hv9⟩:=H.out.at_
    obtain ⟨b0,b1,b2,b3,b4,b5⟩:=cl6 hr9
    have HV9:=zhi hv9
    clear hr9 hv9
    go_wp2_with (with_reducible refine z1F ?_)
    refine z08.of (z00 _ rfl _ _ _ rfl w.heap.size _ rfl (by rfl) _ _ H.out.z (by kernel_rfl) (by rfl) (by simp [Value.oneCell']) ?_)
    intro w9 hrow9 hg9
    obtain ⟨j0,j1,j2,j3,j4,j5⟩:=cl6 hrow9
    have HH:=zhi (z2j HV9.out H.out HL.out plt tlt hg9)
    clear hrow9 hg9 b0 b1 b2 b3 b4 b5
    go_wp2_with fail
    exact bodyPost_ret (by simp [results,Try.results75,go_sem,j0,j1,j2,j3,j4,j5]) rfl HH.out
  | false =>
   have hpa:=HPA.out
   rw [z0T hv] at hpa
   have H:=zhi (Hn.out _ hpa)
   have hP:=HP1.out
   rw [if_neg (by rw [hv]; decide)] at hP
   have HP2:=zhi hP
   clear hpa HPA Hn HP1 hP
   have HAc:=zhi (z0F zah wa1 H.out.ra)
   go_wp2_with fail
   refine HAc.out.mono ?_
   rintro e wa2 ⟨rfl,hpa,hga⟩
   have Hn:=zhi (fun s1 (hpa:RA wa2 p tb s1)=>H.out.step plt hga hpa)
   have hc3:=z0a hga (by have:=H.out.lt; omega) HC3.out
   have HPA:=zhi hpa
   clear hpa hga HAc HC3 H
   have HC3:=zhi hc3
   clear hc3
   cases hv:isR zah s with
   | true =>
    have hpa:=HPA.out
    rw [z0D hv] at hpa
    have H:=zhi (Hn.out _ hpa)
    have hP:=HP2.out
    rw [if_pos hv] at hP
    clear hpa HPA Hn HP2
    obtain ⟨y,s1,ts,hq,hb,rfl⟩:=z6J hP
    clear hP
    have HXc:=zhi (HExp.out p tb (popR s) s1 y wa2 H.out.ra hq)
    clear hq
    go_wp2_with fail
    refine HXc.out.mono ?_
    rintro e w5 ⟨d5,k5,o5,a5,l5,t5,A5,n5,c5,rfl,hv5,hp5,hg5,hl5⟩
    have hsb:=H.out.lt
    have hsl:=H.out.slt
    have hsz5:=hg5.size
    have H5:=H.out.step plt hg5 hp5
    have HO5:=zhi (z1N (hv5.keep (G:=fun q=>w.heap.size+1≤q∧q<w5.heap.size∧q≠sb) (fun q hq=>⟨by omega,hq.2,by omega⟩) (fun _ _=>rfl)))
    have HB5:=zhi (heap_alloc_new w5 (.cells #[.int .i64 k5,.int .i64 o5,.int .i64 a5,.int .i64 l5,.string t5,.slice A5 n5 c5] 112))
    have H6:=zhi (H5.alloc plt (.cells #[.int .i64 k5,.int .i64 o5,.int .i64 a5,.int .i64 l5,.string t5,.slice A5 n5 c5] 112))
    have HR6:=zhi (z2X (lo:=w.heap.size+1) (sb:=sb) (T:=112) (hv5.keep (G:=fun q=>w.heap.size+1≤q∧q<w5.heap.size∧q≠sb) (fun q hq=>⟨by omega,hq.2,by omega⟩) (fun _ _=>rfl)) (by omega) (by omega))
    have HL5:=zhi hl5
    clear hv5 hp5 hg5 hl5 HXc H5 H
    obtain ⟨v0,v1,v2,v3,v4,v5,hrowU⟩:=H6.out.row
    obtain ⟨b0,b1,b2,b3,b4,b5⟩:=cl6 hrowU
    have f0:=z09 hrowU 0
    have f1:=z09 hrowU 1
    have f2:=z09 hrowU 2
    have f3:=z09 hrowU 3
    have f4:=z09 hrowU 4
    have f5:=z09 hrowU 5
    clear hrowU
    have H:=zhi ((H6.out.kind plt tlt 5).exprs (m:=1) plt tlt (HR6.out.keep (z1Z _ _ 0 _ _).1 (z1Z _ _ 0 _ _).2) rfl)
    clear H6 HR6
    clear HO5 HB5
    have HBc:=zhi (HBlk.out p tb s1 s' ts (((w5.alloc (.cells #[.int .i64 k5,.int .i64 o5,.int .i64 a5,.int .i64 l5,.string t5,.slice A5 n5 c5] 112)).setCell ⟨sb,0,none⟩ (.int .i64 5)).setCell ⟨sb,3,none⟩ (.slice (some ⟨w5.heap.size,0,none⟩) 1 1)) H.out.ra hb)
    clear hb
    go_wp2_with fail
    clear b0 b1 b2 b3 b4 b5 f0 f1 f2 f3 f4 f5
    refine HBc.out.mono ?_
    rintro e wb ⟨Db,db,Ab,mb,cb,rfl,hmb,hrb,hpb,hgb,hlb⟩
    have hsb:=H.out.lt
    have hsl:=H.out.slt
    have Hb:=zhi (H.out.step plt hgb hpb)
    have HRb:=zhi (RowS.keep (G:=FF (w.heap.size+1) sb wb) (fun q hq=>⟨by omega,hq.2,by omega⟩) (fun _ _=>rfl) hrb)
    have HMb:=zhi hmb
    have HLb:=zhi hlb
    clear hmb hrb hpb hgb hlb HBc H
    obtain ⟨v0,v1,v2,v3,v4,v5,hrowU⟩:=Hb.out.row
    obtain ⟨b0,b1,b2,b3,b4,b5⟩:=cl6 hrowU
    have f0:=z09 hrowU 0
    have f1:=z09 hrowU 1
    have f2:=z09 hrowU 2
    have f3:=z09 hrowU 3
    have f4:=z09 hrowU 4
    have f5:=z09 hrowU 5
    clear hrowU
    have H:=zhi (Hb.out.thens plt tlt HRb.out HMb.out)
    clear Hb HRb HMb
    have HL:=zhi (show s'.rest.length≤s.rest.length by
     have h1:=HL5.out
     have h2:=HLb.out
     rw [z0j] at h1
     omega)
    go_upto_region 26 with fail
    clear b0 b1 b2 b3 b4 b5 f0 f1 f2 f3 f4 f5
    obtain ⟨wz,hwz⟩:∃ wz,wz=(wb.setCell ⟨sb,4,none⟩ (.slice Ab mb cb)):=⟨_,rfl⟩
    rw [← hwz] at H ⊢
    clear hwz
    obtain ⟨D9,d9,k9,l9,t9,eA9,en9,ec9,tA9,tn9,tc9,uA9,un9,uc9,hr9,hv9⟩:=H.out.at_
    obtain ⟨b0,b1,b2,b3,b4,b5⟩:=cl6 hr9
    have HV9:=zhi hv9
    clear hr9 hv9
    go_wp2_with (with_reducible refine z1F ?_)
    refine z08.of (z00 _ rfl _ _ _ rfl w.heap.size _ rfl (by rfl) _ _ H.out.z (by kernel_rfl) (by rfl) (by simp [Value.oneCell']) ?_)
    intro w9 hrow9 hg9
    obtain ⟨j0,j1,j2,j3,j4,j5⟩:=cl6 hrow9
    have HH:=zhi (z2j HV9.out H.out HL.out plt tlt hg9)
    clear hrow9 hg9 b0 b1 b2 b3 b4 b5
    go_wp2_with fail
    exact bodyPost_ret (by simp [results,Try.results75,go_sem,j0,j1,j2,j3,j4,j5]) rfl HH.out
   | false =>
    have hpa:=HPA.out
    rw [z0T hv] at hpa
    have H:=zhi (Hn.out _ hpa)
    have hP:=HP2.out
    rw [if_neg (by rw [hv]; decide)] at hP
    have HP3:=zhi hP
    clear hpa HPA Hn HP2 hP
    have HAc:=zhi (z0F z6x wa2 H.out.ra)
    go_wp2_with fail
    refine HAc.out.mono ?_
    rintro e wa3 ⟨rfl,hpa,hga⟩
    have Hn:=zhi (fun s1 (hpa:RA wa3 p tb s1)=>H.out.step plt hga hpa)
    have hc3:=z0a hga (by have:=H.out.lt; omega) HC3.out
    have HPA:=zhi hpa
    clear hpa hga HAc HC3 H
    have HC3:=zhi hc3
    clear hc3
    cases hv:isR z6x s with
    | true =>
     have hpa:=HPA.out
     rw [z0D hv] at hpa
     have H:=zhi (Hn.out _ hpa)
     have hP:=HP3.out
     rw [if_pos hv] at hP
     clear hpa HPA Hn HP3
     obtain ⟨y,s1,hq,rfl,rfl⟩:=z2y hP
     clear hP
     have HXc:=zhi (HVal.out p tb (popR s) s' y wa3 H.out.ra hq)
     clear hq
     go_wp2_with fail
     refine HXc.out.mono ?_
     rintro e w5 ⟨d5,k5,o5,a5,l5,t5,A5,n5,c5,rfl,hv5,hp5,hg5,hl5⟩
     have hsb:=H.out.lt
     have hsl:=H.out.slt
     have hsz5:=hg5.size
     have H5:=H.out.step plt hg5 hp5
     have HO5:=zhi (z1N (hv5.keep (G:=fun q=>w.heap.size+1≤q∧q<w5.heap.size∧q≠sb) (fun q hq=>⟨by omega,hq.2,by omega⟩) (fun _ _=>rfl)))
     have HB5:=zhi (heap_alloc_new w5 (.cells #[.int .i64 k5,.int .i64 o5,.int .i64 a5,.int .i64 l5,.string t5,.slice A5 n5 c5] 112))
     have H6:=zhi (H5.alloc plt (.cells #[.int .i64 k5,.int .i64 o5,.int .i64 a5,.int .i64 l5,.string t5,.slice A5 n5 c5] 112))
     have HR6:=zhi (z2X (lo:=w.heap.size+1) (sb:=sb) (T:=112) (hv5.keep (G:=fun q=>w.heap.size+1≤q∧q<w5.heap.size∧q≠sb) (fun q hq=>⟨by omega,hq.2,by omega⟩) (fun _ _=>rfl)) (by omega) (by omega))
     have HL5:=zhi hl5
     clear hv5 hp5 hg5 hl5 HXc H5 H
     obtain ⟨v0,v1,v2,v3,v4,v5,hrowU⟩:=H6.out.row
     obtain ⟨b0,b1,b2,b3,b4,b5⟩:=cl6 hrowU
     have f0:=z09 hrowU 0
     have f1:=z09 hrowU 1
     have f2:=z09 hrowU 2
     have f3:=z09 hrowU 3
     have f4:=z09 hrowU 4
     have f5:=z09 hrowU 5
     clear hrowU
     have H:=zhi ((H6.out.kind plt tlt 6).exprs (m:=1) plt tlt (HR6.out.keep (z1Z _ _ 0 _ _).1 (z1Z _ _ 0 _ _).2) rfl)
     clear H6 HR6
     have HL:=zhi (show s'.rest.length≤s.rest.length by have:=HL5.out; rw [z0j] at this; omega)
     clear HO5 HB5
     go_upto_region 26 with fail
     clear b0 b1 b2 b3 b4 b5 f0 f1 f2 f3 f4 f5
     obtain ⟨wz,hwz⟩:∃ wz,wz=(((w5.alloc (.cells #[.int .i64 k5,.int .i64 o5,.int .i64 a5,.int .i64 l5,.string t5,.slice A5 n5 c5] 112)).setCell ⟨sb,0,none⟩ (.int .i64 6)).setCell ⟨sb,3,none⟩ (.slice (some ⟨w5.heap.size,0,none⟩) 1 1)):=⟨_,rfl⟩
     rw [← hwz] at H ⊢
     clear hwz
     obtain ⟨D9,d9,k9,l9,t9,eA9,en9,ec9,tA9,tn9,tc9,uA9,un9,uc9,hr9,hv9⟩:=H.out.at_
     obtain ⟨b0,b1,b2,b3,b4,b5⟩:=cl6 hr9
     have HV9:=zhi hv9
     clear hr9 hv9
     go_wp2_with (with_reducible refine z1F ?_)
     refine z08.of (z00 _ rfl _ _ _ rfl w.heap.size _ rfl (by rfl) _ _ H.out.z (by kernel_rfl) (by rfl) (by simp [Value.oneCell']) ?_)
     intro w9 hrow9 hg9
     obtain ⟨j0,j1,j2,j3,j4,j5⟩:=cl6 hrow9
     have HH:=zhi (z2j HV9.out H.out HL.out plt tlt hg9)
     clear hrow9 hg9 b0 b1 b2 b3 b4 b5
     go_wp2_with fail
     exact bodyPost_ret (by simp [results,Try.results75,go_sem,j0,j1,j2,j3,j4,j5]) rfl HH.out
    | false =>
     have hpa:=HPA.out
     rw [z0T hv] at hpa
     have H:=zhi (Hn.out _ hpa)
     have hP:=HP3.out
     rw [if_neg (by rw [hv]; decide)] at hP
     have HP4:=zhi hP
     clear hpa HPA Hn HP3 hP
     have HAc:=zhi (z0F z9E wa3 H.out.ra)
     go_wp2_with fail
     refine HAc.out.mono ?_
     rintro e wa4 ⟨rfl,hpa,hga⟩
     have Hn:=zhi (fun s1 (hpa:RA wa4 p tb s1)=>H.out.step plt hga hpa)
     have hc3:=z0a hga (by have:=H.out.lt; omega) HC3.out
     have HPA:=zhi hpa
     clear hpa hga HAc HC3 H
     have HC3:=zhi hc3
     clear hc3
     cases hv:isR z9E s with
     | true =>
      have hpa:=HPA.out
      rw [z0D hv] at hpa
      have H:=zhi (Hn.out _ hpa)
      have hP:=HP4.out
      rw [if_pos hv] at hP
      clear hpa HPA Hn HP4
      obtain ⟨y,s1,hq,rfl,rfl⟩:=z2y hP
      clear hP
      have HXc:=zhi (HVal.out p tb (popR s) s' y wa4 H.out.ra hq)
      clear hq
      go_wp2_with fail
      refine HXc.out.mono ?_
      rintro e w5 ⟨d5,k5,o5,a5,l5,t5,A5,n5,c5,rfl,hv5,hp5,hg5,hl5⟩
      have hsb:=H.out.lt
      have hsl:=H.out.slt
      have hsz5:=hg5.size
      have H5:=H.out.step plt hg5 hp5
      have HO5:=zhi (z1N (hv5.keep (G:=fun q=>w.heap.size+1≤q∧q<w5.heap.size∧q≠sb) (fun q hq=>⟨by omega,hq.2,by omega⟩) (fun _ _=>rfl)))
      have HB5:=zhi (heap_alloc_new w5 (.cells #[.int .i64 k5,.int .i64 o5,.int .i64 a5,.int .i64 l5,.string t5,.slice A5 n5 c5] 112))
      have H6:=zhi (H5.alloc plt (.cells #[.int .i64 k5,.int .i64 o5,.int .i64 a5,.int .i64 l5,.string t5,.slice A5 n5 c5] 112))
      have HR6:=zhi (z2X (lo:=w.heap.size+1) (sb:=sb) (T:=112) (hv5.keep (G:=fun q=>w.heap.size+1≤q∧q<w5.heap.size∧q≠sb) (fun q hq=>⟨by omega,hq.2,by omega⟩) (fun _ _=>rfl)) (by omega) (by omega))
      have HL5:=zhi hl5
      clear hv5 hp5 hg5 hl5 HXc H5 H
      obtain ⟨v0,v1,v2,v3,v4,v5,hrowU⟩:=H6.out.row
      obtain ⟨b0,b1,b2,b3,b4,b5⟩:=cl6 hrowU
      have f0:=z09 hrowU 0
      have f1:=z09 hrowU 1
      have f2:=z09 hrowU 2
      have f3:=z09 hrowU 3
      have f4:=z09 hrowU 4
      have f5:=z09 hrowU 5
      clear hrowU
      have H:=zhi ((H6.out.kind plt tlt 7).exprs (m:=1) plt tlt (HR6.out.keep (z1Z _ _ 0 _ _).1 (z1Z _ _ 0 _ _).2) rfl)
      clear H6 HR6
      have HL:=zhi (show s'.rest.length≤s.rest.length by have:=HL5.out; rw [z0j] at this; omega)
      clear HO5 HB5
      go_upto_region 26 with fail
      clear b0 b1 b2 b3 b4 b5 f0 f1 f2 f3 f4 f5
      obtain ⟨wz,hwz⟩:∃ wz,wz=(((w5.alloc (.cells #[.int .i64 k5,.int .i64 o5,.int .i64 a5,.int .i64 l5,.string t5,.slice A5 n5 c5] 112)).setCell ⟨sb,0,none⟩ (.int .i64 7)).setCell ⟨sb,3,none⟩ (.slice (some ⟨w5.heap.size,0,none⟩) 1 1)):=⟨_,rfl⟩
      rw [← hwz] at H ⊢
      clear hwz
      obtain ⟨D9,d9,k9,l9,t9,eA9,en9,ec9,tA9,tn9,tc9,uA9,un9,uc9,hr9,hv9⟩:=H.out.at_
      obtain ⟨b0,b1,b2,b3,b4,b5⟩:=cl6 hr9
      have HV9:=zhi hv9
      clear hr9 hv9
      go_wp2_with (with_reducible refine z1F ?_)
      refine z08.of (z00 _ rfl _ _ _ rfl w.heap.size _ rfl (by rfl) _ _ H.out.z (by kernel_rfl) (by rfl) (by simp [Value.oneCell']) ?_)
      intro w9 hrow9 hg9
      obtain ⟨j0,j1,j2,j3,j4,j5⟩:=cl6 hrow9
      have HH:=zhi (z2j HV9.out H.out HL.out plt tlt hg9)
      clear hrow9 hg9 b0 b1 b2 b3 b4 b5
      go_wp2_with fail
      exact bodyPost_ret (by simp [results,Try.results75,go_sem,j0,j1,j2,j3,j4,j5]) rfl HH.out
     | false =>
      have hpa:=HPA.out
      rw [z0T hv] at hpa
      have H:=zhi (Hn.out _ hpa)
      have hP:=HP4.out
      rw [if_neg (by rw [hv]; decide)] at hP
      have HP5:=zhi hP
      clear hpa HPA Hn HP4 hP
      have HAc:=zhi (z0F zci wa4 H.out.ra)
      go_wp2_with fail
      refine HAc.out.mono ?_
      rintro e wa5 ⟨rfl,hpa,hga⟩
      have Hn:=zhi (fun s1 (hpa:RA wa5 p tb s1)=>H.out.step plt hga hpa)
      have hc3:=z0a hga (by have:=H.out.lt; omega) HC3.out
      have HPA:=zhi hpa
      clear hpa hga HAc HC3 H
      have HC3:=zhi hc3
      clear hc3
      cases hv:isR zci s with
      | true =>
       have hpa:=HPA.out
       rw [z0D hv] at hpa
       have H:=zhi (Hn.out _ hpa)
       have hP:=HP5.out
       rw [if_pos hv] at hP
       clear hpa HPA Hn HP5
       obtain ⟨y,s1,hq,rfl,rfl⟩:=z2y hP
       clear hP
       have HXc:=zhi (HVal.out p tb (popR s) s' y wa5 H.out.ra hq)
       clear hq
       go_wp2_with fail
       refine HXc.out.mono ?_
       rintro e w5 ⟨d5,k5,o5,a5,l5,t5,A5,n5,c5,rfl,hv5,hp5,hg5,hl5⟩
       have hsb:=H.out.lt
       have hsl:=H.out.slt
       have hsz5:=hg5.size
       have H5:=H.out.step plt hg5 hp5
       have HO5:=zhi (z1N (hv5.keep (G:=fun q=>w.heap.size+1≤q∧q<w5.heap.size∧q≠sb) (fun q hq=>⟨by omega,hq.2,by omega⟩) (fun _ _=>rfl)))
       have HB5:=zhi (heap_alloc_new w5 (.cells #[.int .i64 k5,.int .i64 o5,.int .i64 a5,.int .i64 l5,.string t5,.slice A5 n5 c5] 112))
       have H6:=zhi (H5.alloc plt (.cells #[.int .i64 k5,.int .i64 o5,.int .i64 a5,.int .i64 l5,.string t5,.slice A5 n5 c5] 112))
       have HR6:=zhi (z2X (lo:=w.heap.size+1) (sb:=sb) (T:=112) (hv5.keep (G:=fun q=>w.heap.size+1≤q∧q<w5.heap.size∧q≠sb) (fun q hq=>⟨by omega,hq.2,by omega⟩) (fun _ _=>rfl)) (by omega) (by omega))
       have HL5:=zhi hl5
       clear hv5 hp5 hg5 hl5 HXc H5 H
       obtain ⟨v0,v1,v2,v3,v4,v5,hrowU⟩:=H6.out.row
       obtain ⟨b0,b1,b2,b3,b4,b5⟩:=cl6 hrowU
       have f0:=z09 hrowU 0
       have f1:=z09 hrowU 1
       have f2:=z09 hrowU 2
       have f3:=z09 hrowU 3
       have f4:=z09 hrowU 4
       have f5:=z09 hrowU 5
       clear hrowU
       have H:=zhi ((H6.out.kind plt tlt 8).exprs (m:=1) plt tlt (HR6.out.keep (z1Z _ _ 0 _ _).1 (z1Z _ _ 0 _ _).2) rfl)
       clear H6 HR6
       have HL:=zhi (show s'.rest.length≤s.rest.length by have:=HL5.out; rw [z0j] at this; omega)
       clear HO5 HB5
       go_upto_region 26 with fail
       clear b0 b1 b2 b3 b4 b5 f0 f1 f2 f3 f4 f5
       obtain ⟨wz,hwz⟩:∃ wz,wz=(((w5.alloc (.cells #[.int .i64 k5,.int .i64 o5,.int .i64 a5,.int .i64 l5,.string t5,.slice A5 n5 c5] 112)).setCell ⟨sb,0,none⟩ (.int .i64 8)).setCell ⟨sb,3,none⟩ (.slice (some ⟨w5.heap.size,0,none⟩) 1 1)):=⟨_,rfl⟩
       rw [← hwz] at H ⊢
       clear hwz
       obtain ⟨D9,d9,k9,l9,t9,eA9,en9,ec9,tA9,tn9,tc9,uA9,un9,uc9,hr9,hv9⟩:=H.out.at_
       obtain ⟨b0,b1,b2,b3,b4,b5⟩:=cl6 hr9
       have HV9:=zhi hv9
       clear hr9 hv9
       go_wp2_with (with_reducible refine z1F ?_)
       refine z08.of (z00 _ rfl _ _ _ rfl w.heap.size _ rfl (by rfl) _ _ H.out.z (by kernel_rfl) (by rfl) (by simp [Value.oneCell']) ?_)
       intro w9 hrow9 hg9
       obtain ⟨j0,j1,j2,j3,j4,j5⟩:=cl6 hrow9
       have HH:=zhi (z2j HV9.out H.out HL.out plt tlt hg9)
       clear hrow9 hg9 b0 b1 b2 b3 b4 b5
       go_wp2_with fail
       exact bodyPost_ret (by simp [results,Try.results75,go_sem,j0,j1,j2,j3,j4,j5]) rfl HH.out
      | false =>
       have hpa:=HPA.out
       rw [z0T hv] at hpa
       have H:=zhi (Hn.out _ hpa)
       have hP:=HP5.out
       rw [if_neg (by rw [hv]; decide)] at hP
       have HP6:=zhi hP
       clear hpa HPA Hn HP5 hP
       have HK:=zhi (show Calls Try.prog 57 #[.pointer (some ⟨p,0,none⟩),.int .i64 1] wa5 (fun e w'=>e=.returned (.agg #[.int .i64 ((z03 1 s).1.kind:Int),.int .i64 ((z03 1 s).1.line:Int),.int .i64 ((z03 1 s).1.value:Int),.string (nmB (z03 1 s).1.text)])∧RA w' p tb (z03 1 s).2∧World.grownBy wa5 w' (some p)) from z3B 1 wa5 H.out.ra (by omega))
       have hfd:∀ w:World,(Instr.field 98 (.agg #[.int .i64 ((z03 1 s).1.kind:Int),.int .i64 ((z03 1 s).1.line:Int),.int .i64 ((z03 1 s).1.value:Int),.string (nmB (z03 1 s).1.text)]) 3).run Try.prog w=.ok (.string (nmB (z03 1 s).1.text)) w:=fun _=>by kernel_rfl
       go_wp2_with fail
       refine HK.out.mono ?_
       rintro e w4 ⟨rfl,hp4,hg4⟩
       have H4:=zhi (H.out.step plt hg4 hp4)
       have hc3:=z0a hg4 (by have:=H.out.lt; omega) HC3.out
       have hsb:=H.out.lt
       clear hp4 hg4 HK H HC3
       obtain ⟨v0,v1,v2,v3,v4,v5,hrowU⟩:=H4.out.row
       obtain ⟨b0,b1,b2,b3,b4,b5⟩:=cl6 hrowU
       have f0:=z09 hrowU 0
       have f1:=z09 hrowU 1
       have f2:=z09 hrowU 2
       have f3:=z09 hrowU 3
       have f4:=z09 hrowU 4
       have f5:=z09 hrowU 5
       clear hrowU
       have H:=zhi ((H4.out.kind plt tlt 2).name plt tlt (nmB (z03 1 s).1.text))
       have HC3:=zhi (show ((w4.setCell ⟨sb,0,none⟩ (.int .i64 2)).setCell ⟨sb,2,none⟩ (.string (nmB (z03 1 s).1.text))).cell? ⟨sb,3,none⟩=some (.slice none 0 0) by
        rw [World.cell?_setCell_other _ _ _ _ (fun he=>by simp at he),World.cell?_setCell_other _ _ _ _ (fun he=>by simp at he)]
        exact hc3)
       clear H4 hc3
       have HAc:=zhi (z0F [91] ((w4.setCell ⟨sb,0,none⟩ (.int .i64 2)).setCell ⟨sb,2,none⟩ (.string (nmB (z03 1 s).1.text))) H.out.ra)
       go_wp2_with fail
       clear b0 b1 b2 b3 b4 b5 f0 f1 f2 f3 f4 f5
       refine HAc.out.mono ?_
       rintro e wk ⟨rfl,hpa,hga⟩
       have hc3:=z0a hga (by have:=H.out.lt; omega) HC3.out
       clear HC3
       clear hfd
       cases hv:isR [91] (z03 1 s).2 with
       | true =>
        have hP:=HP6.out
        rw [if_pos hv] at hP
        rw [z0D hv] at hpa
        have Hq:=zhi (H.out.step plt hga hpa)
        clear hpa hga HAc H
        have H:=Hq
        clear Hq
        obtain ⟨y,s1,z,hq0,hqz,rfl⟩:=z6H hP
        have HQZ:=zhi hqz
        have hq:=hq0
        clear hP hq0 hqz hc3 HP6
        have HXc:=zhi (HExp.out p tb (popR (z03 1 s).2) s1 y wk H.out.ra hq)
        clear hq
        go_wp2_with fail
        refine HXc.out.mono ?_
        rintro e w5 ⟨d5,k5,o5,a5,l5,t5,A5,n5,c5,rfl,hv5,hp5,hg5,hl5⟩
        have hsb:=H.out.lt
        have hsl:=H.out.slt
        have hsz5:=hg5.size
        have H5:=H.out.step plt hg5 hp5
        have HO5:=zhi (z1N (hv5.keep (G:=fun q=>w.heap.size+1≤q∧q<w5.heap.size∧q≠sb) (fun q hq=>⟨by omega,hq.2,by omega⟩) (fun _ _=>rfl)))
        have HB5:=zhi (heap_alloc_new w5 (.cells #[.int .i64 k5,.int .i64 o5,.int .i64 a5,.int .i64 l5,.string t5,.slice A5 n5 c5] 112))
        have H6:=zhi (H5.alloc plt (.cells #[.int .i64 k5,.int .i64 o5,.int .i64 a5,.int .i64 l5,.string t5,.slice A5 n5 c5] 112))
        have HR6:=zhi (z2X (lo:=w.heap.size+1) (sb:=sb) (T:=112) (hv5.keep (G:=fun q=>w.heap.size+1≤q∧q<w5.heap.size∧q≠sb) (fun q hq=>⟨by omega,hq.2,by omega⟩) (fun _ _=>rfl)) (by omega) (by omega))
        have HL5:=zhi hl5
        clear hv5 hp5 hg5 hl5 HXc H5 H
        obtain ⟨v0,v1,v2,v3,v4,v5,hrowU⟩:=H6.out.row
        obtain ⟨b0,b1,b2,b3,b4,b5⟩:=cl6 hrowU
        have f0:=z09 hrowU 0
        have f1:=z09 hrowU 1
        have f2:=z09 hrowU 2
        have f3:=z09 hrowU 3
        have f4:=z09 hrowU 4
        have f5:=z09 hrowU 5
        clear hrowU
        have H:=zhi ((H6.out.kind plt tlt 3).exprs (m:=1) plt tlt (HR6.out.keep (z1Z _ _ 0 _ _).1 (z1Z _ _ 0 _ _).2) rfl)
        clear H6 HR6
        have HC3:=zhi (show (((w5.alloc (.cells #[.int .i64 k5,.int .i64 o5,.int .i64 a5,.int .i64 l5,.string t5,.slice A5 n5 c5] 112)).setCell ⟨sb,0,none⟩ (.int .i64 3)).setCell ⟨sb,3,none⟩ (.slice (some ⟨w5.heap.size,0,none⟩) 1 1)).cell? ⟨sb,3,none⟩=some (.slice (some ⟨w5.heap.size,0,none⟩) 1 1) from World.cell?_setCell_same _ _ _ (by rw [World.cell?_setCell_other _ _ _ _ (fun he=>by simp at he)]; exact b3))
        have HB8a:=zhi (show (((w5.alloc (.cells #[.int .i64 k5,.int .i64 o5,.int .i64 a5,.int .i64 l5,.string t5,.slice A5 n5 c5] 112)).setCell ⟨sb,0,none⟩ (.int .i64 3)).setCell ⟨sb,3,none⟩ (.slice (some ⟨w5.heap.size,0,none⟩) 1 1)).heap[w5.heap.size]?=some (.cells #[.int .i64 k5,.int .i64 o5,.int .i64 a5,.int .i64 l5,.string t5,.slice A5 n5 c5] 112) from z04 (z05 _ ⟨sb,3,none⟩ _) (by simp; omega) (z04 (z05 _ ⟨sb,0,none⟩ _) (by simp; omega) HB5.out))
        have HO8a:=zhi (show z6a (FF (w.heap.size+1) sb (((w5.alloc (.cells #[.int .i64 k5,.int .i64 o5,.int .i64 a5,.int .i64 l5,.string t5,.slice A5 n5 c5] 112)).setCell ⟨sb,0,none⟩ (.int .i64 3)).setCell ⟨sb,3,none⟩ (.slice (some ⟨w5.heap.size,0,none⟩) 1 1))) (((w5.alloc (.cells #[.int .i64 k5,.int .i64 o5,.int .i64 a5,.int .i64 l5,.string t5,.slice A5 n5 c5] 112)).setCell ⟨sb,0,none⟩ (.int .i64 3)).setCell ⟨sb,3,none⟩ (.slice (some ⟨w5.heap.size,0,none⟩) 1 1)) d5 [y] _ from ((HO5.out.keep (G:=FF (w.heap.size+1) sb (w5.alloc (.cells #[.int .i64 k5,.int .i64 o5,.int .i64 a5,.int .i64 l5,.string t5,.slice A5 n5 c5] 112))) (fun q hq=>⟨hq.1,by simp; have:=hq.2.1; omega,hq.2.2⟩) (fun q hq=>((Below.refl _ w5).alloc (Nat.le_refl _) _).block q hq.2.1)).keep (z1Z _ _ 0 _ _).1 (z1Z _ _ 0 _ _).2).keep (z1Z _ _ 3 _ _).1 (z1Z _ _ 3 _ _).2)
        have HSB5:=zhi (show w.heap.size<w5.heap.size by omega)
        clear HO5 HB5
        have HXe:=zhi (z0r [93] (((w5.alloc (.cells #[.int .i64 k5,.int .i64 o5,.int .i64 a5,.int .i64 l5,.string t5,.slice A5 n5 c5] 112)).setCell ⟨sb,0,none⟩ (.int .i64 3)).setCell ⟨sb,3,none⟩ (.slice (some ⟨w5.heap.size,0,none⟩) 1 1)) H.out.ra)
        go_wp2_with fail
        clear b0 b1 b2 b3 b4 b5 f0 f1 f2 f3 f4 f5
        refine HXe.out.mono ?_
        rintro e wx ⟨⟨vewx,rfl⟩,hpe,hge⟩
        have hc3:=z0a hge (by have:=H.out.lt; omega) HC3.out
        have hB8:=z04 hge (by have:=hsz5; have:=H.out.lt; have:=HSB5.out; omega) HB8a.out
        have hO8:=HO8a.out.keep (G:=FF (w.heap.size+1) sb wx) (fun q hq=>⟨hq.1,Nat.lt_of_lt_of_le hq.2.1 hge.size,hq.2.2⟩) (fun q hq=>hge.block q hq.2.1 (fun e=>by injection e with e; have:=hq.1; omega))
        clear HC3 HB8a HO8a
        have HC3:=zhi hc3
        have HB8a:=zhi hB8
        have HO8a:=zhi hO8
        clear hc3 hB8 hO8
        have Hq:=zhi (H.out.step plt hge hpe)
        clear hpe hge HXe H
        have H:=Hq
        clear Hq
        have HXe:=zhi (z0r [61] wx H.out.ra)
        go_wp2_with fail
        refine HXe.out.mono ?_
        rintro e wy ⟨⟨vewy,rfl⟩,hpe,hge⟩
        have hc3:=z0a hge (by have:=H.out.lt; omega) HC3.out
        have hB8:=z04 hge (by have:=hsz5; have:=H.out.lt; have:=HSB5.out; omega) HB8a.out
        have hO8:=HO8a.out.keep (G:=FF (w.heap.size+1) sb wy) (fun q hq=>⟨hq.1,Nat.lt_of_lt_of_le hq.2.1 hge.size,hq.2.2⟩) (fun q hq=>hge.block q hq.2.1 (fun e=>by injection e with e; have:=hq.1; omega))
        clear HC3 HB8a HO8a
        have HC3:=zhi hc3
        have HB8a:=zhi hB8
        have HO8a:=zhi hO8
        clear hc3 hB8 hO8
        have Hq:=zhi (H.out.step plt hge hpe)
        clear hpe hge HXe H
        have H:=Hq
        clear Hq
        have HO:=HO8a
        have HRb:=zhi (z9K HB8a.out (p:=p) (by have:=HSB5.out; omega))
        have hq:=HQZ.out
        clear HO8a HB8a HQZ
        have HVc:=zhi (HVal.out p tb (z0c [61] (z0c [93] s1)) s' z wy.drew H.out.ra.drew hq)
        have hc3:=HC3.out
        have hsb:=H.out.lt
        have hsl:=H.out.slt
        have hszw:=H.out.gr.size
        clear hq
        go_upto_region 7 with fail
        go_region_law
         (first
          | ((with_reducible refine z4F w14 rfl (.tmp 25) (.tmp 28) rfl (some ⟨w5.heap.size,0,none⟩) 1 [.int .i64 k5,.int .i64 o5,.int .i64 a5,.int .i64 l5,.string t5,.slice A5 n5 c5] k6 o6 a6 l6 t6 A6 n6 c6 rfl rfl (fun h=>by cases h) (by omega) rfl HRb6.out ?_); intro A8 m8 c8 w15 hm8 how8 hb8; have hrow8:=((hb8.block sb (by omega)).trans HRow6.out); have q3:=(cell_of_row _ _ 3 _ _ _ hrow8); have g3:=(z09 hrow8 3); have HM8:=zhi hm8; have HOW8:=zhi how8; have HB8:=zhi hb8; clear hm8 how8 hb8 hrow8)
          | (go_simp; go_at_call 84; (with_reducible refine HVc.out.mono ?_); rintro e w14 ⟨d6,k6,o6,a6,l6,t6,A6,n6,c6,rfl,hv6,hp6,hg6,hl6⟩; dsimp only; have hg6':=(z0K hg6); have hc4:=(z0a hg6' (by omega) hc3); have hsl14:sb<w14.heap.size:=(Nat.lt_of_lt_of_le hsl hg6'.size); have hsw14:=hg6'.size; have H14:=zhi (H.out.step plt hg6' hp6); obtain ⟨v0,v1,v2,v4,v5,hrow6⟩:=(z5W H14.out hc4); have HRow6:=zhi hrow6; have HRb6:=zhi (fun (b:Addr) (hb:(some ⟨w5.heap.size,0,none⟩)=some b) (j:Nat) (u:Value) (hu:([.int .i64 k5,.int .i64 o5,.int .i64 a5,.int .i64 l5,.string t5,.slice A5 n5 c5]:List Value)[j]?=some u)=>z6f hg6' ((HRb.out b hb).1) ((HRb.out b hb).2 j u hu)); have HO6:=zhi (HO.out.keep (G:=FF (w.heap.size+1) sb w14) (fun q hq=>⟨hq.1,Nat.lt_of_lt_of_le hq.2.1 hsw14,hq.2.2⟩) (fun q hq=>hg6'.block q hq.2.1 (fun e=>by injection e with e; have:=hq.1; omega))); have HV6:=zhi (hv6.keep (G:=FF (w.heap.size+1) sb w14) (fun q hq=>⟨Nat.le_trans (show w.heap.size+1≤wy.heap.size by omega) hq.1,hq.2,fun e=>absurd hq.1 (Nat.not_le_of_lt (by rw [e]; exact hsl))⟩) (fun _ _=>rfl)); have HL6:=zhi hl6; clear hg6 hg6' hv6 hp6 hl6 hrow6))
        all_goals
         have hh15:=H14.out.step plt (z02 HB8.out _) (H14.out.ra.below HB8.out)
         have hre:=z78 (F:=FF (w.heap.size+1) sb w14) HO6.out HV6.out (fun q hq=>hq.2.1) HB8.out HOW8.out (by rw [HM8.out]; rfl)
         have hsz15:=HB8.out.size
         have H:=zhi (hh15.exprs (m:=m8) plt tlt (hre.keep (G:=FF (w.heap.size+1) sb w15) (fun q hq=>by
          rcases hq with hq | hq
          ·exact ⟨hq.1,Nat.lt_of_lt_of_le hq.2.1 hsz15,hq.2.2⟩
          ·exact ⟨by omega,hq.2,by omega⟩) (fun _ _=>rfl)) (by rw [HM8.out]; rfl))
         have HL:=zhi (show s'.rest.length≤s.rest.length by
          have h1:=HL5.out
          have h2:=z0h [61] (z0c [93] s1)
          have h3:=z0h [93] s1
          have h4:=z0v 1 s
          have h5:=HL6.out
          rw [z0j] at h1
          omega)
         clear hh15 hre
         go_upto_region 26 with fail
         clear q3 g3
         obtain ⟨wz,hwz⟩:∃ wz,wz=(w15.setCell ⟨sb,3,none⟩ (.slice A8 m8 c8)):=⟨_,rfl⟩
         rw [← hwz] at H ⊢
         clear hwz
         obtain ⟨D9,d9,k9,l9,t9,eA9,en9,ec9,tA9,tn9,tc9,uA9,un9,uc9,hr9,hv9⟩:=H.out.at_
         obtain ⟨b0,b1,b2,b3,b4,b5⟩:=cl6 hr9
         have HV9:=zhi hv9
         clear hr9 hv9
         go_wp2_with (with_reducible refine z1F ?_)
         refine z08.of (z00 _ rfl _ _ _ rfl w.heap.size _ rfl (by rfl) _ _ H.out.z (by kernel_rfl) (by rfl) (by simp [Value.oneCell']) ?_)
         intro w9 hrow9 hg9
         obtain ⟨j0,j1,j2,j3,j4,j5⟩:=cl6 hrow9
         have HH:=zhi (z2j HV9.out H.out HL.out plt tlt hg9)
         clear hrow9 hg9 b0 b1 b2 b3 b4 b5
         go_wp2_with fail
         exact bodyPost_ret (by simp [results,Try.results75,go_sem,j0,j1,j2,j3,j4,j5]) rfl HH.out
       | false =>
        have hP:=HP6.out
        rw [if_neg (by rw [hv]; decide)] at hP
        rw [z0T hv] at hpa
        have Hq:=zhi (H.out.step plt hga hpa)
        clear hpa hga HAc H
        have H:=Hq
        clear Hq
        obtain ⟨z,sz,hq0,rfl,hsz⟩:=z2y hP
        have HQZ:=zhi (show z2n E (z0c [61] (z03 1 s).2)=some (z,s') by rw [hsz]; exact hq0)
        have HC3:=zhi hc3
        clear hP hq0 hsz hc3 HP6
        have HXe:=zhi (z0r [61] wk H.out.ra)
        go_wp2_with fail
        refine HXe.out.mono ?_
        rintro e wy ⟨⟨vewy,rfl⟩,hpe,hge⟩
        have hc3:=z0a hge (by have:=H.out.lt; omega) HC3.out
        clear HC3
        have HC3:=zhi hc3
        clear hc3
        have Hq:=zhi (H.out.step plt hge hpe)
        clear hpe hge HXe H
        have H:=Hq
        clear Hq
        have HO:=zhi (z9x (F:=FF (w.heap.size+1) sb wy) (w:=wy))
        have hq:=HQZ.out
        clear HQZ
        have HVc:=zhi (HVal.out p tb (z0c [61] (z03 1 s).2) s' z wy.drew H.out.ra.drew hq)
        have hc3:=HC3.out
        have hsb:=H.out.lt
        have hsl:=H.out.slt
        have hszw:=H.out.gr.size
        clear hq
        go_upto_region 7 with fail
        go_region_law
         (first
          | ((with_reducible refine z4F w14 rfl (.tmp 25) (.tmp 28) rfl none 0 [] k6 o6 a6 l6 t6 A6 n6 c6 rfl rfl (fun _=>rfl) (by omega) rfl (fun b h=>by cases h) ?_); intro A8 m8 c8 w15 hm8 how8 hb8; have hrow8:=((hb8.block sb (by omega)).trans HRow6.out); have q3:=(cell_of_row _ _ 3 _ _ _ hrow8); have g3:=(z09 hrow8 3); have HM8:=zhi hm8; have HOW8:=zhi how8; have HB8:=zhi hb8; clear hm8 how8 hb8 hrow8)
          | (go_simp; go_at_call 84; (with_reducible refine HVc.out.mono ?_); rintro e w14 ⟨d6,k6,o6,a6,l6,t6,A6,n6,c6,rfl,hv6,hp6,hg6,hl6⟩; dsimp only; have hg6':=(z0K hg6); have hc4:=(z0a hg6' (by omega) hc3); have hsl14:sb<w14.heap.size:=(Nat.lt_of_lt_of_le hsl hg6'.size); have hsw14:=hg6'.size; have H14:=zhi (H.out.step plt hg6' hp6); obtain ⟨v0,v1,v2,v4,v5,hrow6⟩:=(z5W H14.out hc4); have HRow6:=zhi hrow6; have HO6:=zhi (HO.out.keep (G:=FF (w.heap.size+1) sb w14) (fun q hq=>⟨hq.1,Nat.lt_of_lt_of_le hq.2.1 hsw14,hq.2.2⟩) (fun q hq=>hg6'.block q hq.2.1 (fun e=>by injection e with e; have:=hq.1; omega))); have HV6:=zhi (hv6.keep (G:=FF (w.heap.size+1) sb w14) (fun q hq=>⟨Nat.le_trans (show w.heap.size+1≤wy.heap.size by omega) hq.1,hq.2,fun e=>absurd hq.1 (Nat.not_le_of_lt (by rw [e]; exact hsl))⟩) (fun _ _=>rfl)); have HL6:=zhi hl6; clear hg6 hg6' hv6 hp6 hl6 hrow6))
        all_goals
         have hh15:=H14.out.step plt (z02 HB8.out _) (H14.out.ra.below HB8.out)
         have hre:=z78 (F:=FF (w.heap.size+1) sb w14) HO6.out HV6.out (fun q hq=>hq.2.1) HB8.out HOW8.out (by rw [HM8.out]; rfl)
         have hsz15:=HB8.out.size
         have H:=zhi (hh15.exprs (m:=m8) plt tlt (hre.keep (G:=FF (w.heap.size+1) sb w15) (fun q hq=>by
          rcases hq with hq | hq
          ·exact ⟨hq.1,Nat.lt_of_lt_of_le hq.2.1 hsz15,hq.2.2⟩
          ·exact ⟨by omega,hq.2,by omega⟩) (fun _ _=>rfl)) (by rw [HM8.out]; rfl))
         have HL:=zhi (show s'.rest.length≤s.rest.length by
          have h2:=z0h [61] (z03 1 s).2
          have h4:=z0v 1 s
          have h5:=HL6.out
          omega)
         clear hh15 hre
         go_upto_region 26 with fail
         clear q3 g3
         obtain ⟨wz,hwz⟩:∃ wz,wz=(w15.setCell ⟨sb,3,none⟩ (.slice A8 m8 c8)):=⟨_,rfl⟩
         rw [← hwz] at H ⊢
         clear hwz
         obtain ⟨D9,d9,k9,l9,t9,eA9,en9,ec9,tA9,tn9,tc9,uA9,un9,uc9,hr9,hv9⟩:=H.out.at_
         obtain ⟨b0,b1,b2,b3,b4,b5⟩:=cl6 hr9
         have HV9:=zhi hv9
         clear hr9 hv9
         go_wp2_with (with_reducible refine z1F ?_)
         refine z08.of (z00 _ rfl _ _ _ rfl w.heap.size _ rfl (by rfl) _ _ H.out.z (by kernel_rfl) (by rfl) (by simp [Value.oneCell']) ?_)
         intro w9 hrow9 hg9
         obtain ⟨j0,j1,j2,j3,j4,j5⟩:=cl6 hrow9
         have HH:=zhi (z2j HV9.out H.out HL.out plt tlt hg9)
         clear hrow9 hg9 b0 b1 b2 b3 b4 b5
         go_wp2_with fail
         exact bodyPost_ret (by simp [results,Try.results75,go_sem,j0,j1,j2,j3,j4,j5]) rfl HH.out
end Go.Proofs.Ytleicdfkagejoaa
