/-
  Ko: EqQ. Walks and laws that the statement's proof is made of. No condition of its own.
-/
import Derived.Test.YtgcjcclkialdgaaGreatDoorKn
namespace Go.Proofs.YtgcjcclkialdgaaGreatDoor
open Go.RowKit
theorem zdP {F:Nat→Prop} {w:World} {xs:Gls} {A:Option Addr} {c k:Nat} {x:ByteArray × Int} (h:RowG 2 MGl F w xs A c) (hx:xs[k]?=some x):∃ g,A=some ⟨g,0,none⟩∧w.cell? ⟨g,k * 2,none⟩=some (.string x.1)∧w.cell? ⟨g,k * 2+1,none⟩=some (.int .i64 x.2):=by
 obtain ⟨g,cs,h1,_,_,h4,h5⟩:=h.2 k x hx
 have h5':cs=[.string x.1,.int .i64 x.2]:=h5
 subst h5'
 exact ⟨g,h1,h4 0 _ rfl,h4 1 _ rfl⟩
theorem zdM {D d:Nat} {F:Nat→Prop} {w:World} {xs:List Fn} {A:Option Addr} {c k:Nat} {x:Fn} (h:RowG 4 (MFn D d) F w xs A c) (hx:xs[k]?=some x):∃ g pA pc bA bc,A=some ⟨g,0,none⟩∧w.cell? ⟨g,k * 4,none⟩=some (.string x.name)∧w.cell? ⟨g,k * 4+1,none⟩=some (.int .i64 x.line)∧w.cell? ⟨g,k * 4+2,none⟩=some (.slice pA x.params.length pc)∧w.cell? ⟨g,k * 4+3,none⟩=some (.slice bA x.body.length bc)∧RowG 1 MStr F w x.params pA pc∧RowS F w D d x.body bA bc:=by
 obtain ⟨g,cs,h1,_,_,h4,pA,m,pc,bA,bm,bc,rfl,hm,hbm,hp,hb⟩:=h.2 k x hx
 subst hm hbm
 exact ⟨g,pA,pc,bA,bc,h1,h4 0 _ rfl,h4 1 _ rfl,h4 2 _ rfl,h4 3 _ rfl,hp,hb⟩
theorem zc2 {F:Nat→Prop} {w:World} {xs:List ByteArray} {A:Option Addr} {c k:Nat} {x:ByteArray} (h:RowG 1 MStr F w xs A c) (hx:xs[k]?=some x):∃ g,A=some ⟨g,0,none⟩∧w.cell? ⟨g,k,none⟩=some (.string x):=by
 obtain ⟨g,cs,h1,_,_,h4,h5⟩:=h.2 k x hx
 have h5':cs=[.string x]:=h5
 subst h5'
 have:=h4 0 _ rfl
 rw [Nat.mul_one,Nat.add_zero] at this
 exact ⟨g,h1,this⟩
theorem RowG.bel {α:Type} {k:Nat} {V:z2Z α} {F:Nat→Prop} {w w':World} {xs:List α} {A:Option Addr} {c:Nat} (hV:V.Keeps) (hF:∀ b,F b→b<w.heap.size) (hb:Below w.heap.size w w') (h:RowG k V F w xs A c):RowG k V F w' xs A c:=h.keep hV (fun _ h=>h) (fun b h=>hb.block b (hF b h))
set_option maxRecDepth 100000 in
set_option maxHeartbeats 4000000 in
theorem zaF {D d D' d':Nat} {F G:Nat→Prop} (w:World) (gl:Gls) (fl fl2:List Fn) (n m:Nat) (gA gB fA fB:Option Addr) (gc gc2 fc fc2:Nat) (hn:gl.length=n) (hm:fl.length=m) (hrl:fl.map rlF=fl2.map rlF)
  (hg1:RowG 2 MGl F w gl gA gc) (hg2:RowG 2 MGl G w gl gB gc2) (hf1:RowG 4 (MFn D d) F w fl fA fc) (hf2:RowG 4 (MFn D' d') G w fl2 fB fc2) (hF:∀ q,F q→q<w.heap.size) (hG:∀ q,G q→q<w.heap.size) (hnb:n≤1000000) (hmb:m≤1000000) (hs:∀ f∈fl,z4F f) (hs2:∀ f∈fl2,z4F f) :
  Calls Tryz.prog 15 #[.agg #[.slice gA n gc,.slice fA m fc],.agg #[.slice gB n gc2,.slice fB m fc2],.bool false] w (RetG true w):=by
 have hb0:=((Below.refl _ w).alloc (Nat.le_refl _) (.cells #[.slice gA n gc,.slice fA m fc] 32)).alloc (by simp) (.cells #[.slice gB n gc2,.slice fB m fc2] 32)
 have hr1:=z0O w (.cells #[.slice gA n gc,.slice fA m fc] 32) (.cells #[.slice gB n gc2,.slice fB m fc2] 32)
 have hr2:=z0J w (.cells #[.slice gA n gc,.slice fA m fc] 32) (.cells #[.slice gB n gc2,.slice fB m fc2] 32)
 have hcx:n≤gc:=by rw [← hn]; exact hg1.1
 have hcy:n≤gc2:=by rw [← hn]; exact hg2.1
 have hfx:m≤fc:=by rw [← hm]; exact hf1.1
 have hfl2:fl.length=fl2.length:=by simpa using congrArg List.length hrl
 have hfy:m≤fc2:=by rw [← hm,hfl2]; exact hf2.1
 have HRL:=zhi hrl
 have HS2:=zhi hs2
 have HG1:=zhi (hg1.bel z0C hF hb0)
 have HG2:=zhi (hg2.bel z0C hG hb0)
 have HF1:=zhi (hf1.bel (z15 _ _) hF hb0)
 have HF2:=zhi (hf2.bel (z15 _ _) hG hb0)
 have HB0:=zhi hb0
 have HR1:=zhi hr1
 have HR2:=zhi hr2
 have Hn:=zhi hn
 have Hm:=zhi hm
 have HS:=zhi hs
 obtain ⟨c0,c1⟩:=cl2 hr1
 obtain ⟨e0,e1⟩:=cl2 hr2
 clear hb0 hr1 hr2 hg1 hg2 hf1 hf2 hn hm hs hs2 hrl hfl2
 go_enter Tryz.func15,Tryz.ntmps15
 go_wp2_with fail
 clear c0 c1 e0 e1
 obtain ⟨sb,hsb⟩:∃ sb,sb=w.heap.size+1:=⟨_,rfl⟩
 rw [← hsb] at HR2 ⊢
 obtain ⟨w2,hw2⟩:∃ w2,w2=(w.alloc (.cells #[.slice gA n gc,.slice fA m fc] 32)).alloc (.cells #[.slice gB n gc2,.slice fB m fc2] 32):=⟨_,rfl⟩
 rw [← hw2] at HG1 HG2 HF1 HF2 HB0 HR1 HR2 ⊢
 obtain ⟨sa,hsa⟩:∃ sa,sa=w.heap.size:=⟨_,rfl⟩
 rw [← hsa] at HR1 ⊢
 have HFF:=zhi (fun q h=>Nat.lt_of_lt_of_le (hF q h) HB0.out.size)
 have HGG:=zhi (fun q h=>Nat.lt_of_lt_of_le (hG q h) HB0.out.size)
 clear hw2 hsa hsb hF hG
 go_loopw [7] (fun i wr=>∃ (k q:Nat),k≤n∧i=.int .i64 (k:Int)∧wr=w2.drewN q) (fun i _=>n - (intOf i).toNat)
 case atStart=>exact ⟨0,0,Nat.zero_le _,rfl,rfl⟩
 case round =>
  obtain ⟨k,q,hk,rfl,rfl⟩:=hrel
  have c0:=cell_of_row _ _ 0 _ _ _ HR1.out
  have e0:=cell_of_row _ _ 0 _ _ _ HR2.out
  by_cases hlt:k<n
  ·obtain ⟨x,hx⟩:∃ x,gl[k]?=some x:=⟨gl[k]'(by rw [Hn.out]; exact hlt),List.getElem?_eq_getElem _⟩
   obtain ⟨g,rfl,p0,p1⟩:=zdP HG1.out hx
   obtain ⟨g2,rfl,q0,q1⟩:=zdP HG2.out hx
   clear hx
   go_upto_region 6 with fail
   go_quiet (fail)
   go_wp2_with fail
   first | exact ⟨⟨k+1,_,by omega,by go_num,World.drewN_drewN _ _ _⟩,by simp [intOf]; omega⟩ | exact ⟨⟨k+1,_,by omega,by go_num,rfl⟩,by simp [intOf]; omega⟩
  ·obtain rfl:k=n:=by omega
   go_wp2_with fail
   clear c0 e0
   go_loopw [8] (fun i wr=>∃ k:Nat,k≤m∧i=.int .i64 (k:Int)∧Below w2.heap.size w2 wr) (fun i _=>m - (intOf i).toNat)
   case atStart=>exact ⟨0,Nat.zero_le _,rfl,z1N (Below.refl _ w2) q⟩
   case round =>
    obtain ⟨k2,hk2,rfl,hb2⟩:=hrel
    have c1:=cell_of_row _ _ 1 _ _ _ ((hb2.block _ (Array.getElem?_eq_some_iff.1 HR1.out).1).trans HR1.out)
    have e1:=cell_of_row _ _ 1 _ _ _ ((hb2.block _ (Array.getElem?_eq_some_iff.1 HR2.out).1).trans HR2.out)
    by_cases hlt2:k2<m
    ·obtain ⟨x,hx⟩:∃ x,fl[k2]?=some x:=⟨fl[k2]'(by rw [Hm.out]; exact hlt2),List.getElem?_eq_getElem _⟩
     obtain ⟨g,pA,pc,bA,bc,rfl,p0,p1,p2,p3,hps,hbd⟩:=zdM HF1.out hx
     obtain ⟨y,hy,hxy⟩:=zeM HRL.out hx
     obtain ⟨g2,pB,pc2,bB,bc2,rfl,q0,q1,q2,q3,hps2,hbd2⟩:=zdM HF2.out hy
     have hmem2:=List.mem_of_getElem? hy
     obtain ⟨yn,yl,yp,yb⟩:=y
     simp only [rlF,Fn.mk.injEq,true_and] at hxy
     obtain ⟨hyn,hyp,hyb⟩:=hxy
     dsimp only at q0 q1 q2 q3 hps2 hbd2
     rw [← hyn] at q0
     rw [← hyp] at q2 hps2
     rw [← z7w hyb] at q3
     clear hyn hyp hy
     have p0:=hold hb2 p0
     have p1:=hold hb2 p1
     have p2:=hold hb2 p2
     have p3:=hold hb2 p3
     have q0:=hold hb2 q0
     have q1:=hold hb2 q1
     have q2:=hold hb2 q2
     have q3:=hold hb2 q3
     have lg:g<wr.heap.size:=World.block_lt_of_cell? wr _ p0
     have lg2:g2<wr.heap.size:=World.block_lt_of_cell? wr _ q0
     have lsa:sa<wr.heap.size:=World.block_lt_of_cell? wr _ c1
     have lsb:sb<wr.heap.size:=World.block_lt_of_cell? wr _ e1
     have hmem:=List.mem_of_getElem? hx
     clear hx
     go_upto_region 11 with fail
     go_region
     have ra:((wr.alloc (.cells #[.string x.name,.int .i64 x.line,.slice pA x.params.length pc,.slice bA x.body.length bc] 60)).alloc (.cells #[.string x.name,.int .i64 yl,.slice pB x.params.length pc2,.slice bB x.body.length bc2] 60)).drew.heap[wr.heap.size]?=some (.cells #[.string x.name,.int .i64 x.line,.slice pA x.params.length pc,.slice bA x.body.length bc] 60 (0,0)):=z0O wr (.cells #[.string x.name,.int .i64 x.line,.slice pA x.params.length pc,.slice bA x.body.length bc] 60) (.cells #[.string x.name,.int .i64 yl,.slice pB x.params.length pc2,.slice bB x.body.length bc2] 60)
     have rb:((wr.alloc (.cells #[.string x.name,.int .i64 x.line,.slice pA x.params.length pc,.slice bA x.body.length bc] 60)).alloc (.cells #[.string x.name,.int .i64 yl,.slice pB x.params.length pc2,.slice bB x.body.length bc2] 60)).drew.heap[wr.heap.size+1]?=some (.cells #[.string x.name,.int .i64 yl,.slice pB x.params.length pc2,.slice bB x.body.length bc2] 60 (0,0)):=z0J wr (.cells #[.string x.name,.int .i64 x.line,.slice pA x.params.length pc,.slice bA x.body.length bc] 60) (.cells #[.string x.name,.int .i64 yl,.slice pB x.params.length pc2,.slice bB x.body.length bc2] 60)
     have hbW:=z09 hb2 ((((Below.refl _ wr).alloc (Nat.le_refl _) (.cells #[.string x.name,.int .i64 x.line,.slice pA x.params.length pc,.slice bA x.body.length bc] 60)).alloc (by simp) (.cells #[.string x.name,.int .i64 yl,.slice pB x.params.length pc2,.slice bB x.body.length bc2] 60)).drew)
     clear p0 p1 p2 p3 q0 q1 q2 q3 lg lg2 lsa lsb c1 e1
     generalize ((wr.alloc (.cells #[.string x.name,.int .i64 x.line,.slice pA x.params.length pc,.slice bA x.body.length bc] 60)).alloc (.cells #[.string x.name,.int .i64 yl,.slice pB x.params.length pc2,.slice bB x.body.length bc2] 60)).drew=W at ra rb hbW ⊢
     generalize wr.heap.size+1=fb at rb ⊢
     generalize wr.heap.size=fa at ra ⊢
     rotate_left 1
     have rb:((wr.alloc (.cells #[.string x.name,.int .i64 yl,.slice pB x.params.length pc2,.slice bB x.body.length bc2] 60)).alloc (.cells #[.string x.name,.int .i64 x.line,.slice pA x.params.length pc,.slice bA x.body.length bc] 60)).drew.heap[wr.heap.size]?=some (.cells #[.string x.name,.int .i64 yl,.slice pB x.params.length pc2,.slice bB x.body.length bc2] 60 (0,0)):=z0O wr (.cells #[.string x.name,.int .i64 yl,.slice pB x.params.length pc2,.slice bB x.body.length bc2] 60) (.cells #[.string x.name,.int .i64 x.line,.slice pA x.params.length pc,.slice bA x.body.length bc] 60)
     have ra:((wr.alloc (.cells #[.string x.name,.int .i64 yl,.slice pB x.params.length pc2,.slice bB x.body.length bc2] 60)).alloc (.cells #[.string x.name,.int .i64 x.line,.slice pA x.params.length pc,.slice bA x.body.length bc] 60)).drew.heap[wr.heap.size+1]?=some (.cells #[.string x.name,.int .i64 x.line,.slice pA x.params.length pc,.slice bA x.body.length bc] 60 (0,0)):=z0J wr (.cells #[.string x.name,.int .i64 yl,.slice pB x.params.length pc2,.slice bB x.body.length bc2] 60) (.cells #[.string x.name,.int .i64 x.line,.slice pA x.params.length pc,.slice bA x.body.length bc] 60)
     have hbW:=z09 hb2 ((((Below.refl _ wr).alloc (Nat.le_refl _) (.cells #[.string x.name,.int .i64 yl,.slice pB x.params.length pc2,.slice bB x.body.length bc2] 60)).alloc (by simp) (.cells #[.string x.name,.int .i64 x.line,.slice pA x.params.length pc,.slice bA x.body.length bc] 60)).drew)
     clear p0 p1 p2 p3 q0 q1 q2 q3 lg lg2 lsa lsb c1 e1
     generalize ((wr.alloc (.cells #[.string x.name,.int .i64 yl,.slice pB x.params.length pc2,.slice bB x.body.length bc2] 60)).alloc (.cells #[.string x.name,.int .i64 x.line,.slice pA x.params.length pc,.slice bA x.body.length bc] 60)).drew=W at ra rb hbW ⊢
     generalize wr.heap.size+1=fa at ra ⊢
     generalize wr.heap.size=fb at rb ⊢
     all_goals
      obtain ⟨a0,a1,a2,a3⟩:=cl4 ra
      obtain ⟨b0,b1,b2,b3⟩:=cl4 rb
      obtain ⟨hpl,hbl⟩:=HS.out x hmem
      obtain ⟨_,hbl2⟩:=HS2.out _ hmem2
      have HP1:=zhi (hps.keep z0z (fun _ h=>h) (fun b h=>hbW.block b (HFF.out b h)))
      have HP2:=zhi (hps2.keep z0z (fun _ h=>h) (fun b h=>hbW.block b (HGG.out b h)))
      have hs1:=RowS.more (RowS.keep (fun _ h=>h) (fun b h=>hbW.block b (HFF.out b h)) hbd) D' d'
      have hs2:=RowS.more (RowS.keep (fun _ h=>h) (fun b h=>hbW.block b (HGG.out b h)) hbd2) D d
      rw [Nat.add_comm D' D,show d'+(d+1)=d+(d'+1) by omega] at hs2
      have HST:=zhi (zbu (D+D') (d+(d'+1)) x.body yb bA bB bc bc2 _ _ _ W rfl hyb hs1 hs2 (hbl _) (hbl2 _))
      have HBW:=zhi hbW
      have hq1:=hps.1
      have hq2:=hps2.1
      have HRA:=zhi ra
      have HRB:=zhi rb
      clear hs1 hs2 hbl hbl2 hyb hmem2 hps hps2 hbd hbd2 hbW ra rb
      have HNP:Hid (x.params.length=x.params.length):=zhi rfl
      generalize hnp:x.params.length=np at a2 b2 hpl hq1 hq2 HRA HRB ⊢
      generalize x.body.length=nb at a3 b3 HST HRA HRB ⊢
      replace HNP:=zhi hnp.symm
      clear hnp
      go_wp2_with fail
      refine HST.out.mono ?_
      rintro e w5 ⟨rfl,q5,rfl⟩
      clear a0 a1 a3 b0 b1 b3 HST
      go_wp2_with fail
      go_loopw [11] (fun i wr=>∃ (k q:Nat),k≤np∧i=.int .i64 (k:Int)∧wr=W.drewN q) (fun i _=>np - (intOf i).toNat)
      case atStart=>exact ⟨0,_,Nat.zero_le _,rfl,rfl⟩
      case round =>
       obtain ⟨j,q6,hj,rfl,rfl⟩:=hrel
       by_cases hlt3:j<np
       ·obtain ⟨y,hy⟩:∃ y,x.params[j]?=some y:=⟨x.params[j]'(by rw [← HNP.out]; exact hlt3),List.getElem?_eq_getElem _⟩
        obtain ⟨g5,rfl,u0⟩:=zc2 HP1.out hy
        obtain ⟨g6,rfl,u1⟩:=zc2 HP2.out hy
        clear hy
        go_upto_region 17 with fail
        go_quiet (fail)
        go_wp2_with fail
        first | exact ⟨⟨j+1,_,by omega,by go_num,World.drewN_drewN _ _ _⟩,by simp [intOf]; omega⟩ | exact ⟨⟨j+1,_,by omega,by go_num,rfl⟩,by simp [intOf]; omega⟩
       ·obtain rfl:j=np:=by omega
        go_wp2_with fail
        exact ⟨⟨k2+1,by omega,by go_num,z1N HBW.out _⟩,by simp [intOf]; omega⟩
    ·obtain rfl:k2=m:=by omega
     have HB:=zhi (z09 HB0.out hb2)
     clear hb2
     go_wp2_with fail
     go_ret
     exact ⟨rfl,HB.out⟩
end Go.Proofs.YtgcjcclkialdgaaGreatDoor
