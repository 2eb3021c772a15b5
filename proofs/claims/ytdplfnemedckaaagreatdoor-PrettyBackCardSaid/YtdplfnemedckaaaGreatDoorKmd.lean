/-
  Kmd: PrEx, PrSg. Walks and laws that the statement's proof is made of. No condition of its own.
-/
import Derived.Test.YtdplfnemedckaaaGreatDoorKmc
import Derived.Test.YtdplfnemedckaaaGreatDoorKma
import Derived.Test.YtdplfnemedckaaaGreatDoorKh
namespace Go.Proofs.YtdplfnemedckaaaGreatDoor
open Go.RowKit
theorem zci {α:Type} {xs:List α} (h:xs.length=2):∃ x y,xs=[x,y]:=by
 match xs,h with
 | [x,y],_=>exact ⟨x,y,rfl⟩
theorem zeo {α:Type} {xs:List α} (h:xs.length=1):∃ x,xs=[x]:=by
 match xs,h with
 | [x],_=>exact ⟨x,rfl⟩
set_option maxHeartbeats 1000000 in
theorem zaE {n:Nat} (ih:PrC n):PrC (n+1):=by
 intro F x v B p dp l W hx hF hs hw hl
 obtain ⟨k,o,a,ln,s,xs,rfl⟩:∃ k o a ln s xs,x=.mk k o a ln s xs:=by
  cases x
  exact ⟨_,_,_,_,_,_,rfl⟩
 obtain ⟨A,c,rfl,hr⟩:=z3E.1 hx
 obtain ⟨h1,h2,h3,h4,h5,h6,h7,hk⟩:=hs
 rcases hk with rfl | rfl | rfl | rfl | rfl | rfl | ⟨rfl,hk⟩ | ⟨rfl,hk⟩ | ⟨rfl,hk⟩ | ⟨rfl,hk⟩ | ⟨rfl,hk⟩ | rfl | ⟨rfl,hk⟩
 ·have e:fmtE (n+1) (.mk 1 o a ln s xs)=numL a.toNat:=by
   have:max a 0=a:=by omega
   simp [fmtE,this]
  rw [e] at hl ⊢
  exact zfE F (n+1) _ o a ln s A _ c B p dp l W hx hF hw h3 h4 hl
 ·have e:fmtE (n+1) (.mk 13 o a ln s xs)=s.data.toList:=by simp [fmtE]
  rw [e] at hl ⊢
  exact zbC F (n+1) _ o a ln s A _ c B p dp l W hx hF hw hl
 ·have e:fmtE (n+1) (.mk 2 o a ln s xs)=s.data.toList:=by simp [fmtE]
  rw [e] at hl ⊢
  exact zdA F (n+1) _ o a ln s A _ c B p dp l W hx hF hw hl
 ·have e:fmtE (n+1) (.mk 3 o a ln s xs)=s.data.toList:=by simp [fmtE]
  rw [e] at hl ⊢
  exact zdB F (n+1) _ o a ln s A _ c B p dp l W hx hF hw hl
 ·have e:fmtE (n+1) (.mk 12 o a ln s xs)=[114,101,97,100]:=by simp [fmtE]
  rw [e] at hl ⊢
  exact zbD F (n+1) _ o a ln s A _ c B p dp l W hx hF hw hl
 ·have e:fmtE (n+1) (.mk 11 o a ln s xs)=38 :: s.data.toList:=by simp [fmtE]
  rw [e] at hl ⊢
  exact zbB F (n+1) _ o a ln s A _ c B p dp l W hx hF hw h2 hl
 ·obtain ⟨y,rfl⟩:=zeo hk
  obtain ⟨g,off,k1,o1,a1,l1,s1,A1,m1,c1,rfl,hy⟩:=z2v (i:=0) hr rfl
  have e:fmtE (n+1) (.mk 4 o a ln s [y])=s.data.toList++91 :: (fmtE n y++[93]):=by simp [fmtE]
  rw [e] at hl ⊢
  exact zdz ih F (n+1) _ y o a ln s g off c B p dp l W k1 o1 a1 l1 s1 A1 m1 c1 hx hF hw hy h2 (h7 y (by simp)) hl
 ·obtain ⟨y,rfl⟩:=zeo hk
  obtain ⟨g,off,k1,o1,a1,l1,s1,A1,m1,c1,rfl,hy⟩:=z2v (i:=0) hr rfl
  have e:fmtE (n+1) (.mk 5 o a ln s [y])=z1U o++opk n (z0D k1) y:=by rw [← hy.kd]; simp [fmtE,opk]
  rw [e] at hl ⊢
  exact zbE ih F (n+1) _ y o a ln s g off c B p dp l W k1 o1 a1 l1 s1 A1 m1 c1 hx hF hw hy h5 h6 (h7 y (by simp)) hl
 ·obtain ⟨y,z,rfl⟩:=zci hk
  obtain ⟨g,off,k1,o1,a1,l1,s1,A1,m1,c1,rfl,hy⟩:=z2v (i:=0) hr rfl
  obtain ⟨g',off',k2,o2,a2,l2,s2,A2,m2,c2,hA,hz⟩:=z2v (i:=1) hr rfl
  injection hA with hA
  injection hA with q1 q2 _
  subst q1 q2
  have e:fmtE (n+1) (.mk 6 o a ln s [y,z])=opk n (z0D k1) y++32 :: (sgnK 6 o++32 :: opk n (z0D k2) z):=by rw [← hy.kd,← hz.kd]; simp [fmtE,opk,sgnK]
  rw [e] at hl ⊢
  exact zfB ih F (n+1) _ y z o a ln s g off c B p dp l W k1 o1 a1 l1 s1 A1 m1 c1 k2 o2 a2 l2 s2 A2 m2 c2 hx hF hw hy hz h5 h6 (h7 y (by simp)) (h7 z (by simp)) hl
 ·obtain ⟨y,z,rfl⟩:=zci hk
  obtain ⟨g,off,k1,o1,a1,l1,s1,A1,m1,c1,rfl,hy⟩:=z2v (i:=0) hr rfl
  obtain ⟨g',off',k2,o2,a2,l2,s2,A2,m2,c2,hA,hz⟩:=z2v (i:=1) hr rfl
  injection hA with hA
  injection hA with q1 q2 _
  subst q1 q2
  have e:fmtE (n+1) (.mk 7 o a ln s [y,z])=opk n (z0D k1) y++32 :: (sgnK 7 o++32 :: opk n (z0D k2) z):=by rw [← hy.kd,← hz.kd]; simp [fmtE,opk,sgnK]
  rw [e] at hl ⊢
  exact zfC ih F (n+1) _ y z o a ln s g off c B p dp l W k1 o1 a1 l1 s1 A1 m1 c1 k2 o2 a2 l2 s2 A2 m2 c2 hx hF hw hy hz h5 h6 (h7 y (by simp)) (h7 z (by simp)) hl
 ·obtain ⟨y,z,rfl⟩:=zci hk
  obtain ⟨g,off,k1,o1,a1,l1,s1,A1,m1,c1,rfl,hy⟩:=z2v (i:=0) hr rfl
  obtain ⟨g',off',k2,o2,a2,l2,s2,A2,m2,c2,hA,hz⟩:=z2v (i:=1) hr rfl
  injection hA with hA
  injection hA with q1 q2 _
  subst q1 q2
  have e:fmtE (n+1) (.mk 8 o a ln s [y,z])=opk n (z0D k1) y++32 :: (sgnK 8 o++32 :: opk n (z0D k2) z):=by rw [← hy.kd,← hz.kd]; simp [fmtE,opk,sgnK]
  rw [e] at hl ⊢
  exact zfD ih F (n+1) _ y z o a ln s g off c B p dp l W k1 o1 a1 l1 s1 A1 m1 c1 k2 o2 a2 l2 s2 A2 m2 c2 hx hF hw hy hz h5 h6 (h7 y (by simp)) (h7 z (by simp)) hl
 ·have e:fmtE (n+1) (.mk 9 o a ln s xs)=s.data.toList++lst n xs:=by simp [fmtE,lst]
  rw [e] at hl ⊢
  exact zdy F (n+1) n ih _ o a ln s A _ c B p dp l W hx hF hw xs hr h7 rfl h1 hl
 ·match xs,hk with
  | y :: xs,_ =>
   obtain ⟨g,off,k1,o1,a1,l1,s1,A1,m1,c1,rfl,hy⟩:=z2v (i:=0) hr rfl
   have e:fmtE (n+1) (.mk 10 o a ln s (y :: xs))=opk n (z0D k1||[13,2,3].contains k1) y++lst n xs:=by
    rw [← hy.kd]
    by_cases hc:z0D y.kind=true
    ·have h13:¬ (y.kind=13∨y.kind=2∨y.kind=3):=by
      intro h
      rcases h with h | h | h <;> (rw [h] at hc; revert hc; decide)
     simp only [fmtE,opk,hc,Bool.true_or,if_true]
     rw [if_neg (by decide),if_neg (by decide),if_neg (by decide),if_neg (by decide),if_neg h13]
     rfl
    ·have hc:z0D y.kind=false:=by simpa using hc
     by_cases h13:y.kind=13∨y.kind=2∨y.kind=3
     ·have h13':([13,2,3]:List Int).contains y.kind=true:=by simpa using h13
      simp only [fmtE,opk,hc,h13',Bool.false_or,if_true]
      rw [if_neg (by decide),if_neg (by decide),if_neg (by decide),if_neg (by decide),if_pos h13]
      rfl
     ·have h13':([13,2,3]:List Int).contains y.kind=false:=by
       rw [← Bool.not_eq_true,List.contains_iff_mem]
       simpa using h13
      simp only [fmtE,opk,hc,h13',Bool.false_or]
      rw [if_neg (by decide),if_neg (by decide),if_neg (by decide),if_neg (by decide),if_neg h13]
      rfl
   rw [e] at hl ⊢
   exact zdC ih F (n+1) _ y o a ln s g off _ c B p dp l W k1 o1 a1 l1 s1 A1 m1 c1 hx hF hw xs hr hy (fun z hz=>h7 z (by simp [hz])) (h7 y (by simp)) rfl h1 _ rfl hl
theorem zaF:∀ n,PrC n
 | 0=>fun _ _ _ _ _ _ _ _ _ _ hs=>hs.elim
 | n+1=>zaE (zaF n)
set_option maxRecDepth 100000 in
set_option maxHeartbeats 2000000 in
theorem z5D (F:Nat→Prop) (n:Nat) (x:Ex) (k o a ln:Int) (s:ByteArray) (A:Option Addr) (m c:Nat) (W:World) (hx:ExV F W n x (.agg #[.int .i64 k,.int .i64 o,.int .i64 a,.int .i64 ln,.string s,.slice A m c])) (hF:∀ q,F q→q<W.heap.size) (hs:ShP n x) (ht:PowT W) (hg:1<W.heap.size) (hl:(fmtE n x).length≤1099511627776) (hne:fmtE n x≠[]) :
  Calls Tryz.prog 11 #[.agg #[.int .i64 k,.int .i64 o,.int .i64 a,.int .i64 ln,.string s,.slice A m c]] W (z39 (fmtE n x) W):=by
 obtain ⟨R,hR⟩:∃ R:Array Value,R=#[.int .i64 k,.int .i64 o,.int .i64 a,.int .i64 ln,.string s,.slice A m c]:=⟨_,rfl⟩
 have hb0:=(Below.refl _ W).alloc (Nat.le_refl _) (.cells R 39)
 have hb1:=hb0.alloc (by simp) (.cells #[.pointer none,.slice none 0 0,.int .i64 0] 62)
 have hsz:((W.alloc (.cells R 39)).alloc (.cells #[.pointer none,.slice none 0 0,.int .i64 0] 62)).heap.size=W.heap.size+1+1:=by simp
 have hr0:((W.alloc (.cells R 39)).alloc (.cells #[.pointer none,.slice none 0 0,.int .i64 0] 62)).heap[W.heap.size]?=some (.cells R 39 (0,0)) :=
  (((Below.refl _ (W.alloc (.cells R 39))).alloc (Nat.le_refl _) _).block W.heap.size (by simp)).trans (heap_alloc_new W _)
 have hr1:((W.alloc (.cells R 39)).alloc (.cells #[.pointer none,.slice none 0 0,.int .i64 0] 62)).heap[W.heap.size+1]?=some (.cells #[.pointer none,.slice none 0 0,.int .i64 0] 62 (0,0)):=by
  have:=heap_alloc_new (W.alloc (.cells R 39)) (.cells #[.pointer none,.slice none 0 0,.int .i64 0] 62)
  simpa using this
 have hw:Wri (W.heap.size+1) (W.heap.size+1) 0 [] ((W.alloc (.cells R 39)).alloc (.cells #[.pointer none,.slice none 0 0,.int .i64 0] 62)):=⟨.inl ⟨Nat.le_refl _,_,hr1,World.ownsRow_nil _ _ _ _⟩,ht.next (hb1.mono (Nat.le_refl _)) hg,by omega⟩
 have hx1:=hx.keep (G:=F) (fun _ h=>h) (fun q hq=>hb1.block q (hF q hq))
 have HX:=zhi (zaF n F x _ (W.heap.size+1) (W.heap.size+1) 0 [] _ hx1 (fun q hq=>Nat.lt_succ_of_lt (hF q hq)) hs hw (by simpa using hl))
 subst hR
 obtain ⟨j0,j1,j2,j3,j4,j5⟩:=cl6 hr0
 have HB:=zhi hb1
 have HNE:=zhi hne
 clear hb0 hb1 hr0 hr1 hw hx1 hx hF hs ht hl hsz hne hg
 go_enter Tryz.func11,Tryz.ntmps11
 go_wp2_with fail
 refine HX.out.mono ?_
 rintro e w1 ⟨rfl,hw1,hk1⟩
 have HT:=zhi (zcv _ _ _ (fmtE n x) w1 hw1.out.wr HNE.out)
 have hlt:=hw1.out.wr.lt
 clear HX j0 j1 j2 j3 j4 j5
 go_wp2_with fail
 refine HT.out.mono ?_
 rintro e w2 ⟨rfl,hb2⟩
 have HB2:=zhi (HB.out.trans ((hk1.out.bel.trans hb2).mono (Nat.le_succ _)))
 clear hb2 HT
 go_wp2_with fail
 go_ret
 exact z3x (by simp) HB2.out
end Go.Proofs.YtdplfnemedckaaaGreatDoor
namespace Go.Proofs.YtdplfnemedckaaaGreatDoor
open Go.RowKit
def SmG (n:Nat):Prop:=∀ (F G:Nat→Prop) (x y:Ex) (vx vy:Value) (W:World),ExV F W n x vx→ExV G W n y vy→rlX x=rlX y→(∀ q,F q→q<W.heap.size)→(∀ q,G q→q<W.heap.size)→ShP n x→Calls Tryz.prog 103 #[vx,vy] W (RetV (.bool true) W)
theorem z6p {xs ys:List Ex} (h:rlL xs=rlL ys):xs.length=ys.length:=by simpa [z2V] using congrArg List.length h
theorem zbJ {xs ys:List Ex} (h:rlL xs=rlL ys) {i:Nat} {x:Ex} (hx:xs[i]?=some x):∃ y,ys[i]?=some y∧rlX x=rlX y:=by
 have e:=congrArg (fun l:List Ex=>l[i]?) h
 simp only [z2V,List.getElem?_map,hx,Option.map_some] at e
 cases hy:ys[i]? with
 | none=>rw [hy] at e; cases e
 | some y =>
  rw [hy] at e
  injection e with e
  exact ⟨y,rfl,e⟩
set_option maxRecDepth 100000 in
set_option maxHeartbeats 2000000 in
theorem z8m {n:Nat} (ih:SmG n) (F G:Nat→Prop) (xs ys:List Ex) (hxy:rlL xs=rlL ys) (A1 A2:Option Addr) (c1 c2 m:Nat) (W:World) (h1:RowE F W n xs A1 c1) (h2:RowE G W n ys A2 c2) (hF:∀ q,F q→q<W.heap.size) (hG:∀ q,G q→q<W.heap.size) (hs:∀ x∈xs,ShP n x) (hm:xs.length=m) (hm1:m≤1000) :
  Calls Tryz.prog 102 #[.slice A1 m c1,.slice A2 m c2,.func (.func 103) #[] #[]] W (RetV (.bool true) W):=by
 have hc1:m≤c1:=by have:=h1.1; omega
 have hc2:m≤c2:=by have:=h2.1; rw [← z6p hxy] at this; omega
 have HXY:=zhi hxy
 have H1:=zhi h1
 have H2:=zhi h2
 have HF:=zhi hF
 have HG:=zhi hG
 have HS:=zhi hs
 have HM:=zhi hm
 have Ih:=zhi ih
 clear h1 h2 hF hG hs hm ih hxy
 go_enter Tryz.func102,Tryz.ntmps102
 go_wp2_with fail
 go_loopw [17] (fun i wr=>∃ k:Nat,k≤m∧i=.int .i64 (k:Int)∧Below W.heap.size W wr) (fun i _=>m - (intOf i).toNat)
 case atStart=>exact ⟨0,Nat.zero_le _,rfl,Below.refl _ _⟩
 case round =>
  obtain ⟨k,hk,rfl,hb⟩:=hrel
  have Hb:=zhi hb
  have hsz:=hb.size
  clear hb
  by_cases hlt:k<m
  ·obtain ⟨x,hx⟩:∃ x,xs[k]?=some x:=⟨xs[k]'(by rw [HM.out]; exact hlt),List.getElem?_eq_getElem _⟩
   obtain ⟨g,off,kk,o,a,ln,s,A',m',c',rfl,hg,e0,e1,e2,e3,e4,e5,hv,-⟩:=z6r H1.out hx
   obtain ⟨y,hy0,hxy⟩:=zbJ HXY.out hx
   obtain ⟨g2,off2,kk2,o2,a2,ln2,s2,A2',m2',c2',rfl,hg2,u0,u1,u2,u3,u4,u5,hv2,-⟩:=z6r H2.out hy0
   have q1:=HF.out g hg
   have q2:=HG.out g2 hg2
   have d0:=hold Hb.out e0
   have d1:=hold Hb.out e1
   have d2:=hold Hb.out e2
   have d3:=hold Hb.out e3
   have d4:=hold Hb.out e4
   have d5:=hold Hb.out e5
   have v0:=hold Hb.out u0
   have v1:=hold Hb.out u1
   have v2:=hold Hb.out u2
   have v3:=hold Hb.out u3
   have v4:=hold Hb.out u4
   have v5:=hold Hb.out u5
   have hb1:=(Below.refl _ wr).alloc (Nat.le_refl _) (.cells #[.int .i64 kk,.int .i64 o,.int .i64 a,.int .i64 ln,.string s,.slice A' m' c'] 39)
   have hb2:=hb1.alloc (by simp) (.cells #[.int .i64 kk2,.int .i64 o2,.int .i64 a2,.int .i64 ln2,.string s2,.slice A2' m2' c2'] 39)
   have hbw:=z0d Hb.out hb2
   have HC:=zhi (Ih.out F G x y _ _ _ (hv.keep (G:=F) (fun _ h=>h) (fun q hq=>hbw.block q (HF.out q hq))) (hv2.keep (G:=G) (fun _ h=>h) (fun q hq=>hbw.block q (HG.out q hq))) hxy (fun q hq=>Nat.lt_of_lt_of_le (HF.out q hq) hbw.size) (fun q hq=>Nat.lt_of_lt_of_le (HG.out q hq) hbw.size) (HS.out x (List.mem_of_getElem? hx)))
   have HBW:=zhi hbw
   have z0:=hold hb1 v0
   have z1:=hold hb1 v1
   have z2:=hold hb1 v2
   have z3:=hold hb1 v3
   have z4:=hold hb1 v4
   have z5:=hold hb1 v5
   clear e0 e1 e2 e3 e4 e5 u0 u1 u2 u3 u4 u5 hv hv2 hx hy0 hxy hg hg2 hb1 hb2 hbw
   go_wp2_with fail
   refine HC.out.mono ?_
   rintro e w3 ⟨rfl,hb3⟩
   have hbe:=z0d HBW.out hb3
   clear HC HBW hb3 z0 z1 z2 z3 z4 z5 d0 d1 d2 d3 d4 d5 v0 v1 v2 v3 v4 v5
   go_wp2_with fail
   exact ⟨⟨k+1,by omega,by go_num,hbe⟩,by simp [intOf]; omega⟩
  ·go_wp2_with fail
   go_ret
   exact ⟨rfl,Hb.out⟩
set_option maxRecDepth 100000 in
set_option maxHeartbeats 2000000 in
theorem zdQ {n:Nat} (ih:SmG n):SmG (n+1):=by
 intro F G x y vx vy W hx hy hxy hF hG hs
 obtain ⟨k,o,a,ln,s,xs,rfl⟩:∃ k o a ln s xs,x=.mk k o a ln s xs:=by
  cases x
  exact ⟨_,_,_,_,_,_,rfl⟩
 obtain ⟨A1,c1,rfl,hr1⟩:=z3E.1 hx
 obtain ⟨k',o',a',ln',s',ys,rfl⟩:∃ k o a ln s xs,y=.mk k o a ln s xs:=by
  cases y
  exact ⟨_,_,_,_,_,_,rfl⟩
 simp only [rlX,Ex.mk.injEq] at hxy
 obtain ⟨rfl,rfl,rfl,_,rfl,hxy⟩:=hxy
 obtain ⟨A2,c2,rfl,hr2⟩:=z3E.1 hy
 obtain ⟨h1,-,-,-,-,-,h7,-⟩:=hs
 rw [← z6p hxy]
 obtain ⟨m,hm⟩:∃ m,xs.length=m:=⟨_,rfl⟩
 rw [hm] at h1 ⊢
 obtain ⟨C1,hC1⟩:∃ C:Array Value,C=#[.int .i64 k,.int .i64 o,.int .i64 a,.int .i64 ln,.string s,.slice A1 m c1]:=⟨_,rfl⟩
 obtain ⟨C2,hC2⟩:∃ C:Array Value,C=#[.int .i64 k,.int .i64 o,.int .i64 a,.int .i64 ln',.string s,.slice A2 m c2]:=⟨_,rfl⟩
 have hb1:=(Below.refl _ W).alloc (Nat.le_refl _) (.cells C1 39)
 have hb2:=hb1.alloc (by simp) (.cells C2 39)
 have q1:=z0G W (.cells C1 39) (.cells C2 39)
 have q2:=z0F W (.cells C1 39) (.cells C2 39)
 have HE:=zhi (z8m ih F G xs ys hxy A1 A2 c1 c2 m _ (hr1.keep (G:=F) (fun _ h=>h) (fun q hq=>hb2.block q (hF q hq))) (hr2.keep (G:=G) (fun _ h=>h) (fun q hq=>hb2.block q (hG q hq))) (fun q hq=>Nat.lt_of_lt_of_le (hF q hq) hb2.size) (fun q hq=>Nat.lt_of_lt_of_le (hG q hq) hb2.size) h7 hm h1)
 have HB:=zhi hb2
 subst hC1 hC2
 obtain ⟨a0,a1,a2,a3,a4,a5⟩:=cl6 q1
 obtain ⟨b0,b1,b2,b3,b4,b5⟩:=cl6 q2
 clear hb1 hb2 q1 q2 hx hy hF hG hr1 hr2 h7 hm ih hxy
 go_enter Tryz.func103,Tryz.ntmps103
 go_wp2_with fail
 refine HE.out.mono ?_
 rintro e w3 ⟨rfl,hb3⟩
 have HB3:=zhi (z0d HB.out hb3)
 clear hb3 HE a0 a1 a2 a3 a4 a5 b0 b1 b2 b3 b4 b5
 go_wp2_with fail
 go_ret
 exact ⟨rfl,HB3.out⟩
theorem zc3:∀ n,SmG n
 | 0=>fun _ _ _ _ _ _ _ _ _ _ _ _ hs=>hs.elim
 | n+1=>zdQ (zc3 n)
end Go.Proofs.YtdplfnemedckaaaGreatDoor
