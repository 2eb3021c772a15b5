/-
  Kmd: PrEx. Walks and laws that the statement's proof is made of. No condition of its own.
-/
import Derived.Test.YtkeihncfmbicnaaGreatDoorKmc
namespace Go.Proofs.YtkeihncfmbicnaaGreatDoor
open Go.RowKit
theorem za4 {α:Type} {xs:List α} (h:xs.length=2):∃ x y,xs=[x,y]:=by
 match xs,h with
 | [x,y],_=>exact ⟨x,y,rfl⟩
theorem zc0 {α:Type} {xs:List α} (h:xs.length=1):∃ x,xs=[x]:=by
 match xs,h with
 | [x],_=>exact ⟨x,rfl⟩
set_option maxHeartbeats 1000000 in
theorem z8A {n:Nat} (ih:PrC n):PrC (n+1):=by
 intro F x v B p dp l W hx hF hs hw hl
 obtain ⟨k,o,a,ln,s,xs,rfl⟩:∃ k o a ln s xs,x=.mk k o a ln s xs:=by
  cases x
  exact ⟨_,_,_,_,_,_,rfl⟩
 obtain ⟨A,c,rfl,hr⟩:=z1X.1 hx
 obtain ⟨h1,h2,h3,h4,h5,h6,h7,hk⟩:=hs
 rcases hk with rfl | rfl | rfl | rfl | rfl | rfl | ⟨rfl,hk⟩ | ⟨rfl,hk⟩ | ⟨rfl,hk⟩ | ⟨rfl,hk⟩ | ⟨rfl,hk⟩ | rfl | ⟨rfl,hk⟩
 ·have e:fmtE (n+1) (.mk 1 o a ln s xs)=numL a.toNat:=by
   have:max a 0=a:=by omega
   simp [fmtE,this]
  rw [e] at hl ⊢
  exact zcN F (n+1) _ o a ln s A _ c B p dp l W hx hF hw h3 h4 hl
 ·have e:fmtE (n+1) (.mk 13 o a ln s xs)=s.data.toList:=by simp [fmtE]
  rw [e] at hl ⊢
  exact z9D F (n+1) _ o a ln s A _ c B p dp l W hx hF hw hl
 ·have e:fmtE (n+1) (.mk 2 o a ln s xs)=s.data.toList:=by simp [fmtE]
  rw [e] at hl ⊢
  exact zb6 F (n+1) _ o a ln s A _ c B p dp l W hx hF hw hl
 ·have e:fmtE (n+1) (.mk 3 o a ln s xs)=s.data.toList:=by simp [fmtE]
  rw [e] at hl ⊢
  exact zb7 F (n+1) _ o a ln s A _ c B p dp l W hx hF hw hl
 ·have e:fmtE (n+1) (.mk 12 o a ln s xs)=[114,101,97,100]:=by simp [fmtE]
  rw [e] at hl ⊢
  exact z9E F (n+1) _ o a ln s A _ c B p dp l W hx hF hw hl
 ·have e:fmtE (n+1) (.mk 11 o a ln s xs)=38 :: s.data.toList:=by simp [fmtE]
  rw [e] at hl ⊢
  exact z9C F (n+1) _ o a ln s A _ c B p dp l W hx hF hw h2 hl
 ·obtain ⟨y,rfl⟩:=zc0 hk
  obtain ⟨g,off,k1,o1,a1,l1,s1,A1,m1,c1,rfl,hy⟩:=z1J (i:=0) hr rfl
  have e:fmtE (n+1) (.mk 4 o a ln s [y])=s.data.toList++91 :: (fmtE n y++[93]):=by simp [fmtE]
  rw [e] at hl ⊢
  exact zb5 ih F (n+1) _ y o a ln s g off c B p dp l W k1 o1 a1 l1 s1 A1 m1 c1 hx hF hw hy h2 (h7 y (by simp)) hl
 ·obtain ⟨y,rfl⟩:=zc0 hk
  obtain ⟨g,off,k1,o1,a1,l1,s1,A1,m1,c1,rfl,hy⟩:=z1J (i:=0) hr rfl
  have e:fmtE (n+1) (.mk 5 o a ln s [y])=z0U o++opk n (z0l k1) y:=by rw [← hy.kd]; simp [fmtE,opk]
  rw [e] at hl ⊢
  exact z9F ih F (n+1) _ y o a ln s g off c B p dp l W k1 o1 a1 l1 s1 A1 m1 c1 hx hF hw hy h5 h6 (h7 y (by simp)) hl
 ·obtain ⟨y,z,rfl⟩:=za4 hk
  obtain ⟨g,off,k1,o1,a1,l1,s1,A1,m1,c1,rfl,hy⟩:=z1J (i:=0) hr rfl
  obtain ⟨g',off',k2,o2,a2,l2,s2,A2,m2,c2,hA,hz⟩:=z1J (i:=1) hr rfl
  injection hA with hA
  injection hA with q1 q2 _
  subst q1 q2
  have e:fmtE (n+1) (.mk 6 o a ln s [y,z])=opk n (z0l k1) y++32 :: (sgnK 6 o++32 :: opk n (z0l k2) z):=by rw [← hy.kd,← hz.kd]; simp [fmtE,opk,sgnK]
  rw [e] at hl ⊢
  exact zcK ih F (n+1) _ y z o a ln s g off c B p dp l W k1 o1 a1 l1 s1 A1 m1 c1 k2 o2 a2 l2 s2 A2 m2 c2 hx hF hw hy hz h5 h6 (h7 y (by simp)) (h7 z (by simp)) hl
 ·obtain ⟨y,z,rfl⟩:=za4 hk
  obtain ⟨g,off,k1,o1,a1,l1,s1,A1,m1,c1,rfl,hy⟩:=z1J (i:=0) hr rfl
  obtain ⟨g',off',k2,o2,a2,l2,s2,A2,m2,c2,hA,hz⟩:=z1J (i:=1) hr rfl
  injection hA with hA
  injection hA with q1 q2 _
  subst q1 q2
  have e:fmtE (n+1) (.mk 7 o a ln s [y,z])=opk n (z0l k1) y++32 :: (sgnK 7 o++32 :: opk n (z0l k2) z):=by rw [← hy.kd,← hz.kd]; simp [fmtE,opk,sgnK]
  rw [e] at hl ⊢
  exact zcL ih F (n+1) _ y z o a ln s g off c B p dp l W k1 o1 a1 l1 s1 A1 m1 c1 k2 o2 a2 l2 s2 A2 m2 c2 hx hF hw hy hz h5 h6 (h7 y (by simp)) (h7 z (by simp)) hl
 ·obtain ⟨y,z,rfl⟩:=za4 hk
  obtain ⟨g,off,k1,o1,a1,l1,s1,A1,m1,c1,rfl,hy⟩:=z1J (i:=0) hr rfl
  obtain ⟨g',off',k2,o2,a2,l2,s2,A2,m2,c2,hA,hz⟩:=z1J (i:=1) hr rfl
  injection hA with hA
  injection hA with q1 q2 _
  subst q1 q2
  have e:fmtE (n+1) (.mk 8 o a ln s [y,z])=opk n (z0l k1) y++32 :: (sgnK 8 o++32 :: opk n (z0l k2) z):=by rw [← hy.kd,← hz.kd]; simp [fmtE,opk,sgnK]
  rw [e] at hl ⊢
  exact zcM ih F (n+1) _ y z o a ln s g off c B p dp l W k1 o1 a1 l1 s1 A1 m1 c1 k2 o2 a2 l2 s2 A2 m2 c2 hx hF hw hy hz h5 h6 (h7 y (by simp)) (h7 z (by simp)) hl
 ·have e:fmtE (n+1) (.mk 9 o a ln s xs)=s.data.toList++lst n xs:=by simp [fmtE,lst]
  rw [e] at hl ⊢
  exact zb4 F (n+1) n ih _ o a ln s A _ c B p dp l W hx hF hw xs hr h7 rfl h1 hl
 ·match xs,hk with
  | y :: xs,_ =>
   obtain ⟨g,off,k1,o1,a1,l1,s1,A1,m1,c1,rfl,hy⟩:=z1J (i:=0) hr rfl
   have e:fmtE (n+1) (.mk 10 o a ln s (y :: xs))=opk n (z0l k1||[13,2,3].contains k1) y++lst n xs:=by
    rw [← hy.kd]
    by_cases hc:z0l y.kind=true
    ·have h13:¬ (y.kind=13∨y.kind=2∨y.kind=3):=by
      intro h
      rcases h with h | h | h <;> (rw [h] at hc; revert hc; decide)
     simp only [fmtE,opk,hc,Bool.true_or,if_true]
     rw [if_neg (by decide),if_neg (by decide),if_neg (by decide),if_neg (by decide),if_neg h13]
     rfl
    ·have hc:z0l y.kind=false:=by simpa using hc
     by_cases h13:y.kind=13∨y.kind=2∨y.kind=3
     ·have h13':([13,2,3]:List Int).contains y.kind=true:=by simpa using h13
      simp only [fmtE,opk,hc,h13',Bool.false_or,if_true]
      rw [if_neg (by decide),if_neg (by decide),if_neg (by decide),if_neg (by decide),if_pos h13]
      rfl
     ·have h13':([13,2,3]:List Int).contains y.kind=false:=by
       rw [← Bool.not_eq_true,List.contains_iff_mem]
       simpa using h13
      simp only [fmtE,opk,hc,h13',Bool.false_or]
      rw [if_neg (by decide),if_neg (by decide),if_neg (by decide),if_neg (by decide),if_neg h13]
      rfl
   rw [e] at hl ⊢
   exact zb8 ih F (n+1) _ y o a ln s g off _ c B p dp l W k1 o1 a1 l1 s1 A1 m1 c1 hx hF hw xs hr hy (fun z hz=>h7 z (by simp [hz])) (h7 y (by simp)) rfl h1 _ rfl hl
theorem z8B:∀ n,PrC n
 | 0=>fun _ _ _ _ _ _ _ _ _ _ hs=>hs.elim
 | n+1=>z8A (z8B n)
set_option maxRecDepth 100000 in
set_option maxHeartbeats 2000000 in
theorem z3b (F:Nat→Prop) (n:Nat) (x:Ex) (k o a ln:Int) (s:ByteArray) (A:Option Addr) (m c:Nat) (W:World) (hx:ExV F W n x (.agg #[.int .i64 k,.int .i64 o,.int .i64 a,.int .i64 ln,.string s,.slice A m c])) (hF:∀ q,F q→q<W.heap.size) (hs:ShP n x) (ht:PowT W) (hg:0<W.heap.size) (hl:(fmtE n x).length≤1099511627776) (hne:fmtE n x≠[]) :
  Calls Tryz.prog 11 #[.agg #[.int .i64 k,.int .i64 o,.int .i64 a,.int .i64 ln,.string s,.slice A m c]] W (z0L (fmtE n x) W):=by
 obtain ⟨R,hR⟩:∃ R:Array Value,R=#[.int .i64 k,.int .i64 o,.int .i64 a,.int .i64 ln,.string s,.slice A m c]:=⟨_,rfl⟩
 have hb0:=(Below.refl _ W).alloc (Nat.le_refl _) (.cells R 37)
 have hb1:=hb0.alloc (by simp) (.cells #[.pointer none,.slice none 0 0,.int .i64 0] 69)
 have hsz:((W.alloc (.cells R 37)).alloc (.cells #[.pointer none,.slice none 0 0,.int .i64 0] 69)).heap.size=W.heap.size+1+1:=by simp
 have hr0:((W.alloc (.cells R 37)).alloc (.cells #[.pointer none,.slice none 0 0,.int .i64 0] 69)).heap[W.heap.size]?=some (.cells R 37 (0,0)) :=
  (((Below.refl _ (W.alloc (.cells R 37))).alloc (Nat.le_refl _) _).block W.heap.size (by simp)).trans (heap_alloc_new W _)
 have hr1:((W.alloc (.cells R 37)).alloc (.cells #[.pointer none,.slice none 0 0,.int .i64 0] 69)).heap[W.heap.size+1]?=some (.cells #[.pointer none,.slice none 0 0,.int .i64 0] 69 (0,0)):=by
  have:=heap_alloc_new (W.alloc (.cells R 37)) (.cells #[.pointer none,.slice none 0 0,.int .i64 0] 69)
  simpa using this
 have hw:Wri (W.heap.size+1) (W.heap.size+1) 0 [] ((W.alloc (.cells R 37)).alloc (.cells #[.pointer none,.slice none 0 0,.int .i64 0] 69)):=⟨.inl ⟨Nat.le_refl _,_,hr1,World.ownsRow_nil _ _ _ _⟩,ht.next (hb1.mono (Nat.le_refl _)) hg,by omega⟩
 have hx1:=hx.keep (G:=F) (fun _ h=>h) (fun q hq=>hb1.block q (hF q hq))
 have HX:=zhi (z8B n F x _ (W.heap.size+1) (W.heap.size+1) 0 [] _ hx1 (fun q hq=>Nat.lt_succ_of_lt (hF q hq)) hs hw (by simpa using hl))
 subst hR
 obtain ⟨j0,j1,j2,j3,j4,j5⟩:=cl6 hr0
 have HB:=zhi hb1
 have HNE:=zhi hne
 clear hb0 hb1 hr0 hr1 hw hx1 hx hF hs ht hl hsz hne hg
 go_enter Tryz.func11,Tryz.ntmps11
 go_wp2_with fail
 refine HX.out.mono ?_
 rintro e w1 ⟨rfl,hw1,hk1⟩
 have HT:=zhi (zag _ _ _ (fmtE n x) w1 hw1.out.wr HNE.out)
 have hlt:=hw1.out.wr.lt
 clear HX j0 j1 j2 j3 j4 j5
 go_wp2_with fail
 refine HT.out.mono ?_
 rintro e w2 ⟨rfl,hb2⟩
 have HB2:=zhi (HB.out.trans ((hk1.out.bel.trans hb2).mono (Nat.le_succ _)))
 clear hb2 HT
 go_wp2_with fail
 go_ret
 exact z0x (by simp) HB2.out
end Go.Proofs.YtkeihncfmbicnaaGreatDoor
