/-
  Km: PsSame. Walks and laws that the statement's proof is made of. No condition of its own.
-/
import Derived.Test.YtgcjcclkialdgaaGreatDoorKi
namespace Go.Proofs.YtgcjcclkialdgaaGreatDoor
open Go.RowKit
set_option maxRecDepth 100000 in
set_option maxHeartbeats 40000000 in
theorem z5T (ln:Bool) (D:Nat):∀ (xs ys:List Ex) (A B:Option Addr) (c c2 n m:Nat) (F G:Nat→Prop) (w:World),xs.length=n→ys.length=m→RowE F w D xs A c→RowE G w D ys B c2→z49 D xs→z49 D ys →
  Calls Tryz.prog 48 #[.slice A n c,.slice B m c2,.bool ln] w (RetQ (eqX ln D xs ys) w):=by
 induction D with
 | zero =>
  intro xs ys A B c c2 n m F G w hn hm hx hy lx ly
  have hx0:xs=[]:=by
   cases xs with
   | nil=>rfl
   | cons x r =>
    obtain ⟨_,_,_,_,_,_,_,_,_,_,_,_,_,_,_,_,hv⟩:=hx.2 0 x rfl
    exact hv.elim
  have hy0:ys=[]:=by
   cases ys with
   | nil=>rfl
   | cons x r =>
    obtain ⟨_,_,_,_,_,_,_,_,_,_,_,_,_,_,_,_,hv⟩:=hy.2 0 x rfl
    exact hv.elim
  subst hx0 hy0
  simp only [List.length_nil] at hn hm
  subst hn hm
  clear hx hy lx ly
  go_enter Tryz.func48,Tryz.ntmps48
  go_wp2_with fail
  go_loop [7] (fun i=>i=.int .i64 0) (fun _=>0)
  case atStart=>rfl
  case round =>
   subst hrel
   go_wp2_with fail
   go_ret
   exact ⟨rfl,0,rfl⟩
 | succ D ih =>
  intro xs ys A B c c2 n m F G w hn hm hx hy lx ly
  have Ih:=zhi ih
  have Hx:=zhi hx
  have Hy:=zhi hy
  have Lx:=zhi lx
  have Ly:=zhi ly
  have Hn:=zhi hn
  have Hm:=zhi hm
  have hcx:n≤c:=by rw [← hn]; exact hx.1
  have hcy:m≤c2:=by rw [← hm]; exact hy.1
  have hnb:n≤1000000:=by rw [← hn]; exact lx.le
  obtain ⟨b,hb⟩:∃ b,eqX ln (D+1) xs ys=b:=⟨_,rfl⟩
  rw [hb]
  have HB:=zhi hb
  clear ih hx hy lx ly hn hm hb
  by_cases hnm:n=m
  ·subst hnm
   go_enter Tryz.func48,Tryz.ntmps48
   go_wp2_with fail
   go_loopw [7] (fun i wr=>∃ (k q:Nat),k≤n∧i=.int .i64 (k:Int)∧wr=w.drewN q∧Hid (∀ (j:Nat) (x y:Ex),j<k→xs[j]?=some x→ys[j]?=some y→eq1 ln (eqX ln D) x y=true)) (fun i _=>n - (intOf i).toNat)
   case atStart=>exact ⟨0,0,Nat.zero_le _,rfl,rfl,zhi (fun j x y hj=>by omega)⟩
   case round =>
    obtain ⟨k,q,hk,rfl,rfl,H⟩:=hrel
    by_cases hlt:k<n
    ·obtain ⟨x,hx⟩:∃ x,xs[k]?=some x:=⟨xs[k]'(by rw [Hn.out]; exact hlt),List.getElem?_eq_getElem _⟩
     obtain ⟨y,hy⟩:∃ x,ys[k]?=some x:=⟨ys[k]'(by rw [Hm.out]; exact hlt),List.getElem?_eq_getElem _⟩
     obtain ⟨g,off,k1,o1,a1,l1,s1,as1,A1,d1,rfl,rfl,p0,p1,p2,p3,p4,p5,r1⟩:=z6F Hx.out hx
     obtain ⟨g2,off2,k2,o2,a2,l2,s2,as2,A2,d2,rfl,rfl,q0,q1,q2,q3,q4,q5,r2⟩:=z6F Hy.out hy
     have lx1:=Lx.out.2 _ (List.mem_of_getElem? hx)
     have ly1:=Ly.out.2 _ (List.mem_of_getElem? hy)
     have HC:=zhi (fun nq=>Ih.out as1 as2 A1 A2 d1 d2 _ _ _ _ (w.drewN nq) rfl rfl (r1.keep (w:=w) (w':=w.drewN nq) (fun _ h=>h) (fun _ _=>rfl)) (r2.keep (w:=w) (w':=w.drewN nq) (fun _ h=>h) (fun _ _=>rfl)) lx1 ly1)
     have HD:=zhi (fun nq=>Ih.out as1 as2 A1 A2 d1 d2 _ _ _ _ ((w.drewN q).drewN nq) rfl rfl (r1.keep (w:=w) (w':=(w.drewN q).drewN nq) (fun _ h=>h) (fun _ _=>rfl)) (r2.keep (w:=w) (w':=(w.drewN q).drewN nq) (fun _ h=>h) (fun _ _=>rfl)) lx1 ly1)
     have HNO:Hid (eq1 ln (eqX ln D) (.mk k1 o1 a1 l1 s1 as1) (.mk k2 o2 a2 l2 s2 as2)=false→b=false):=zhi (fun h=>by rw [← HB.out]; exact zdB hx hy h)
     have HYES:Hid (eq1 ln (eqX ln D) (.mk k1 o1 a1 l1 s1 as1) (.mk k2 o2 a2 l2 s2 as2)=true→∀ (j:Nat) (x y:Ex),j<k+1→xs[j]?=some x→ys[j]?=some y→eq1 ln (eqX ln D) x y=true):=zhi (fun h j x y hj h1 h2=>by
      rcases Nat.lt_or_ge j k with hlt | hge
      ·exact H.out j x y hlt h1 h2
      ·obtain rfl:j=k:=by omega
       rw [hx] at h1
       rw [hy] at h2
       injection h1 with h1
       injection h2 with h2
       rw [← h1,← h2]
       exact h)
     clear hx hy r1 r2 lx1 ly1 H
     by_cases e0:k1=k2
     ·subst e0
      by_cases e1:o1=o2
      ·subst e1
       by_cases e2:a1=a2
       ·subst e2
        by_cases e3:s1.data.toList=s2.data.toList
        ·obtain rfl:=zch e3
         clear e3
         by_cases e4:(ln=true→l1=l2)
         ·have HE:Hid (∀ r,eqX ln D as1 as2=r→eq1 ln (eqX ln D) (.mk k1 o1 a1 l1 s1 as1) (.mk k1 o1 a1 l2 s1 as2)=r):=zhi (fun r hr=>by
           cases ln with
           | true=>simp [eq1,e4,hr]
           | false=>simp [eq1,hr])
          have HLN:Hid (ln=true→l1=l2):=zhi e4
          clear e4
          obtain ⟨r,hr⟩:∃ r,eqX ln D as1 as2=r:=⟨_,rfl⟩
          have he:=HE.out r hr
          rw [hr] at HC HD
          clear HE hr
          cases r with
          | true =>
           have H2:=zhi (HYES.out he)
           clear HNO HYES he
           cases ln with
           | true =>
            obtain rfl:=HLN.out rfl
            clear HLN
            go_upto_region 6 with fail
            simp only [List.append]
            go_quiet ((go_at_call 48; first | with_reducible exact z35 (HC.out _) | with_reducible exact Calls.quiet_of (HD.out _)))
            go_wp2_with fail
            first | exact ⟨⟨k+1,_,by omega,by go_num,World.drewN_drewN _ _ _,H2⟩,by simp [intOf]; omega⟩ | exact ⟨⟨k+1,_,by omega,by go_num,rfl,H2⟩,by simp [intOf]; omega⟩
           | false =>
            clear HLN
            go_upto_region 6 with fail
            simp only [List.append]
            go_quiet ((go_at_call 48; first | with_reducible exact z35 (HC.out _) | with_reducible exact Calls.quiet_of (HD.out _)))
            go_wp2_with fail
            first | exact ⟨⟨k+1,_,by omega,by go_num,World.drewN_drewN _ _ _,H2⟩,by simp [intOf]; omega⟩ | exact ⟨⟨k+1,_,by omega,by go_num,rfl,H2⟩,by simp [intOf]; omega⟩
          | false =>
           have hbf:b=false:=HNO.out he
           subst hbf
           clear HNO HYES he HB
           cases ln with
           | true =>
            obtain rfl:=HLN.out rfl
            clear HLN
            go_upto_region 6 with fail
            simp only [List.append]
            go_quiet ((go_at_call 48; first | with_reducible exact z35 (HC.out _) | with_reducible exact Calls.quiet_of (HD.out _)))
            go_wp2_with fail
            go_ret
            first | exact ⟨rfl,_,World.drewN_drewN _ _ _⟩ | exact ⟨rfl,_,rfl⟩
           | false =>
            clear HLN
            go_upto_region 6 with fail
            simp only [List.append]
            go_quiet ((go_at_call 48; first | with_reducible exact z35 (HC.out _) | with_reducible exact Calls.quiet_of (HD.out _)))
            go_wp2_with fail
            go_ret
            first | exact ⟨rfl,_,World.drewN_drewN _ _ _⟩ | exact ⟨rfl,_,rfl⟩
         ·obtain ⟨hl,hne⟩:ln=true∧¬ l1=l2:=by
           cases ln with
           | true=>exact ⟨rfl,fun h=>e4 (fun _=>h)⟩
           | false=>exact absurd (fun h=>by cases h) e4
          subst hl
          have hbf:b=false:=HNO.out (by simp [eq1,hne])
          subst hbf
          have hne2:(l1 != l2)=true:=by simpa using hne
          clear e4 hne HNO HYES HC HD HB
          go_upto_region 6 with fail
          simp only [List.append]
          go_quiet (fail)
          go_wp2_with fail
          go_ret
          first | exact ⟨rfl,_,World.drewN_drewN _ _ _⟩ | exact ⟨rfl,_,rfl⟩
        ·have hbf:b=false:=HNO.out (by simp [eq1,e3])
         subst hbf
         have hne2:(s1.toList != s2.toList)=true:=by rw [bne,z8P e3]; rfl
         have hne3:=z8P e3
         clear e3 HNO HYES HC HD HB
         go_upto_region 6 with fail
         simp only [List.append]
         go_quiet (fail)
         go_wp2_with fail
         go_ret
         first | exact ⟨rfl,_,World.drewN_drewN _ _ _⟩ | exact ⟨rfl,_,rfl⟩
       ·have hbf:b=false:=HNO.out (by simp [eq1,e2])
        subst hbf
        have hne2:(a1 != a2)=true:=by simpa using e2
        clear e2 HNO HYES HC HD HB
        go_upto_region 6 with fail
        simp only [List.append]
        go_quiet (fail)
        go_wp2_with fail
        go_ret
        first | exact ⟨rfl,_,World.drewN_drewN _ _ _⟩ | exact ⟨rfl,_,rfl⟩
      ·have hbf:b=false:=HNO.out (by simp [eq1,e1])
       subst hbf
       have hne2:(o1 != o2)=true:=by simpa using e1
       clear e1 HNO HYES HC HD HB
       go_upto_region 6 with fail
       simp only [List.append]
       go_quiet (fail)
       go_wp2_with fail
       go_ret
       first | exact ⟨rfl,_,World.drewN_drewN _ _ _⟩ | exact ⟨rfl,_,rfl⟩
     ·have hbf:b=false:=HNO.out (by simp [eq1,e0])
      subst hbf
      have hne2:(k1 != k2)=true:=by simpa using e0
      clear e0 HNO HYES HC HD HB
      go_upto_region 6 with fail
      simp only [List.append]
      go_quiet (fail)
      go_wp2_with fail
      go_ret
      first | exact ⟨rfl,_,World.drewN_drewN _ _ _⟩ | exact ⟨rfl,_,rfl⟩
    ·obtain rfl:k=n:=by omega
     have hbt:b=true:=by
      rw [← HB.out]
      exact z8Y (by rw [Hn.out,Hm.out]) (fun j x y h1 h2=>H.out j x y (by
       have:=Hn.out
       have:=(List.getElem?_eq_some_iff.1 h1).1
       omega) h1 h2)
     subst hbt
     clear H HB
     go_wp2_with fail
     go_ret
     first | exact ⟨rfl,_,World.drewN_drewN _ _ _⟩ | exact ⟨rfl,_,rfl⟩
  ·have hbf:b=false:=by rw [← HB.out]; exact z8X (by rw [Hn.out,Hm.out]; exact hnm)
   subst hbf
   have hne:((n:Int) != (m:Int))=true:=by rw [bne,zaU]; simpa using hnm
   clear HB
   go_enter Tryz.func48,Tryz.ntmps48
   go_wp2_with fail
   go_ret
   exact ⟨rfl,0,rfl⟩
end Go.Proofs.YtgcjcclkialdgaaGreatDoor
