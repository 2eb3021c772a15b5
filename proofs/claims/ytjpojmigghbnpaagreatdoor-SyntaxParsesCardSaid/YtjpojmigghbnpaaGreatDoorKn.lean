/-
  Kn: PyEq. Walks and laws that the statement's proof is made of. No condition of its own.
-/
import Derived.Test.YtjpojmigghbnpaaGreatDoorKl
import Derived.Test.YtjpojmigghbnpaaGreatDoorKm
namespace Go.Proofs.YtjpojmigghbnpaaGreatDoor
open Go.RowKit
theorem zca (ln:Bool):∀ (D:Nat) (xs:List Ex),eqX ln D xs xs=true:=by
 intro D
 induction D with
 | zero=>intro xs; simp [eqX]
 | succ D ih =>
  intro xs
  refine zar rfl (fun j x y hx hy=>?_)
  rw [hx] at hy
  injection hy with hy
  subst hy
  cases x
  simp [eq1,ih]
theorem zbo {F:Nat→Prop} {w:World} {D d k:Nat} {xs:List St} {A:Option Addr} {c:Nat} {x:St} (h:RowS F w D (d+1) xs A c) (hx:xs[k]?=some x):∃ g off kk ll ss es ts us eA ec tA tc uA uc,A=some ⟨g,off,none⟩∧x=.mk kk ll ss es ts us∧w.cell? ⟨g,off+k * 6,none⟩=some (.int .i64 kk)∧w.cell? ⟨g,off+k * 6+1,none⟩=some (.int .i64 ll)∧w.cell? ⟨g,off+k * 6+2,none⟩=some (.string ss)∧w.cell? ⟨g,off+k * 6+3,none⟩=some (.slice eA es.length ec)∧w.cell? ⟨g,off+k * 6+4,none⟩=some (.slice tA ts.length tc)∧w.cell? ⟨g,off+k * 6+5,none⟩=some (.slice uA us.length uc)∧RowE F w D es eA ec∧RowS F w D d ts tA tc∧RowS F w D d us uA uc:=by
 obtain ⟨g,off,c0,c1,c2,c3,c4,c5,hA,_,h0,h1,h2,h3,h4,h5,hv⟩:=h.2 k x hx
 match x,hv with
 | .mk kk ll ss es ts us,⟨eA,ec,tA,tc,uA,uc,hv,hr,ht,hu⟩ =>
  injection hv with hv
  injection hv with hv
  injection hv with e0 hv
  injection hv with e1 hv
  injection hv with e2 hv
  injection hv with e3 hv
  injection hv with e4 hv
  injection hv with e5 _
  subst e0 e1 e2 e3 e4 e5
  exact ⟨g,off,kk,ll,ss,es,ts,us,eA,ec,tA,tc,uA,uc,hA,rfl,h0,h1,h2,h3,h4,h5,hr,ht,hu⟩
set_option maxRecDepth 100000 in
set_option maxHeartbeats 40000000 in
theorem z9S (D:Nat):∀ (d:Nat) (xs:List St) (A B:Option Addr) (c c2 n:Nat) (F G:Nat→Prop) (w:World),xs.length=n→RowS F w D d xs A c→RowS G w D d xs B c2→LenS d xs →
  Calls Tryz.prog 22 #[.slice A n c,.slice B n c2,.bool true] w (RetQ true w):=by
 intro d
 induction d with
 | zero =>
  intro xs A B c c2 n F G w hn hx hy lx
  have hx0:xs=[]:=by
   cases xs with
   | nil=>rfl
   | cons x r =>
    obtain ⟨_,_,_,_,_,_,_,_,_,_,_,_,_,_,_,_,hv⟩:=hx.2 0 x rfl
    exact hv.elim
  subst hx0
  simp only [List.length_nil] at hn
  subst hn
  clear hx hy lx
  go_enter Tryz.func22,Tryz.ntmps22
  go_wp2_with fail
  go_loop [7] (fun i=>i=.int .i64 0) (fun _=>0)
  case atStart=>rfl
  case round =>
   subst hrel
   go_wp2_with fail
   go_ret
   exact ⟨rfl,0,rfl⟩
 | succ d ih =>
  intro xs A B c c2 n F G w hn hx hy lx
  have Ih:=zhi ih
  have Hx:=zhi hx
  have Hy:=zhi hy
  have Lx:=zhi lx
  have Hn:=zhi hn
  have hcx:n≤c:=by rw [← hn]; exact hx.1
  have hcy:n≤c2:=by rw [← hn]; exact hy.1
  have hnb:n≤1000000:=by rw [← hn]; exact lx.le
  clear ih hx hy lx hn
  go_enter Tryz.func22,Tryz.ntmps22
  go_wp2_with fail
  go_loopw [7] (fun i wr=>∃ (k q:Nat),k≤n∧i=.int .i64 (k:Int)∧wr=w.drewN q) (fun i _=>n - (intOf i).toNat)
  case atStart=>exact ⟨0,0,Nat.zero_le _,rfl,rfl⟩
  case round =>
   obtain ⟨k,q,hk,rfl,rfl⟩:=hrel
   by_cases hlt:k<n
   ·obtain ⟨x,hx⟩:∃ x,xs[k]?=some x:=⟨xs[k]'(by rw [Hn.out]; exact hlt),List.getElem?_eq_getElem _⟩
    obtain ⟨g,off,k1,l1,s1,es,ts,us,eA,ec,tA,tc,uA,uc,rfl,rfl,p0,p1,p2,p3,p4,p5,r1,r2,r3⟩:=zbo Hx.out hx
    obtain ⟨g2,off2,k2,l2,s2,es2,ts2,us2,eB,ec2,tB,tc2,uB,uc2,rfl,hxx,q0,q1,q2,q3,q4,q5,t1,t2,t3⟩:=zbo Hy.out hx
    injection hxx with e1 e2 e3 e4 e5 e6
    subst e1 e2 e3 e4 e5 e6
    obtain ⟨m1,m2,m3⟩:=Lx.out.2 _ (List.mem_of_getElem? hx)
    have HC:=zhi (fun nq=>z6X true D es es eA eB ec ec2 _ _ _ _ (w.drewN nq) rfl rfl (r1.keep (w:=w) (w':=w.drewN nq) (fun _ h=>h) (fun _ _=>rfl)) (t1.keep (w:=w) (w':=w.drewN nq) (fun _ h=>h) (fun _ _=>rfl)) (m1 D) (m1 D))
    have HD:=zhi (fun nq=>z6X true D es es eA eB ec ec2 _ _ _ _ ((w.drewN q).drewN nq) rfl rfl (r1.keep (w:=w) (w':=(w.drewN q).drewN nq) (fun _ h=>h) (fun _ _=>rfl)) (t1.keep (w:=w) (w':=(w.drewN q).drewN nq) (fun _ h=>h) (fun _ _=>rfl)) (m1 D) (m1 D))
    rw [zca] at HC HD
    have HT:=zhi (fun nq=>Ih.out ts tA tB tc tc2 _ _ _ (w.drewN nq) rfl (RowS.keep (w:=w) (w':=w.drewN nq) (fun _ h=>h) (fun _ _=>rfl) r2) (RowS.keep (w:=w) (w':=w.drewN nq) (fun _ h=>h) (fun _ _=>rfl) t2) m2)
    have HT2:=zhi (fun nq=>Ih.out ts tA tB tc tc2 _ _ _ ((w.drewN q).drewN nq) rfl (RowS.keep (w:=w) (w':=(w.drewN q).drewN nq) (fun _ h=>h) (fun _ _=>rfl) r2) (RowS.keep (w:=w) (w':=(w.drewN q).drewN nq) (fun _ h=>h) (fun _ _=>rfl) t2) m2)
    have HU:=zhi (fun nq=>Ih.out us uA uB uc uc2 _ _ _ (w.drewN nq) rfl (RowS.keep (w:=w) (w':=w.drewN nq) (fun _ h=>h) (fun _ _=>rfl) r3) (RowS.keep (w:=w) (w':=w.drewN nq) (fun _ h=>h) (fun _ _=>rfl) t3) m3)
    have HU2:=zhi (fun nq=>Ih.out us uA uB uc uc2 _ _ _ ((w.drewN q).drewN nq) rfl (RowS.keep (w:=w) (w':=(w.drewN q).drewN nq) (fun _ h=>h) (fun _ _=>rfl) r3) (RowS.keep (w:=w) (w':=(w.drewN q).drewN nq) (fun _ h=>h) (fun _ _=>rfl) t3) m3)
    clear hx r1 r2 r3 t1 t2 t3 m1 m2 m3 Hx Hy Lx Ih
    go_upto_region 6 with fail
    simp only [List.append]
    go_quiet ((first | (go_at_call 40; first | with_reducible exact z3N (HC.out _) | with_reducible exact Calls.quiet_of (HD.out _)) | (go_at_call 22; first | with_reducible exact z3N (HT.out _) | with_reducible exact Calls.quiet_of (HT2.out _) | with_reducible exact z3N (HU.out _) | with_reducible exact Calls.quiet_of (HU2.out _))))
    go_wp2_with fail
    first | exact ⟨⟨k+1,_,by omega,by go_num,World.drewN_drewN _ _ _⟩,by simp [intOf]; omega⟩ | exact ⟨⟨k+1,_,by omega,by go_num,rfl⟩,by simp [intOf]; omega⟩
   ·obtain rfl:k=n:=by omega
    go_wp2_with fail
    go_ret
    first | exact ⟨rfl,_,World.drewN_drewN _ _ _⟩ | exact ⟨rfl,_,rfl⟩
end Go.Proofs.YtjpojmigghbnpaaGreatDoor
