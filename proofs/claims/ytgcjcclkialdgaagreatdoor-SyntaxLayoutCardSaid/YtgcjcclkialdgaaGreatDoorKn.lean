/-
  Kn: EqN. Walks and laws that the statement's proof is made of. No condition of its own.
-/
import Derived.Test.YtgcjcclkialdgaaGreatDoorKl
import Derived.Test.YtgcjcclkialdgaaGreatDoorKm
import Derived.Test.YtgcjcclkialdgaaGreatDoorKma
namespace Go.Proofs.YtgcjcclkialdgaaGreatDoor
open Go.RowKit
theorem z9T {F:Nat→Prop} {w:World} {D d k:Nat} {xs:List St} {A:Option Addr} {c:Nat} {x:St} (h:RowS F w D (d+1) xs A c) (hx:xs[k]?=some x):∃ g off kk ll ss es ts us eA ec tA tc uA uc,A=some ⟨g,off,none⟩∧x=.mk kk ll ss es ts us∧w.cell? ⟨g,off+k * 6,none⟩=some (.int .i64 kk)∧w.cell? ⟨g,off+k * 6+1,none⟩=some (.int .i64 ll)∧w.cell? ⟨g,off+k * 6+2,none⟩=some (.string ss)∧w.cell? ⟨g,off+k * 6+3,none⟩=some (.slice eA es.length ec)∧w.cell? ⟨g,off+k * 6+4,none⟩=some (.slice tA ts.length tc)∧w.cell? ⟨g,off+k * 6+5,none⟩=some (.slice uA us.length uc)∧RowE F w D es eA ec∧RowS F w D d ts tA tc∧RowS F w D d us uA uc:=by
 obtain ⟨g,off,c0,c1,c2,c3,c4,c5,hA,_,h0,h1,h2,h3,h4,h5,hv⟩:=h.2 k x hx
 match x,hv with
 | .mk kk ll ss es ts us,⟨eA,ec,tA,tc,uA,uc,hv,hr,ht,hu⟩ =>
  injection hv with hv
  injection hv with hv
  injection hv with e0 hv
  injection hv with e1 hv
  injection hv with e2 hv
  injection hv with e3 hv
  injection hv with e4 hv
  injection hv with e5 _
  subst e0 e1 e2 e3 e4 e5
  exact ⟨g,off,kk,ll,ss,es,ts,us,eA,ec,tA,tc,uA,uc,hA,rfl,h0,h1,h2,h3,h4,h5,hr,ht,hu⟩
theorem z9S {xs ys:List Ex} (h:rlL xs=rlL ys):xs.length=ys.length:=by simpa [z5u] using congrArg List.length h
theorem z7w {xs ys:List St} (h:LkM xs ys):xs.length=ys.length:=by simpa [z5v] using congrArg List.length (show rlM xs=rlM ys from h)
theorem zeU {xs ys:List St} (h:LkM xs ys) {k:Nat} {x:St} (hx:xs[k]?=some x):∃ y,ys[k]?=some y∧LkT x y:=by
 have e:=congrArg (fun l:List St=>l[k]?) (show rlM xs=rlM ys from h)
 simp only [z5v,List.getElem?_map,hx,Option.map_some] at e
 cases hy:ys[k]? with
 | none=>rw [hy] at e; cases e
 | some y =>
  rw [hy] at e
  injection e with e
  exact ⟨y,rfl,e⟩
theorem zeM {xs ys:List Fn} (h:xs.map rlF=ys.map rlF) {k:Nat} {x:Fn} (hx:xs[k]?=some x):∃ y,ys[k]?=some y∧rlF x=rlF y:=by
 have e:=congrArg (fun l:List Fn=>l[k]?) h
 simp only [List.getElem?_map,hx,Option.map_some] at e
 cases hy:ys[k]? with
 | none=>rw [hy] at e; cases e
 | some y =>
  rw [hy] at e
  injection e with e
  exact ⟨y,rfl,e⟩
theorem zdC:∀ (D:Nat) (xs ys:List Ex),rlL xs=rlL ys→eqX false D xs ys=true:=by
 intro D
 induction D with
 | zero=>intro xs ys h; simp [eqX,z9S h]
 | succ D ih =>
  intro xs ys h
  refine z8Y (z9S h) (fun j x y hx hy=>?_)
  have e:=congrArg (fun l:List Ex=>l[j]?) h
  simp only [z5u,List.getElem?_map,hx,hy,Option.map_some,Option.some.injEq] at e
  cases x
  cases y
  simp only [rlX,Ex.mk.injEq] at e
  obtain ⟨rfl,rfl,rfl,_,rfl,e⟩:=e
  simp [eq1,ih _ _ e]
set_option maxRecDepth 100000 in
set_option maxHeartbeats 40000000 in
theorem zbu (D:Nat):∀ (d:Nat) (xs ys:List St) (A B:Option Addr) (c c2 n:Nat) (F G:Nat→Prop) (w:World),xs.length=n→LkM xs ys→RowS F w D d xs A c→RowS G w D d ys B c2→LenS d xs→LenS d ys →
  Calls Tryz.prog 27 #[.slice A n c,.slice B n c2,.bool false] w (RetQ true w):=by
 intro d
 induction d with
 | zero =>
  intro xs ys A B c c2 n F G w hn hrl hx hy lx ly
  have hx0:xs=[]:=by
   cases xs with
   | nil=>rfl
   | cons x r =>
    obtain ⟨_,_,_,_,_,_,_,_,_,_,_,_,_,_,_,_,hv⟩:=hx.2 0 x rfl
    exact hv.elim
  subst hx0
  simp only [List.length_nil] at hn
  subst hn
  clear hx hy lx ly hrl
  go_enter Tryz.func27,Tryz.ntmps27
  go_wp2_with fail
  go_loop [7] (fun i=>i=.int .i64 0) (fun _=>0)
  case atStart=>rfl
  case round =>
   subst hrel
   go_wp2_with fail
   go_ret
   exact ⟨rfl,0,rfl⟩
 | succ d ih =>
  intro xs ys A B c c2 n F G w hn hrl hx hy lx ly
  have Ih:=zhi ih
  have Hx:=zhi hx
  have Hy:=zhi hy
  have Lx:=zhi lx
  have Hn:=zhi hn
  have Ly:=zhi ly
  have Hrl:=zhi hrl
  have hyl:=z7w hrl
  have hcx:n≤c:=by rw [← hn]; exact hx.1
  have hcy:n≤c2:=by rw [← hn,hyl]; exact hy.1
  have hnb:n≤1000000:=by rw [← hn]; exact lx.le
  clear ih hx hy lx ly hn hrl hyl
  go_enter Tryz.func27,Tryz.ntmps27
  go_wp2_with fail
  go_loopw [7] (fun i wr=>∃ (k q:Nat),k≤n∧i=.int .i64 (k:Int)∧wr=w.drewN q) (fun i _=>n - (intOf i).toNat)
  case atStart=>exact ⟨0,0,Nat.zero_le _,rfl,rfl⟩
  case round =>
   obtain ⟨k,q,hk,rfl,rfl⟩:=hrel
   by_cases hlt:k<n
   ·obtain ⟨x,hx⟩:∃ x,xs[k]?=some x:=⟨xs[k]'(by rw [Hn.out]; exact hlt),List.getElem?_eq_getElem _⟩
    obtain ⟨g,off,k1,l1,s1,es,ts,us,eA,ec,tA,tc,uA,uc,rfl,rfl,p0,p1,p2,p3,p4,p5,r1,r2,r3⟩:=z9T Hx.out hx
    obtain ⟨y,hy,hxy⟩:=zeU Hrl.out hx
    obtain ⟨g2,off2,k2,l2,s2,es2,ts2,us2,eB,ec2,tB,tc2,uB,uc2,rfl,rfl,q0,q1,q2,q3,q4,q5,t1,t2,t3⟩:=z9T Hy.out hy
    unfold LkT at hxy
    simp only [rlS,St.mk.injEq] at hxy
    obtain ⟨rfl,_,rfl,hes,hts,hus⟩:=hxy
    obtain ⟨n1,n2,n3⟩:=Ly.out.2 _ (List.mem_of_getElem? hy)
    have hel:es2.length=es.length:=(z9S hes).symm
    have htl:ts2.length=ts.length:=(z7w hts).symm
    have hul:us2.length=us.length:=(z7w hus).symm
    rw [hel] at q3
    rw [htl] at q4
    rw [hul] at q5
    obtain ⟨m1,m2,m3⟩:=Lx.out.2 _ (List.mem_of_getElem? hx)
    have HC:=zhi (fun nq=>z5T false D es es2 eA eB ec ec2 _ _ _ _ (w.drewN nq) rfl hel (r1.keep (w:=w) (w':=w.drewN nq) (fun _ h=>h) (fun _ _=>rfl)) (t1.keep (w:=w) (w':=w.drewN nq) (fun _ h=>h) (fun _ _=>rfl)) (m1 D) (n1 D))
    have HD:=zhi (fun nq=>z5T false D es es2 eA eB ec ec2 _ _ _ _ ((w.drewN q).drewN nq) rfl hel (r1.keep (w:=w) (w':=(w.drewN q).drewN nq) (fun _ h=>h) (fun _ _=>rfl)) (t1.keep (w:=w) (w':=(w.drewN q).drewN nq) (fun _ h=>h) (fun _ _=>rfl)) (m1 D) (n1 D))
    rw [zdC D es es2 hes] at HC HD
    have HT:=zhi (fun nq=>Ih.out ts ts2 tA tB tc tc2 _ _ _ (w.drewN nq) rfl hts (RowS.keep (w:=w) (w':=w.drewN nq) (fun _ h=>h) (fun _ _=>rfl) r2) (RowS.keep (w:=w) (w':=w.drewN nq) (fun _ h=>h) (fun _ _=>rfl) t2) m2 n2)
    have HT2:=zhi (fun nq=>Ih.out ts ts2 tA tB tc tc2 _ _ _ ((w.drewN q).drewN nq) rfl hts (RowS.keep (w:=w) (w':=(w.drewN q).drewN nq) (fun _ h=>h) (fun _ _=>rfl) r2) (RowS.keep (w:=w) (w':=(w.drewN q).drewN nq) (fun _ h=>h) (fun _ _=>rfl) t2) m2 n2)
    have HU:=zhi (fun nq=>Ih.out us us2 uA uB uc uc2 _ _ _ (w.drewN nq) rfl hus (RowS.keep (w:=w) (w':=w.drewN nq) (fun _ h=>h) (fun _ _=>rfl) r3) (RowS.keep (w:=w) (w':=w.drewN nq) (fun _ h=>h) (fun _ _=>rfl) t3) m3 n3)
    have HU2:=zhi (fun nq=>Ih.out us us2 uA uB uc uc2 _ _ _ ((w.drewN q).drewN nq) rfl hus (RowS.keep (w:=w) (w':=(w.drewN q).drewN nq) (fun _ h=>h) (fun _ _=>rfl) r3) (RowS.keep (w:=w) (w':=(w.drewN q).drewN nq) (fun _ h=>h) (fun _ _=>rfl) t3) m3 n3)
    clear hx hy r1 r2 r3 t1 t2 t3 m1 m2 m3 n1 n2 n3 hes hts hus hel htl hul Hx Hy Lx Ly Ih Hrl
    go_upto_region 6 with fail
    simp only [List.append]
    go_quiet ((first | (go_at_call 48; first | with_reducible exact z35 (HC.out _) | with_reducible exact Calls.quiet_of (HD.out _)) | (go_at_call 27; first | with_reducible exact z35 (HT.out _) | with_reducible exact Calls.quiet_of (HT2.out _) | with_reducible exact z35 (HU.out _) | with_reducible exact Calls.quiet_of (HU2.out _))))
    go_wp2_with fail
    first | exact ⟨⟨k+1,_,by omega,by go_num,World.drewN_drewN _ _ _⟩,by simp [intOf]; omega⟩ | exact ⟨⟨k+1,_,by omega,by go_num,rfl⟩,by simp [intOf]; omega⟩
   ·obtain rfl:k=n:=by omega
    go_wp2_with fail
    go_ret
    first | exact ⟨rfl,_,World.drewN_drewN _ _ _⟩ | exact ⟨rfl,_,rfl⟩
end Go.Proofs.YtgcjcclkialdgaaGreatDoor
