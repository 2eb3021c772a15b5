/-
  Kxa: LayW, LkS, LkU, LkC. Walks and laws that the statement's proof is made of. No condition of its own.
-/
import Derived.Test.YtdplfnemedckaaaGreatDoorKx
import Derived.Test.YtdplfnemedckaaaGreatDoorKma
import Derived.Test.YtdplfnemedckaaaGreatDoorKl
namespace Go.Proofs.YtdplfnemedckaaaGreatDoor
open Go.RowKit
def wB (c:UInt8):Nat:=if c.toNat=35 then 100000 else if c.toNat=32∨c.toNat=10 then 9 else 1
def W (l:z03):Nat:=(l.map wB).sum
end Go.Proofs.YtdplfnemedckaaaGreatDoor
namespace Go.Proofs.YtdplfnemedckaaaGreatDoor
open Go.RowKit
mutual
def cnX:Ex→Ex
 | .mk k o a l s xs =>
  if k=1 then .mk 1 0 a l ⟨#[]⟩ []
  else if k=13 then .mk 13 0 0 l s []
  else if k=12 then .mk 12 0 0 l ⟨#[]⟩ []
  else if k=11 then .mk 11 0 0 l s []
  else if k=4 then .mk 4 0 0 l s (cnL xs)
  else if k=5 then .mk 5 o 0 l ⟨#[]⟩ (cnL xs)
  else if k=6 then .mk 6 o 0 l ⟨#[]⟩ (cnL xs)
  else if k=7 then .mk 7 0 0 l ⟨#[]⟩ (cnL xs)
  else if k=8 then .mk 8 0 0 l ⟨#[]⟩ (cnL xs)
  else if k=9 then .mk 9 0 0 l s (cnL xs)
  else if k=10 then .mk 10 0 0 l ⟨#[]⟩ (cnL xs)
  else .mk k o a l s (cnL xs)
def cnL:List Ex→List Ex
 | []=>[]
 | x :: r=>cnX x :: cnL r
end
theorem z4b:∀ xs,cnL xs=xs.map cnX
 | []=>rfl
 | x :: r=>by simp [cnL,z4b r]
theorem z4R (x:Ex):(cnX x).kind=x.kind:=by
 obtain ⟨k,o,a,l,s,xs⟩:=x
 unfold cnX
 (repeat' split) <;> simp_all [Ex.kind]
theorem z3K:∀ (d:Nat) (x:Ex),fmtE d (cnX x)=fmtE d x
 | 0,_=>by simp [fmtE]
 | d+1,.mk k o a l s xs=>by
  have hm:(cnL xs).map (fmtE d)=xs.map (fmtE d):=by
   rw [z4b,List.map_map]
   exact List.map_congr_left (fun x _=>z3K d x)
  unfold cnX
  split
  ·rename_i h; subst h; simp [fmtE]
  split
  ·rename_i h; subst h; simp [fmtE]
  split
  ·rename_i h; subst h; simp [fmtE]
  split
  ·rename_i h; subst h; simp [fmtE]
  split
  ·rename_i h; subst h
   match xs with
   | []=>simp [fmtE,cnL]
   | [x]=>simp [fmtE,cnL,z3K d]
   | x :: y :: r=>simp [fmtE,cnL]
  split
  ·rename_i h; subst h
   match xs with
   | []=>simp [fmtE,cnL]
   | [x]=>simp [fmtE,cnL,z3K d,z4R]
   | x :: y :: r=>simp [fmtE,cnL]
  split
  ·rename_i h; subst h
   match xs with
   | []=>simp [fmtE,cnL]
   | [x]=>simp [fmtE,cnL]
   | [x,y]=>simp [fmtE,cnL,z3K d,z4R]
   | x :: y :: z :: r=>simp [fmtE,cnL]
  split
  ·rename_i h; subst h
   match xs with
   | []=>simp [fmtE,cnL]
   | [x]=>simp [fmtE,cnL]
   | [x,y]=>simp [fmtE,cnL,z3K d,z4R]
   | x :: y :: z :: r=>simp [fmtE,cnL]
  split
  ·rename_i h; subst h
   match xs with
   | []=>simp [fmtE,cnL]
   | [x]=>simp [fmtE,cnL]
   | [x,y]=>simp [fmtE,cnL,z3K d,z4R]
   | x :: y :: z :: r=>simp [fmtE,cnL]
  split
  ·rename_i h; subst h; simp [fmtE,hm]
  split
  ·rename_i h; subst h
   match xs,hm with
   | [],_=>simp [fmtE,cnL]
   | x :: r,hm =>
    simp only [cnL,List.map_cons,List.cons.injEq] at hm
    simp [fmtE,cnL,z3K d,z4R,hm.2]
  ·rename_i h1 h2 h3 h4 h5 h6 h7 h8 h9 h10 h11
   by_cases hk:k=2∨k=3
   ·rcases hk with rfl | rfl <;> simp [fmtE]
   ·have h2':k≠2:=fun h=>hk (.inl h)
    have h3':k≠3:=fun h=>hk (.inr h)
    have e:∀ ys:List Ex,fmtE (d+1) (.mk k o a l s ys)=[]:=fun ys=>by
     simp only [fmtE,if_neg h1,if_neg h3,if_neg h4,h2,h2',h3',or_self,if_false]
     split <;> first | contradiction | rfl
    rw [e,e]
theorem z1v {s:ByteArray} (h:z0x s):isNm s.data.toList=true:=h.2
theorem z5Y:∀ (d:Nat) (x:Ex),GE d x→WfX (cnX x):=by
 have leaf:∀ {k o a l:Int} {s:ByteArray} {xs:List Ex},0≤a→a<9223372036854775808→(k=12∨(k=13∧z0x s)∨k=1∨(k=11∧z0x s))→WfX (cnX (.mk k o a l s xs)):=by
  intro k o a l s xs h1 h2 hk
  rcases hk with rfl | ⟨rfl,hs⟩ | rfl | ⟨rfl,hs⟩
  ·exact .rd l
  ·exact .nam l s (z1v hs)
  ·exact .num a l h1 h2
  ·exact .fn l s (z1v hs)
 intro d
 induction d with
 | zero =>
  rintro ⟨k,o,a,l,s,xs⟩ ⟨_,_,_,h1,h2,_,_,hk⟩
  exact leaf h1 h2 hk
 | succ d ih =>
  rintro ⟨k,o,a,l,s,xs⟩ ⟨_,_,ho,h1,h2,_,⟨_,hk⟩ | ⟨hxs,hk⟩⟩
  ·exact leaf h1 h2 hk
  ·rcases hk with ⟨rfl,a1,a2,hl⟩ | ⟨rfl,a1,hl⟩ | ⟨rfl,hl⟩ | ⟨rfl,hl⟩ | ⟨rfl,hs,hl⟩ | ⟨rfl,hs,hl⟩ | ⟨rfl,hl,hl2⟩
   ·match xs,hl,hxs with
    | [x],_,hxs=>exact .un o l _ a1 a2 (ih x (hxs x (by simp)))
   ·match xs,hl,hxs with
    | [x,y],_,hxs=>exact .bin o l _ _ a1 ho (ih x (hxs x (by simp))) (ih y (hxs y (by simp)))
   ·match xs,hl,hxs with
    | [x,y],_,hxs=>exact .and_ l _ _ (ih x (hxs x (by simp))) (ih y (hxs y (by simp)))
   ·match xs,hl,hxs with
    | [x,y],_,hxs=>exact .or_ l _ _ (ih x (hxs x (by simp))) (ih y (hxs y (by simp)))
   ·match xs,hl,hxs with
    | [x],_,hxs=>exact .el l s _ (z1v hs) (ih x (hxs x (by simp)))
   ·refine .call l s _ (z1v hs) (fun x hx=>?_)
    rw [z4b] at hx
    obtain ⟨y,hy,rfl⟩:=List.mem_map.1 hx
    exact ih y (hxs y hy)
   ·match xs,hl,hxs with
    | x :: r,_,hxs =>
     refine .val l _ _ (ih x (hxs x (by simp))) (fun y hy=>?_)
     rw [z4b] at hy
     obtain ⟨z,hz,rfl⟩:=List.mem_map.1 hy
     exact ih z (hxs z (by simp [hz]))
theorem zeP {d:Nat} {k o a l:Int} {s:ByteArray} {xs:List Ex} (h:∀ x∈xs,Dp d (cnX x)):Dp (d+1) (cnX (.mk k o a l s xs)):=by
 have h2:∀ x∈cnL xs,Dp d x:=fun x hx=>by
  rw [z4b] at hx
  obtain ⟨y,hy,rfl⟩:=List.mem_map.1 hx
  exact h y hy
 have h0:∀ x∈([]:List Ex),Dp d x:=fun x hx=>by simp at hx
 unfold cnX
 (repeat' split) <;> first | exact h0 | exact h2
theorem zd2:∀ (d:Nat) (x:Ex),GE d x→Dp (d+1) (cnX x):=by
 intro d
 induction d with
 | zero =>
  rintro ⟨k,o,a,l,s,xs⟩ ⟨_,_,_,_,_,_,rfl,_⟩
  exact zeP (fun x hx=>by simp at hx)
 | succ d ih =>
  rintro ⟨k,o,a,l,s,xs⟩ ⟨_,_,_,_,_,_,⟨rfl,_⟩ | ⟨hxs,_⟩⟩
  ·exact zeP (fun x hx=>by simp at hx)
  ·exact zeP (fun x hx=>ih x (hxs x hx))
def exT (es:List Ex) (i:Nat):List Tok:=match es[i]? with | some x=>tkX (cnX x) | none=>[]
def asmS (k:Int) (s:z03) (es:List Ex) (T U:List Tok) (e:Bool):List Tok :=
 if k=1 then tW wVar :: tI s :: tS [61] :: (exT es 0++[tS [59]])
 else if k=2 then tI s :: tS [61] :: (exT es 0++[tS [59]])
 else if k=3 then tI s :: tS [91] :: (exT es 0++tS [93] :: tS [61] :: (exT es 1++[tS [59]]))
 else if k=6 then tW z2j :: (exT es 0++[tS [59]])
 else if k=7 then tW z3n :: (exT es 0++[tS [59]])
 else if k=8 then tW z5f :: (exT es 0++[tS [59]])
 else if k=5 then tW z2q :: (exT es 0++tS [123] :: (T++[tS [125]]))
 else if k=4 then tW wIf :: (exT es 0++tS [123] :: (T++tS [125] :: (if e then [] else tW z2J :: tS [123] :: (U++[tS [125]]))))
 else []
mutual
def tkS:St→List Tok
 | .mk k _ s es ts us=>asmS k s.data.toList es (tkB ts) (tkB us) us.isEmpty
def tkB:List St→List Tok
 | []=>[]
 | x :: r=>tkS x++tkB r
end
mutual
def cnS:St→St
 | .mk k _ s es ts us=>.mk k 1 (if k=1∨k=2∨k=3 then s else ⟨#[]⟩) (es.map fun x=>rlX (cnX x)) (cnM ts) (cnM us)
def cnM:List St→List St
 | []=>[]
 | x :: r=>cnS x :: cnM r
end
theorem z7y {x:Ex} (h:WfX x) {r:List Tok} (hr:Clo (hx r)):z3b (st (tkX x++r))=some (rlX x,st r):=by
 have hp:=((z3P h).hx (r:=r)).2.2
 have hl:(st (tkX x++r)).rest.length=((tkX x).length+r.length - 1)+1:=by simp only [st,List.length_append]; omega
 unfold z3b
 rw [hl]
 exact (zcF h).1 _ r (by omega) hr
theorem z93 {x:Ex} (h:WfX x) (r:List Tok):z1r z3b (st (tkX x++tS [59] :: r))=some (rlX x,st r):=by
 unfold z1r
 rw [z7y h (by simp [z1m,tS,Clo])]
 simp only [z0Y]
theorem z3W {k:Int} {nm:ByteArray} {x:Ex} (h:WfX x) (r:List Tok):oneP k 1 nm (z1r z3b) (st (tkX x++tS [59] :: r))=some (.mk k 1 nm [rlX x] [] [],st r):=by
 unfold oneP
 rw [z93 h]
theorem z4Y {s:z03} (h:isNm s=true) {t:z03} (ht:isNm t=false) (a:List Tok):z0c [t] (st (tI s :: a))=false:=by
 rw [z18,z1m]
 cases e:[t].contains (tI s).text with
 | false=>rfl
 | true =>
  simp only [List.contains_iff_mem,List.mem_singleton] at e
  have e:s=t:=e
  rw [e,ht] at h
  cases h
def Sb (D:Nat) (x:St):Prop:=(∀ r,hx r≠z2J→z2A D (st (tkS x++r))=some (cnS x,st r))∧∃ t r,tkS x=t :: r∧t.text≠[125]∧t.text≠z2J
theorem z9V {D:Nat} (r:List Tok):∀ (ts l:List St) (n:Nat),(∀ t∈ts,Sb D t)→(tkB ts++tS [125] :: r).length<n→z2H (z2A D) n l (st (tkB ts++tS [125] :: r))=some (l++cnM ts,st r):=by
 intro ts
 induction ts with
 | nil =>
  intro l n _ hn
  obtain ⟨n,rfl⟩:∃ k,n=k+1:=⟨n - 1,by omega⟩
  have es:z0c [[125]] (st (tkB []++tS [125] :: r))=true:=rfl
  rw [z2H,es]
  simp [tkB,cnM,z1A]
 | cons x ts ih =>
  intro l n hs hn
  obtain ⟨n,rfl⟩:∃ k,n=k+1:=⟨n - 1,by omega⟩
  obtain ⟨h1,t,q,h2,h3,h4⟩:=hs x (by simp)
  have e0:tkB (x :: ts)++tS [125] :: r=tkS x++(tkB ts++tS [125] :: r):=by simp [tkB]
  rw [e0] at hn ⊢
  have es:z0c [[125]] (st (tkS x++(tkB ts++tS [125] :: r)))=false:=by
   rw [h2,List.cons_append,z18,z1m]
   simpa using h3
  have hne:hx (tkB ts++tS [125] :: r)≠z2J:=by
   cases ts with
   | nil=>exact (by decide:([125]:z03)≠z2J)
   | cons y ts =>
    obtain ⟨_,t2,q2,h5,_,h6⟩:=hs y (by simp)
    rw [tkB,h5]
    exact h6
  have hl:1≤(tkS x).length:=by rw [h2]; simp
  rw [z2H,es,h1 _ hne]
  simp only [Bool.false_eq_true,if_false]
  rw [if_neg (by simp [st])]
  rw [List.length_append] at hn
  rw [ih (l++[cnS x]) n (fun t ht=>hs t (by simp [ht])) (by omega)]
  simp [cnM]
theorem z4a {D:Nat} (r:List Tok) (ts:List St) (hs:∀ t∈ts,Sb D t):z1D (z2A D) (st (tS [123] :: (tkB ts++tS [125] :: r)))=some (cnM ts,st r):=by
 unfold z1D
 rw [z0Y,z9V r ts [] _ hs (by simp only [st]; omega)]
 rfl
theorem z4f {D:Nat} {x:Ex} (h:WfX x) (r:List Tok) (ts:List St) (hs:∀ t∈ts,Sb D t):z1H (z1D (z2A D)) z3b (st (tkX x++tS [123] :: (tkB ts++tS [125] :: r)))=some (rlX x,cnM ts,st r):=by
 unfold z1H
 rw [z7y h (by simp [z1m,tS,Clo])]
 simp only [z4a r ts hs]
theorem zaZ {t:z03} (h:isW t=true):isNm t=false:=by
 cases t with
 | nil=>rfl
 | cons c r=>simp [isNm,h]
theorem zc7 {D:Nat} {k l:Int} {s:ByteArray} {es:List Ex} {ts us:List St} (he:∀ x∈es,GE 2 x) (ht:∀ t∈ts,Sb D t) (hu:∀ t∈us,Sb D t)
  (hk:(k=1∧z0x s∧es.length=1∧ts=[]∧us=[])∨(k=2∧z0x s∧es.length=1∧ts=[]∧us=[])∨(k=3∧z0x s∧es.length=2∧ts=[]∧us=[])∨(k=4∧s.size=0∧es.length=1)∨(k=5∧s.size=0∧es.length=1∧us=[])∨((k=6∨k=7∨k=8)∧s.size=0∧es.length=1∧ts=[]∧us=[])) :
  Sb (D+1) (.mk k l s es ts us):=by
 have hW:∀ t,isW t=true→isNm t=false:=fun t h=>zaZ h
 have oneW:∀ (k:Int) (w:z03) (x:Ex),(k=6∧w=z2j∨k=7∧w=z3n∨k=8∧w=z5f)→GE 2 x→Sb (D+1) (.mk k l s [x] [] []):=by
  intro k w x hk hx'
  have hw:=z5Y 2 x hx'
  rcases hk with ⟨rfl,rfl⟩ | ⟨rfl,rfl⟩ | ⟨rfl,rfl⟩
  ·refine ⟨fun r hr=>?_,tW z2j,_,rfl,by decide,by decide⟩
   have e:tkS (.mk 6 l s [x] [] [])++r=tW z2j :: (tkX (cnX x)++tS [59] :: r):=by simp [tkS,asmS,exT]
   rw [e]
   exact z3W hw r
  ·refine ⟨fun r hr=>?_,tW z3n,_,rfl,by decide,by decide⟩
   have e:tkS (.mk 7 l s [x] [] [])++r=tW z3n :: (tkX (cnX x)++tS [59] :: r):=by simp [tkS,asmS,exT]
   rw [e]
   exact z3W hw r
  ·refine ⟨fun r hr=>?_,tW z5f,_,rfl,by decide,by decide⟩
   have e:tkS (.mk 8 l s [x] [] [])++r=tW z5f :: (tkX (cnX x)++tS [59] :: r):=by simp [tkS,asmS,exT]
   rw [e]
   exact z3W hw r
 have name:∀ (a:List Tok),isNm s.data.toList=true→z2A (D+1) (st (tI s.data.toList :: a))=z2O z3b 1 (st (tI s.data.toList :: a)):=by
  intro a hs
  show z4k (z1D (z2A D)) z3b (st (tI s.data.toList :: a))=_
  unfold z4k
  rw [z4Y hs (hW wVar (by decide)),z4Y hs (hW wIf (by decide)),z4Y hs (hW z2q (by decide)),z4Y hs (hW z2j (by decide)),z4Y hs (hW z3n (by decide)),z4Y hs (hW z5f (by decide))]
  rfl
 have nhead:isNm s.data.toList=true→(tI s.data.toList).text≠[125]∧(tI s.data.toList).text≠z2J:=by
  intro hs
  refine ⟨fun e=>?_,fun e=>?_⟩
  ·have e:s.data.toList=[125]:=e
   rw [e] at hs
   revert hs
   decide
  ·have e:s.data.toList=z2J:=e
   rw [e] at hs
   revert hs
   decide
 rcases hk with ⟨rfl,hs,hl,rfl,rfl⟩ | ⟨rfl,hs,hl,rfl,rfl⟩ | ⟨rfl,hs,hl,rfl,rfl⟩ | ⟨rfl,_,hl⟩ | ⟨rfl,_,hl,rfl⟩ | ⟨hk,_,hl,rfl,rfl⟩
 ·match es,hl,he with
  | [x],_,he =>
   have hw:=z5Y 2 x (he x (by simp))
   refine ⟨fun r hr=>?_,tW wVar,_,rfl,by decide,by decide⟩
   have e:tkS (.mk 1 l s [x] [] [])++r=tW wVar :: tI s.data.toList :: tS [61] :: (tkX (cnX x)++tS [59] :: r):=by simp [tkS,asmS,exT]
   rw [e]
   show oneP 1 1 (nmB s.data.toList) (z1r z3b) (z09 [61] (st (tS [61] :: (tkX (cnX x)++tS [59] :: r))))=_
   rw [z0Y,z3W hw,z1Q]
   rfl
 ·match es,hl,he with
  | [x],_,he =>
   have hw:=z5Y 2 x (he x (by simp))
   have hn:=z1v hs
   refine ⟨fun r hr=>?_,tI s.data.toList,_,rfl,nhead hn⟩
   have e:tkS (.mk 2 l s [x] [] [])++r=tI s.data.toList :: tS [61] :: (tkX (cnX x)++tS [59] :: r):=by simp [tkS,asmS,exT]
   rw [e,name _ hn]
   show oneP 2 1 (nmB s.data.toList) (z1r z3b) (z09 [61] (st (tS [61] :: (tkX (cnX x)++tS [59] :: r))))=_
   rw [z0Y,z3W hw,z1Q]
   rfl
 ·match es,hl,he with
  | [x,y],_,he =>
   have hw:=z5Y 2 x (he x (by simp))
   have hw2:=z5Y 2 y (he y (by simp))
   have hn:=z1v hs
   refine ⟨fun r hr=>?_,tI s.data.toList,_,rfl,nhead hn⟩
   have e:tkS (.mk 3 l s [x,y] [] [])++r=tI s.data.toList :: tS [91] :: (tkX (cnX x)++tS [93] :: tS [61] :: (tkX (cnX y)++tS [59] :: r)):=by simp [tkS,asmS,exT]
   rw [e,name _ hn]
   have h1:=z7y hw (r:=tS [93] :: tS [61] :: (tkX (cnX y)++tS [59] :: r)) (by simp [z1m,tS,Clo])
   unfold z2O
   have es:z0c [[91]] (z07 1 (st (tI s.data.toList :: tS [91] :: (tkX (cnX x)++tS [93] :: tS [61] :: (tkX (cnX y)++tS [59] :: r))))).2=true:=rfl
   rw [es,z2d,z1A,h1]
   simp only [if_true]
   rw [z0Y,z0Y,z93 hw2]
   simp only
   rfl
 ·match es,hl,he with
  | [x],_,he =>
   have hw:=z5Y 2 x (he x (by simp))
   refine ⟨fun r hr=>?_,tW wIf,_,rfl,by decide,by decide⟩
   cases us with
   | nil =>
    have e:tkS (.mk 4 l s [x] ts [])++r=tW wIf :: (tkX (cnX x)++tS [123] :: (tkB ts++tS [125] :: r)):=by simp [tkS,asmS,exT]
    rw [e]
    show z4k (z1D (z2A D)) z3b (st (tW wIf :: (tkX (cnX x)++tS [123] :: (tkB ts++tS [125] :: r))))=_
    unfold z4k
    have e1:z0c [wVar] (st (tW wIf :: (tkX (cnX x)++tS [123] :: (tkB ts++tS [125] :: r))))=false:=rfl
    have e2:z0c [wIf] (st (tW wIf :: (tkX (cnX x)++tS [123] :: (tkB ts++tS [125] :: r))))=true:=rfl
    have e3:z0c [z2J] (st r)=false:=by rw [z18]; simpa using hr
    rw [e1,e2,z1A,z4f hw r ts ht]
    simp only [Bool.false_eq_true,if_false,if_true,e3]
    rfl
   | cons u us =>
    have e:tkS (.mk 4 l s [x] ts (u :: us))++r=tW wIf :: (tkX (cnX x)++tS [123] :: (tkB ts++tS [125] :: (tW z2J :: tS [123] :: (tkB (u :: us)++tS [125] :: r)))):=by simp [tkS,asmS,exT]
    rw [e]
    show z4k (z1D (z2A D)) z3b (st (tW wIf :: (tkX (cnX x)++tS [123] :: (tkB ts++tS [125] :: (tW z2J :: tS [123] :: (tkB (u :: us)++tS [125] :: r))))))=_
    unfold z4k
    have e1:∀ a,z0c [wVar] (st (tW wIf :: a))=false:=fun _=>rfl
    have e2:∀ a,z0c [wIf] (st (tW wIf :: a))=true:=fun _=>rfl
    have e3:∀ a,z0c [z2J] (st (tW z2J :: a))=true:=fun _=>rfl
    rw [e1,e2,z1A,z4f hw _ ts ht]
    simp only [Bool.false_eq_true,if_false,if_true,e3,z1A]
    rw [z4a r (u :: us) hu]
    rfl
 ·match es,hl,he with
  | [x],_,he =>
   have hw:=z5Y 2 x (he x (by simp))
   refine ⟨fun r hr=>?_,tW z2q,_,rfl,by decide,by decide⟩
   have e:tkS (.mk 5 l s [x] ts [])++r=tW z2q :: (tkX (cnX x)++tS [123] :: (tkB ts++tS [125] :: r)):=by simp [tkS,asmS,exT]
   rw [e]
   show z4k (z1D (z2A D)) z3b (st (tW z2q :: (tkX (cnX x)++tS [123] :: (tkB ts++tS [125] :: r))))=_
   unfold z4k
   have e1:∀ a,z0c [wVar] (st (tW z2q :: a))=false:=fun _=>rfl
   have e2:∀ a,z0c [wIf] (st (tW z2q :: a))=false:=fun _=>rfl
   have e3:∀ a,z0c [z2q] (st (tW z2q :: a))=true:=fun _=>rfl
   rw [e1,e2,e3,z1A,z4f hw r ts ht]
   rfl
 ·match es,hl,he with
  | [x],_,he =>
   rcases hk with rfl | rfl | rfl
   ·exact oneW 6 z2j x (.inl ⟨rfl,rfl⟩) (he x (by simp))
   ·exact oneW 7 z3n x (.inr (.inl ⟨rfl,rfl⟩)) (he x (by simp))
   ·exact oneW 8 z5f x (.inr (.inr ⟨rfl,rfl⟩)) (he x (by simp))
theorem zd4:∀ (d D:Nat) (x:St),GSt (d+1) x→d<D→Sb D x:=by
 intro d
 induction d with
 | zero =>
  rintro D ⟨k,l,s,es,ts,us⟩ ⟨_,he,ht,hu,hk⟩ hD
  obtain ⟨D,rfl⟩:∃ k,D=k+1:=⟨D - 1,by omega⟩
  exact zc7 he (fun t h=>(ht t h).elim) (fun t h=>(hu t h).elim) hk
 | succ d ih =>
  rintro D ⟨k,l,s,es,ts,us⟩ ⟨_,he,ht,hu,hk⟩ hD
  obtain ⟨D,rfl⟩:∃ k,D=k+1:=⟨D - 1,by omega⟩
  exact zc7 he (fun t h=>ih D t (ht t h) (by omega)) (fun t h=>ih D t (hu t h) (by omega)) hk
def parQ:List ByteArray→List Tok
 | []=>[]
 | p :: r=>tI p.data.toList :: r.flatMap (fun q=>[tS [44],tI q.data.toList])
def tkF (f:Fn):List Tok:=tW z4m :: tI f.name.data.toList :: tS [40] :: (parQ f.params++tS [41] :: tS [123] :: (tkB f.body++[tS [125]]))
def tkG (x:ByteArray × Int):List Tok:=tW z0I :: tI x.1.data.toList :: (if 0<x.2 then [tS [91],tN x.2.toNat,tS [93],tS [59]] else [tS [59]])
def tkP (gl:List (ByteArray × Int)) (fl:List Fn):List Tok:=gl.flatMap tkG++fl.flatMap tkF
def cnF (f:Fn):Fn:=⟨f.name,1,f.params,cnM f.body⟩
def eofT:Tok:=⟨0,1,0,[]⟩
theorem zdw (r:List Tok):∀ (ps l:List ByteArray) (n:Nat),(ps.flatMap (fun q=>[tS [44],tI q.data.toList])++tS [41] :: r).length<n→z1f n l (st (ps.flatMap (fun q=>[tS [44],tI q.data.toList])++tS [41] :: r))=some (l++ps,st (tS [41] :: r)):=by
 intro ps
 induction ps with
 | nil =>
  intro l n hn
  obtain ⟨n,rfl⟩:∃ k,n=k+1:=⟨n - 1,by omega⟩
  have es:z0c [[44]] (st (([]:List ByteArray).flatMap (fun q=>[tS [44],tI q.data.toList])++tS [41] :: r))=false:=rfl
  rw [z1f,es]
  simp
 | cons p ps ih =>
  intro l n hn
  obtain ⟨n,rfl⟩:∃ k,n=k+1:=⟨n - 1,by omega⟩
  have e0:(p :: ps).flatMap (fun q=>[tS [44],tI q.data.toList])++tS [41] :: r=tS [44] :: tI p.data.toList :: (ps.flatMap (fun q=>[tS [44],tI q.data.toList])++tS [41] :: r):=by simp
  rw [e0] at hn ⊢
  have es:∀ a,z0c [[44]] (st (tS [44] :: a))=true:=fun _=>rfl
  rw [z1f,es,z1A,z2d]
  simp only [if_true]
  rw [ih _ n (by simp only [List.length_cons] at hn; omega)]
  have:nmB (tI p.data.toList).text=p:=z1Q p
  rw [this]
  simp
theorem z7P (r:List Tok) (ps:List ByteArray) (hp:∀ p∈ps,z0x p):z2i (st (parQ ps++tS [41] :: r))=some (ps,st r):=by
 cases ps with
 | nil=>rfl
 | cons p ps =>
  have e0:parQ (p :: ps)++tS [41] :: r=tI p.data.toList :: (ps.flatMap (fun q=>[tS [44],tI q.data.toList])++tS [41] :: r):=by simp [parQ]
  rw [e0]
  unfold z2i
  rw [z4Y (z1v (hp p (by simp))) (by decide),z2d]
  simp only [Bool.false_eq_true,if_false]
  rw [zdw r ps _ _ (by simp only [st,List.length_cons]; omega)]
  have:nmB (tI p.data.toList).text=p:=z1Q p
  rw [this]
  simp [z0Y]
theorem z5T (t:z03) (r:List Tok):z09 t (st (tW t :: r))=st r:=by
 have:z0c [t] (st (tW t :: r))=true:=by simp [z18,z1m,tW]
 simp [z09,this,z1A]
theorem zaN {D d:Nat} {f:Fn} (h:GF d f) (hD:d<D) (r:List Tok):z1b (z1D (z2A D)) (st (tkF f++r))=some (cnF f,st r):=by
 have e0:tkF f++r=tW z4m :: tI f.name.data.toList :: tS [40] :: (parQ f.params++tS [41] :: (tS [123] :: (tkB f.body++tS [125] :: r))):=by simp [tkF]
 rw [e0]
 unfold z1b
 rw [z5T,z2d,z0Y,z7P _ _ h.2.2.1]
 simp only
 rw [z4a r f.body (fun t ht=>zd4 d D t (h.2.2.2.1 t ht) hD)]
 have:nmB (tI f.name.data.toList).text=f.name:=z1Q f.name
 rw [this]
 rfl
theorem zaR {x:ByteArray × Int} (h:GG x) (r:List Tok):z1l (st (tkG x++r))=(x,st r):=by
 obtain ⟨s,n⟩:=x
 obtain ⟨h1,h2,h3⟩:=h
 have hnm:nmB (tI s.data.toList).text=s:=z1Q s
 dsimp only at h2 h3
 by_cases hn:0<n
 ·have e0:tkG (s,n)++r=tW z0I :: tI s.data.toList :: tS [91] :: tN n.toNat :: tS [93] :: tS [59] :: r:=by simp [tkG,hn]
  rw [e0]
  have es:∀ a,z0c [[91]] (st (tS [91] :: a))=true:=fun _=>rfl
  have ex:∀ a,z07 2 (st (tN n.toNat :: a))=(tN n.toNat,st a):=fun _=>rfl
  have ho:∀ a,outP (tN n.toNat) (st a)=st a:=fun a=>by
   unfold outP
   rw [if_neg]
   rintro ⟨_,hc⟩
   have hv:(tN n.toNat).value=n.toNat:=rfl
   rw [hv] at hc
   omega
  have hv:(((tN n.toNat).value:Nat):Int)=n:=by
   show ((n.toNat:Nat):Int)=n
   omega
  unfold z1l
  rw [z5T,z2d,es,z1A]
  simp only [if_true,z3w,ex,ho,z0Y,hnm,hv]
 ·have e0:tkG (s,n)++r=tW z0I :: tI s.data.toList :: tS [59] :: r:=by simp [tkG,hn]
  have h0:n=0:=by omega
  rw [e0]
  have es:∀ a,z0c [[91]] (st (tS [59] :: a))=false:=fun _=>rfl
  unfold z1l
  rw [z5T,z2d,es]
  simp only [Bool.false_eq_true,if_false,z0Y,hnm,h0]
theorem z9o {D d:Nat} (hD:d<D):∀ (fl F:List Fn) (G:List (ByteArray × Int)) (n:Nat),(∀ f∈fl,GF d f)→(fl.flatMap tkF++[eofT]).length<n→z0P (z1D (z2A D)) n G F (st (fl.flatMap tkF++[eofT]))=some (G,F++fl.map cnF,st [eofT]):=by
 intro fl
 induction fl with
 | nil =>
  intro F G n _ hn
  obtain ⟨n,rfl⟩:∃ k,n=k+1:=⟨n - 1,by omega⟩
  rw [z0P,if_pos (by rfl)]
  simp
 | cons f fl ih =>
  intro F G n hf hn
  obtain ⟨n,rfl⟩:∃ k,n=k+1:=⟨n - 1,by omega⟩
  have e0:(f :: fl).flatMap tkF++[eofT]=tkF f++(fl.flatMap tkF++[eofT]):=by simp
  rw [e0] at hn ⊢
  have hl:1≤(tkF f).length:=by simp [tkF]
  rw [List.length_append] at hn
  have k0:(hdT (st (tkF f++(fl.flatMap tkF++[eofT])))).kind≠0:=by
   show (3:Nat)≠0
   decide
  have es:z0c [z0I] (st (tkF f++(fl.flatMap tkF++[eofT])))=false:=rfl
  rw [z0P,if_neg k0,es,zaN (hf f (by simp)) hD]
  simp only [Bool.false_eq_true,if_false]
  rw [ih _ G n (fun g hg=>hf g (by simp [hg])) (by omega)]
  simp
theorem z87 {D d:Nat} (hD:d<D) (fl:List Fn) (hf:∀ f∈fl,GF d f):∀ (gl G:List (ByteArray × Int)) (n:Nat),(∀ x∈gl,GG x)→(gl.flatMap tkG++(fl.flatMap tkF++[eofT])).length<n→z0P (z1D (z2A D)) n G [] (st (gl.flatMap tkG++(fl.flatMap tkF++[eofT])))=some (G++gl,fl.map cnF,st [eofT]):=by
 intro gl
 induction gl with
 | nil =>
  intro G n _ hn
  have:=z9o hD fl [] G n hf (by simpa using hn)
  simpa using this
 | cons x gl ih =>
  intro G n hg hn
  obtain ⟨n,rfl⟩:∃ k,n=k+1:=⟨n - 1,by omega⟩
  have e0:(x :: gl).flatMap tkG++(fl.flatMap tkF++[eofT])=tkG x++(gl.flatMap tkG++(fl.flatMap tkF++[eofT])):=by simp
  rw [e0] at hn ⊢
  have hl:1≤(tkG x).length:=by simp [tkG]
  rw [List.length_append] at hn
  have k0:(hdT (st (tkG x++(gl.flatMap tkG++(fl.flatMap tkF++[eofT]))))).kind≠0:=by
   show (3:Nat)≠0
   decide
  have es:z0c [z0I] (st (tkG x++(gl.flatMap tkG++(fl.flatMap tkF++[eofT]))))=true:=rfl
  rw [z0P,if_neg k0,es,zaR (hg x (by simp))]
  simp only [if_true]
  rw [ih _ n (fun g hg'=>hg g (by simp [hg'])) (by omega)]
  simp
theorem zdx {d:Nat} {gl:List (ByteArray × Int)} {fl:List Fn} {l:z03} {ts:List Tok} (hg:∀ x∈gl,GG x) (hf:∀ f∈fl,GF d f) (hs:z1p l=.ok ts) (hu:ts.map unl=(tkP gl fl++[eofT]).map unl) :
  ∃ F,z77 (d+1) l=some (.ok (gl,F))∧F.map rlF=(fl.map cnF).map rlF:=by
 have hlen:ts.length=(tkP gl fl++[eofT]).length:=by
  have:=congrArg List.length hu
  simpa using this
 have hb:=z87 (D:=d+1) (d:=d) (by omega) fl hf gl [] (ts.length+1) hg (by rw [hlen]; simp [tkP])
 have hlk:Lk ⟨ts,0,0⟩ (st (gl.flatMap tkG++(fl.flatMap tkF++[eofT]))):=by
  unfold Lk unS st
  rw [hu]
  simp [tkP]
 rcases zbb (z8B (z8D (d+1))) (ts.length+1) [] [] [] _ _ rfl hlk with ⟨_,e2⟩ | ⟨G,F,F',s2,q2,e1,e2,hF,hL⟩
 ·rw [hb] at e2
  cases e2
 ·rw [hb] at e2
  injection e2 with e2
  injection e2 with e3 e2
  injection e2 with e4 e5
  subst e3 e4 e5
  have hr:s2.ref=0:=by
   have:=congrArg PS.ref (show unS s2=unS (st [eofT]) from hL)
   simp only [unS,st] at this
   omega
  have ho:s2.out=0:=by
   have:=congrArg PS.out (show unS s2=unS (st [eofT]) from hL)
   simp only [unS,st] at this
   omega
  refine ⟨F,?_,hF⟩
  unfold z77
  rw [hs]
  simp only [e1,endS,hr,ho]
  rfl
end Go.Proofs.YtdplfnemedckaaaGreatDoor
namespace Go.Proofs.YtdplfnemedckaaaGreatDoor
open Go.RowKit
def unE:Except Nat (List Tok)→Option (List Tok)
 | .error _=>none
 | .ok ts=>some (ts.map unl)
def U (l:z03):Option (List Tok):=unE (scan 1 l)
theorem zck (ts:List Tok) (x:Except Nat (List Tok)):unE (ext ts x)=(unE x).map (ts.map unl++·):=by
 cases x <;> simp [unE,ext]
theorem zcp {a b k v:Nat} {t:z03} (ha:1≤a) (hb:1≤b):unl ⟨k,a,v,t⟩=unl ⟨k,b,v,t⟩:=by
 unfold unl
 simp only [Tok.mk.injEq,true_and,and_true]
 omega
theorem z9Q:∀ (n:Nat) (l:z03) (a b:Nat),l.length≤n→1≤a→1≤b→unE (scan a l)=unE (scan b l):=by
 intro n
 induction n with
 | zero =>
  intro l a b hl ha hb
  cases l with
  | nil=>rw [scan,scan]; simp [unE,zcp ha hb]
  | cons c r=>simp at hl
 | succ n ih =>
  intro l a b hl ha hb
  cases l with
  | nil=>rw [scan,scan]; simp [unE,zcp ha hb]
  | cons c r =>
   simp only [List.length_cons] at hl
   rw [scan,scan]
   split
   ·exact ih r _ _ (by omega) (by omega) (by omega)
   split
   ·exact ih r _ _ (by omega) ha hb
   split
   ·have:=List.Sublist.length_le (List.dropWhile_sublist (fun x:UInt8=>decide (x.toNat≠10)) (l:=r))
    exact ih _ _ _ (by omega) ha hb
   ·cases rnext (c :: r) with
    | none=>rfl
    | some p =>
     obtain ⟨k,v,m⟩:=p
     have h:=ih (r.drop (m - 1)) a b (by simp; omega) ha hb
     simp only
     cases h1:scan a (r.drop (m - 1)) with
     | error e =>
      rw [h1] at h
      cases h2:scan b (r.drop (m - 1)) with
      | error e2=>rfl
      | ok ts=>rw [h2] at h; cases h
     | ok ts =>
      rw [h1] at h
      cases h2:scan b (r.drop (m - 1)) with
      | error e2=>rw [h2] at h; cases h
      | ok us =>
       rw [h2] at h
       injection h with h
       simp only [unE,List.map_cons,h,zcp ha hb]
theorem zhl (l:z03) {a:Nat} (ha:1≤a):unE (scan a l)=U l:=z9Q _ l a 1 (Nat.le_refl _) ha (Nat.le_refl _)
theorem u_nl (l:z03):U (10 :: l)=U l:=by
 unfold U
 rw [scan,if_pos (by decide)]
 exact zhl l (by decide)
theorem u_sp (l:z03):U (32 :: l)=U l:=by
 unfold U
 rw [scan,if_neg (by decide),if_pos (by decide)]
theorem zhL (l:z03):U (9 :: l)=U l:=by
 unfold U
 rw [scan,if_neg (by decide),if_pos (by decide)]
def ScU (l:z03) (ts:List Tok):Prop:=∀ r,Stp r→U (l++r)=(U r).map (ts.map unl++·)
def SaU (l:z03) (ts:List Tok):Prop:=∀ r,U (l++r)=(U r).map (ts.map unl++·)
theorem ScT.u {l:z03} {ts:List Tok} (h:ScT l ts):ScU l ts:=fun r hr=>by
 unfold U
 rw [h r hr,zck]
theorem SaT.u {l:z03} {ts:List Tok} (h:SaT l ts):SaU l ts:=fun r=>by
 unfold U
 rw [h r,zck]
theorem z68 (a b:List Tok) (x:Option (List Tok)):(x.map (b.map unl++·)).map (a.map unl++·)=x.map ((a++b).map unl++·):=by cases x <;> simp
theorem SaU.sc {l:z03} {ts:List Tok} (h:SaU l ts):ScU l ts:=fun r _=>h r
theorem SaU.nil:SaU [] []:=fun r=>by cases h:U r <;> simp [h]
theorem ScU.nil:ScU [] []:=SaU.nil.sc
theorem SaU.append {a b:z03} {s t:List Tok} (ha:SaU a s) (hb:SaU b t):SaU (a++b) (s++t):=fun r=>by rw [List.append_assoc,ha,hb,z68]
theorem ScU.append {a b:z03} {s t:List Tok} (ha:ScU a s) (h0:Sp0 b=true) (hb:SaU b t):SaU (a++b) (s++t):=fun r=>by rw [List.append_assoc,ha _ (z8Z h0),hb,z68]
theorem SaU.then {a b:z03} {s t:List Tok} (ha:SaU a s) (hb:ScU b t):ScU (a++b) (s++t):=fun r hr=>by rw [List.append_assoc,ha,hb r hr,z68]
theorem ScU.then {a b:z03} {s t:List Tok} (ha:ScU a s) (h0:Sp0 b=true) (hb:ScU b t):ScU (a++b) (s++t):=fun r hr=>by rw [List.append_assoc,ha _ (z8Z h0),hb r hr,z68]
theorem z6B {c:UInt8} (h:∀ l,U (c :: l)=U l):SaU [c] []:=fun r=>by
 rw [List.singleton_append,h]
 cases U r <;> rfl
theorem z9Z:SaU [10] []:=z6B u_nl
theorem za0:SaU [32] []:=z6B u_sp
theorem zeC:SaU [9] []:=z6B zhL
theorem zh1:OneS 59:=by unfold OneS; decide
theorem zh3:OneS 61:=by unfold OneS; decide
theorem zfv:OneS 123:=by unfold OneS; decide
theorem zfw:OneS 125:=by unfold OneS; decide
theorem zhM:SaU [59] [tS [59]]:=(z2X zh1 (by decide)).u
theorem zhm:SaU [123] [tS [123]]:=(z2X zfv (by decide)).u
theorem zcl:SaU [125] [tS [125]]:=(z2X zfw (by decide)).u
theorem z3m:SaU [59,10] [tS [59]]:=zhM.append z9Z
theorem zg7:SaU [32,61,32] [tS [61]]:=za0.append ((zbX zh3).u.append (b:=[32]) (by decide) za0)
theorem z6A:SaU [32,123,10] [tS [123]]:=za0.append (zhm.append z9Z)
theorem z2B {c:UInt8} {l:z03} (h:(letter c||digit c)=true) (hw:∀ x∈c :: l,wordy x=true) (hm:pmean (c :: l)=some (3,0)):SaU (c :: l++[32]) [tW (c :: l)]:=(z40 h hw hm).u.append (b:=[32]) (by decide) za0
theorem zhn {es:List Ex} {i:Nat} (h:∀ x∈es,GE 2 x):ScU (valL 3 es i) (exT es i):=by
 unfold valL exT
 cases hx:es[i]? with
 | some x =>
  have hg:=h x (List.mem_of_getElem? hx)
  have:=((zaJ (z5Y 2 x hg) 3 (zd2 2 x hg)).1).u
  rwa [z3K] at this
 | none=>exact ScU.nil
theorem z9Y {α:Type} (f:α→z03) (g:α→List Tok):∀ (l:List α),(∀ x∈l,SaU (f x) (g x))→SaU (l.flatMap f) (l.flatMap g)
 | [],_=>SaU.nil
 | a :: r,h=>by
  rw [List.flatMap_cons,List.flatMap_cons]
  exact (h a (by simp)).append (z9Y f g r (fun x hx=>h x (by simp [hx])))
theorem z6y:∀ ts,tkB ts=ts.flatMap tkS
 | []=>rfl
 | x :: r=>by simp [tkB,z6y r]
theorem z4r {l:z03} {s t:List Tok} (h:SaU l s) (e:s=t):SaU l t:=e ▸ h
theorem zhe {B:List St→z03→z03} {k l:Int} {s:ByteArray} {es:List Ex} {ts us:List St} {ind:z03} (he:∀ x∈es,GE 2 x)
  (hk:(k=1∧z0x s∧es.length=1∧ts=[]∧us=[])∨(k=2∧z0x s∧es.length=1∧ts=[]∧us=[])∨(k=3∧z0x s∧es.length=2∧ts=[]∧us=[])∨(k=4∧s.size=0∧es.length=1)∨(k=5∧s.size=0∧es.length=1∧us=[])∨((k=6∨k=7∨k=8)∧s.size=0∧es.length=1∧ts=[]∧us=[]))
  (hi:SaU ind []) (h1:SaU (B ts (ind++[9])) (tkB ts)) (h2:SaU (B us (ind++[9])) (tkB us)):SaU (stL 3 B ind (.mk k l s es ts us)) (tkS (.mk k l s es ts us)):=by
 have v0:=zhn (i:=0) he
 have v1:=zhn (i:=1) he
 have blk:SaU ([32,123,10]++B ts (ind++[9])++ind++[125]) ([tS [123]]++tkB ts++[]++[tS [125]]):=((z6A.append h1).append hi).append zcl
 rcases hk with ⟨rfl,hs,_⟩ | ⟨rfl,hs,_⟩ | ⟨rfl,hs,_⟩ | ⟨rfl,_⟩ | ⟨rfl,_⟩ | ⟨rfl | rfl | rfl,_⟩
 ·have e:stL 3 B ind (.mk 1 l s es ts us)=ind++(([118,97,114]++[32])++(s.data.toList++([32,61,32]++(valL 3 es 0++[59,10])))):=by simp [stL]
  rw [e]
  exact z4r (hi.append ((z2B (by decide) (by decide) (by decide)).append ((z33 (z1v hs)).u.append rfl (zg7.append (v0.append (b:=[59,10]) rfl z3m))))) (by simp [tkS,asmS,wVar])
 ·have e:stL 3 B ind (.mk 2 l s es ts us)=ind++(s.data.toList++([32,61,32]++(valL 3 es 0++[59,10]))):=by simp [stL]
  rw [e]
  exact z4r (hi.append ((z33 (z1v hs)).u.append rfl (zg7.append (v0.append (b:=[59,10]) rfl z3m)))) (by simp [tkS,asmS])
 ·have e:stL 3 B ind (.mk 3 l s es ts us)=ind++(s.data.toList++([91]++(valL 3 es 0++([93]++[32,61,32]++(valL 3 es 1++[59,10]))))):=by simp [stL]
  rw [e]
  exact z4r (hi.append ((z33 (z1v hs)).u.append rfl (zbP.u.append (v0.append rfl ((zbQ.u.append zg7).append (v1.append (b:=[59,10]) rfl z3m)))))) (by simp [tkS,asmS])
 ·by_cases hu:us.length=0
  ·have e:stL 3 B ind (.mk 4 l s es ts us)=ind++(([105,102]++[32])++(valL 3 es 0++(([32,123,10]++B ts (ind++[9])++ind++[125])++[10]))):=by simp [stL,hu]
   rw [e]
   have hu2:us=[]:=List.eq_nil_of_length_eq_zero hu
   exact z4r (hi.append ((z2B (by decide) (by decide) (by decide)).append (v0.append rfl (blk.append z9Z)))) (by simp [tkS,asmS,wIf,hu2])
  ·have e:stL 3 B ind (.mk 4 l s es ts us)=ind++(([105,102]++[32])++(valL 3 es 0++(([32,123,10]++B ts (ind++[9])++ind++[125])++(([32]++([101,108,115,101]++[32,123,10])++B us (ind++[9])++ind++[125])++[10])))):=by simp [stL,hu]
   rw [e]
   have els:SaU ([101,108,115,101]++[32,123,10]:z03) ([tW z2J]++[tS [123]]):=((z40 (c:=101) (l:=[108,115,101]) (k:=3) (v:=0) (by decide) (by decide) (by decide)).u).append (b:=[32,123,10]) rfl z6A
   have hu2:us.isEmpty=false:=by
    cases us with
    | nil=>simp at hu
    | cons a r=>rfl
   exact z4r (hi.append ((z2B (by decide) (by decide) (by decide)).append (v0.append rfl (blk.append (((((za0.append els).append h2).append hi).append zcl).append z9Z))))) (by simp [tkS,asmS,wIf,hu2])
 ·have e:stL 3 B ind (.mk 5 l s es ts us)=ind++(([119,104,105,108,101]++[32])++(valL 3 es 0++(([32,123,10]++B ts (ind++[9])++ind++[125])++[10]))):=by simp [stL]
  rw [e]
  exact z4r (hi.append ((z2B (by decide) (by decide) (by decide)).append (v0.append rfl (blk.append z9Z)))) (by simp [tkS,asmS,z2q])
 ·have e:stL 3 B ind (.mk 6 l s es ts us)=ind++(([114,101,116,117,114,110]++[32])++(valL 3 es 0++[59,10])):=by simp [stL]
  rw [e]
  exact z4r (hi.append ((z2B (by decide) (by decide) (by decide)).append (v0.append (b:=[59,10]) rfl z3m))) (by simp [tkS,asmS,z2j])
 ·have e:stL 3 B ind (.mk 7 l s es ts us)=ind++(([112,114,105,110,116]++[32])++(valL 3 es 0++[59,10])):=by simp [stL]
  rw [e]
  exact z4r (hi.append ((z2B (by decide) (by decide) (by decide)).append (v0.append (b:=[59,10]) rfl z3m))) (by simp [tkS,asmS,z3n])
 ·have e:stL 3 B ind (.mk 8 l s es ts us)=ind++(([99,97,108,108]++[32])++(valL 3 es 0++[59,10])):=by simp [stL]
  rw [e]
  exact z4r (hi.append ((z2B (by decide) (by decide) (by decide)).append (v0.append (b:=[59,10]) rfl z3m))) (by simp [tkS,asmS,z5f])
theorem zhd:∀ (d:Nat) (t:St) (ind:z03),GSt (d+1) t→SaU ind []→SaU (stL 3 (fmtB 3 d) ind t) (tkS t):=by
 intro d
 induction d with
 | zero =>
  intro t ind hg hi
  match t,hg with
  | .mk k l s es ts us,⟨_,he,ht,hu,hk⟩ =>
   have hts:ts=[]:=by
    cases ts with
    | nil=>rfl
    | cons a r=>exact (ht a (by simp)).elim
   have hus:us=[]:=by
    cases us with
    | nil=>rfl
    | cons a r=>exact (hu a (by simp)).elim
   subst hts hus
   exact zhe (B:=fmtB 3 0) he hk hi (by simpa [fmtB,tkB] using SaU.nil) (by simpa [fmtB,tkB] using SaU.nil)
 | succ d ih =>
  intro t ind hg hi
  match t,hg with
  | .mk k l s es ts us,⟨_,he,ht,hu,hk⟩ =>
   have hi9:SaU (ind++[9]) []:=hi.append zeC
   exact zhe (B:=fmtB 3 (d+1)) he hk hi (by rw [z6y]; exact z9Y _ _ ts (fun t hm=>ih t (ind++[9]) (ht t hm) hi9)) (by rw [z6y]; exact z9Y _ _ us (fun t hm=>ih t (ind++[9]) (hu t hm) hi9))
theorem zeW {x:ByteArray × Int} (h:GG x):SaU (fmtG x) (tkG x):=by
 by_cases hp:0<x.2
 ·have e:fmtG x=([103,108,111,98,97,108]++[32])++(x.1.data.toList++([91]++(numL x.2.toNat++([93]++[59,10])))):=by simp [fmtG,hp]
  rw [e]
  exact z4r ((z2B (by decide) (by decide) (by decide)).append ((z33 (z1v h.1)).u.append rfl (zbP.u.append ((zbW (by have:=h.2.2; omega)).u.append rfl (zbQ.u.append z3m))))) (by simp [tkG,hp,z0I])
 ·have e:fmtG x=([103,108,111,98,97,108]++[32])++(x.1.data.toList++[59,10]):=by simp [fmtG,hp]
  rw [e]
  exact z4r ((z2B (by decide) (by decide) (by decide)).append ((z33 (z1v h.1)).u.append (b:=[59,10]) rfl z3m)) (by simp [tkG,hp,z0I])
theorem zep:∀ (ps:List ByteArray),(∀ p∈ps,z0x p)→ScU (jl (ps.map (·.data.toList))) (parQ ps)
 | [],_=>by
  have e:jl (([]:List ByteArray).map (·.data.toList))=[]:=by simp [jl,List.intercalate]
  rw [e]
  exact ScU.nil
 | [a],h=>by
  have e:jl ([a].map (·.data.toList))=a.data.toList:=by simp [jl,List.intercalate]
  rw [e]
  exact (z33 (z1v (h a (by simp)))).u
 | a :: b :: r,h=>by
  have ih:=zep (b :: r) (fun p hp=>h p (by simp [hp]))
  have e:jl ((a :: b :: r).map (·.data.toList))=a.data.toList++(([44]++[32])++jl ((b :: r).map (·.data.toList))):=by
   simp only [jl,List.map_cons]
   rw [z8v]
   simp
  have e2:parQ (a :: b :: r)=[tI a.data.toList]++(([tS [44]]++[])++parQ (b :: r)):=by simp [parQ]
  rw [e,e2]
  exact (z33 (z1v (h a (by simp)))).u.then rfl ((zet.u.append za0).then ih)
theorem zeV {d:Nat} {f:Fn} (h:GF d f):SaU (fmtF 3 (d+1) f) (tkF f):=by
 have e:fmtF 3 (d+1) f=([102,117,110,99]++[32])++(f.name.data.toList++([40]++(jl (f.params.map (·.data.toList))++([41]++[32,123,10]++(fmtB 3 (d+1) f.body [9]++([125]++[10])))))):=by simp [fmtF]
 have hj:=zep f.params h.2.2.1
 have hb:SaU (fmtB 3 (d+1) f.body [9]) (tkB f.body):=by
  rw [z6y]
  exact z9Y _ _ f.body (fun t hm=>zhd d t [9] (h.2.2.2.1 t hm) zeC)
 rw [e]
 exact z4r ((z2B (by decide) (by decide) (by decide)).append ((z33 (z1v h.1)).u.append rfl (zer.u.append (hj.append rfl ((zes.u.append z6A).append (hb.append (zcl.append z9Z))))))) (by simp [tkF,z4m])
theorem zeY {d:Nat} {gl:List (ByteArray × Int)} {fl:List Fn} (hg:∀ x∈gl,GG x) (hf:∀ f∈fl,GF d f):U (fmtP 3 (d+1) gl fl)=some ((tkP gl fl++[eofT]).map unl):=by
 have h:SaU (fmtP 3 (d+1) gl fl) (tkP gl fl):=(z9Y _ _ gl (fun x hx=>zeW (hg x hx))).append (z9Y _ _ fl (fun f hm=>zeV (hf f hm)))
 have:=h []
 rw [List.append_nil] at this
 have e0:U []=some [unl eofT]:=by
  unfold U
  rw [scan]
  rfl
 rw [this,e0]
 simp
def gapL (q:Nat):z03:=if q=0 then [32] else if q=1 then [10] else [32,32,35,32,110,111,116,101,10]
def zfe (c:UInt8):Bool:=decide (c.toNat=32)||decide (c.toNat=10)
inductive Lay:z03→z03→Prop
 | nil:Lay [] []
 | same (c:UInt8) (t s:z03):zfe c=false→Lay t s→Lay (c :: t) (c :: s)
 | gap (c:UInt8) (q:Nat) (t s:z03):zfe c=true→Lay t s→Lay (c :: t) (gapL q++s)
theorem Lay.append {a b:z03} (h:Lay a b) {c d:z03} (h2:Lay c d):Lay (a++c) (b++d):=by
 induction h with
 | nil=>exact h2
 | same x t s hx _ ih=>exact .same x _ _ hx ih
 | gap x q t s hx _ ih =>
  rw [List.append_assoc]
  exact .gap x q _ _ hx ih
theorem Lay.pre {t s:z03} (h:Lay t s):∀ k,(∀ x∈t.take k,zfe x=false)→s.take k=t.take k∧Lay (t.drop k) (s.drop k):=by
 induction h with
 | nil=>intro k _; simp [Lay.nil]
 | same c t s hc hl ih =>
  intro k hk
  cases k with
  | zero=>exact ⟨rfl,.same c t s hc hl⟩
  | succ k =>
   obtain ⟨h1,h2⟩:=ih k (fun x hx=>hk x (by simp [hx]))
   exact ⟨by simp [h1],h2⟩
 | gap c q t s hc hl ih =>
  intro k hk
  cases k with
  | zero=>exact ⟨rfl,.gap c q t s hc hl⟩
  | succ k =>
   have:=hk c (by simp)
   rw [hc] at this
   cases this
theorem zfP {l:z03} {ts:List Tok} (hl:l.length≤65536) (h:U l=some (ts.map unl)):∃ us,z1p l=.ok us∧us.map unl=ts.map unl:=by
 unfold U at h
 unfold z1p
 rw [if_neg (by omega)]
 cases e:scan 1 l with
 | error n=>rw [e] at h; cases h
 | ok us =>
  rw [e] at h
  injection h with h
  exact ⟨us,rfl,h⟩
end Go.Proofs.YtdplfnemedckaaaGreatDoor
namespace Go.Proofs.YtdplfnemedckaaaGreatDoor
open Go.RowKit
theorem zaq {k o a l:Int} {s:ByteArray} (hc:CnOk k o a s) (hk:k=12∨(k=13∧z0x s)∨k=1∨(k=11∧z0x s)):cnX (.mk k o a l s [])=.mk k o a l s []:=by
 unfold CnOk at hc
 rcases hk with rfl | ⟨rfl,_⟩ | rfl | ⟨rfl,_⟩
 ·simp at hc
  obtain ⟨rfl,rfl,rfl⟩:=hc
  rfl
 ·simp at hc
  obtain ⟨rfl,rfl⟩:=hc
  rfl
 ·simp at hc
  obtain ⟨rfl,rfl⟩:=hc
  rfl
 ·simp at hc
  obtain ⟨rfl,rfl⟩:=hc
  rfl
theorem zf5:∀ (d:Nat) (x:Ex),GE d x→cnX x=x:=by
 intro d
 induction d with
 | zero =>
  rintro ⟨k,o,a,l,s,xs⟩ ⟨⟨_,hc⟩,_,_,_,_,_,rfl,hk⟩
  exact zaq hc hk
 | succ d ih =>
  rintro ⟨k,o,a,l,s,xs⟩ ⟨⟨_,hc⟩,_,_,_,_,_,⟨rfl,hk⟩ | ⟨hxs,hk⟩⟩
  ·exact zaq hc hk
  ·have hl:cnL xs=xs:=by
    rw [z4b]
    conv=>rhs; rw [← List.map_id xs]
    exact List.map_congr_left (fun x hx=>ih x (hxs x hx))
   unfold CnOk at hc
   rcases hk with ⟨rfl,_⟩ | ⟨rfl,_⟩ | ⟨rfl,_⟩ | ⟨rfl,_⟩ | ⟨rfl,_⟩ | ⟨rfl,_⟩ | ⟨rfl,_⟩
   ·simp at hc
    obtain ⟨rfl,rfl⟩:=hc
    simp [cnX,hl]
   ·simp at hc
    obtain ⟨rfl,rfl⟩:=hc
    simp [cnX,hl]
   ·simp at hc
    obtain ⟨rfl,rfl,rfl⟩:=hc
    simp [cnX,hl]
   ·simp at hc
    obtain ⟨rfl,rfl,rfl⟩:=hc
    simp [cnX,hl]
   ·simp at hc
    obtain ⟨rfl,rfl⟩:=hc
    simp [cnX,hl]
   ·simp at hc
    obtain ⟨rfl,rfl⟩:=hc
    simp [cnX,hl]
   ·simp at hc
    obtain ⟨rfl,rfl,rfl⟩:=hc
    simp [cnX,hl]
theorem z5O:∀ xs,cnM xs=xs.map cnS
 | []=>rfl
 | x :: r=>by simp [cnM,z5O r]
theorem zgA:∀ (d:Nat) (x:St),GSt d x→cnS x=rlS x:=by
 intro d
 induction d with
 | zero=>intro x h; exact h.elim
 | succ d ih =>
  rintro ⟨k,l,s,es,ts,us⟩ ⟨_,he,ht,hu,hk⟩
  have h1:es.map (fun x=>rlX (cnX x))=rlL es:=by
   rw [z2V]
   exact List.map_congr_left (fun x hx=>by rw [zf5 2 x (he x hx)])
  have h2:cnM ts=rlM ts:=by
   rw [z5O,z2W]
   exact List.map_congr_left (fun x hx=>ih x (ht x hx))
  have h3:cnM us=rlM us:=by
   rw [z5O,z2W]
   exact List.map_congr_left (fun x hx=>ih x (hu x hx))
  have h4:(if k=1∨k=2∨k=3 then s else ⟨#[]⟩)=s:=by
   split
   ·rfl
   ·rename_i hn
    have hs:s.size=0:=by
     rcases hk with ⟨rfl,_⟩ | ⟨rfl,_⟩ | ⟨rfl,_⟩ | ⟨_,h,_⟩ | ⟨_,h,_⟩ | ⟨_,h,_⟩
     ·simp at hn
     ·simp at hn
     ·simp at hn
     ·exact h
     ·exact h
     ·exact h
    have h5:s.data.toList=[]:=List.eq_nil_of_length_eq_zero (by simpa using hs)
    cases s with
    | mk a =>
     have:a=#[]:=by simpa using h5
     rw [this]
  simp only [cnS,rlS,h1,h2,h3,h4]
theorem zhE {d:Nat} {f:Fn} (h:GF d f):cnF f=rlF f:=by
 unfold cnF rlF
 have:cnM f.body=rlM f.body:=by
  rw [z5O,z2W]
  exact List.map_congr_left (fun x hx=>zgA _ x (h.2.2.2.1 x hx))
 rw [this]
mutual
theorem zfJ:∀ x,rlX (rlX x)=rlX x
 | .mk _ _ _ _ _ xs=>by simp only [rlX,z7Z xs]
theorem z7Z:∀ xs,rlL (rlL xs)=rlL xs
 | []=>rfl
 | x :: r=>by simp only [rlL,zfJ x,z7Z r]
end
mutual
theorem zfI:∀ x,rlS (rlS x)=rlS x
 | .mk _ _ _ es ts us=>by simp only [rlS,z7Z es,z6n ts,z6n us]
theorem z6n:∀ xs,rlM (rlM xs)=rlM xs
 | []=>rfl
 | x :: r=>by simp only [rlM,zfI x,z6n r]
end
theorem zfG (f:Fn):rlF (rlF f)=rlF f:=by simp only [rlF,z6n]
theorem zgz {d:Nat} {fl:List Fn} (h:∀ f∈fl,GF d f):(fl.map cnF).map rlF=fl.map rlF:=by
 rw [List.map_map]
 exact List.map_congr_left (fun f hf=>by
  show rlF (cnF f)=rlF f
  rw [zhE (h f hf),zfG])
end Go.Proofs.YtdplfnemedckaaaGreatDoor
