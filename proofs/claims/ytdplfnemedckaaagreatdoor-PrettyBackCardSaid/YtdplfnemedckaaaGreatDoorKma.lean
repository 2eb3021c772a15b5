/-
  Kma: PrBn, LkP. Walks and laws that the statement's proof is made of. No condition of its own.
-/
import Derived.Test.YtdplfnemedckaaaGreatDoorKd
import Derived.Test.YtdplfnemedckaaaGreatDoorKj
namespace Go.Proofs.YtdplfnemedckaaaGreatDoor
open Go.RowKit
def isNm (l:z03):Bool:=match l with | []=>false | c :: r=>letter c&&r.all wordy&&!isW (c :: r)&&decide (r.length<32)
inductive WfX:Ex→Prop
 | num (a l:Int):0≤a→a<9223372036854775808→WfX (.mk 1 0 a l ⟨#[]⟩ [])
 | nam (l:Int) (s:ByteArray):isNm s.data.toList=true→WfX (.mk 13 0 0 l s [])
 | fn (l:Int) (s:ByteArray):isNm s.data.toList=true→WfX (.mk 11 0 0 l s [])
 | rd (l:Int):WfX (.mk 12 0 0 l ⟨#[]⟩ [])
 | el (l:Int) (s:ByteArray) (x:Ex):isNm s.data.toList=true→WfX x→WfX (.mk 4 0 0 l s [x])
 | un (o l:Int) (x:Ex):1≤o→o≤2→WfX x→WfX (.mk 5 o 0 l ⟨#[]⟩ [x])
 | bin (o l:Int) (x y:Ex):3≤o→o≤11→WfX x→WfX y→WfX (.mk 6 o 0 l ⟨#[]⟩ [x,y])
 | and_ (l:Int) (x y:Ex):WfX x→WfX y→WfX (.mk 7 0 0 l ⟨#[]⟩ [x,y])
 | or_ (l:Int) (x y:Ex):WfX x→WfX y→WfX (.mk 8 0 0 l ⟨#[]⟩ [x,y])
 | call (l:Int) (s:ByteArray) (xs:List Ex):isNm s.data.toList=true→(∀ x∈xs,WfX x)→WfX (.mk 9 0 0 l s xs)
 | val (l:Int) (x:Ex) (xs:List Ex):WfX x→(∀ y∈xs,WfX y)→WfX (.mk 10 0 0 l ⟨#[]⟩ (x :: xs))
mutual
def rlX:Ex→Ex
 | .mk k o a _ s xs=>.mk k o a 1 s (rlL xs)
def rlL:List Ex→List Ex
 | []=>[]
 | x :: r=>rlX x :: rlL r
end
theorem z4I (x:Ex):(rlX x).kind=x.kind:=by cases x; rfl
def tS (t:z03):Tok:=⟨4,1,0,t⟩
def tW (t:z03):Tok:=⟨3,1,0,t⟩
def tI (t:z03):Tok:=⟨1,1,0,t⟩
def tN (n:Nat):Tok:=⟨2,1,n,numL n⟩
def parT (l:List Tok):List Tok:=tS [40] :: (l++[tS [41]])
def opT (p:Int × List Tok):List Tok:=if z0D p.1 then parT p.2 else p.2
def vaT (p:Int × List Tok):List Tok:=if p.1=13 then parT p.2 else opT p
def z2g (l:List (Int × List Tok)):List Tok:=l.flatMap fun p=>tS [44] :: p.2
def comT:List (Int × List Tok)→List Tok
 | []=>[]
 | p :: r=>p.2++z2g r
def argT (l:List (Int × List Tok)):List Tok:=tS [40] :: (comT l++[tS [41]])
def asmT (k o a:Int) (s:z03) (l:List (Int × List Tok)):List Tok :=
 if k=1 then [tN a.toNat] else if k=13 then [tI s] else if k=12 then [tW [114,101,97,100]] else if k=11 then [tS [38],tI s]
 else match k,l with
  | 4,[p]=>tI s :: tS [91] :: (p.2++[tS [93]])
  | 5,[p]=>tS (z1U o) :: opT p
  | 6,[p,q]=>opT p++tS (z1U o) :: opT q
  | 7,[p,q]=>opT p++tS [38,38] :: opT q
  | 8,[p,q]=>opT p++tS [124,124] :: opT q
  | 9,l=>tI s :: argT l
  | 10,p :: l=>vaT p++argT l
  | _,_=>[]
mutual
def tkX:Ex→List Tok
 | .mk k o a _ s xs=>asmT k o a s.data.toList (tkL xs)
def tkL:List Ex→List (Int × List Tok)
 | []=>[]
 | x :: r=>(x.kind,tkX x) :: tkL r
end
abbrev tkO (x:Ex):List Tok:=opT (x.kind,tkX x)
theorem zcg (o a l:Int) (s:ByteArray):tkX (.mk 1 o a l s [])=[tN a.toNat]:=by simp [tkX,asmT]
theorem zcf (o a l:Int) (s:ByteArray):tkX (.mk 13 o a l s [])=[tI s.data.toList]:=by simp [tkX,asmT]
theorem zg2 (o a l:Int) (s:ByteArray):tkX (.mk 12 o a l s [])=[tW [114,101,97,100]]:=by simp [tkX,asmT]
theorem zg0 (o a l:Int) (s:ByteArray):tkX (.mk 11 o a l s [])=[tS [38],tI s.data.toList]:=by simp [tkX,asmT]
theorem zfZ (o a l:Int) (s:ByteArray) (x:Ex):tkX (.mk 4 o a l s [x])=tI s.data.toList :: tS [91] :: (tkX x++[tS [93]]):=by simp [tkX,tkL,asmT]
theorem zg3 (o a l:Int) (s:ByteArray) (x:Ex):tkX (.mk 5 o a l s [x])=tS (z1U o) :: tkO x:=by simp [tkX,tkL,asmT]
theorem zce (o a l:Int) (s:ByteArray) (x y:Ex):tkX (.mk 6 o a l s [x,y])=tkO x++tS (z1U o) :: tkO y:=by simp [tkX,tkL,asmT]
theorem zcd (o a l:Int) (s:ByteArray) (x y:Ex):tkX (.mk 7 o a l s [x,y])=tkO x++tS [38,38] :: tkO y:=by simp [tkX,tkL,asmT]
theorem zg1 (o a l:Int) (s:ByteArray) (x y:Ex):tkX (.mk 8 o a l s [x,y])=tkO x++tS [124,124] :: tkO y:=by simp [tkX,tkL,asmT]
theorem z8b (o a l:Int) (s:ByteArray) (xs:List Ex):tkX (.mk 9 o a l s xs)=tI s.data.toList :: argT (tkL xs):=by simp [tkX,asmT]
theorem zch (o a l:Int) (s:ByteArray) (x:Ex) (xs:List Ex):tkX (.mk 10 o a l s (x :: xs))=vaT (x.kind,tkX x)++argT (tkL xs):=by simp [tkX,tkL,asmT]
def st (r:List Tok):PS:=⟨r,0,0⟩
def hx (r:List Tok):z03:=(hdT (st r)).text
theorem z1m (t:Tok) (r:List Tok):hx (t :: r)=t.text:=rfl
theorem z1A (t:Tok) (r:List Tok):popP (st (t :: r))=st r:=rfl
theorem z18 (l:List z03) (r:List Tok):z0c l (st r)=l.contains (hx r):=rfl
def Clo (t:z03):Prop:=t∈([[],[41],[93],[44],[59],[123]]:List z03)
theorem z0l {P:P1} {l:List z03} {a b:List Tok} {x:Ex} (h:P (st a)=some (x,st b)) (hl:l.contains (hx b)=false):z0v P l (st a)=some (x,st b):=by
 unfold z0v
 rw [h]
 show z2f P l (a.length+1) x (st b)=_
 rw [z2f,z18,hl]
 rfl
theorem z4B {P:P1} {l:List z03} {a b c:List Tok} {t:Tok} {x y:Ex} (h1:P (st a)=some (x,st (t :: b))) (ht:l.contains t.text=true) (h2:P (st b)=some (y,st c)) (hc:l.contains (hx c)=false) (ha:1≤a.length):z0v P l (st a)=some (binP t x y,st c):=by
 unfold z0v
 rw [h1]
 show z2f P l (a.length+1) x (st (t :: b))=_
 obtain ⟨n,hn⟩:∃ n,a.length=n+1:=⟨a.length - 1,by omega⟩
 rw [hn,z2f,z18,z1m,ht,z1A,h2]
 show z2f P l (n+1) (binP t x y) (st c)=_
 rw [z2f,z18,hc]
 rfl
theorem z2h {P:P1} {l:List z03} {a b:List Tok} {x:Ex} (h:P (st a)=some (x,st b)) (hl:l.contains (hx b)=false):z2G P l (st a)=some (x,st b):=by
 unfold z2G
 rw [h]
 simp only [z18,hl]
 rfl
theorem zfu {P:P1} {l:List z03} {a b c:List Tok} {t:Tok} {x y:Ex} (h1:P (st a)=some (x,st (t :: b))) (ht:l.contains t.text=true) (h2:P (st b)=some (y,st c)):z2G P l (st a)=some (binP t x y,st c):=by
 unfold z2G
 rw [h1]
 simp only [z18,z1m,ht,z1A,h2]
 rfl
theorem z6U (d:Nat) (s:PS):z1a (d+1) s=z0v (z0v (z2G (z0v (z0v (z22 (z1a d)) [[42],[47],[37]]) [[43],[45]]) [[60],[60,61],[61,61],[33,61]]) [[38,38]]) [[124,124]] s:=rfl
theorem z4Q {t:z03} (h:Clo t):(([[42],[47],[37]]:List z03).contains t=false∧([[43],[45]]:List z03).contains t=false∧([[60],[60,61],[61,61],[33,61]]:List z03).contains t=false∧([[38,38]]:List z03).contains t=false∧([[124,124]]:List z03).contains t=false)∧t≠[40]∧t≠[91]:=by
 simp only [Clo,List.mem_cons,List.not_mem_nil,or_false] at h
 rcases h with rfl | rfl | rfl | rfl | rfl | rfl <;> decide
theorem z8L {d:Nat} {a b:List Tok} {x:Ex} (h:z22 (z1a d) (st a)=some (x,st b)) (hc:Clo (hx b)):z1a (d+1) (st a)=some (x,st b):=by
 obtain ⟨⟨c1,c2,c3,c4,c5⟩,_⟩:=z4Q hc
 rw [z6U]
 exact z0l (z0l (z2h (z0l (z0l h c1) c2) c3) c4) c5
theorem zeK {d:Nat} {a b c:List Tok} {t:Tok} {x y:Ex} (h1:z22 (z1a d) (st a)=some (x,st (t :: b))) (h2:z22 (z1a d) (st b)=some (y,st c)) (ht:t.text∈([[42],[47],[37],[43],[45],[60],[60,61],[61,61],[33,61],[38,38],[124,124]]:List z03)) (hc:Clo (hx c)) (ha:1≤a.length):z1a (d+1) (st a)=some (binP t x y,st c):=by
 obtain ⟨⟨c1,c2,c3,c4,c5⟩,_⟩:=z4Q hc
 rw [z6U]
 have g:hx (t :: b)=t.text:=rfl
 have term:([[42],[47],[37]]:List z03).contains t.text=true→z0v (z0v (z2G (z0v (z0v (z22 (z1a d)) [[42],[47],[37]]) [[43],[45]]) [[60],[60,61],[61,61],[33,61]]) [[38,38]]) [[124,124]] (st a)=some (binP t x y,st c):=fun e=>z0l (z0l (z2h (z0l (z4B h1 e h2 c1 ha) c2) c3) c4) c5
 have sum:([[42],[47],[37]]:List z03).contains t.text=false→([[43],[45]]:List z03).contains t.text=true→z0v (z0v (z2G (z0v (z0v (z22 (z1a d)) [[42],[47],[37]]) [[43],[45]]) [[60],[60,61],[61,61],[33,61]]) [[38,38]]) [[124,124]] (st a)=some (binP t x y,st c):=fun e1 e=>z0l (z0l (z2h (z4B (z0l h1 e1) e (z0l h2 c1) c2 ha) c3) c4) c5
 have comp:([[42],[47],[37]]:List z03).contains t.text=false→([[43],[45]]:List z03).contains t.text=false→([[60],[60,61],[61,61],[33,61]]:List z03).contains t.text=true→z0v (z0v (z2G (z0v (z0v (z22 (z1a d)) [[42],[47],[37]]) [[43],[45]]) [[60],[60,61],[61,61],[33,61]]) [[38,38]]) [[124,124]] (st a)=some (binP t x y,st c):=fun e1 e2 e=>z0l (z0l (zfu (z0l (z0l h1 e1) e2) e (z0l (z0l h2 c1) c2)) c4) c5
 have and_:([[42],[47],[37]]:List z03).contains t.text=false→([[43],[45]]:List z03).contains t.text=false→([[60],[60,61],[61,61],[33,61]]:List z03).contains t.text=false→([[38,38]]:List z03).contains t.text=true→z0v (z0v (z2G (z0v (z0v (z22 (z1a d)) [[42],[47],[37]]) [[43],[45]]) [[60],[60,61],[61,61],[33,61]]) [[38,38]]) [[124,124]] (st a)=some (binP t x y,st c):=fun e1 e2 e3 e=>z0l (z4B (z2h (z0l (z0l h1 e1) e2) e3) e (z2h (z0l (z0l h2 c1) c2) c3) c4 ha) c5
 have or_:([[42],[47],[37]]:List z03).contains t.text=false→([[43],[45]]:List z03).contains t.text=false→([[60],[60,61],[61,61],[33,61]]:List z03).contains t.text=false→([[38,38]]:List z03).contains t.text=false→([[124,124]]:List z03).contains t.text=true→z0v (z0v (z2G (z0v (z0v (z22 (z1a d)) [[42],[47],[37]]) [[43],[45]]) [[60],[60,61],[61,61],[33,61]]) [[38,38]]) [[124,124]] (st a)=some (binP t x y,st c):=fun e1 e2 e3 e4 e=>z4B (z0l (z2h (z0l (z0l h1 e1) e2) e3) e4) e (z0l (z2h (z0l (z0l h2 c1) c2) c3) c4) c5 ha
 simp only [List.mem_cons,List.not_mem_nil,or_false] at ht
 rcases ht with h | h | h | h | h | h | h | h | h | h | h <;> rw [h] at term sum comp and_ or_
 ·exact term (by decide)
 ·exact term (by decide)
 ·exact term (by decide)
 ·exact sum (by decide) (by decide)
 ·exact sum (by decide) (by decide)
 ·exact comp (by decide) (by decide) (by decide)
 ·exact comp (by decide) (by decide) (by decide)
 ·exact comp (by decide) (by decide) (by decide)
 ·exact comp (by decide) (by decide) (by decide)
 ·exact and_ (by decide) (by decide) (by decide) (by decide)
 ·exact or_ (by decide) (by decide) (by decide) (by decide) (by decide)
theorem z95 {t:z03} (h:∃ c r,t=c :: r∧(letter c||digit c)=true):t≠[45]∧t≠[33]∧t≠[41]∧t≠[38]∧t≠[40]∧t≠[91]:=by
 obtain ⟨c,r,rfl,h⟩:=h
 refine ⟨?_,?_,?_,?_,?_,?_⟩ <;> (intro e; injection e with e _; subst e; revert h; decide)
theorem z3h {t:z03} (h:isNm t=true):(∃ c r,t=c :: r∧(letter c||digit c)=true)∧t≠[114,101,97,100]:=by
 cases t with
 | nil=>cases h
 | cons c r =>
  simp only [isNm,Bool.and_eq_true,Bool.not_eq_true',decide_eq_true_eq] at h
  refine ⟨⟨c,r,rfl,by simp [h.1.1.1]⟩,fun e=>?_⟩
  have:=h.1.2
  rw [e] at this
  revert this
  decide
theorem z6Z (n:Nat):∀ c∈numL n,digit c=true:=by
 induction n using Nat.strongRecOn with
 | ind n ih =>
  intro c hc
  have hd:(UInt8.ofNat (48+n % 10)).toNat=48+n % 10:=by simp; omega
  rw [numL] at hc
  split at hc
  ·rename_i h10
   rw [Nat.mod_eq_of_lt h10] at hd
   simp only [List.mem_singleton] at hc
   subst hc
   simp only [digit,hd,Bool.and_eq_true,decide_eq_true_eq]
   omega
  ·rcases List.mem_append.1 hc with hc | hc
   ·exact ih (n / 10) (by omega) c hc
   ·simp only [List.mem_singleton] at hc
    subst hc
    simp only [digit,hd,Bool.and_eq_true,decide_eq_true_eq]
    omega
theorem zbp (n:Nat):∃ c r,numL n=c :: r∧(1≤n→c.toNat≠48)∧(n=0→r=[]):=by
 induction n using Nat.strongRecOn with
 | ind n ih =>
  have hd:(UInt8.ofNat (48+n % 10)).toNat=48+n % 10:=by simp; omega
  rw [numL]
  split
  ·rename_i h10
   rw [Nat.mod_eq_of_lt h10] at hd
   exact ⟨_,[],rfl,fun h=>by rw [hd]; omega,fun _=>rfl⟩
  ·obtain ⟨c,r,e,h1,_⟩:=ih (n / 10) (by omega)
   exact ⟨c,r++[UInt8.ofNat (48+n % 10)],by rw [e]; rfl,fun _=>h1 (by omega),fun h=>by omega⟩
theorem zbq (n:Nat):∃ c r,numL n=c :: r∧(letter c||digit c)=true:=by
 obtain ⟨c,r,e,_⟩:=zbp n
 exact ⟨c,r,e,by rw [z6Z n c (by rw [e]; simp)]; simp⟩
theorem z1Q (s:ByteArray):nmB s.data.toList=s:=by cases s; simp [nmB]
theorem zh7 (E:P1) (n:Nat) (r:List Tok):z0p E (st (tN n :: r))=some (.mk 1 0 (n:Int) 1 ⟨#[]⟩ [],st r):=rfl
theorem zhH (E:P1) (r:List Tok):z0p E (st (tW [114,101,97,100] :: r))=some (.mk 12 0 0 1 ⟨#[]⟩ [],st r):=rfl
theorem zhG (E:P1) (s:z03) (r:List Tok):z0p E (st (tS [38] :: tI s :: r))=some (.mk 11 0 0 1 (nmB s) [],st r):=rfl
theorem z2d (s:z03) (r:List Tok):z07 1 (st (tI s :: r))=(tI s,st r):=rfl
theorem z0Y (t:z03) (r:List Tok):z09 t (st (tS t :: r))=st r:=by
 have:z0c [t] (st (tS t :: r))=true:=by simp [z18,z1m,tS]
 simp [z09,this,z1A]
theorem z7W {E:P1} {s:z03} (hs:isNm s=true) (r:List Tok):z0p E (st (tI s :: r))=if z0c [[91]] (st r) then (match E (popP (st r)) with | none=>none | some (x,s1)=>some (.mk 4 0 0 1 (nmB s) [x],z09 [93] s1)) else some (.mk 13 0 0 1 (nmB s) [],st r):=by
 obtain ⟨hw,hr⟩:=z3h hs
 obtain ⟨_,_,_,h38,h40,_⟩:=z95 hw
 have e0:(hdT (st (tI s :: r))).kind=1:=rfl
 have e1:z0c [[38]] (st (tI s :: r))=false:=by simp [z18,z1m,tI,h38]
 have e2:z0c [[114,101,97,100]] (st (tI s :: r))=false:=by simp [z18,z1m,tI,hr]
 have e3:z0c [[40]] (st (tI s :: r))=false:=by simp [z18,z1m,tI,h40]
 unfold z0p
 rw [e0,e1,e2,e3,z2d]
 rfl
theorem zh8 {E:P1} {a r:List Tok} {x:Ex} (h:E (st a)=some (x,st (tS [41] :: r))):z0p E (st (tS [40] :: a))=some (x,st r):=by
 have e0:(hdT (st (tS [40] :: a))).kind=4:=rfl
 have e1:z0c [[38]] (st (tS [40] :: a))=false:=rfl
 have e2:z0c [[114,101,97,100]] (st (tS [40] :: a))=false:=rfl
 have e3:z0c [[40]] (st (tS [40] :: a))=true:=rfl
 unfold z0p
 rw [e0,e1,e2,e3,z1A,h]
 simp [z0Y]
def z0U (E:P1) (a:List Tok) (x:Ex) (r:List Tok):Prop:=∃ p b,z0p E (st a)=some (p,st b)∧b.length≤a.length∧∀ n,b.length<n→∃ m,r.length<m∧z12 E ((hdT (st a)).kind == 1) n p (st b)=z12 E ((hdT (st a)).kind == 1) m x (st r)
theorem z0U.of {E:P1} {a r:List Tok} {x:Ex} (h:z0p E (st a)=some (x,st r)) (hl:r.length≤a.length):z0U E a x r:=⟨x,r,h,hl,fun n hn=>⟨n,hn,rfl⟩⟩
theorem z0U.called {E:P1} {a r:List Tok} {x:Ex} (h:z0U E a x r) (hr:hx r≠[40]):z1W E (st a)=some (x,st r):=by
 obtain ⟨p,b,h1,h2,h3⟩:=h
 obtain ⟨m,hm,e⟩:=h3 (a.length+1) (by omega)
 unfold z1W
 rw [h1]
 show z12 E ((hdT (st a)).kind == 1) (a.length+1) p (st b)=_
 obtain ⟨q,rfl⟩:∃ q,m=q+1:=⟨m - 1,by omega⟩
 have es:z0c [[40]] (st r)=false:=by simp [z18,hr]
 rw [e,z12.eq_def]
 simp only [es,Bool.false_eq_true,if_false]
theorem z0U.unary {E:P1} {a r:List Tok} {x:Ex} (h:z0U E a x r) (hr:hx r≠[40]) (ha:hx a≠[45]∧hx a≠[33]):z22 E (st a)=some (x,st r):=by
 have e1:z0c [[45]] (st a)=false:=by simp [z18,ha.1]
 have e2:z0c [[33]] (st a)=false:=by simp [z18,ha.2]
 show z1g E (a.length+1) (st a)=_
 rw [z1g,e1,e2]
 exact h.called hr
theorem z0U.val {E:P1} {a b r:List Tok} {f:Ex} {ys:List Ex} (h:z0U E a f (tS [40] :: b)) (hb:((hdT (st a)).kind == 1&&f.kind == 13)=false) (hl:z2E E [f] (st b)=some (f :: ys,st r)) (hr:r.length≤b.length):z0U E a (.mk 10 0 0 1 ⟨#[]⟩ (f :: ys)) r:=by
 obtain ⟨p,q,h1,h2,h3⟩:=h
 refine ⟨p,q,h1,h2,fun n hn=>?_⟩
 obtain ⟨m,hm,e⟩:=h3 n hn
 simp only [List.length_cons] at hm
 obtain ⟨m,rfl⟩:∃ k,m=k+1:=⟨m - 1,by omega⟩
 refine ⟨m,by omega,?_⟩
 obtain ⟨k,o,a',l,nm,az,rfl⟩:∃ k o a l nm az,f=.mk k o a l nm az:=by
  cases f
  exact ⟨_,_,_,_,_,_,rfl⟩
 have es:z0c [[40]] (st (tS [40] :: b))=true:=rfl
 have hb':((hdT (st a)).kind == 1&&k == 13)=false:=hb
 have hc:z36 E (.mk k o a' l nm az) false (st (tS [40] :: b))=some (.mk 10 0 0 1 ⟨#[]⟩ (.mk k o a' l nm az :: ys),st r):=by
  simp only [z36,z1A,Bool.false_eq_true,if_false]
  rw [hl]
  rfl
 have e2:z12 E ((hdT (st a)).kind == 1) (m+1) (.mk k o a' l nm az) (st (tS [40] :: b))=z12 E ((hdT (st a)).kind == 1) m (.mk 10 0 0 1 ⟨#[]⟩ (.mk k o a' l nm az :: ys)) (st r):=by
  rw [z12.eq_def]
  simp only [es,if_true,hb',hc]
 exact e.trans e2
theorem z6O {E:P1} {s:z03} (hs:isNm s=true) {b r:List Tok} {ys:List Ex} (hl:z2E E [] (st b)=some (ys,st r)) (hr:r.length≤b.length):z0U E (tI s :: tS [40] :: b) (.mk 9 0 0 1 (nmB s) ys) r:=by
 refine ⟨.mk 13 0 0 1 (nmB s) [],tS [40] :: b,?_,by simp,fun n hn=>?_⟩
 ·rw [z7W hs]
  rfl
 simp only [List.length_cons] at hn
 obtain ⟨n,rfl⟩:∃ k,n=k+1:=⟨n - 1,by omega⟩
 refine ⟨n,by omega,?_⟩
 have es:z0c [[40]] (st (tS [40] :: b))=true:=rfl
 have hk:(hdT (st (tI s :: tS [40] :: b))).kind=1:=rfl
 have hc:z36 E (.mk 13 0 0 1 (nmB s) []) true (st (tS [40] :: b))=some (.mk 9 0 0 1 (nmB s) ys,st r):=by
  simp only [z36,z1A,if_true]
  rw [hl]
  rfl
 rw [z12,es,hk]
 simp only [if_true,beq_self_eq_true,Bool.and_self,hc]
theorem zaT (l:List Ex) (r:List Tok):Clo (hx (z2g (tkL l)++tS [41] :: r)):=by
 cases l with
 | nil=>simp [tkL,z2g,z1m,tS,Clo]
 | cons x l=>simp [tkL,z2g,z1m,tS,Clo]
def Rds (E:P1) (x:Ex):Prop:=∀ q,Clo (hx q)→E (st (tkX x++q))=some (rlX x,st q)
theorem zbk {E:P1} (r:List Tok):∀ (l xs:List Ex) (n:Nat),(∀ x∈l,Rds E x)→(z2g (tkL l)++tS [41] :: r).length<n→z2x E n xs (st (z2g (tkL l)++tS [41] :: r))=some (xs++rlL l,st (tS [41] :: r)):=by
 intro l
 induction l with
 | nil =>
  intro xs n _ hn
  obtain ⟨n,rfl⟩:∃ k,n=k+1:=⟨n - 1,by omega⟩
  have es:z0c [[44]] (st (z2g (tkL [])++tS [41] :: r))=false:=rfl
  rw [z2x,es]
  simp [tkL,z2g,rlL]
 | cons x l ih =>
  intro xs n hx' hn
  obtain ⟨n,rfl⟩:∃ k,n=k+1:=⟨n - 1,by omega⟩
  have e0:z2g (tkL (x :: l))++tS [41] :: r=tS [44] :: (tkX x++(z2g (tkL l)++tS [41] :: r)):=by simp [tkL,z2g]
  rw [e0] at hn ⊢
  simp only [List.length_cons,List.length_append] at hn
  have es:z0c [[44]] (st (tS [44] :: (tkX x++(z2g (tkL l)++tS [41] :: r))))=true:=rfl
  rw [z2x,es,z1A,hx' x (by simp) _ (zaT l r)]
  simp only [if_true]
  rw [ih (xs++[rlX x]) n (fun y hy=>hx' y (by simp [hy])) (by simp only [List.length_append,List.length_cons]; omega)]
  simp [rlL]
theorem zb5 {E:P1} (r:List Tok) (l pre:List Ex) (hl:∀ x∈l,Rds E x) (h41:∀ x∈l,∀ q,hx (tkX x++q)≠[41]):z2E E pre (st (comT (tkL l)++tS [41] :: r))=some (pre++rlL l,st r):=by
 cases l with
 | nil =>
  have es:z0c [[41]] (st (comT (tkL [])++tS [41] :: r))=true:=rfl
  unfold z2E
  rw [es]
  simp [rlL,tkL,comT,z1A]
 | cons x l =>
  have e0:comT (tkL (x :: l))++tS [41] :: r=tkX x++(z2g (tkL l)++tS [41] :: r):=by simp [tkL,comT]
  rw [e0]
  have es:z0c [[41]] (st (tkX x++(z2g (tkL l)++tS [41] :: r)))=false:=by
   rw [z18]
   simpa using h41 x (by simp) _
  unfold z2E
  rw [es,hl x (by simp) _ (zaT l r)]
  simp only [Bool.false_eq_true,if_false]
  rw [zbk r l (pre++[rlX x]) _ (fun y hy=>hl y (by simp [hy])) (by show _<(tkX x++_).length+1; simp only [List.length_append,List.length_cons]; omega)]
  simp [z0Y,rlL]
theorem z6v (o:Int) (h:1≤o) (h2:o≤11):z1U o≠[41]∧(3≤o→z1U o∈([[42],[47],[37],[43],[45],[60],[60,61],[61,61],[33,61],[38,38],[124,124]]:List z03)):=by
 have hc:o=1∨o=2∨o=3∨o=4∨o=5∨o=6∨o=7∨o=8∨o=9∨o=10∨o=11:=by omega
 rcases hc with rfl | rfl | rfl | rfl | rfl | rfl | rfl | rfl | rfl | rfl | rfl <;> decide
def HdG (c:Bool) (l:List Tok):Prop:=∃ t r,l=t :: r∧t.text≠[41]∧(c=false→t.text≠[45]∧t.text≠[33])
theorem HdG.append {c:Bool} {l r:List Tok} (h:HdG c l):HdG c (l++r):=by
 obtain ⟨t,q,rfl,h⟩:=h
 exact ⟨t,q++r,rfl,h⟩
theorem zei (c:Bool) (l:List Tok):HdG c (parT l):=⟨tS [40],_,rfl,by decide,fun _=>by decide⟩
theorem z9r {x:Ex} (h:HdG (z0D x.kind) (tkX x)):HdG false (tkO x):=by
 unfold tkO opT
 split
 ·exact zei _ _
 ·rename_i hc
  have hc:z0D x.kind=false:=by simpa using hc
  rw [hc] at h
  exact h
theorem HdG.weak {c:Bool} {l:List Tok} (h:HdG false l):HdG c l:=by
 obtain ⟨t,q,rfl,h1,h2⟩:=h
 exact ⟨t,q,rfl,h1,fun _=>h2 rfl⟩
theorem z60 (c:Bool) {t:Tok} (r:List Tok) (h:∃ a q,t.text=a :: q∧(letter a||digit a)=true):HdG c (t :: r):=by
 obtain ⟨h1,h2,h3,_⟩:=z95 h
 exact ⟨t,r,rfl,h3,fun _=>⟨h1,h2⟩⟩
theorem z3P {x:Ex} (h:WfX x):HdG (z0D x.kind) (tkX x):=by
 induction h with
 | num a l h1 h2=>rw [zcg]; exact z60 _ _ (zbq _)
 | nam l s h=>rw [zcf]; exact z60 _ _ (z3h h).1
 | fn l s h=>rw [zg0]; exact ⟨_,_,rfl,by decide,fun _=>by decide⟩
 | rd l=>rw [zg2]; exact ⟨_,_,rfl,by decide,fun _=>by decide⟩
 | el l s x h hx ih=>rw [zfZ]; exact z60 _ _ (z3h h).1
 | un o l x h1 h2 hx ih=>rw [zg3]; exact ⟨_,_,rfl,(z6v o h1 (by omega)).1,fun h=>by cases h⟩
 | bin o l x y h1 h2 hx hy ih1 ih2=>rw [zce]; exact (z9r ih1).weak.append
 | and_ l x y hx hy ih1 ih2=>rw [zcd]; exact (z9r ih1).weak.append
 | or_ l x y hx hy ih1 ih2=>rw [zg1]; exact (z9r ih1).weak.append
 | call l s xs h hx ih=>rw [z8b]; exact z60 _ _ (z3h h).1
 | val l x xs hx hxs ih1 ih2 =>
  rw [zch]
  refine HdG.append ?_
  unfold vaT
  split
  ·exact zei _ _
  ·exact (z9r ih1).weak
theorem HdG.hx {c:Bool} {l r:List Tok} (h:HdG c l):hx (l++r)≠[41]∧(c=false→hx (l++r)≠[45]∧hx (l++r)≠[33])∧1≤l.length:=by
 obtain ⟨t,q,rfl,h1,h2⟩:=h
 exact ⟨h1,h2,by simp⟩
def Back (x:Ex):Prop:=(∀ d r,(tkX x).length≤d+1→Clo (hx r)→z1a (d+1) (st (tkX x++r))=some (rlX x,st r))∧(z0D x.kind=false→∀ d r,(tkX x).length≤d+1→(x.kind=13→hx r≠[91])→z0U (z1a d) (tkX x++r) (rlX x) r)
theorem z3C {x:Ex} (hx':WfX x) (hc:z0D x.kind=false) (h:∀ d r,(tkX x).length≤d+1→(x.kind=13→hx r≠[91])→z0U (z1a d) (tkX x++r) (rlX x) r):Back x:=by
 refine ⟨fun d r hd hr=>?_,fun _=>h⟩
 obtain ⟨_,h40,h91⟩:=z4Q hr
 have hh:=(z3P hx').hx (r:=r)
 rw [hc] at hh
 exact z8L ((h d r hd (fun _=>h91)).unary h40 (hh.2.1 rfl)) hr
theorem z8h {x:Ex} (h:Back x) {d:Nat} {r:List Tok} (hd:(tkX x).length≤d) (hp:1≤(tkX x).length):z0U (z1a d) (parT (tkX x)++r) (rlX x) r:=by
 obtain ⟨d,rfl⟩:∃ k,d=k+1:=⟨d - 1,by omega⟩
 have e:parT (tkX x)++r=tS [40] :: (tkX x++tS [41] :: r):=by simp [parT]
 rw [e]
 refine z0U.of (zh8 (h.1 d (tS [41] :: r) hd (by simp [z1m,tS,Clo]))) (by simp; omega)
theorem z7t {x:Ex} (hw:WfX x) (h:Back x) {d:Nat} {r:List Tok} (hd:(tkX x).length≤d) (h40:hx r≠[40]) (h91:hx r≠[91]):z22 (z1a d) (st (tkO x++r))=some (rlX x,st r):=by
 have hh:=((z9r (z3P hw)).hx (r:=r)).2.1 rfl
 have hp:=((z3P hw).hx (r:=r)).2.2
 unfold tkO opT at hh ⊢
 simp only at hh ⊢
 split at hh
 ·rename_i hc
  rw [if_pos hc]
  exact (z8h h hd hp).unary h40 hh
 ·rename_i hc
  rw [if_neg hc]
  exact (h.2 (by simpa using hc) d r (by omega) (fun _=>h91)).unary h40 hh
theorem z8a (x:Ex):(tkX x).length≤(tkO x).length:=by
 unfold tkO opT
 split
 ·simp [parT]; omega
 ·exact Nat.le_refl _
theorem zfs {t:z03} (ht:t∈([[42],[47],[37],[43],[45],[60],[60,61],[61,61],[33,61],[38,38],[124,124]]:List z03)):t≠[40]∧t≠[91]:=by
 simp only [List.mem_cons,List.not_mem_nil,or_false] at ht
 rcases ht with h | h | h | h | h | h | h | h | h | h | h <;> (rw [h]; decide)
theorem z5K {x y:Ex} (hx':WfX x) (hy:WfX y) (h1:Back x) (h2:Back y) {t:z03} (ht:t∈([[42],[47],[37],[43],[45],[60],[60,61],[61,61],[33,61],[38,38],[124,124]]:List z03)) {d:Nat} {r:List Tok} (hd:(tkO x++tS t :: tkO y).length≤d+1) (hr:Clo (hx r)) :
  z1a (d+1) (st ((tkO x++tS t :: tkO y)++r))=some (binP (tS t) (rlX x) (rlX y),st r):=by
 have l1:=z8a x
 have l2:=z8a y
 simp only [List.length_append,List.length_cons] at hd
 obtain ⟨n40,n91⟩:=zfs ht
 obtain ⟨_,h40,h91⟩:=z4Q hr
 have hp:=((z9r (z3P hx')).hx (r:=r)).2.2
 rw [List.append_assoc,List.cons_append]
 exact zeK (z7t hx' h1 (by omega) n40 n91) (z7t hy h2 (by omega) h40 h91) ht hr (by simp; omega)
theorem zfY {l:List Ex} {x:Ex} (h:x∈l):(tkX x).length≤(comT (tkL l)).length∧(tkX x).length≤(z2g (tkL l)).length:=by
 induction l with
 | nil=>simp at h
 | cons y l ih =>
  simp only [tkL,comT,z2g,List.flatMap_cons,List.length_append,List.length_cons] at ih ⊢
  rcases List.mem_cons.1 h with rfl | h
  ·exact ⟨by omega,by omega⟩
  ·have:=ih h
   exact ⟨by omega,by omega⟩
theorem z6F {xs:List Ex} (hw:∀ x∈xs,WfX x) (h:∀ x∈xs,Back x) (pre:List Ex) {d:Nat} (r:List Tok) (hd:(comT (tkL xs)).length≤d):z2E (z1a d) pre (st (comT (tkL xs)++tS [41] :: r))=some (pre++rlL xs,st r):=by
 refine zb5 r xs pre (fun x hx' q hq=>?_) (fun x hx' q=>((z3P (hw x hx')).hx (r:=q)).1)
 have hl:=(zfY hx').1
 have hp:=((z3P (hw x hx')).hx (r:=q)).2.2
 obtain ⟨d,rfl⟩:∃ k,d=k+1:=⟨d - 1,by omega⟩
 exact (h x hx').1 d q (by omega) hq
theorem zcF {x:Ex} (h:WfX x):Back x:=by
 induction h with
 | num a l h1 h2 =>
  refine z3C (.num a l h1 h2) rfl (fun d r hd hr=>?_)
  rw [zcg]
  have e:(a.toNat:Int)=a:=by omega
  refine z0U.of ?_ (by simp)
  show z0p (z1a d) (st (tN a.toNat :: r))=_
  rw [zh7,e]
  rfl
 | nam l s h =>
  refine z3C (.nam l s h) rfl (fun d r hd hr=>?_)
  rw [zcf]
  refine z0U.of ?_ (by simp)
  show z0p (z1a d) (st (tI s.data.toList :: r))=_
  have es:z0c [[91]] (st r)=false:=by simp [z18,hr rfl]
  rw [z7W h,es,z1Q]
  rfl
 | fn l s h =>
  refine z3C (.fn l s h) rfl (fun d r hd hr=>?_)
  rw [zg0]
  refine z0U.of ?_ (by simp; omega)
  show z0p (z1a d) (st (tS [38] :: tI s.data.toList :: r))=_
  rw [zhG,z1Q]
  rfl
 | rd l =>
  refine z3C (.rd l) rfl (fun d r hd hr=>?_)
  rw [zg2]
  exact z0U.of (zhH _ _) (by simp)
 | el l s x h hx' ih =>
  refine z3C (.el l s x h hx') rfl (fun d r hd hr=>?_)
  rw [zfZ] at hd ⊢
  simp only [List.length_cons,List.length_append,List.length_nil] at hd
  refine z0U.of ?_ (by simp; omega)
  have e:tI s.data.toList :: tS [91] :: (tkX x++[tS [93]])++r=tI s.data.toList :: tS [91] :: (tkX x++tS [93] :: r):=by simp
  have hp:=((z3P hx').hx (r:=r)).2.2
  obtain ⟨d,rfl⟩:∃ k,d=k+1:=⟨d - 1,by omega⟩
  have es:z0c [[91]] (st (tS [91] :: (tkX x++tS [93] :: r)))=true:=rfl
  rw [e,z7W h,es,z1A,ih.1 d (tS [93] :: r) (by omega) (by simp [z1m,tS,Clo]),z1Q]
  simp only [if_true,z0Y]
  rfl
 | un o l x h1 h2 hx' ih =>
  refine ⟨fun d r hd hr=>?_,fun h=>by cases h⟩
  rw [zg3] at hd ⊢
  have l1:=z8a x
  simp only [List.length_cons] at hd
  obtain ⟨_,h40,h91⟩:=z4Q hr
  have hop:=z7t hx' ih (d:=d) (r:=r) (by omega) h40 h91
  have hop2:z1g (z1a d) ((tkO x++r).length+1) (st (tkO x++r))=some (rlX x,st r):=hop
  refine z8L ?_ hr
  show z1g (z1a d) ((tS (z1U o) :: (tkO x++r)).length+1) (st (tS (z1U o) :: (tkO x++r)))=_
  have hc:o=1∨o=2:=by omega
  rcases hc with rfl | rfl
  ·have es:z0c [[45]] (st (tS (z1U 1) :: (tkO x++r)))=true:=rfl
   rw [z1g,es,z1A,List.length_cons,hop2]
   rfl
  ·have es:z0c [[45]] (st (tS (z1U 2) :: (tkO x++r)))=false:=rfl
   have es2:z0c [[33]] (st (tS (z1U 2) :: (tkO x++r)))=true:=rfl
   rw [z1g,es,es2,z1A,List.length_cons,hop2]
   rfl
 | bin o l x y h1 h2 hx' hy ih1 ih2 =>
  refine ⟨fun d r hd hr=>?_,fun h=>by cases h⟩
  rw [zce] at hd ⊢
  rw [z5K hx' hy ih1 ih2 ((z6v o (by omega) h2).2 h1) hd hr]
  have hc:o=3∨o=4∨o=5∨o=6∨o=7∨o=8∨o=9∨o=10∨o=11:=by omega
  rcases hc with rfl | rfl | rfl | rfl | rfl | rfl | rfl | rfl | rfl <;> rfl
 | and_ l x y hx' hy ih1 ih2 =>
  refine ⟨fun d r hd hr=>?_,fun h=>by cases h⟩
  rw [zcd] at hd ⊢
  rw [z5K hx' hy ih1 ih2 (by decide) hd hr]
  rfl
 | or_ l x y hx' hy ih1 ih2 =>
  refine ⟨fun d r hd hr=>?_,fun h=>by cases h⟩
  rw [zg1] at hd ⊢
  rw [z5K hx' hy ih1 ih2 (by decide) hd hr]
  rfl
 | call l s xs h hxs ih =>
  refine z3C (.call l s xs h hxs) rfl (fun d r hd hr=>?_)
  rw [z8b] at hd ⊢
  unfold argT at hd ⊢
  simp only [List.length_cons,List.length_append,List.length_nil] at hd
  have e:tI s.data.toList :: tS [40] :: (comT (tkL xs)++[tS [41]])++r=tI s.data.toList :: tS [40] :: (comT (tkL xs)++tS [41] :: r):=by simp
  rw [e]
  have:=z6O (E:=z1a d) h (z6F hxs ih [] r (by omega)) (by simp; omega)
  rw [z1Q] at this
  exact this
 | val l x xs hx' hxs ih1 ih2 =>
  refine z3C (.val l x xs hx' hxs) rfl (fun d r hd hr=>?_)
  have hp:=((z3P hx').hx (r:=r)).2.2
  rw [zch] at hd ⊢
  unfold argT at hd ⊢
  simp only [List.length_cons,List.length_append,List.length_nil] at hd
  have e:vaT (x.kind,tkX x)++tS [40] :: (comT (tkL xs)++[tS [41]])++r=vaT (x.kind,tkX x)++tS [40] :: (comT (tkL xs)++tS [41] :: r):=by simp
  rw [e]
  have hargs:=z6F hxs ih2 [rlX x] (d:=d) r (by omega)
  have hv:(vaT (x.kind,tkX x)=parT (tkX x))∨(x.kind≠13∧z0D x.kind=false∧vaT (x.kind,tkX x)=tkX x):=by
   unfold vaT opT
   by_cases hk:x.kind=13
   ·simp [hk]
   ·cases hc:z0D x.kind with
    | true=>simp [hk]
    | false=>simp [hk]
  rcases hv with hv | ⟨hk,hc,hv⟩
  ·rw [hv] at hd ⊢
   have hl:(parT (tkX x)).length=(tkX x).length+2:=by simp [parT]
   refine z0U.val (z8h ih1 (by omega) hp) ?_ hargs (by simp; omega)
   have:(hdT (st (parT (tkX x)++tS [40] :: (comT (tkL xs)++tS [41] :: r)))).kind=4:=rfl
   rw [this]
   rfl
  ·rw [hv] at hd ⊢
   refine z0U.val (ih1.2 hc d _ (by omega) (fun h=>absurd h hk)) ?_ hargs (by simp; omega)
   rw [z4I]
   simp [hk]
end Go.Proofs.YtdplfnemedckaaaGreatDoor
namespace Go.Proofs.YtdplfnemedckaaaGreatDoor
open Go.RowKit
def stpB (c:UInt8):Bool:=!wordy c&&decide (c.toNat≠61)&&decide (c.toNat≠38)&&decide (c.toNat≠124)
def Stp (r:z03):Prop:=∀ c r',r=c :: r'→stpB c=true
def ScT (l:z03) (ts:List Tok):Prop:=∀ r,Stp r→scan 1 (l++r)=ext ts (scan 1 r)
def SaT (l:z03) (ts:List Tok):Prop:=∀ r,scan 1 (l++r)=ext ts (scan 1 r)
theorem z4d (a b:List Tok) (x:Except Nat (List Tok)):ext a (ext b x)=ext (a++b) x:=by cases x <;> simp [ext]
theorem SaT.sc {l:z03} {ts:List Tok} (h:SaT l ts):ScT l ts:=fun r _=>h r
theorem SaT.append {a b:z03} {s t:List Tok} (ha:SaT a s) (hb:SaT b t):SaT (a++b) (s++t):=fun r=>by rw [List.append_assoc,ha,hb,z4d]
theorem SaT.then {a b:z03} {s t:List Tok} (ha:SaT a s) (hb:ScT b t):ScT (a++b) (s++t):=fun r hr=>by rw [List.append_assoc,ha,hb r hr,z4d]
def Sp0 (l:z03):Bool:=match l with | []=>false | c :: _=>stpB c
theorem z8Z {l r:z03} (h:Sp0 l=true):Stp (l++r):=by
 cases l with
 | nil=>cases h
 | cons a l=>intro c r' e; injection e with e; subst e; exact h
theorem ScT.append {a b:z03} {s t:List Tok} (ha:ScT a s) (h0:Sp0 b=true) (hb:SaT b t):SaT (a++b) (s++t):=fun r=>by rw [List.append_assoc,ha _ (z8Z h0),hb,z4d]
theorem ScT.then {a b:z03} {s t:List Tok} (ha:ScT a s) (h0:Sp0 b=true) (hb:ScT b t):ScT (a++b) (s++t):=fun r hr=>by rw [List.append_assoc,ha _ (z8Z h0),hb r hr,z4d]
theorem z7d:SaT [32] []:=fun r=>by rw [List.singleton_append,scan,if_neg (by decide),if_pos (by decide),z2t]
theorem z6t {c:UInt8} {l r:z03} {k v line:Nat} (h10:c.toNat≠10) (h32:¬(c.toNat=32∨c.toNat=9)) (h35:c.toNat≠35) (hp:plen (c :: l++r)=(c :: l).length) (hm:pmean (c :: l)=some (k,v)):scan line (c :: l++r)=ext [⟨k,line,v,c :: l⟩] (scan line r):=by
 have hn:rnext (c :: l++r)=some (k,v,(c :: l).length):=by rw [z4i,hp,List.take_left',hm]; rfl; rfl
 rw [List.cons_append] at hn ⊢
 rw [scan,if_neg h10,if_neg h32,if_neg h35,hn]
 simp only [List.length_cons,Nat.add_sub_cancel,List.drop_left,List.take_succ_cons,List.take_left]
 cases scan line r <;> rfl
theorem z4z {c x:UInt8} (h:isS [c,x]=true):(c=60∧x=61)∨(c=61∧x=61)∨(c=33∧x=61)∨(c=38∧x=38)∨(c=124∧x=124):=by
 simp only [isS,z5a,List.contains_iff_mem] at h
 simpa using h
theorem zfW {c x:UInt8} (h:stpB x=true):isS [c,x]=false:=by
 cases e:isS [c,x] with
 | false=>rfl
 | true =>
  simp only [stpB,Bool.and_eq_true,decide_eq_true_eq] at h
  rcases z4z e with ⟨_,e⟩ | ⟨_,e⟩ | ⟨_,e⟩ | ⟨_,e⟩ | ⟨_,e⟩ <;> subst e <;> simp at h
def OneS (c:UInt8):Prop:=(letter c||digit c)=false∧c.toNat≠10∧¬(c.toNat=32∨c.toNat=9)∧c.toNat≠35∧isS [c]=true
theorem z4G {c:UInt8} (h:OneS c) (r:z03) (h2:∀ x r',r=x :: r'→isS [c,x]=false):scan 1 (c :: r)=ext [tS [c]] (scan 1 r):=by
 obtain ⟨h1,h10,h32,h35,h3⟩:=h
 refine z6t (l:=[]) (k:=4) (v:=0) h10 h32 h35 ?_ (by simp [pmean,h3])
 cases r with
 | nil=>simp [plen,h1,h3]
 | cons x r'=>simp [plen,h1,h3,h2 x r' rfl]
theorem zbX {c:UInt8} (h:OneS c):ScT [c] [tS [c]]:=fun r hr=>z4G h r (fun x r' e=>zfW (hr x r' e))
theorem z2X {c:UInt8} (h:OneS c) (h2:c≠60∧c≠61∧c≠33∧c≠38∧c≠124):SaT [c] [tS [c]]:=fun r=>z4G h r (fun x r' _=>by
 cases e:isS [c,x] with
 | false=>rfl
 | true=>rcases z4z e with ⟨e,_⟩ | ⟨e,_⟩ | ⟨e,_⟩ | ⟨e,_⟩ | ⟨e,_⟩ <;> subst e <;> simp at h2)
theorem z58 {c d:UInt8} (h:(letter c||digit c)=false) (h10:c.toNat≠10) (h32:¬(c.toNat=32∨c.toNat=9)) (h35:c.toNat≠35) (h1:isS [c,d]=true):SaT [c,d] [tS [c,d]]:=fun r =>
 z6t (k:=4) (v:=0) (l:=[d]) h10 h32 h35 (by simp [plen,h,h1]) (by simp [pmean,h1])
theorem zhk {l r:z03} (hr:Stp r) (h:∀ c∈l,wordy c=true):(l++r).takeWhile wordy=l:=by
 induction l with
 | nil =>
  cases r with
  | nil=>rfl
  | cons c r' =>
   have:=hr c r' rfl
   simp only [stpB,Bool.and_eq_true,Bool.not_eq_true'] at this
   simp [this.1.1.1]
 | cons a l ih=>simp [h a (by simp),ih (fun c hc=>h c (by simp [hc]))]
theorem z40 {c:UInt8} {l:z03} {k v:Nat} (h:(letter c||digit c)=true) (hw:∀ x∈c :: l,wordy x=true) (hm:pmean (c :: l)=some (k,v)):ScT (c :: l) [⟨k,1,v,c :: l⟩]:=fun r hr=>by
 have hf:c.toNat≠10∧¬(c.toNat=32∨c.toNat=9)∧c.toNat≠35:=by
  simp only [Bool.or_eq_true] at h
  rcases h with h | h
  ·have:=z4W h; omega
  ·have:=z3r h; omega
 refine z6t hf.1 hf.2.1 hf.2.2 ?_ hm
 have:plen (c :: l++r)=((c :: l++r).takeWhile wordy).length:=by simp only [List.cons_append,plen,h,if_true]
 rw [this,zhk hr hw]
theorem z33 {s:z03} (h:isNm s=true):ScT s [tI s]:=by
 cases s with
 | nil=>cases h
 | cons c r =>
  simp only [isNm,Bool.and_eq_true,decide_eq_true_eq,Bool.not_eq_true'] at h
  obtain ⟨⟨⟨h1,h2⟩,h3⟩,h4⟩:=h
  have hl:(letter c||digit c)=true:=by simp [h1]
  refine z40 hl (fun x hx=>?_) ?_
  ·rcases List.mem_cons.1 hx with rfl | hx
   ·simp [wordy,h1]
   ·exact List.all_eq_true.1 h2 x hx
  ·have hd:=z32 h1
   simp [pmean,z4g hl,h3,hd]
   omega
theorem zbt (c:UInt8):∀ (l:z03) (a:Nat),num a (l++[c])=match num a l with | none=>none | some b=>if (9223372036854775807 - (c.toNat - 48)) / 10<b then none else some (10 * b+(c.toNat - 48))
 | [],a=>by simp [num]
 | x :: r,a=>by
  simp only [List.cons_append,num]
  split
  ·rfl
  ·exact zbt c r _
theorem zgP (n:Nat):n<9223372036854775808→num 0 (numL n)=some n:=by
 induction n using Nat.strongRecOn with
 | ind n ih =>
  intro h
  have hd:(UInt8.ofNat (48+n % 10)).toNat=48+n % 10:=by simp; omega
  rw [numL]
  split
  ·rename_i h10
   rw [Nat.mod_eq_of_lt h10] at hd
   simp only [num,hd]
   rw [if_neg (by omega)]
   simp
  ·rename_i h10
   rw [zbt,ih (n / 10) (by omega) (by omega)]
   simp only [hd]
   rw [if_neg (by omega)]
   congr 1
   omega
theorem zbW {n:Nat} (h:n<9223372036854775808):ScT (numL n) [tN n]:=by
 obtain ⟨c,r,e,h1,h2⟩:=zbp n
 have hd:∀ x∈c :: r,digit x=true:=by rw [← e]; exact z6Z n
 have hc:=hd c (by simp)
 have hl:(letter c||digit c)=true:=by simp [hc]
 have et:tN n=⟨2,1,n,c :: r⟩:=by unfold tN; rw [e]
 rw [et,e]
 refine z40 hl (fun x hx=>by simp [wordy,hd x hx]) ?_
 have hv:val (c :: r)=some n:=by rw [z8e hc (fun x hx=>hd x (by simp [hx])),← e,zgP n h]
 have hz:(decide (1<(c :: r).length)&&decide (c.toNat=48))=false:=by
  rcases Nat.eq_zero_or_pos n with h0 | h0
  ·rw [h2 h0]; simp
  ·simp [h1 h0]
 simp only [pmean,z4g hl,z62 hc,hc,hz,hv]
 rfl
theorem zgV:OneS 40:=by unfold OneS; decide
theorem zgW:OneS 41:=by unfold OneS; decide
theorem zh4:OneS 91:=by unfold OneS; decide
theorem zh5:OneS 93:=by unfold OneS; decide
theorem zgZ:OneS 44:=by unfold OneS; decide
theorem zen:OneS 45:=by unfold OneS; decide
theorem zgS:OneS 33:=by unfold OneS; decide
theorem zgU:OneS 38:=by unfold OneS; decide
theorem zh2:OneS 60:=by unfold OneS; decide
theorem zgY:OneS 43:=by unfold OneS; decide
theorem zgX:OneS 42:=by unfold OneS; decide
theorem zh0:OneS 47:=by unfold OneS; decide
theorem zgT:OneS 37:=by unfold OneS; decide
theorem zer:SaT [40] [tS [40]]:=z2X zgV (by decide)
theorem zes:SaT [41] [tS [41]]:=z2X zgW (by decide)
theorem zbP:SaT [91] [tS [91]]:=z2X zh4 (by decide)
theorem zbQ:SaT [93] [tS [93]]:=z2X zh5 (by decide)
theorem zet:SaT [44] [tS [44]]:=z2X zgZ (by decide)
theorem zh9:SaT [45] [tS [45]]:=z2X zen (by decide)
theorem zfO {t:z03} (ht:t∈([[42],[47],[37],[43],[45],[60],[60,61],[61,61],[33,61],[38,38],[124,124]]:List z03)):SaT (32 :: (t++[32])) [tS t]:=by
 have two:∀ {c d:UInt8},SaT [c,d] [tS [c,d]]→SaT (32 :: ([c,d]++[32])) [tS [c,d]]:=fun h=>(z7d.append h).append z7d
 have one:∀ {c:UInt8},OneS c→SaT (32 :: ([c]++[32])) [tS [c]]:=fun h=>z7d.append ((zbX h).append (b:=[32]) (by decide) z7d)
 simp only [List.mem_cons,List.not_mem_nil,or_false] at ht
 rcases ht with h | h | h | h | h | h | h | h | h | h | h <;> rw [h]
 ·exact one zgX
 ·exact one zh0
 ·exact one zgT
 ·exact one zgY
 ·exact one zen
 ·exact one zh2
 ·exact two (z58 (by decide) (by decide) (by decide) (by decide) (by decide))
 ·exact two (z58 (by decide) (by decide) (by decide) (by decide) (by decide))
 ·exact two (z58 (by decide) (by decide) (by decide) (by decide) (by decide))
 ·exact two (z58 (by decide) (by decide) (by decide) (by decide) (by decide))
 ·exact two (z58 (by decide) (by decide) (by decide) (by decide) (by decide))
def NoQ (l:z03):Prop:=∃ c r,l=c :: r∧c.toNat≠61
theorem NoQ.append {a b:z03} (h:NoQ a):NoQ (a++b):=by
 obtain ⟨c,r,rfl,h⟩:=h
 exact ⟨c,r++b,rfl,h⟩
theorem z4F {l:z03} (h:∃ c r,l=c :: r∧(letter c||digit c)=true):NoQ l:=by
 obtain ⟨c,r,rfl,h⟩:=h
 refine ⟨c,r,rfl,?_⟩
 simp only [Bool.or_eq_true] at h
 rcases h with h | h
 ·have:=z4W h; omega
 ·have:=z3r h; omega
theorem zfS {l:z03} {ts:List Tok} (hl:ScT l ts) (h0:NoQ l):ScT (33 :: l) (tS [33] :: ts):=fun r hr=>by
 obtain ⟨c,q,rfl,hne⟩:=h0
 show scan 1 (33 :: (c :: q++r))=_
 rw [z4G zgS _ (fun x r' e=>by
  injection e with e
  subst e
  cases e:isS [33,c] with
  | false=>rfl
  | true=>rcases z4z e with ⟨h1,_⟩ | ⟨h1,_⟩ | ⟨_,h2⟩ | ⟨h1,_⟩ | ⟨h1,_⟩ <;> (first | exact absurd h1 (by decide) | (subst h2; simp at hne))),hl r hr,z4d]
 rfl
theorem zfR {l:z03} (hl:isNm l=true):ScT (38 :: l) [tS [38],tI l]:=fun r hr=>by
 obtain ⟨c,q,e1,h1⟩:=(z3h hl).1
 have hs:=z33 hl r hr
 rw [e1] at hs ⊢
 show scan 1 (38 :: (c :: q++r))=_
 rw [z4G zgU _ (fun x r' e=>by
  injection e with e
  subst e
  cases e:isS [38,c] with
  | false=>rfl
  | true=>rcases z4z e with ⟨h1,_⟩ | ⟨h1,_⟩ | ⟨h1,_⟩ | ⟨_,h2⟩ | ⟨h1,_⟩ <;> (first | exact absurd h1 (by decide) | (subst h2; revert h1; decide))),hs,z4d]
 rfl
theorem z84 {l:z03} {ts:List Tok} (h:ScT l ts):SaT (40 :: (l++[41])) (parT ts):=zer.append (h.append (b:=[41]) (by decide) zes)
def Dp:Nat→Ex→Prop
 | 0,_=>False
 | d+1,.mk _ _ _ _ _ xs=>∀ x∈xs,Dp d x
theorem zgm {F:Nat→Prop} {w:World}:∀ {d:Nat} {x:Ex} {v:Value},ExV F w d x v→Dp d x
 | 0,_,_,h=>h
 | d+1,.mk k o a l s xs,v,⟨A,c,_,_,h⟩=>fun x hx=>by
  obtain ⟨i,hi,e⟩:=List.mem_iff_getElem.1 hx
  obtain ⟨g,off,c0,c1,c2,c3,c4,c5,_,_,_,_,_,_,_,_,hv⟩:=h i x (by rw [List.getElem?_eq_getElem hi,e])
  exact zgm hv
theorem zhC (d:Nat) (o a l:Int) (s:ByteArray) (x:Ex):fmtE (d+1) (.mk 5 o a l s [x])=z1U o++opd d x:=by simp [fmtE,opd]
theorem zgr (d:Nat) (o a l:Int) (s:ByteArray) (x y:Ex):fmtE (d+1) (.mk 6 o a l s [x,y])=opd d x++((32 :: (z1U o++[32]))++opd d y):=by simp [fmtE,opd]
theorem zgq (d:Nat) (o a l:Int) (s:ByteArray) (x y:Ex):fmtE (d+1) (.mk 7 o a l s [x,y])=opd d x++((32 :: ([38,38]++[32]))++opd d y):=by simp [fmtE,opd]
theorem zhB (d:Nat) (o a l:Int) (s:ByteArray) (x y:Ex):fmtE (d+1) (.mk 8 o a l s [x,y])=opd d x++((32 :: ([124,124]++[32]))++opd d y):=by simp [fmtE,opd]
theorem zhA (d:Nat) (o a l:Int) (s:ByteArray) (x:Ex):fmtE (d+1) (.mk 4 o a l s [x])=s.data.toList++([91]++(fmtE d x++[93])):=by simp [fmtE]
theorem zeT (d:Nat) (o a l:Int) (s:ByteArray) (xs:List Ex):fmtE (d+1) (.mk 9 o a l s xs)=s.data.toList++lst d xs:=by simp [fmtE,lst]
theorem zgs (d:Nat) (o a l:Int) (s:ByteArray) (x:Ex) (xs:List Ex):fmtE (d+1) (.mk 10 o a l s (x :: xs))=(if x.kind=13∨x.kind=2∨x.kind=3 then 40 :: (opd d x++[41]) else opd d x)++lst d xs:=by simp [fmtE,lst,opd]
theorem z8v (sep x y:z03) (r:List z03):sep.intercalate (x :: y :: r)=x++sep++sep.intercalate (y :: r):=by simp [List.intercalate,List.intersperse]
theorem z5x:∀ (x:z03) (l:List z03),([44,32]:z03).intercalate (x :: l)=x++l.flatMap (fun y=>[44,32]++y)
 | x,[]=>by simp [List.intercalate]
 | x,y :: r=>by rw [z8v,z5x y r]; simp
theorem z6d {d:Nat} {x:Ex} (h:ScT (fmtE d x) (tkX x)∧NoQ (fmtE d x)):ScT (opd d x) (tkO x)∧NoQ (opd d x):=by
 unfold opd tkO opT
 simp only
 split
 ·exact ⟨(z84 h.1).sc,40,_,rfl,by decide⟩
 ·exact h
theorem z8F {d:Nat}:∀ (l:List Ex),(∀ x∈l,ScT (fmtE d x) (tkX x))→ScT ((l.map (fmtE d)).flatMap (fun y=>[44,32]++y)) (z2g (tkL l))
 | [],_=>fun r _=>by simp [tkL,z2g,z2t]
 | x :: l,h=>by
  have ih:=z8F l (fun y hy=>h y (by simp [hy]))
  have hx:=h x (by simp)
  have e:((x :: l).map (fmtE d)).flatMap (fun y=>[44,32]++y)=[44]++([32]++(fmtE d x++(l.map (fmtE d)).flatMap (fun y=>[44,32]++y))):=by simp
  have e2:z2g (tkL (x :: l))=[tS [44]]++([]++(tkX x++z2g (tkL l))):=by simp [tkL,z2g]
  rw [e,e2]
  refine zet.then (z7d.then ?_)
  cases l with
  | nil=>simpa [tkL,z2g] using hx
  | cons y r=>exact hx.then (by simp [Sp0]; decide) ih
theorem zbi {d:Nat} (l:List Ex) (h:∀ x∈l,ScT (fmtE d x) (tkX x)):SaT (lst d l) (argT (tkL l)):=by
 have hc:ScT (([44,32]:z03).intercalate (l.map (fmtE d))) (comT (tkL l)):=by
  cases l with
  | nil=>intro r _; simp [List.intercalate,tkL,comT,z2t]
  | cons x l =>
   have ih:=z8F l (fun y hy=>h y (by simp [hy]))
   have hx:=h x (by simp)
   simp only [List.map_cons,z5x,tkL,comT]
   cases l with
   | nil=>simpa [tkL,z2g] using hx
   | cons y r=>exact hx.then (by simp [Sp0]; decide) ih
 exact z84 hc
theorem z8c {d:Nat} {x y:Ex} {t:z03} (ht:t∈([[42],[47],[37],[43],[45],[60],[60,61],[61,61],[33,61],[38,38],[124,124]]:List z03)) (hx:ScT (fmtE d x) (tkX x)∧NoQ (fmtE d x)) (hy:ScT (fmtE d y) (tkX y)∧NoQ (fmtE d y)) :
  ScT (opd d x++((32 :: (t++[32]))++opd d y)) (tkO x++tS t :: tkO y)∧NoQ (opd d x++((32 :: (t++[32]))++opd d y)):=by
 obtain ⟨h1,h2⟩:=z6d hx
 obtain ⟨h3,_⟩:=z6d hy
 exact ⟨h1.then (by simp [Sp0]; decide) ((zfO ht).then h3),h2.append⟩
theorem zaJ {x:Ex} (h:WfX x):∀ d,Dp d x→ScT (fmtE d x) (tkX x)∧NoQ (fmtE d x):=by
 induction h with
 | num a l h1 h2 =>
  intro d hd
  cases d with
  | zero=>exact hd.elim
  | succ d =>
   have e:fmtE (d+1) (.mk 1 0 a l ⟨#[]⟩ [])=numL a.toNat:=by
    have:max a 0=a:=by omega
    simp [fmtE,this]
   rw [e,zcg]
   exact ⟨zbW (by omega),z4F (zbq _)⟩
 | nam l s h =>
  intro d hd
  cases d with
  | zero=>exact hd.elim
  | succ d =>
   have e:fmtE (d+1) (.mk 13 0 0 l s [])=s.data.toList:=by simp [fmtE]
   rw [e,zcf]
   exact ⟨z33 h,z4F (z3h h).1⟩
 | fn l s h =>
  intro d hd
  cases d with
  | zero=>exact hd.elim
  | succ d =>
   have e:fmtE (d+1) (.mk 11 0 0 l s [])=38 :: s.data.toList:=by simp [fmtE]
   rw [e,zg0]
   exact ⟨zfR h,38,_,rfl,by decide⟩
 | rd l =>
  intro d hd
  cases d with
  | zero=>exact hd.elim
  | succ d =>
   have e:fmtE (d+1) (.mk 12 0 0 l ⟨#[]⟩ [])=[114,101,97,100]:=by simp [fmtE]
   rw [e,zg2]
   exact ⟨z40 (by decide) (by decide) (by decide),114,_,rfl,by decide⟩
 | el l s x h hx ih =>
  intro d hd
  cases d with
  | zero=>exact hd.elim
  | succ d =>
   have h1:=(ih d (hd x (by simp))).1
   rw [zhA,zfZ]
   exact ⟨((z33 h).append (b:=[91]++(fmtE d x++[93])) (by simp [Sp0]; decide) (zbP.append (h1.append (b:=[93]) (by decide) zbQ))).sc,(z4F (z3h h).1).append⟩
 | un o l x h1 h2 hx ih =>
  intro d hd
  cases d with
  | zero=>exact hd.elim
  | succ d =>
   obtain ⟨h3,h4⟩:=z6d (ih d (hd x (by simp)))
   rw [zhC,zg3]
   have hc:o=1∨o=2:=by omega
   rcases hc with rfl | rfl
   ·exact ⟨zh9.then h3,45,_,rfl,by decide⟩
   ·exact ⟨zfS h3 h4,33,_,rfl,by decide⟩
 | bin o l x y h1 h2 hx hy ih1 ih2 =>
  intro d hd
  cases d with
  | zero=>exact hd.elim
  | succ d =>
   rw [zgr,zce]
   exact z8c ((z6v o (by omega) h2).2 h1) (ih1 d (hd x (by simp))) (ih2 d (hd y (by simp)))
 | and_ l x y hx hy ih1 ih2 =>
  intro d hd
  cases d with
  | zero=>exact hd.elim
  | succ d =>
   rw [zgq,zcd]
   exact z8c (by decide) (ih1 d (hd x (by simp))) (ih2 d (hd y (by simp)))
 | or_ l x y hx hy ih1 ih2 =>
  intro d hd
  cases d with
  | zero=>exact hd.elim
  | succ d =>
   rw [zhB,zg1]
   exact z8c (by decide) (ih1 d (hd x (by simp))) (ih2 d (hd y (by simp)))
 | call l s xs h hxs ih =>
  intro d hd
  cases d with
  | zero=>exact hd.elim
  | succ d =>
   rw [zeT,z8b]
   exact ⟨((z33 h).append (b:=lst d xs) (by simp [Sp0,lst]; decide) (zbi xs (fun x hx=>(ih x hx d (hd x hx)).1))).sc,(z4F (z3h h).1).append⟩
 | val l x xs hx hxs ih1 ih2 =>
  intro d hd
  cases d with
  | zero=>exact hd.elim
  | succ d =>
   obtain ⟨h3,h4⟩:=z6d (ih1 d (hd x (by simp)))
   have hl:=zbi (d:=d) xs (fun y hy=>(ih2 y hy d (hd y (by simp [hy]))).1)
   rw [zgs,zch]
   have h5:ScT (if x.kind=13∨x.kind=2∨x.kind=3 then 40 :: (opd d x++[41]) else opd d x) (vaT (x.kind,tkX x))∧NoQ (if x.kind=13∨x.kind=2∨x.kind=3 then 40 :: (opd d x++[41]) else opd d x):=by
    unfold vaT
    by_cases hk:x.kind=13
    ·rw [if_pos (.inl hk),if_pos hk]
     have e:tkO x=tkX x:=by simp [tkO,opT,hk,z0D]
     rw [e] at h3
     exact ⟨(z84 h3).sc,40,_,rfl,by decide⟩
    ·have hk2:¬ (x.kind=13∨x.kind=2∨x.kind=3):=by
      rintro (h | h | h)
      ·exact hk h
      ·cases hx <;> simp [Ex.kind] at h
      ·cases hx <;> simp [Ex.kind] at h
     rw [if_neg hk2,if_neg hk]
     exact ⟨h3,h4⟩
   exact ⟨(h5.1.append (b:=lst d xs) (by simp [Sp0,lst]; decide) hl).sc,h5.2.append⟩
theorem z2V:∀ xs,rlL xs=xs.map rlX
 | []=>rfl
 | x :: r=>by simp [rlL,z2V r]
end Go.Proofs.YtdplfnemedckaaaGreatDoor
namespace Go.Proofs.YtdplfnemedckaaaGreatDoor
open Go.RowKit
def unl (t:Tok):Tok:={ t with line:=min t.line 1 }
def unS (s:PS):PS:=⟨s.rest.map unl,min s.ref 1,min s.out 1⟩
def Lk (s q:PS):Prop:=unS s=unS q
theorem zcq {t u:Tok} (e:unl t=unl u):t.kind=u.kind∧min t.line 1=min u.line 1∧t.value=u.value∧t.text=u.text:=by
 unfold unl at e
 injection e with e1 e2 e3 e4
 exact ⟨e1,e2,e3,e4⟩
theorem z9s (s:PS):hdT (unS s)=unl (hdT s):=by
 unfold hdT unS
 cases s.rest with
 | nil=>rfl
 | cons a r=>rfl
theorem zeq (s:PS):unS (popP s)=popP (unS s):=by simp [unS,popP,List.map_tail]
theorem z78 (s:PS):unS (z0k s)=z0k (unS s):=by
 unfold z0k
 rw [z9s]
 simp only [unS,List.map_drop,List.length_map,unl]
 congr 1
 by_cases h:s.ref=0
 ·simp [h]
 ·have:min s.ref 1≠0:=by omega
  simp only [h,this,if_false]
theorem zbY (l:List z03) (s:PS):z0c l (unS s)=z0c l s:=by
 unfold z0c
 rw [z9s]
 rfl
theorem Lk.hd {s q:PS} (h:Lk s q):(hdT s).kind=(hdT q).kind∧(hdT s).text=(hdT q).text∧(hdT s).value=(hdT q).value:=by
 have e:unl (hdT s)=unl (hdT q):=by rw [← z9s,← z9s,show unS s=unS q from h]
 obtain ⟨e1,_,e3,e4⟩:=zcq e
 exact ⟨e1,e4,e3⟩
theorem Lk.len {s q:PS} (h:Lk s q):s.rest.length=q.rest.length:=by
 have:=congrArg (fun x:PS=>x.rest.length) (show unS s=unS q from h)
 simpa [unS] using this
theorem Lk.pop {s q:PS} (h:Lk s q):Lk (popP s) (popP q):=by
 unfold Lk
 rw [zeq,zeq,show unS s=unS q from h]
theorem Lk.refuse {s q:PS} (h:Lk s q):Lk (z0k s) (z0k q):=by
 unfold Lk
 rw [z78,z78,show unS s=unS q from h]
theorem Lk.sees {s q:PS} (h:Lk s q) (l:List z03):z0c l s=z0c l q:=by
 rw [← zbY l s,← zbY l q,show unS s=unS q from h]
theorem Lk.demand {s q:PS} (h:Lk s q) (t:z03):Lk (z09 t s) (z09 t q):=by
 unfold z09
 rw [h.sees]
 split
 ·exact h.pop
 ·exact h.refuse
theorem Lk.expect {s q:PS} (h:Lk s q) (k:Nat):Lk (z07 k s).2 (z07 k q).2∧(z07 k s).1.text=(z07 k q).1.text∧unl (z07 k s).1=unl (z07 k q).1:=by
 unfold z07
 rw [h.hd.1]
 split
 ·exact ⟨h.pop,h.hd.2.1,by rw [← z9s,← z9s,show unS s=unS q from h]⟩
 ·exact ⟨h.refuse,rfl,rfl⟩
def LkO {α:Type} (R:α→α→Prop) (a b:Option (α × PS)):Prop:=(a=none∧b=none)∨∃ x s y q,a=some (x,s)∧b=some (y,q)∧R x y∧Lk s q
def LkX (x y:Ex):Prop:=rlX x=rlX y
def LkL (x y:List Ex):Prop:=rlL x=rlL y
def LkP (P:P1):Prop:=∀ s q,Lk s q→LkO LkX (P s) (P q)
theorem z6o (xs:List Ex) (x:Ex):rlL (xs++[x])=rlL xs++[rlX x]:=by simp [z2V]
theorem zel {s q:PS} {x x' y y':Ex} (h:Lk s q) (hx:LkX x x') (hy:LkX y y'):LkX (binP (hdT s) x y) (binP (hdT q) x' y'):=by
 unfold LkX at hx hy ⊢
 simp only [binP,rlX,rlL]
 rw [h.hd.2.1,hx,hy]
theorem zfl {P:P1} (hP:LkP P) (l:List z03):∀ (n:Nat) (x y:Ex) (s q:PS),LkX x y→Lk s q→LkO LkX (z2f P l n x s) (z2f P l n y q):=by
 intro n
 induction n with
 | zero=>intro x y s q _ _; exact .inl ⟨rfl,rfl⟩
 | succ n ih =>
  intro x y s q hx h
  rw [z2f,z2f,h.sees l]
  split
  ·rcases hP _ _ h.pop with ⟨e1,e2⟩ | ⟨a,s2,b,q2,e1,e2,hR,hL⟩
   ·rw [e1,e2]; exact .inl ⟨rfl,rfl⟩
   ·rw [e1,e2]; exact ih _ _ _ _ (zel h hx hR) hL
  ·exact .inr ⟨_,_,_,_,rfl,rfl,hx,h⟩
theorem z4C {P:P1} (hP:LkP P) (l:List z03):LkP (z0v P l):=by
 intro s q h
 unfold z0v
 rcases hP _ _ h with ⟨e1,e2⟩ | ⟨a,s2,b,q2,e1,e2,hR,hL⟩
 ·rw [e1,e2]; exact .inl ⟨rfl,rfl⟩
 ·rw [e1,e2,h.len]; exact zfl hP l _ _ _ _ _ hR hL
theorem zfn {P:P1} (hP:LkP P) (l:List z03):LkP (z2G P l):=by
 intro s q h
 unfold z2G
 rcases hP _ _ h with ⟨e1,e2⟩ | ⟨a,s2,b,q2,e1,e2,hR,hL⟩
 ·rw [e1,e2]; exact .inl ⟨rfl,rfl⟩
 ·rw [e1,e2]
  simp only [hL.sees l]
  split
  ·rcases hP _ _ hL.pop with ⟨e1,e2⟩ | ⟨c,s3,d,q3,e1,e2,hR2,hL2⟩
   ·rw [e1,e2]; exact .inl ⟨rfl,rfl⟩
   ·rw [e1,e2]; exact .inr ⟨_,_,_,_,rfl,rfl,zel hL hR hR2,hL2⟩
  ·exact .inr ⟨_,_,_,_,rfl,rfl,hR,hL⟩
theorem z9y {E:P1} (hE:LkP E):LkP (z0p E):=by
 intro s q h
 obtain ⟨h1,h2,h3⟩:=h.hd
 obtain ⟨x1,x2,_⟩:=h.pop.expect 1
 obtain ⟨y1,y2,_⟩:=h.expect 1
 unfold z0p
 rw [h1,h.sees,h.sees,h.sees,y1.sees]
 split
 ·exact .inr ⟨_,_,_,_,rfl,rfl,by simp [LkX,rlX,h3],h.pop⟩
 split
 ·exact .inr ⟨_,_,_,_,rfl,rfl,by simp [LkX,rlX,x2],x1⟩
 split
 ·exact .inr ⟨_,_,_,_,rfl,rfl,by simp [LkX,rlX],h.pop⟩
 split
 ·rcases hE _ _ h.pop with ⟨e1,e2⟩ | ⟨a,s2,b,q2,e1,e2,hR,hL⟩
  ·rw [e1,e2]; exact .inl ⟨rfl,rfl⟩
  ·rw [e1,e2]; exact .inr ⟨_,_,_,_,rfl,rfl,hR,hL.demand _⟩
 split
 ·rcases hE _ _ y1.pop with ⟨e1,e2⟩ | ⟨a,s2,b,q2,e1,e2,hR,hL⟩
  ·rw [e1,e2]; exact .inl ⟨rfl,rfl⟩
  ·rw [e1,e2]; exact .inr ⟨_,_,_,_,rfl,rfl,by unfold LkX at hR ⊢; simp [rlX,rlL,hR,y2],hL.demand _⟩
 ·exact .inr ⟨_,_,_,_,rfl,rfl,by simp [LkX,rlX,y2],y1⟩
theorem zfm {E:P1} (hE:LkP E):∀ (n:Nat) (xs ys:List Ex) (s q:PS),LkL xs ys→Lk s q→LkO LkL (z2x E n xs s) (z2x E n ys q):=by
 intro n
 induction n with
 | zero=>intro x y s q _ _; exact .inl ⟨rfl,rfl⟩
 | succ n ih =>
  intro xs ys s q hx h
  rw [z2x,z2x,h.sees]
  split
  ·rcases hE _ _ h.pop with ⟨e1,e2⟩ | ⟨a,s2,b,q2,e1,e2,hR,hL⟩
   ·rw [e1,e2]; exact .inl ⟨rfl,rfl⟩
   ·rw [e1,e2]; exact ih _ _ _ _ (by unfold LkL LkX at *; rw [z6o,z6o,hx,hR]) hL
  ·exact .inr ⟨_,_,_,_,rfl,rfl,hx,h⟩
theorem zfk {E:P1} (hE:LkP E) {xs ys:List Ex} (hx:LkL xs ys) {s q:PS} (h:Lk s q):LkO LkL (z2E E xs s) (z2E E ys q):=by
 unfold z2E
 rw [h.sees]
 split
 ·exact .inr ⟨_,_,_,_,rfl,rfl,hx,h.pop⟩
 ·rcases hE _ _ h with ⟨e1,e2⟩ | ⟨a,s2,b,q2,e1,e2,hR,hL⟩
  ·rw [e1,e2]; exact .inl ⟨rfl,rfl⟩
  ·rw [e1,e2,h.len]
   have hz:LkL (xs++[a]) (ys++[b]):=by unfold LkL LkX at *; rw [z6o,z6o,hx,hR]
   rcases zfm hE (q.rest.length+1) _ _ _ _ hz hL with ⟨e1,e2⟩ | ⟨c,s3,d,q3,e1,e2,hR2,hL2⟩
   ·simp only [e1,e2]; exact .inl ⟨rfl,rfl⟩
   ·simp only [e1,e2]; exact .inr ⟨_,_,_,_,rfl,rfl,hR2,hL2.demand _⟩
theorem zfj {E:P1} (hE:LkP E) {x y:Ex} (hx:LkX x y) (named:Bool) {s q:PS} (h:Lk s q):LkO LkX (z36 E x named s) (z36 E y named q):=by
 unfold z36
 have hz:LkL (if named then [] else [x]) (if named then [] else [y]):=by
  cases named
  ·unfold LkL LkX at *; simp [rlL,hx]
  ·rfl
 rcases zfk hE hz h.pop with ⟨e1,e2⟩ | ⟨a,s2,b,q2,e1,e2,hR,hL⟩
 ·rw [e1,e2]; exact .inl ⟨rfl,rfl⟩
 ·rw [e1,e2]
  cases x with
  | mk k o a1 l nm xs =>
   cases y with
   | mk k' o' a' l' nm' ys =>
    unfold LkX at hx
    simp only [rlX,Ex.mk.injEq] at hx
    obtain ⟨_,_,_,_,hn,_⟩:=hx
    subst hn
    exact .inr ⟨_,_,_,_,rfl,rfl,by unfold LkX; unfold LkL at hR; simp [rlX,hR],hL⟩
theorem zdd {E:P1} (hE:LkP E) (bare:Bool):∀ (n:Nat) (x y:Ex) (s q:PS),LkX x y→Lk s q→LkO LkX (z12 E bare n x s) (z12 E bare n y q):=by
 intro n
 induction n with
 | zero=>intro x y s q _ _; exact .inl ⟨rfl,rfl⟩
 | succ n ih =>
  intro x y s q hx h
  obtain ⟨k,o,a1,l,nm,xs,rfl⟩:∃ k o a1 l nm xs,x=.mk k o a1 l nm xs:=by
   cases x
   exact ⟨_,_,_,_,_,_,rfl⟩
  obtain ⟨k',o',a',l',nm',ys,rfl⟩:∃ k o a1 l nm xs,y=.mk k o a1 l nm xs:=by
   cases y
   exact ⟨_,_,_,_,_,_,rfl⟩
  have hk:k=k':=by
   have hx2:=hx
   unfold LkX at hx2
   simp only [rlX,Ex.mk.injEq] at hx2
   exact hx2.1
  subst hk
  rw [z12,z12,h.sees]
  split
  ·rcases zfj hE hx (bare&&k == 13) h with ⟨e1,e2⟩ | ⟨a,s2,b,q2,e1,e2,hR,hL⟩
   ·rw [e1,e2]; exact .inl ⟨rfl,rfl⟩
   ·rw [e1,e2]; exact ih _ _ _ _ hR hL
  ·exact .inr ⟨_,_,_,_,rfl,rfl,hx,h⟩
theorem zb6 {E:P1} (hE:LkP E):LkP (z1W E):=by
 intro s q h
 unfold z1W
 rcases z9y hE _ _ h with ⟨e1,e2⟩ | ⟨a,s2,b,q2,e1,e2,hR,hL⟩
 ·rw [e1,e2]; exact .inl ⟨rfl,rfl⟩
 ·rw [e1,e2,h.len,h.hd.1]; exact zdd hE _ _ _ _ _ _ hR hL
theorem zdg {E:P1} (hE:LkP E):∀ (n:Nat),LkP (z1g E n):=by
 intro n
 induction n with
 | zero=>intro s q _; exact .inl ⟨rfl,rfl⟩
 | succ n ih =>
  intro s q h
  rw [z1g,z1g,h.sees,h.sees]
  split
  ·rcases ih _ _ h.pop with ⟨e1,e2⟩ | ⟨a,s2,b,q2,e1,e2,hR,hL⟩
   ·rw [e1,e2]; exact .inl ⟨rfl,rfl⟩
   ·rw [e1,e2]; exact .inr ⟨_,_,_,_,rfl,rfl,by unfold LkX at *; simp [rlX,rlL,hR],hL⟩
  split
  ·rcases ih _ _ h.pop with ⟨e1,e2⟩ | ⟨a,s2,b,q2,e1,e2,hR,hL⟩
   ·rw [e1,e2]; exact .inl ⟨rfl,rfl⟩
   ·rw [e1,e2]; exact .inr ⟨_,_,_,_,rfl,rfl,by unfold LkX at *; simp [rlX,rlL,hR],hL⟩
  ·exact zb6 hE _ _ h
theorem zbc {E:P1} (hE:LkP E):LkP (z22 E):=by
 intro s q h
 unfold z22
 rw [h.len]
 exact zdg hE _ _ _ h
theorem zb8:∀ d,LkP (z1a d)
 | 0=>fun _ _ _=>.inl ⟨rfl,rfl⟩
 | d+1=>fun s q h=>z4C (z4C (zfn (z4C (z4C (zbc (zb8 d)) _) _) _) _) _ s q h
theorem zde:LkP z3b:=by
 intro s q h
 unfold z3b
 rw [h.len]
 exact zb8 _ _ _ h
mutual
def rlS:St→St
 | .mk k _ s es ts us=>.mk k 1 s (rlL es) (rlM ts) (rlM us)
def rlM:List St→List St
 | []=>[]
 | x :: r=>rlS x :: rlM r
end
theorem z2W:∀ xs,rlM xs=xs.map rlS
 | []=>rfl
 | x :: r=>by simp [rlM,z2W r]
def rlF (f:Fn):Fn:=⟨f.name,1,f.params,rlM f.body⟩
def LkT (x y:St):Prop:=rlS x=rlS y
def LkM (x y:List St):Prop:=rlM x=rlM y
def LkS (S:PS1):Prop:=∀ s q,Lk s q→LkO LkT (S s) (S q)
def LkB (B:PSL):Prop:=∀ s q,Lk s q→LkO LkM (B s) (B q)
theorem z8E {E:P1} (hE:LkP E):LkP (z1r E):=by
 intro s q h
 unfold z1r
 rcases hE _ _ h with ⟨e1,e2⟩ | ⟨a,s2,b,q2,e1,e2,hR,hL⟩
 ·rw [e1,e2]; exact .inl ⟨rfl,rfl⟩
 ·rw [e1,e2]; exact .inr ⟨_,_,_,_,rfl,rfl,hR,hL.demand _⟩
theorem zgH {s q:PS} (h:Lk s q):(s.ref≠0)=(q.ref≠0):=by
 have:=congrArg PS.ref (show unS s=unS q from h)
 simp only [unS] at this
 apply propext
 omega
theorem zdf {S:PS1} (hS:LkS S):∀ (n:Nat) (xs ys:List St) (s q:PS),LkM xs ys→Lk s q→LkO LkM (z2H S n xs s) (z2H S n ys q):=by
 intro n
 induction n with
 | zero=>intro x y s q _ _; exact .inl ⟨rfl,rfl⟩
 | succ n ih =>
  intro xs ys s q hx h
  have hr:=zgH h
  rw [z2H,z2H,h.sees]
  split
  ·exact .inr ⟨_,_,_,_,rfl,rfl,hx,h.pop⟩
  ·by_cases h0:q.ref≠0
   ·have h1:s.ref≠0:=by rw [hr]; exact h0
    rw [if_pos h0,if_pos h1]
    exact .inr ⟨_,_,_,_,rfl,rfl,hx,h⟩
   ·have h1:¬ s.ref≠0:=by rw [hr]; exact h0
    rw [if_neg h0,if_neg h1]
    rcases hS _ _ h with ⟨e1,e2⟩ | ⟨a,s2,b,q2,e1,e2,hR,hL⟩
    ·rw [e1,e2]; exact .inl ⟨rfl,rfl⟩
    ·rw [e1,e2]; exact ih _ _ _ _ (by unfold LkM LkT at *; simp only [z2W,List.map_append,List.map_cons,List.map_nil] at hx ⊢; rw [hx,hR]) hL
theorem z8B {S:PS1} (hS:LkS S):LkB (z1D S):=by
 intro s q h
 unfold z1D
 rw [(h.demand _).len]
 exact zdf hS _ _ _ _ _ rfl (h.demand _)
theorem z6X {E:P1} (hE:LkP E) {k l l':Int} {nm:ByteArray} {s q:PS} (h:Lk s q):LkO LkT (oneP k l nm (z1r E) s) (oneP k l' nm (z1r E) q):=by
 unfold oneP
 rcases z8E hE _ _ h with ⟨e1,e2⟩ | ⟨a,s2,b,q2,e1,e2,hR,hL⟩
 ·rw [e1,e2]; exact .inl ⟨rfl,rfl⟩
 ·rw [e1,e2]; exact .inr ⟨_,_,_,_,rfl,rfl,by unfold LkT; unfold LkX at hR; simp [rlS,rlL,hR],hL⟩
theorem z8C {B:PSL} {E:P1} (hE:LkP E) (hB:LkB B) {s q:PS} (h:Lk s q):(z1H B E s=none∧z1H B E q=none)∨∃ x ts s2 y us q2,z1H B E s=some (x,ts,s2)∧z1H B E q=some (y,us,q2)∧LkX x y∧LkM ts us∧Lk s2 q2:=by
 unfold z1H
 rcases hE _ _ h with ⟨e1,e2⟩ | ⟨a,s2,b,q2,e1,e2,hR,hL⟩
 ·rw [e1,e2]; exact .inl ⟨rfl,rfl⟩
 ·rw [e1,e2]
  rcases hB _ _ hL with ⟨e1,e2⟩ | ⟨c,s3,d,q3,e1,e2,hR2,hL2⟩
  ·simp only [e1,e2]; exact .inl ⟨trivial,trivial⟩
  ·simp only [e1,e2]; exact .inr ⟨_,_,_,_,_,_,rfl,rfl,hR,hR2,hL2⟩
theorem zb7 {E:P1} (hE:LkP E) {l l':Int} {s q:PS} (h:Lk s q):LkO LkT (z2O E l s) (z2O E l' q):=by
 obtain ⟨y1,y2,_⟩:=h.expect 1
 unfold z2O
 rw [y1.sees,y2]
 split
 ·rcases hE _ _ y1.pop with ⟨e1,e2⟩ | ⟨a,s2,b,q2,e1,e2,hR,hL⟩
  ·rw [e1,e2]; exact .inl ⟨rfl,rfl⟩
  ·rw [e1,e2]
   rcases z8E hE _ _ ((hL.demand [93]).demand [61]) with ⟨e1,e2⟩ | ⟨c,s3,d,q3,e1,e2,hR2,hL2⟩
   ·simp only [e1,e2]; exact .inl ⟨rfl,rfl⟩
   ·simp only [e1,e2]; exact .inr ⟨_,_,_,_,rfl,rfl,by unfold LkT; unfold LkX at hR hR2; simp [rlS,rlL,hR,hR2],hL2⟩
 ·exact z6X hE (y1.demand _)
theorem zfo {B:PSL} {E:P1} (hE:LkP E) (hB:LkB B):LkS (z4k B E):=by
 intro s q h
 obtain ⟨x1,x2,_⟩:=h.pop.expect 1
 unfold z4k
 rw [h.sees,h.sees,h.sees,h.sees,h.sees,h.sees,x2]
 split
 ·exact z6X hE (x1.demand _)
 split
 ·rcases z8C hE hB h.pop with ⟨e1,e2⟩ | ⟨x,ts,s2,y,us,q2,e1,e2,hR,hR2,hL⟩
  ·rw [e1,e2]; exact .inl ⟨rfl,rfl⟩
  ·rw [e1,e2]
   simp only [hL.sees]
   split
   ·rcases hB _ _ hL.pop with ⟨e1,e2⟩ | ⟨c,s3,d,q3,e1,e2,hR3,hL3⟩
    ·rw [e1,e2]; exact .inl ⟨rfl,rfl⟩
    ·rw [e1,e2]; exact .inr ⟨_,_,_,_,rfl,rfl,by unfold LkT; unfold LkX at hR; unfold LkM at hR2 hR3; simp [rlS,rlL,hR,hR2,hR3],hL3⟩
   ·exact .inr ⟨_,_,_,_,rfl,rfl,by unfold LkT; unfold LkX at hR; unfold LkM at hR2; simp [rlS,rlL,hR,hR2],hL⟩
 split
 ·rcases z8C hE hB h.pop with ⟨e1,e2⟩ | ⟨x,ts,s2,y,us,q2,e1,e2,hR,hR2,hL⟩
  ·rw [e1,e2]; exact .inl ⟨rfl,rfl⟩
  ·rw [e1,e2]
   exact .inr ⟨_,_,_,_,rfl,rfl,by unfold LkT; unfold LkX at hR; unfold LkM at hR2; simp [rlS,rlL,hR,hR2],hL⟩
 split
 ·exact z6X hE h.pop
 split
 ·exact z6X hE h.pop
 split
 ·exact z6X hE h.pop
 ·exact zb7 hE h
theorem z8D:∀ d,LkS (z2A d)
 | 0=>fun _ _ _=>.inl ⟨rfl,rfl⟩
 | d+1=>zfo zde (z8B (z8D d))
theorem zb9:∀ (n:Nat) (l:List ByteArray) (s q:PS),Lk s q→LkO Eq (z1f n l s) (z1f n l q):=by
 intro n
 induction n with
 | zero=>intro l s q _; exact .inl ⟨rfl,rfl⟩
 | succ n ih =>
  intro l s q h
  obtain ⟨x1,x2,_⟩:=h.pop.expect 1
  rw [z1f,z1f,h.sees,x2]
  split
  ·exact ih _ _ _ x1
  ·exact .inr ⟨_,_,_,_,rfl,rfl,rfl,h⟩
theorem zba {s q:PS} (h:Lk s q):LkO Eq (z2i s) (z2i q):=by
 obtain ⟨x1,x2,_⟩:=h.expect 1
 unfold z2i
 rw [h.sees,x2,h.len]
 split
 ·exact .inr ⟨_,_,_,_,rfl,rfl,rfl,h.pop⟩
 ·rcases zb9 (q.rest.length+1) [nmB (z07 1 q).1.text] _ _ x1 with ⟨e1,e2⟩ | ⟨c,s3,d,q3,e1,e2,hR,hL⟩
  ·rw [e1,e2]; exact .inl ⟨rfl,rfl⟩
  ·rw [e1,e2]; exact .inr ⟨_,_,_,_,rfl,rfl,hR,hL.demand _⟩
def LkF (x y:Fn):Prop:=rlF x=rlF y
theorem z7G {B:PSL} (hB:LkB B) {s q:PS} (h:Lk s q):LkO LkF (z1b B s) (z1b B q):=by
 obtain ⟨x1,x2,_⟩:=(h.demand z4m).expect 1
 unfold z1b
 rw [x2]
 rcases zba (x1.demand [40]) with ⟨e1,e2⟩ | ⟨c,s3,d,q3,e1,e2,hR,hL⟩
 ·rw [e1,e2]; exact .inl ⟨rfl,rfl⟩
 ·rw [e1,e2]
  rcases hB _ _ hL with ⟨e1,e2⟩ | ⟨u,s4,v,q4,e1,e2,hR2,hL2⟩
  ·simp only [e1,e2]; exact .inl ⟨rfl,rfl⟩
  ·simp only [e1,e2]; exact .inr ⟨_,_,_,_,rfl,rfl,by unfold LkF; unfold LkM at hR2; simp [rlF,hR2,hR],hL2⟩
theorem Lk.outp {s q:PS} (h:Lk s q) {t u:Tok} (ht:unl t=unl u):Lk (outP t s) (outP u q):=by
 obtain ⟨_,hl,hv,_⟩:=zcq ht
 have e:=show unS s=unS q from h
 simp only [unS,PS.mk.injEq] at e
 obtain ⟨e1,e2,e3⟩:=e
 unfold outP
 rw [hv]
 by_cases h0:q.out=0
 ·have h1:s.out=0:=by omega
  by_cases hc:u.value<1∨1024<u.value
  ·rw [if_pos ⟨h1,hc⟩,if_pos ⟨h0,hc⟩]
   simp only [Lk,unS,e1,e2,hl]
  ·rw [if_neg (fun h=>hc h.2),if_neg (fun h=>hc h.2)]
   exact h
 ·have h1:¬ s.out=0:=by omega
  rw [if_neg (fun h=>h1 h.1),if_neg (fun h=>h0 h.1)]
  exact h
theorem Lk.size {s q:PS} (h:Lk s q):(z3w s).1=(z3w q).1∧Lk (z3w s).2 (z3w q).2:=by
 obtain ⟨x1,x2,x3⟩:=h.expect 2
 have hv:=(zcq x3).2.2.1
 unfold z3w
 exact ⟨by simp only [hv],x1.outp x3⟩
theorem Lk.global {s q:PS} (h:Lk s q):(z1l s).1=(z1l q).1∧Lk (z1l s).2 (z1l q).2:=by
 obtain ⟨x1,x2,_⟩:=(h.demand z0I).expect 1
 obtain ⟨z1,z2⟩:=x1.pop.size
 unfold z1l
 rw [x1.sees,x2]
 split
 ·exact ⟨by simp only [z1],(z2.demand _).demand _⟩
 ·exact ⟨rfl,x1.demand _⟩
theorem zbb {B:PSL} (hB:LkB B):∀ (n:Nat) (gl:List (ByteArray × Int)) (fl fm:List Fn) (s q:PS),fl.map rlF=fm.map rlF→Lk s q →
  (z0P B n gl fl s=none∧z0P B n gl fm q=none)∨∃ G F F' s2 q2,z0P B n gl fl s=some (G,F,s2)∧z0P B n gl fm q=some (G,F',q2)∧F.map rlF=F'.map rlF∧Lk s2 q2:=by
 intro n
 induction n with
 | zero=>intro gl fl fm s q _ _; exact .inl ⟨rfl,rfl⟩
 | succ n ih =>
  intro gl fl fm s q hf h
  obtain ⟨g1,g2⟩:=h.global
  rw [z0P,z0P,h.hd.1,h.sees,g1]
  split
  ·exact .inr ⟨_,_,_,_,_,rfl,rfl,hf,h⟩
  split
  ·exact ih _ _ _ _ _ hf g2
  ·rcases z7G hB h with ⟨e1,e2⟩ | ⟨x,s2,y,q2,e1,e2,hR,hL⟩
   ·rw [e1,e2]; exact .inl ⟨rfl,rfl⟩
   ·rw [e1,e2]
    exact ih _ _ _ _ _ (by unfold LkF at hR; simp [hf,hR]) hL
end Go.Proofs.YtdplfnemedckaaaGreatDoor
