/-
  Kma: PrBn. Walks and laws that the statement's proof is made of. No condition of its own.
-/
import Derived.Test.YtkeihncfmbicnaaGreatDoorKd
namespace Go.Proofs.YtkeihncfmbicnaaGreatDoor
open Go.RowKit
def isNm (l:z04):Bool:=match l with | []=>false | c :: r=>letter c&&r.all wordy&&!isW (c :: r)&&decide (r.length<32)
inductive WfX:Ex→Prop
 | num (a l:Int):0≤a→a<9223372036854775808→WfX (.mk 1 0 a l ⟨#[]⟩ [])
 | nam (l:Int) (s:ByteArray):isNm s.data.toList=true→WfX (.mk 13 0 0 l s [])
 | fn (l:Int) (s:ByteArray):isNm s.data.toList=true→WfX (.mk 11 0 0 l s [])
 | rd (l:Int):WfX (.mk 12 0 0 l ⟨#[]⟩ [])
 | el (l:Int) (s:ByteArray) (x:Ex):isNm s.data.toList=true→WfX x→WfX (.mk 4 0 0 l s [x])
 | un (o l:Int) (x:Ex):1≤o→o≤2→WfX x→WfX (.mk 5 o 0 l ⟨#[]⟩ [x])
 | bin (o l:Int) (x y:Ex):3≤o→o≤11→WfX x→WfX y→WfX (.mk 6 o 0 l ⟨#[]⟩ [x,y])
 | and_ (l:Int) (x y:Ex):WfX x→WfX y→WfX (.mk 7 0 0 l ⟨#[]⟩ [x,y])
 | or_ (l:Int) (x y:Ex):WfX x→WfX y→WfX (.mk 8 0 0 l ⟨#[]⟩ [x,y])
 | call (l:Int) (s:ByteArray) (xs:List Ex):isNm s.data.toList=true→(∀ x∈xs,WfX x)→WfX (.mk 9 0 0 l s xs)
 | val (l:Int) (x:Ex) (xs:List Ex):WfX x→(∀ y∈xs,WfX y)→WfX (.mk 10 0 0 l ⟨#[]⟩ (x :: xs))
def tS (t:z04):Tok:=⟨4,1,0,t⟩
def tW (t:z04):Tok:=⟨3,1,0,t⟩
def tI (t:z04):Tok:=⟨1,1,0,t⟩
def tN (n:Nat):Tok:=⟨2,1,n,numL n⟩
def parT (l:List Tok):List Tok:=tS [40] :: (l++[tS [41]])
def opT (p:Int × List Tok):List Tok:=if z0l p.1 then parT p.2 else p.2
def vaT (p:Int × List Tok):List Tok:=if p.1=13 then parT p.2 else opT p
def z5I (l:List (Int × List Tok)):List Tok:=l.flatMap fun p=>tS [44] :: p.2
def comT:List (Int × List Tok)→List Tok
 | []=>[]
 | p :: r=>p.2++z5I r
def argT (l:List (Int × List Tok)):List Tok:=tS [40] :: (comT l++[tS [41]])
def asmT (k o a:Int) (s:z04) (l:List (Int × List Tok)):List Tok :=
 if k=1 then [tN a.toNat] else if k=13 then [tI s] else if k=12 then [tW [114,101,97,100]] else if k=11 then [tS [38],tI s]
 else match k,l with
  | 4,[p]=>tI s :: tS [91] :: (p.2++[tS [93]])
  | 5,[p]=>tS (z0U o) :: opT p
  | 6,[p,q]=>opT p++tS (z0U o) :: opT q
  | 7,[p,q]=>opT p++tS [38,38] :: opT q
  | 8,[p,q]=>opT p++tS [124,124] :: opT q
  | 9,l=>tI s :: argT l
  | 10,p :: l=>vaT p++argT l
  | _,_=>[]
mutual
def tkX:Ex→List Tok
 | .mk k o a _ s xs=>asmT k o a s.data.toList (tkL xs)
def tkL:List Ex→List (Int × List Tok)
 | []=>[]
 | x :: r=>(x.kind,tkX x) :: tkL r
end
abbrev tkO (x:Ex):List Tok:=opT (x.kind,tkX x)
theorem zeq (o a l:Int) (s:ByteArray):tkX (.mk 1 o a l s [])=[tN a.toNat]:=by simp [tkX,asmT]
theorem zep (o a l:Int) (s:ByteArray):tkX (.mk 13 o a l s [])=[tI s.data.toList]:=by simp [tkX,asmT]
theorem zeP (o a l:Int) (s:ByteArray):tkX (.mk 12 o a l s [])=[tW [114,101,97,100]]:=by simp [tkX,asmT]
theorem zeN (o a l:Int) (s:ByteArray):tkX (.mk 11 o a l s [])=[tS [38],tI s.data.toList]:=by simp [tkX,asmT]
theorem zeM (o a l:Int) (s:ByteArray) (x:Ex):tkX (.mk 4 o a l s [x])=tI s.data.toList :: tS [91] :: (tkX x++[tS [93]]):=by simp [tkX,tkL,asmT]
theorem zeQ (o a l:Int) (s:ByteArray) (x:Ex):tkX (.mk 5 o a l s [x])=tS (z0U o) :: tkO x:=by simp [tkX,tkL,asmT]
theorem zeo (o a l:Int) (s:ByteArray) (x y:Ex):tkX (.mk 6 o a l s [x,y])=tkO x++tS (z0U o) :: tkO y:=by simp [tkX,tkL,asmT]
theorem zen (o a l:Int) (s:ByteArray) (x y:Ex):tkX (.mk 7 o a l s [x,y])=tkO x++tS [38,38] :: tkO y:=by simp [tkX,tkL,asmT]
theorem zeO (o a l:Int) (s:ByteArray) (x y:Ex):tkX (.mk 8 o a l s [x,y])=tkO x++tS [124,124] :: tkO y:=by simp [tkX,tkL,asmT]
theorem zd5 (o a l:Int) (s:ByteArray) (xs:List Ex):tkX (.mk 9 o a l s xs)=tI s.data.toList :: argT (tkL xs):=by simp [tkX,asmT]
theorem zer (o a l:Int) (s:ByteArray) (x:Ex) (xs:List Ex):tkX (.mk 10 o a l s (x :: xs))=vaT (x.kind,tkX x)++argT (tkL xs):=by simp [tkX,tkL,asmT]
def st (r:List Tok):PS:=⟨r,0,0⟩
def hx (r:List Tok):z04:=(hdT (st r)).text
theorem zea (t:Tok) (r:List Tok):popP (st (t :: r))=st r:=rfl
theorem z5b {t:z04} (h:isNm t=true):(∃ c r,t=c :: r∧(letter c||digit c)=true)∧t≠[114,101,97,100]:=by
 cases t with
 | nil=>cases h
 | cons c r =>
  simp only [isNm,Bool.and_eq_true,Bool.not_eq_true',decide_eq_true_eq] at h
  refine ⟨⟨c,r,rfl,by simp [h.1.1.1]⟩,fun e=>?_⟩
  have:=h.1.2
  rw [e] at this
  revert this
  decide
theorem z5L (n:Nat):∀ c∈numL n,digit c=true:=by
 induction n using Nat.strongRecOn with
 | ind n ih =>
  intro c hc
  have hd:(UInt8.ofNat (48+n % 10)).toNat=48+n % 10:=by simp; omega
  rw [numL] at hc
  split at hc
  ·rename_i h10
   rw [Nat.mod_eq_of_lt h10] at hd
   simp only [List.mem_singleton] at hc
   subst hc
   simp only [digit,hd,Bool.and_eq_true,decide_eq_true_eq]
   omega
  ·rcases List.mem_append.1 hc with hc | hc
   ·exact ih (n / 10) (by omega) c hc
   ·simp only [List.mem_singleton] at hc
    subst hc
    simp only [digit,hd,Bool.and_eq_true,decide_eq_true_eq]
    omega
theorem z9p (n:Nat):∃ c r,numL n=c :: r∧(1≤n→c.toNat≠48)∧(n=0→r=[]):=by
 induction n using Nat.strongRecOn with
 | ind n ih =>
  have hd:(UInt8.ofNat (48+n % 10)).toNat=48+n % 10:=by simp; omega
  rw [numL]
  split
  ·rename_i h10
   rw [Nat.mod_eq_of_lt h10] at hd
   exact ⟨_,[],rfl,fun h=>by rw [hd]; omega,fun _=>rfl⟩
  ·obtain ⟨c,r,e,h1,_⟩:=ih (n / 10) (by omega)
   exact ⟨c,r++[UInt8.ofNat (48+n % 10)],by rw [e]; rfl,fun _=>h1 (by omega),fun h=>by omega⟩
theorem zcH (n:Nat):∃ c r,numL n=c :: r∧(letter c||digit c)=true:=by
 obtain ⟨c,r,e,_⟩:=z9p n
 exact ⟨c,r,e,by rw [z5L n c (by rw [e]; simp)]; simp⟩
def z3K (E:P1) (a:List Tok) (x:Ex) (r:List Tok):Prop:=∃ p b,z0X E (st a)=some (p,st b)∧b.length≤a.length∧∀ n,b.length<n→∃ m,r.length<m∧z1C E ((hdT (st a)).kind == 1) n p (st b)=z1C E ((hdT (st a)).kind == 1) m x (st r)
theorem z3K.of {E:P1} {a r:List Tok} {x:Ex} (h:z0X E (st a)=some (x,st r)) (hl:r.length≤a.length):z3K E a x r:=⟨x,r,h,hl,fun n hn=>⟨n,hn,rfl⟩⟩
theorem z3K.val {E:P1} {a b r:List Tok} {f:Ex} {ys:List Ex} (h:z3K E a f (tS [40] :: b)) (hb:((hdT (st a)).kind == 1&&f.kind == 13)=false) (hl:z6m E [f] (st b)=some (f :: ys,st r)) (hr:r.length≤b.length):z3K E a (.mk 10 0 0 1 ⟨#[]⟩ (f :: ys)) r:=by
 obtain ⟨p,q,h1,h2,h3⟩:=h
 refine ⟨p,q,h1,h2,fun n hn=>?_⟩
 obtain ⟨m,hm,e⟩:=h3 n hn
 simp only [List.length_cons] at hm
 obtain ⟨m,rfl⟩:∃ k,m=k+1:=⟨m - 1,by omega⟩
 refine ⟨m,by omega,?_⟩
 obtain ⟨k,o,a',l,nm,az,rfl⟩:∃ k o a l nm az,f=.mk k o a l nm az:=by
  cases f
  exact ⟨_,_,_,_,_,_,rfl⟩
 have es:z0u [[40]] (st (tS [40] :: b))=true:=rfl
 have hb':((hdT (st a)).kind == 1&&k == 13)=false:=hb
 have hc:z7C E (.mk k o a' l nm az) false (st (tS [40] :: b))=some (.mk 10 0 0 1 ⟨#[]⟩ (.mk k o a' l nm az :: ys),st r):=by
  simp only [z7C,zea,Bool.false_eq_true,if_false]
  rw [hl]
  rfl
 have e2:z1C E ((hdT (st a)).kind == 1) (m+1) (.mk k o a' l nm az) (st (tS [40] :: b))=z1C E ((hdT (st a)).kind == 1) m (.mk 10 0 0 1 ⟨#[]⟩ (.mk k o a' l nm az :: ys)) (st r):=by
  rw [z1C.eq_def]
  simp only [es,if_true,hb',hc]
 exact e.trans e2
theorem zbn (o:Int) (h:1≤o) (h2:o≤11):z0U o≠[41]∧(3≤o→z0U o∈([[42],[47],[37],[43],[45],[60],[60,61],[61,61],[33,61],[38,38],[124,124]]:List z04)):=by
 have hc:o=1∨o=2∨o=3∨o=4∨o=5∨o=6∨o=7∨o=8∨o=9∨o=10∨o=11:=by omega
 rcases hc with rfl | rfl | rfl | rfl | rfl | rfl | rfl | rfl | rfl | rfl | rfl <;> decide
def HdG (c:Bool) (l:List Tok):Prop:=∃ t r,l=t :: r∧t.text≠[41]∧(c=false→t.text≠[45]∧t.text≠[33])
theorem HdG.append {c:Bool} {l r:List Tok} (h:HdG c l):HdG c (l++r):=by
 obtain ⟨t,q,rfl,h⟩:=h
 exact ⟨t,q++r,rfl,h⟩
theorem HdG.hx {c:Bool} {l r:List Tok} (h:HdG c l):hx (l++r)≠[41]∧(c=false→hx (l++r)≠[45]∧hx (l++r)≠[33])∧1≤l.length:=by
 obtain ⟨t,q,rfl,h1,h2⟩:=h
 exact ⟨h1,h2,by simp⟩
end Go.Proofs.YtkeihncfmbicnaaGreatDoor
namespace Go.Proofs.YtkeihncfmbicnaaGreatDoor
open Go.RowKit
def stpB (c:UInt8):Bool:=!wordy c&&decide (c.toNat≠61)&&decide (c.toNat≠38)&&decide (c.toNat≠124)
def Stp (r:z04):Prop:=∀ c r',r=c :: r'→stpB c=true
def ScT (l:z04) (ts:List Tok):Prop:=∀ r,Stp r→scan 1 (l++r)=ext ts (scan 1 r)
def SaT (l:z04) (ts:List Tok):Prop:=∀ r,scan 1 (l++r)=ext ts (scan 1 r)
theorem z34 (a b:List Tok) (x:Except Nat (List Tok)):ext a (ext b x)=ext (a++b) x:=by cases x <;> simp [ext]
theorem SaT.sc {l:z04} {ts:List Tok} (h:SaT l ts):ScT l ts:=fun r _=>h r
theorem SaT.append {a b:z04} {s t:List Tok} (ha:SaT a s) (hb:SaT b t):SaT (a++b) (s++t):=fun r=>by rw [List.append_assoc,ha,hb,z34]
theorem SaT.then {a b:z04} {s t:List Tok} (ha:SaT a s) (hb:ScT b t):ScT (a++b) (s++t):=fun r hr=>by rw [List.append_assoc,ha,hb r hr,z34]
def Sp0 (l:z04):Bool:=match l with | []=>false | c :: _=>stpB c
theorem zc5 {l r:z04} (h:Sp0 l=true):Stp (l++r):=by
 cases l with
 | nil=>cases h
 | cons a l=>intro c r' e; injection e with e; subst e; exact h
theorem ScT.append {a b:z04} {s t:List Tok} (ha:ScT a s) (h0:Sp0 b=true) (hb:SaT b t):SaT (a++b) (s++t):=fun r=>by rw [List.append_assoc,ha _ (zc5 h0),hb,z34]
theorem ScT.then {a b:z04} {s t:List Tok} (ha:ScT a s) (h0:Sp0 b=true) (hb:ScT b t):ScT (a++b) (s++t):=fun r hr=>by rw [List.append_assoc,ha _ (zc5 h0),hb r hr,z34]
theorem z5S:SaT [32] []:=fun r=>by rw [List.singleton_append,scan,if_neg (by decide),if_pos (by decide),z21]
theorem z5n {c:UInt8} {l r:z04} {k v line:Nat} (h10:c.toNat≠10) (h32:¬(c.toNat=32∨c.toNat=9)) (h35:c.toNat≠35) (hp:plen (c :: l++r)=(c :: l).length) (hm:pmean (c :: l)=some (k,v)):scan line (c :: l++r)=ext [⟨k,line,v,c :: l⟩] (scan line r):=by
 have hn:rnext (c :: l++r)=some (k,v,(c :: l).length):=by rw [z3X,hp,List.take_left',hm]; rfl; rfl
 rw [List.cons_append] at hn ⊢
 rw [scan,if_neg h10,if_neg h32,if_neg h35,hn]
 simp only [List.length_cons,Nat.add_sub_cancel,List.drop_left,List.take_succ_cons,List.take_left]
 cases scan line r <;> rfl
theorem z3A {c x:UInt8} (h:isS [c,x]=true):(c=60∧x=61)∨(c=61∧x=61)∨(c=33∧x=61)∨(c=38∧x=38)∨(c=124∧x=124):=by
 simp only [isS,z4F,List.contains_iff_mem] at h
 simpa using h
theorem zd4 {c x:UInt8} (h:stpB x=true):isS [c,x]=false:=by
 cases e:isS [c,x] with
 | false=>rfl
 | true =>
  simp only [stpB,Bool.and_eq_true,decide_eq_true_eq] at h
  rcases z3A e with ⟨_,e⟩ | ⟨_,e⟩ | ⟨_,e⟩ | ⟨_,e⟩ | ⟨_,e⟩ <;> subst e <;> simp at h
def OneS (c:UInt8):Prop:=(letter c||digit c)=false∧c.toNat≠10∧¬(c.toNat=32∨c.toNat=9)∧c.toNat≠35∧isS [c]=true
theorem z3D {c:UInt8} (h:OneS c) (r:z04) (h2:∀ x r',r=x :: r'→isS [c,x]=false):scan 1 (c :: r)=ext [tS [c]] (scan 1 r):=by
 obtain ⟨h1,h10,h32,h35,h3⟩:=h
 refine z5n (l:=[]) (k:=4) (v:=0) h10 h32 h35 ?_ (by simp [pmean,h3])
 cases r with
 | nil=>simp [plen,h1,h3]
 | cons x r'=>simp [plen,h1,h3,h2 x r' rfl]
theorem zcZ {c:UInt8} (h:OneS c):ScT [c] [tS [c]]:=fun r hr=>z3D h r (fun x r' e=>zd4 (hr x r' e))
theorem z3e {c:UInt8} (h:OneS c) (h2:c≠60∧c≠61∧c≠33∧c≠38∧c≠124):SaT [c] [tS [c]]:=fun r=>z3D h r (fun x r' _=>by
 cases e:isS [c,x] with
 | false=>rfl
 | true=>rcases z3A e with ⟨e,_⟩ | ⟨e,_⟩ | ⟨e,_⟩ | ⟨e,_⟩ | ⟨e,_⟩ <;> subst e <;> simp at h2)
theorem z44 {c d:UInt8} (h:(letter c||digit c)=false) (h10:c.toNat≠10) (h32:¬(c.toNat=32∨c.toNat=9)) (h35:c.toNat≠35) (h1:isS [c,d]=true):SaT [c,d] [tS [c,d]]:=fun r =>
 z5n (k:=4) (v:=0) (l:=[d]) h10 h32 h35 (by simp [plen,h,h1]) (by simp [pmean,h1])
theorem zet {l r:z04} (hr:Stp r) (h:∀ c∈l,wordy c=true):(l++r).takeWhile wordy=l:=by
 induction l with
 | nil =>
  cases r with
  | nil=>rfl
  | cons c r' =>
   have:=hr c r' rfl
   simp only [stpB,Bool.and_eq_true,Bool.not_eq_true'] at this
   simp [this.1.1.1]
 | cons a l ih=>simp [h a (by simp),ih (fun c hc=>h c (by simp [hc]))]
theorem z5o {c:UInt8} {l:z04} {k v:Nat} (h:(letter c||digit c)=true) (hw:∀ x∈c :: l,wordy x=true) (hm:pmean (c :: l)=some (k,v)):ScT (c :: l) [⟨k,1,v,c :: l⟩]:=fun r hr=>by
 have hf:c.toNat≠10∧¬(c.toNat=32∨c.toNat=9)∧c.toNat≠35:=by
  simp only [Bool.or_eq_true] at h
  rcases h with h | h
  ·have:=z3V h; omega
  ·have:=z2G h; omega
 refine z5n hf.1 hf.2.1 hf.2.2 ?_ hm
 have:plen (c :: l++r)=((c :: l++r).takeWhile wordy).length:=by simp only [List.cons_append,plen,h,if_true]
 rw [this,zet hr hw]
theorem z7l {s:z04} (h:isNm s=true):ScT s [tI s]:=by
 cases s with
 | nil=>cases h
 | cons c r =>
  simp only [isNm,Bool.and_eq_true,decide_eq_true_eq,Bool.not_eq_true'] at h
  obtain ⟨⟨⟨h1,h2⟩,h3⟩,h4⟩:=h
  have hl:(letter c||digit c)=true:=by simp [h1]
  refine z5o hl (fun x hx=>?_) ?_
  ·rcases List.mem_cons.1 hx with rfl | hx
   ·simp [wordy,h1]
   ·exact List.all_eq_true.1 h2 x hx
  ·have hd:=z2a h1
   simp [pmean,z36 hl,h3,hd]
   omega
theorem z9q (c:UInt8):∀ (l:z04) (a:Nat),num a (l++[c])=match num a l with | none=>none | some b=>if (9223372036854775807 - (c.toNat - 48)) / 10<b then none else some (10 * b+(c.toNat - 48))
 | [],a=>by simp [num]
 | x :: r,a=>by
  simp only [List.cons_append,num]
  split
  ·rfl
  ·exact z9q c r _
theorem zdW (n:Nat):n<9223372036854775808→num 0 (numL n)=some n:=by
 induction n using Nat.strongRecOn with
 | ind n ih =>
  intro h
  have hd:(UInt8.ofNat (48+n % 10)).toNat=48+n % 10:=by simp; omega
  rw [numL]
  split
  ·rename_i h10
   rw [Nat.mod_eq_of_lt h10] at hd
   simp only [num,hd]
   rw [if_neg (by omega)]
   simp
  ·rename_i h10
   rw [z9q,ih (n / 10) (by omega) (by omega)]
   simp only [hd]
   rw [if_neg (by omega)]
   congr 1
   omega
theorem zcY {n:Nat} (h:n<9223372036854775808):ScT (numL n) [tN n]:=by
 obtain ⟨c,r,e,h1,h2⟩:=z9p n
 have hd:∀ x∈c :: r,digit x=true:=by rw [← e]; exact z5L n
 have hc:=hd c (by simp)
 have hl:(letter c||digit c)=true:=by simp [hc]
 have et:tN n=⟨2,1,n,c :: r⟩:=by unfold tN; rw [e]
 rw [et,e]
 refine z5o hl (fun x hx=>by simp [wordy,hd x hx]) ?_
 have hv:val (c :: r)=some n:=by rw [z6K hc (fun x hx=>hd x (by simp [hx])),← e,zdW n h]
 have hz:(decide (1<(c :: r).length)&&decide (c.toNat=48))=false:=by
  rcases Nat.eq_zero_or_pos n with h0 | h0
  ·rw [h2 h0]; simp
  ·simp [h1 h0]
 simp only [pmean,z36 hl,z52 hc,hc,hz,hv]
 rfl
theorem ze1:OneS 40:=by unfold OneS; decide
theorem ze2:OneS 41:=by unfold OneS; decide
theorem ze8:OneS 91:=by unfold OneS; decide
theorem ze9:OneS 93:=by unfold OneS; decide
theorem ze5:OneS 44:=by unfold OneS; decide
theorem zbZ:OneS 45:=by unfold OneS; decide
theorem zdY:OneS 33:=by unfold OneS; decide
theorem ze0:OneS 38:=by unfold OneS; decide
theorem ze7:OneS 60:=by unfold OneS; decide
theorem ze4:OneS 43:=by unfold OneS; decide
theorem ze3:OneS 42:=by unfold OneS; decide
theorem ze6:OneS 47:=by unfold OneS; decide
theorem zdZ:OneS 37:=by unfold OneS; decide
theorem zed:SaT [40] [tS [40]]:=z3e ze1 (by decide)
theorem zee:SaT [41] [tS [41]]:=z3e ze2 (by decide)
theorem zeh:SaT [91] [tS [91]]:=z3e ze8 (by decide)
theorem zei:SaT [93] [tS [93]]:=z3e ze9 (by decide)
theorem zef:SaT [44] [tS [44]]:=z3e ze5 (by decide)
theorem zeg:SaT [45] [tS [45]]:=z3e zbZ (by decide)
theorem zcU {t:z04} (ht:t∈([[42],[47],[37],[43],[45],[60],[60,61],[61,61],[33,61],[38,38],[124,124]]:List z04)):SaT (32 :: (t++[32])) [tS t]:=by
 have two:∀ {c d:UInt8},SaT [c,d] [tS [c,d]]→SaT (32 :: ([c,d]++[32])) [tS [c,d]]:=fun h=>(z5S.append h).append z5S
 have one:∀ {c:UInt8},OneS c→SaT (32 :: ([c]++[32])) [tS [c]]:=fun h=>z5S.append ((zcZ h).append (b:=[32]) (by decide) z5S)
 simp only [List.mem_cons,List.not_mem_nil,or_false] at ht
 rcases ht with h | h | h | h | h | h | h | h | h | h | h <;> rw [h]
 ·exact one ze3
 ·exact one ze6
 ·exact one zdZ
 ·exact one ze4
 ·exact one zbZ
 ·exact one ze7
 ·exact two (z44 (by decide) (by decide) (by decide) (by decide) (by decide))
 ·exact two (z44 (by decide) (by decide) (by decide) (by decide) (by decide))
 ·exact two (z44 (by decide) (by decide) (by decide) (by decide) (by decide))
 ·exact two (z44 (by decide) (by decide) (by decide) (by decide) (by decide))
 ·exact two (z44 (by decide) (by decide) (by decide) (by decide) (by decide))
def NoQ (l:z04):Prop:=∃ c r,l=c :: r∧c.toNat≠61
theorem NoQ.append {a b:z04} (h:NoQ a):NoQ (a++b):=by
 obtain ⟨c,r,rfl,h⟩:=h
 exact ⟨c,r++b,rfl,h⟩
theorem z3C {l:z04} (h:∃ c r,l=c :: r∧(letter c||digit c)=true):NoQ l:=by
 obtain ⟨c,r,rfl,h⟩:=h
 refine ⟨c,r,rfl,?_⟩
 simp only [Bool.or_eq_true] at h
 rcases h with h | h
 ·have:=z3V h; omega
 ·have:=z2G h; omega
theorem zcX {l:z04} {ts:List Tok} (hl:ScT l ts) (h0:NoQ l):ScT (33 :: l) (tS [33] :: ts):=fun r hr=>by
 obtain ⟨c,q,rfl,hne⟩:=h0
 show scan 1 (33 :: (c :: q++r))=_
 rw [z3D zdY _ (fun x r' e=>by
  injection e with e
  subst e
  cases e:isS [33,c] with
  | false=>rfl
  | true=>rcases z3A e with ⟨h1,_⟩ | ⟨h1,_⟩ | ⟨_,h2⟩ | ⟨h1,_⟩ | ⟨h1,_⟩ <;> (first | exact absurd h1 (by decide) | (subst h2; simp at hne))),hl r hr,z34]
 rfl
theorem zcW {l:z04} (hl:isNm l=true):ScT (38 :: l) [tS [38],tI l]:=fun r hr=>by
 obtain ⟨c,q,e1,h1⟩:=(z5b hl).1
 have hs:=z7l hl r hr
 rw [e1] at hs ⊢
 show scan 1 (38 :: (c :: q++r))=_
 rw [z3D ze0 _ (fun x r' e=>by
  injection e with e
  subst e
  cases e:isS [38,c] with
  | false=>rfl
  | true=>rcases z3A e with ⟨h1,_⟩ | ⟨h1,_⟩ | ⟨h1,_⟩ | ⟨_,h2⟩ | ⟨h1,_⟩ <;> (first | exact absurd h1 (by decide) | (subst h2; revert h1; decide))),hs,z34]
 rfl
theorem z6B {l:z04} {ts:List Tok} (h:ScT l ts):SaT (40 :: (l++[41])) (parT ts):=zed.append (h.append (b:=[41]) (by decide) zee)
def Dp:Nat→Ex→Prop
 | 0,_=>False
 | d+1,.mk _ _ _ _ _ xs=>∀ x∈xs,Dp d x
theorem zcl {F:Nat→Prop} {w:World}:∀ {d:Nat} {x:Ex} {v:Value},ExV F w d x v→Dp d x
 | 0,_,_,h=>h
 | d+1,.mk k o a l s xs,v,⟨A,c,_,_,h⟩=>fun x hx=>by
  obtain ⟨i,hi,e⟩:=List.mem_iff_getElem.1 hx
  obtain ⟨g,off,c0,c1,c2,c3,c4,c5,_,_,_,_,_,_,_,_,hv⟩:=h i x (by rw [List.getElem?_eq_getElem hi,e])
  exact zcl hv
theorem zdz (d:Nat) (o a l:Int) (s:ByteArray) (x:Ex):fmtE (d+1) (.mk 5 o a l s [x])=z0U o++opd d x:=by simp [fmtE,opd]
theorem zbQ (d:Nat) (o a l:Int) (s:ByteArray) (x y:Ex):fmtE (d+1) (.mk 6 o a l s [x,y])=opd d x++((32 :: (z0U o++[32]))++opd d y):=by simp [fmtE,opd]
theorem zbP (d:Nat) (o a l:Int) (s:ByteArray) (x y:Ex):fmtE (d+1) (.mk 7 o a l s [x,y])=opd d x++((32 :: ([38,38]++[32]))++opd d y):=by simp [fmtE,opd]
theorem zdy (d:Nat) (o a l:Int) (s:ByteArray) (x y:Ex):fmtE (d+1) (.mk 8 o a l s [x,y])=opd d x++((32 :: ([124,124]++[32]))++opd d y):=by simp [fmtE,opd]
theorem zdx (d:Nat) (o a l:Int) (s:ByteArray) (x:Ex):fmtE (d+1) (.mk 4 o a l s [x])=s.data.toList++([91]++(fmtE d x++[93])):=by simp [fmtE]
theorem z8E (d:Nat) (o a l:Int) (s:ByteArray) (xs:List Ex):fmtE (d+1) (.mk 9 o a l s xs)=s.data.toList++lst d xs:=by simp [fmtE,lst]
theorem zbS (d:Nat) (o a l:Int) (s:ByteArray) (x:Ex) (xs:List Ex):fmtE (d+1) (.mk 10 o a l s (x :: xs))=(if x.kind=13∨x.kind=2∨x.kind=3 then 40 :: (opd d x++[41]) else opd d x)++lst d xs:=by simp [fmtE,lst,opd]
theorem zaM (sep x y:z04) (r:List z04):sep.intercalate (x :: y :: r)=x++sep++sep.intercalate (y :: r):=by simp [List.intercalate,List.intersperse]
theorem z35:∀ (x:z04) (l:List z04),([44,32]:z04).intercalate (x :: l)=x++l.flatMap (fun y=>[44,32]++y)
 | x,[]=>by simp [List.intercalate]
 | x,y :: r=>by rw [zaM,z35 y r]; simp
theorem z5g {d:Nat} {x:Ex} (h:ScT (fmtE d x) (tkX x)∧NoQ (fmtE d x)):ScT (opd d x) (tkO x)∧NoQ (opd d x):=by
 unfold opd tkO opT
 simp only
 split
 ·exact ⟨(z6B h.1).sc,40,_,rfl,by decide⟩
 ·exact h
theorem z7c {d:Nat}:∀ (l:List Ex),(∀ x∈l,ScT (fmtE d x) (tkX x))→ScT ((l.map (fmtE d)).flatMap (fun y=>[44,32]++y)) (z5I (tkL l))
 | [],_=>fun r _=>by simp [tkL,z5I,z21]
 | x :: l,h=>by
  have ih:=z7c l (fun y hy=>h y (by simp [hy]))
  have hx:=h x (by simp)
  have e:((x :: l).map (fmtE d)).flatMap (fun y=>[44,32]++y)=[44]++([32]++(fmtE d x++(l.map (fmtE d)).flatMap (fun y=>[44,32]++y))):=by simp
  have e2:z5I (tkL (x :: l))=[tS [44]]++([]++(tkX x++z5I (tkL l))):=by simp [tkL,z5I]
  rw [e,e2]
  refine zef.then (z5S.then ?_)
  cases l with
  | nil=>simpa [tkL,z5I] using hx
  | cons y r=>exact hx.then (by simp [Sp0]; decide) ih
theorem z9j {d:Nat} (l:List Ex) (h:∀ x∈l,ScT (fmtE d x) (tkX x)):SaT (lst d l) (argT (tkL l)):=by
 have hc:ScT (([44,32]:z04).intercalate (l.map (fmtE d))) (comT (tkL l)):=by
  cases l with
  | nil=>intro r _; simp [List.intercalate,tkL,comT,z21]
  | cons x l =>
   have ih:=z7c l (fun y hy=>h y (by simp [hy]))
   have hx:=h x (by simp)
   simp only [List.map_cons,z35,tkL,comT]
   cases l with
   | nil=>simpa [tkL,z5I] using hx
   | cons y r=>exact hx.then (by simp [Sp0]; decide) ih
 exact z6B hc
theorem z6I {d:Nat} {x y:Ex} {t:z04} (ht:t∈([[42],[47],[37],[43],[45],[60],[60,61],[61,61],[33,61],[38,38],[124,124]]:List z04)) (hx:ScT (fmtE d x) (tkX x)∧NoQ (fmtE d x)) (hy:ScT (fmtE d y) (tkX y)∧NoQ (fmtE d y)) :
  ScT (opd d x++((32 :: (t++[32]))++opd d y)) (tkO x++tS t :: tkO y)∧NoQ (opd d x++((32 :: (t++[32]))++opd d y)):=by
 obtain ⟨h1,h2⟩:=z5g hx
 obtain ⟨h3,_⟩:=z5g hy
 exact ⟨h1.then (by simp [Sp0]; decide) ((zcU ht).then h3),h2.append⟩
theorem zcs {x:Ex} (h:WfX x):∀ d,Dp d x→ScT (fmtE d x) (tkX x)∧NoQ (fmtE d x):=by
 induction h with
 | num a l h1 h2 =>
  intro d hd
  cases d with
  | zero=>exact hd.elim
  | succ d =>
   have e:fmtE (d+1) (.mk 1 0 a l ⟨#[]⟩ [])=numL a.toNat:=by
    have:max a 0=a:=by omega
    simp [fmtE,this]
   rw [e,zeq]
   exact ⟨zcY (by omega),z3C (zcH _)⟩
 | nam l s h =>
  intro d hd
  cases d with
  | zero=>exact hd.elim
  | succ d =>
   have e:fmtE (d+1) (.mk 13 0 0 l s [])=s.data.toList:=by simp [fmtE]
   rw [e,zep]
   exact ⟨z7l h,z3C (z5b h).1⟩
 | fn l s h =>
  intro d hd
  cases d with
  | zero=>exact hd.elim
  | succ d =>
   have e:fmtE (d+1) (.mk 11 0 0 l s [])=38 :: s.data.toList:=by simp [fmtE]
   rw [e,zeN]
   exact ⟨zcW h,38,_,rfl,by decide⟩
 | rd l =>
  intro d hd
  cases d with
  | zero=>exact hd.elim
  | succ d =>
   have e:fmtE (d+1) (.mk 12 0 0 l ⟨#[]⟩ [])=[114,101,97,100]:=by simp [fmtE]
   rw [e,zeP]
   exact ⟨z5o (by decide) (by decide) (by decide),114,_,rfl,by decide⟩
 | el l s x h hx ih =>
  intro d hd
  cases d with
  | zero=>exact hd.elim
  | succ d =>
   have h1:=(ih d (hd x (by simp))).1
   rw [zdx,zeM]
   exact ⟨((z7l h).append (b:=[91]++(fmtE d x++[93])) (by simp [Sp0]; decide) (zeh.append (h1.append (b:=[93]) (by decide) zei))).sc,(z3C (z5b h).1).append⟩
 | un o l x h1 h2 hx ih =>
  intro d hd
  cases d with
  | zero=>exact hd.elim
  | succ d =>
   obtain ⟨h3,h4⟩:=z5g (ih d (hd x (by simp)))
   rw [zdz,zeQ]
   have hc:o=1∨o=2:=by omega
   rcases hc with rfl | rfl
   ·exact ⟨zeg.then h3,45,_,rfl,by decide⟩
   ·exact ⟨zcX h3 h4,33,_,rfl,by decide⟩
 | bin o l x y h1 h2 hx hy ih1 ih2 =>
  intro d hd
  cases d with
  | zero=>exact hd.elim
  | succ d =>
   rw [zbQ,zeo]
   exact z6I ((zbn o (by omega) h2).2 h1) (ih1 d (hd x (by simp))) (ih2 d (hd y (by simp)))
 | and_ l x y hx hy ih1 ih2 =>
  intro d hd
  cases d with
  | zero=>exact hd.elim
  | succ d =>
   rw [zbP,zen]
   exact z6I (by decide) (ih1 d (hd x (by simp))) (ih2 d (hd y (by simp)))
 | or_ l x y hx hy ih1 ih2 =>
  intro d hd
  cases d with
  | zero=>exact hd.elim
  | succ d =>
   rw [zdy,zeO]
   exact z6I (by decide) (ih1 d (hd x (by simp))) (ih2 d (hd y (by simp)))
 | call l s xs h hxs ih =>
  intro d hd
  cases d with
  | zero=>exact hd.elim
  | succ d =>
   rw [z8E,zd5]
   exact ⟨((z7l h).append (b:=lst d xs) (by simp [Sp0,lst]; decide) (z9j xs (fun x hx=>(ih x hx d (hd x hx)).1))).sc,(z3C (z5b h).1).append⟩
 | val l x xs hx hxs ih1 ih2 =>
  intro d hd
  cases d with
  | zero=>exact hd.elim
  | succ d =>
   obtain ⟨h3,h4⟩:=z5g (ih1 d (hd x (by simp)))
   have hl:=z9j (d:=d) xs (fun y hy=>(ih2 y hy d (hd y (by simp [hy]))).1)
   rw [zbS,zer]
   have h5:ScT (if x.kind=13∨x.kind=2∨x.kind=3 then 40 :: (opd d x++[41]) else opd d x) (vaT (x.kind,tkX x))∧NoQ (if x.kind=13∨x.kind=2∨x.kind=3 then 40 :: (opd d x++[41]) else opd d x):=by
    unfold vaT
    by_cases hk:x.kind=13
    ·rw [if_pos (.inl hk),if_pos hk]
     have e:tkO x=tkX x:=by simp [tkO,opT,hk,z0l]
     rw [e] at h3
     exact ⟨(z6B h3).sc,40,_,rfl,by decide⟩
    ·have hk2:¬ (x.kind=13∨x.kind=2∨x.kind=3):=by
      rintro (h | h | h)
      ·exact hk h
      ·cases hx <;> simp [Ex.kind] at h
      ·cases hx <;> simp [Ex.kind] at h
     rw [if_neg hk2,if_neg hk]
     exact ⟨h3,h4⟩
   exact ⟨(h5.1.append (b:=lst d xs) (by simp [Sp0,lst]; decide) hl).sc,h5.2.append⟩
end Go.Proofs.YtkeihncfmbicnaaGreatDoor
