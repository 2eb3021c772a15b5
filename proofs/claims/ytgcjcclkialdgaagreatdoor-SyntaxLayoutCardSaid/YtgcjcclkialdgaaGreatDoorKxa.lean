/-
  Kxa: LayW, LkS, LkU. Walks and laws that the statement's proof is made of. No condition of its own.
-/
import Derived.Test.YtgcjcclkialdgaaGreatDoorKx
import Derived.Test.YtgcjcclkialdgaaGreatDoorKma
import Derived.Test.YtgcjcclkialdgaaGreatDoorKl
namespace Go.Proofs.YtgcjcclkialdgaaGreatDoor
open Go.RowKit
def wB (c:UInt8):Nat:=if c.toNat=35 then 100000 else if c.toNat=32∨c.toNat=10 then 9 else 1
def W (l:z03):Nat:=(l.map wB).sum
theorem z0B (a b:z03):W (a++b)≤W a+W b:=by simp [W]
theorem zbE (c:UInt8) (l:z03) (h:wB c≤21:=by decide):W (c :: l)≤21+W l:=by
 unfold W
 rw [List.map_cons,List.sum_cons]
 omega
theorem zdm {c:UInt8} (h:wordy c=true):wB c=1:=by
 have h1:c.toNat≠35∧c.toNat≠32∧c.toNat≠10:=by
  simp only [wordy,letter,digit,Bool.or_eq_true,Bool.and_eq_true,decide_eq_true_eq] at h
  omega
 unfold wB
 rw [if_neg h1.1,if_neg (by omega)]
theorem z8H:∀ {l:z03},(∀ x∈l,wordy x=true)→W l≤l.length+20
 | [],_=>by simp [W]
 | c :: r,h=>by
  have:=z8H (l:=r) (fun x hx=>h x (by simp [hx]))
  have:=zdm (h c (by simp))
  unfold W at *
  simp only [List.map_cons,List.sum_cons,List.length_cons]
  omega
theorem zdu:∀ l:z03,l.length≤W l
 | []=>Nat.le_refl _
 | c :: r=>by
  have:=zdu r
  have h:1≤wB c:=by unfold wB; split; omega; split <;> omega
  unfold W at *
  simp only [List.map_cons,List.sum_cons,List.length_cons]
  omega
theorem W_no:∀ {l:z03},W l<100000→∀ c∈l,c.toNat≠35
 | c :: r,h,x,hx=>by
  unfold W at h
  rw [List.map_cons,List.sum_cons] at h
  rcases List.mem_cons.1 hx with rfl | hx
  ·intro e
   unfold wB at h
   rw [if_pos e] at h
   omega
  ·exact W_no (l:=r) (by unfold W; omega) x hx
theorem z24 {s:ByteArray} (h:z0t s):W s.data.toList≤36:=by
 have hsz:s.data.toList.length=s.size:=by simp
 have h2:∀ x∈s.data.toList,wordy x=true:=by
  have hn:=h.2
  generalize s.data.toList=l at hn
  match l,hn with
  | c :: r,hn =>
   simp only [zbP,Bool.and_eq_true] at hn
   intro x hx
   rcases List.mem_cons.1 hx with rfl | hx
   ·exact z50 (by rw [hn.1.1.1]; rfl)
   ·exact List.all_eq_true.1 hn.1.1.2 x hx
 have h3:=z8H h2
 have h4:=h.1
 omega
theorem zdw {n:Nat} (h:n<9223372036854775808):W (numL n)≤39:=by
 have h1:=z8H (l:=numL n) (fun x hx=>z50 (by rw [z4n n x hx]; simp))
 have h2:=z1p h
 omega
theorem zdy (o:Int):W (z19 o)≤42:=by
 unfold z19
 repeat (split; decide)
 decide
theorem z0x (a b c:z03):W (a++b++c)≤W a+W b+W c:=by
 have:=z0B (a++b) c
 have:=z0B a b
 omega
theorem z55 (l:z03):W (40 :: (l++[41]))≤W l+42:=by
 have h1:=zbE 40 (l++[41])
 have h2:=z0B l [41]
 have h3:W [41]≤21:=by decide
 omega
theorem zdx (d:Nat) (x:Ex):W (if z0K x.kind then 40 :: (fmtE d x++[41]) else fmtE d x)≤W (fmtE d x)+42:=by
 split
 ·exact z55 _
 ·omega
theorem zdv {d N n:Nat} {l:List Ex} (h:∀ x∈l,W (fmtE d x)≤N) (hn:l.length≤n):W (([44,32]:z03).intercalate (l.map (fmtE d)))≤n * (N+22):=by
 induction l generalizing n with
 | nil=>simp [List.intercalate,W]
 | cons a r ih =>
  have ha:=h a (by simp)
  cases r with
  | nil =>
   have:1≤n:=by simpa using hn
   have h2:1 * (N+22)≤n * (N+22):=Nat.mul_le_mul_right _ this
   rw [show ([44,32]:z03).intercalate ([a].map (fmtE d))=fmtE d a by simp [List.intercalate]]
   omega
  | cons b r =>
   obtain ⟨n,rfl⟩:∃ n',n=n'+1:=⟨n - 1,by simp at hn; omega⟩
   have hr:=ih (n:=n) (fun x hx=>h x (by simp [hx])) (by simp at hn ⊢; omega)
   have e:([44,32]:z03).intercalate ((a :: b :: r).map (fmtE d))=fmtE d a++[44,32]++([44,32]:z03).intercalate ((b :: r).map (fmtE d)):=z1S _ _ _ _
   have h3:=z0x (fmtE d a) [44,32] (([44,32]:z03).intercalate ((b :: r).map (fmtE d)))
   have h4:W [44,32]≤22:=by decide
   rw [e,Nat.add_mul]
   omega
theorem zbR {d:Nat} {k o a l:Int} {s:ByteArray} (h0:0≤a∧a<9223372036854775808) (hk:k=12∨(k=13∧z0t s)∨k=1∨(k=11∧z0t s)):W (fmtE (d+1) (.mk k o a l s []))≤57:=by
 rcases hk with rfl | ⟨rfl,hs⟩ | rfl | ⟨rfl,hs⟩
 ·rw [show fmtE (d+1) (.mk 12 o a l s [])=[114,101,97,100] by simp [fmtE]]; decide
 ·rw [show fmtE (d+1) (.mk 13 o a l s [])=s.data.toList by simp [fmtE]]
  have:=z24 hs
  omega
 ·rw [show fmtE (d+1) (.mk 1 o a l s [])=numL (max a 0).toNat by simp [fmtE]]
  have:=zdw (n:=(max a 0).toNat) (by omega)
  omega
 ·rw [show fmtE (d+1) (.mk 11 o a l s [])=38 :: s.data.toList by simp [fmtE]]
  have:=z24 hs
  have:=zbE 38 s.data.toList
  omega
theorem zdZ {d:Nat} {x:Ex} (h:GE d x) (hk:x.kind=13∨x.kind=2∨x.kind=3):W (fmtE (d+1) x)≤36∧z0K x.kind=false:=by
 have key:∀ k o a l s xs,x=.mk k o a l s xs→(k=13∧z0t s∧xs=[])→W (fmtE (d+1) x)≤36∧z0K x.kind=false:=fun k o a l s xs e ⟨h1,h2,h3⟩=>by
  subst e h1 h3
  rw [show fmtE (d+1) (.mk 13 o a l s [])=s.data.toList by simp [fmtE]]
  exact ⟨z24 h2,rfl⟩
 match d,x,h with
 | 0,.mk k o a l s xs,⟨_,_,_,_,_,_,hxs,hl⟩ =>
  have hk:k=13∨k=2∨k=3:=hk
  refine key k o a l s xs rfl ?_
  rcases hl with h | ⟨h,hs⟩ | h | ⟨h,_⟩
  ·omega
  ·exact ⟨h,hs,hxs⟩
  ·omega
  ·omega
 | d+1,.mk k o a l s xs,⟨_,_,_,_,_,_,hl⟩ =>
  have hk:k=13∨k=2∨k=3:=hk
  refine key k o a l s xs rfl ?_
  rcases hl with ⟨hxs,h | ⟨h,hs⟩ | h | ⟨h,_⟩⟩ | ⟨_,hl⟩
  ·omega
  ·exact ⟨h,hs,hxs⟩
  ·omega
  ·omega
  ·rcases hl with ⟨h,_⟩ | ⟨h,_⟩ | ⟨h,_⟩ | ⟨h,_⟩ | ⟨h,_⟩ | ⟨h,_⟩ | ⟨h,_⟩ <;> omega
theorem zbK:∀ (d:Nat) (x:Ex),GE d x→W (fmtE (d+1) x)≤WE d
 | 0,.mk k o a l s xs,⟨_,_,_,h3,h4,_,hxs,hk⟩=>by subst hxs; exact zbR ⟨h3,h4⟩ hk
 | d+1,.mk k o a l s xs,⟨_,_,_,h3,h4,_,hk⟩=>by
  have h57:=zeA d
  rcases hk with ⟨rfl,hk⟩ | ⟨hx,hk⟩
  ·have:=zbR (d:=d+1) (o:=o) (l:=l) ⟨h3,h4⟩ hk
   simp only [WE]
   omega
  have ih:∀ x∈xs,W (fmtE (d+1) x)≤WE d:=fun x hm=>zbK d x (hx x hm)
  have hop:∀ x∈xs,W (if z0K x.kind then 40 :: (fmtE (d+1) x++[41]) else fmtE (d+1) x)≤WE d+42:=fun x hm=>by
   have h1:=ih x hm
   have h2:=zdx (d+1) x
   omega
  have hsg:=zdy o
  have hb:W [32]≤9:=by decide
  simp only [WE]
  rcases hk with ⟨rfl,_,_,hl⟩ | ⟨rfl,_,hl⟩ | ⟨rfl,hl⟩ | ⟨rfl,hl⟩ | ⟨rfl,hs,hl⟩ | ⟨rfl,hs,hl⟩ | ⟨rfl,hl,hl3⟩
  ·obtain ⟨x,rfl⟩:=z5h hl
   have hx1:=hop x (by simp)
   have e:fmtE (d+1+1) (.mk 5 o a l s [x])=z19 o++(if z0K x.kind then 40 :: (fmtE (d+1) x++[41]) else fmtE (d+1) x):=by simp [fmtE]
   have h5:=z0B (z19 o) (if z0K x.kind then 40 :: (fmtE (d+1) x++[41]) else fmtE (d+1) x)
   rw [e]
   omega
  ·obtain ⟨x,y,rfl⟩:=z2l hl
   have hx1:=hop x (by simp)
   have hx2:=hop y (by simp)
   have e:fmtE (d+1+1) (.mk 6 o a l s [x,y])=(if z0K x.kind then 40 :: (fmtE (d+1) x++[41]) else fmtE (d+1) x)++([32]++z19 o++[32])++(if z0K y.kind then 40 :: (fmtE (d+1) y++[41]) else fmtE (d+1) y):=by simp [fmtE]
   have h5:=z0x (if z0K x.kind then 40 :: (fmtE (d+1) x++[41]) else fmtE (d+1) x) ([32]++z19 o++[32]) (if z0K y.kind then 40 :: (fmtE (d+1) y++[41]) else fmtE (d+1) y)
   have h6:=z0x [32] (z19 o) [32]
   rw [e]
   omega
  ·obtain ⟨x,y,rfl⟩:=z2l hl
   have hx1:=hop x (by simp)
   have hx2:=hop y (by simp)
   have e:fmtE (d+1+1) (.mk 7 o a l s [x,y])=(if z0K x.kind then 40 :: (fmtE (d+1) x++[41]) else fmtE (d+1) x)++[32,38,38,32]++(if z0K y.kind then 40 :: (fmtE (d+1) y++[41]) else fmtE (d+1) y):=by simp [fmtE]
   have h5:=z0x (if z0K x.kind then 40 :: (fmtE (d+1) x++[41]) else fmtE (d+1) x) [32,38,38,32] (if z0K y.kind then 40 :: (fmtE (d+1) y++[41]) else fmtE (d+1) y)
   have h6:W [32,38,38,32]≤46:=by decide
   have h7:=zdx (d+1) y
   rw [e]
   omega
  ·obtain ⟨x,y,rfl⟩:=z2l hl
   have hx1:=hop x (by simp)
   have hx2:=hop y (by simp)
   have e:fmtE (d+1+1) (.mk 8 o a l s [x,y])=(if z0K x.kind then 40 :: (fmtE (d+1) x++[41]) else fmtE (d+1) x)++[32,124,124,32]++(if z0K y.kind then 40 :: (fmtE (d+1) y++[41]) else fmtE (d+1) y):=by simp [fmtE]
   have h5:=z0x (if z0K x.kind then 40 :: (fmtE (d+1) x++[41]) else fmtE (d+1) x) [32,124,124,32] (if z0K y.kind then 40 :: (fmtE (d+1) y++[41]) else fmtE (d+1) y)
   have h6:W [32,124,124,32]≤46:=by decide
   rw [e]
   omega
  ·obtain ⟨x,rfl⟩:=z5h hl
   have hx1:=ih x (by simp)
   have e:fmtE (d+1+1) (.mk 4 o a l s [x])=s.data.toList++[91]++(fmtE (d+1) x++[93]):=by simp [fmtE]
   have h5:=z0x s.data.toList [91] (fmtE (d+1) x++[93])
   have h6:=z0B (fmtE (d+1) x) [93]
   have h7:W [91]≤21:=by decide
   have h8:W [93]≤21:=by decide
   have h9:=z24 hs
   rw [e]
   omega
  ·have hl2:=zdv ih hl
   have e:fmtE (d+1+1) (.mk 9 o a l s xs)=s.data.toList++(40 :: (([44,32]:z03).intercalate (xs.map (fmtE (d+1)))++[41])):=by simp [fmtE]
   have h5:=z0B s.data.toList (40 :: (([44,32]:z03).intercalate (xs.map (fmtE (d+1)))++[41]))
   have h6:=z55 (([44,32]:z03).intercalate (xs.map (fmtE (d+1))))
   have h9:=z24 hs
   rw [e]
   omega
  ·match xs,hl with
   | x :: r,_ =>
    have hx1:=hop x (by simp)
    have hl2:=zdv (l:=r) (n:=2) (fun y hy=>ih y (by simp [hy])) (by simp at hl3; omega)
    have e:fmtE (d+1+1) (.mk 10 o a l s (x :: r))=(if x.kind=13∨x.kind=2∨x.kind=3 then 40 :: ((if z0K x.kind then 40 :: (fmtE (d+1) x++[41]) else fmtE (d+1) x)++[41]) else (if z0K x.kind then 40 :: (fmtE (d+1) x++[41]) else fmtE (d+1) x))++(40 :: (([44,32]:z03).intercalate (r.map (fmtE (d+1)))++[41])):=by simp [fmtE]
    have h5:W (if x.kind=13∨x.kind=2∨x.kind=3 then 40 :: ((if z0K x.kind then 40 :: (fmtE (d+1) x++[41]) else fmtE (d+1) x)++[41]) else (if z0K x.kind then 40 :: (fmtE (d+1) x++[41]) else fmtE (d+1) x))≤WE d+42:=by
     by_cases hc:x.kind=13∨x.kind=2∨x.kind=3
     ·obtain ⟨h7,h8⟩:=zdZ (hx x (by simp)) hc
      rw [if_pos hc,h8]
      have h9:=z55 (fmtE (d+1) x)
      simp only [Bool.false_eq_true,if_false]
      omega
     ·rw [if_neg hc]
      exact hx1
    have h6:=z0B (if x.kind=13∨x.kind=2∨x.kind=3 then 40 :: ((if z0K x.kind then 40 :: (fmtE (d+1) x++[41]) else fmtE (d+1) x)++[41]) else (if z0K x.kind then 40 :: (fmtE (d+1) x++[41]) else fmtE (d+1) x)) (40 :: (([44,32]:z03).intercalate (r.map (fmtE (d+1)))++[41]))
    have h7:=z55 (([44,32]:z03).intercalate (r.map (fmtE (d+1))))
    rw [e]
    omega
theorem zc7 {es:List Ex} {i:Nat} (h:∀ x∈es,GE 2 x):W (valL 3 es i)≤1025:=by
 unfold valL
 split
 ·rename_i x hx
  exact zbK 2 x (h x (List.mem_of_getElem? hx))
 ·exact Nat.zero_le _
theorem zeO {es:List Ex} (h:incE es=true) (hg:∀ x∈es,GE 2 x):W (valL 3 es 0)≤80:=by
 obtain ⟨a0,l0,s0,o1,a1,l1,s1,o2,l2,s2,rfl⟩:=z5Y h
 have hs:=z24 (zbO (hg _ (List.mem_singleton.2 rfl)))
 have e:valL 3 [.mk 6 3 a0 l0 s0 [.mk 13 o1 a1 l1 s1 [],.mk 1 o2 1 l2 s2 []]] 0=s1.data.toList++[32,43,32]++numL 1:=by
  simp [valL,fmtE,z0K,z19,Ex.kind]
  rfl
 rw [e,z7m]
 have h1:=z0x s1.data.toList [32,43,32] [49]
 have h2:W [32,43,32]≤23:=by decide
 have h3:W [49]≤21:=by decide
 omega
theorem z3y {α:Type} (f:α→z03) (c:α→Nat) (K:Nat):∀ (l:List α),(∀ x∈l,W (f x)≤K * c x)→W (l.flatMap f)≤K * (l.map c).sum
 | [],_=>by simp [W]
 | a :: r,h=>by
  have h1:=h a (by simp)
  have h2:=z3y f c K r (fun x hx=>h x (by simp [hx]))
  have h3:=z0B (f a) (r.flatMap f)
  simp only [List.flatMap_cons,List.map_cons,List.sum_cons,Nat.mul_add]
  omega
theorem zdt:W [59,10]≤22:=by decide
theorem st_W {B:List St→z03→z03} {k l:Int} {s:ByteArray} {es:List Ex} {ts us:List St} {ind:z03} {nt nu:Nat} (he:∀ x∈es,GE 2 x)
  (hk:(k=1∧z0t s∧es.length=1∧ts=[]∧us=[])∨(k=2∧z0t s∧es.length=1∧ts=[]∧us=[])∨(k=3∧z0t s∧es.length=2∧ts=[]∧us=[])∨(k=4∧s.size=0∧es.length=1)∨(k=5∧s.size=0∧es.length=1∧us=[])∨((k=6∨k=7∨k=8)∧s.size=0∧es.length=1∧ts=[]∧us=[]))
  (hi:W ind≤6) (h1:W (B ts (ind++[9]))≤199 * nt) (h2:W (B us (ind++[9]))≤199 * nu):W (stL 3 B ind (.mk k l s es ts us))≤199 * (cK k es+nt+nu):=by
 have v0:=zc7 (i:=0) he
 have v1:=zc7 (i:=1) he
 have hend:=zdt
 have hb:W [32,123,10]≤23:=by decide
 have hq:W [125]≤21:=by decide
 have hn:W [10]≤9:=by decide
 have h0:W ([]:z03)=0:=rfl
 rcases hk with ⟨rfl,hs,_⟩ | ⟨rfl,hs,_⟩ | ⟨rfl,hs,_⟩ | ⟨rfl,_⟩ | ⟨rfl,_⟩ | ⟨rfl | rfl | rfl,_⟩
 ·have hc:=z3G es (k:=1) (by omega)
  have h3:=z24 hs
  have e:stL 3 B ind (.mk 1 l s es ts us)=ind++([118,97,114,32]++s.data.toList++[32,61,32])++(valL 3 es 0++[59,10]):=by simp [stL]
  have h4:=z0x ind ([118,97,114,32]++s.data.toList++[32,61,32]) (valL 3 es 0++[59,10])
  have h5:=z0x [118,97,114,32] s.data.toList [32,61,32]
  have h6:=z0B (valL 3 es 0) [59,10]
  have h7:W [118,97,114,32]≤24:=by decide
  have h8:W [32,61,32]≤23:=by decide
  rw [e]
  omega
 ·have h3:=z24 hs
  have e:stL 3 B ind (.mk 2 l s es ts us)=ind++(s.data.toList++[32,61,32])++(valL 3 es 0++[59,10]):=by simp [stL]
  have h4:=z0x ind (s.data.toList++[32,61,32]) (valL 3 es 0++[59,10])
  have h5:=z0B s.data.toList [32,61,32]
  have h6:=z0B (valL 3 es 0) [59,10]
  have h8:W [32,61,32]≤23:=by decide
  rw [e]
  by_cases hi2:incE es=true
  ·have h9:=zeO hi2 he
   have hc:=(z3N 2 es).1
   omega
  ·have hc:cK 2 es=11:=by simp [cK,hi2]
   omega
 ·have hc:cK 3 es=11:=by simp [cK]
  have h3:=z24 hs
  have e:stL 3 B ind (.mk 3 l s es ts us)=ind++(s.data.toList++[91]++(valL 3 es 0++[93,32,61,32]))++(valL 3 es 1++[59,10]):=by simp [stL]
  have h4:=z0x ind (s.data.toList++[91]++(valL 3 es 0++[93,32,61,32])) (valL 3 es 1++[59,10])
  have h5:=z0x s.data.toList [91] (valL 3 es 0++[93,32,61,32])
  have h6:=z0B (valL 3 es 0) [93,32,61,32]
  have h7:=z0B (valL 3 es 1) [59,10]
  have h8:W [91]≤21:=by decide
  have h9:W [93,32,61,32]≤44:=by decide
  rw [e]
  omega
 ·have hc:=z3G es (k:=4) (by omega)
  have e:stL 3 B ind (.mk 4 l s es ts us)=ind++([105,102,32]++valL 3 es 0++[32,123,10])++(B ts (ind++[9])++ind++([125]++(if us.length=0 then [] else [32,101,108,115,101,32,123,10]++(B us (ind++[9])++ind++[125]))++[10])):=by
   simp [stL]
  have h4:=z0x ind ([105,102,32]++valL 3 es 0++[32,123,10]) (B ts (ind++[9])++ind++([125]++(if us.length=0 then [] else [32,101,108,115,101,32,123,10]++(B us (ind++[9])++ind++[125]))++[10]))
  have h5:=z0x [105,102,32] (valL 3 es 0) [32,123,10]
  have h6:=z0x (B ts (ind++[9])) ind ([125]++(if us.length=0 then [] else [32,101,108,115,101,32,123,10]++(B us (ind++[9])++ind++[125]))++[10])
  have h7:=z0x [125] (if us.length=0 then [] else [32,101,108,115,101,32,123,10]++(B us (ind++[9])++ind++[125])) [10]
  have h8:W (if us.length=0 then [] else [32,101,108,115,101,32,123,10]++(B us (ind++[9])++ind++[125]))≤48+(199 * nu+6+21):=by
   split
   ·rw [h0]; omega
   ·have a1:=z0B [32,101,108,115,101,32,123,10] (B us (ind++[9])++ind++[125])
    have a2:=z0x (B us (ind++[9])) ind [125]
    have a3:W [32,101,108,115,101,32,123,10]≤48:=by decide
    omega
  have h9:W [105,102,32]≤23:=by decide
  rw [e]
  omega
 ·have hc:=z3G es (k:=5) (by omega)
  have e:stL 3 B ind (.mk 5 l s es ts us)=ind++([119,104,105,108,101,32]++valL 3 es 0++[32,123,10])++(B ts (ind++[9])++ind++([125]++[10])):=by simp [stL]
  have h4:=z0x ind ([119,104,105,108,101,32]++valL 3 es 0++[32,123,10]) (B ts (ind++[9])++ind++([125]++[10]))
  have h5:=z0x [119,104,105,108,101,32] (valL 3 es 0) [32,123,10]
  have h6:=z0x (B ts (ind++[9])) ind ([125]++[10])
  have h7:=z0B [125] [10]
  have h9:W [119,104,105,108,101,32]≤26:=by decide
  rw [e]
  omega
 ·have hc:=z3G es (k:=6) (by omega)
  have e:stL 3 B ind (.mk 6 l s es ts us)=ind++[114,101,116,117,114,110,32]++(valL 3 es 0++[59,10]):=by simp [stL]
  have h4:=z0x ind [114,101,116,117,114,110,32] (valL 3 es 0++[59,10])
  have h6:=z0B (valL 3 es 0) [59,10]
  have h7:W [114,101,116,117,114,110,32]≤27:=by decide
  rw [e]
  omega
 ·have hc:=z3G es (k:=7) (by omega)
  have e:stL 3 B ind (.mk 7 l s es ts us)=ind++[112,114,105,110,116,32]++(valL 3 es 0++[59,10]):=by simp [stL]
  have h4:=z0x ind [112,114,105,110,116,32] (valL 3 es 0++[59,10])
  have h6:=z0B (valL 3 es 0) [59,10]
  have h7:W [112,114,105,110,116,32]≤26:=by decide
  rw [e]
  omega
 ·have hc:=z3G es (k:=8) (by omega)
  have e:stL 3 B ind (.mk 8 l s es ts us)=ind++[99,97,108,108,32]++(valL 3 es 0++[59,10]):=by simp [stL]
  have h4:=z0x ind [99,97,108,108,32] (valL 3 es 0++[59,10])
  have h6:=z0B (valL 3 es 0) [59,10]
  have h7:W [99,97,108,108,32]≤25:=by decide
  rw [e]
  omega
theorem zd7:∀ (d:Nat) (t:St) (ind:z03),GSt (d+1) t→W ind+d≤6→W (stL 3 (fmtB 3 d) ind t)≤199 * cntS (d+1) t
 | 0,.mk k l s es ts us,ind,⟨_,he,ht,hu,hk⟩,hi=>by
  have hts:ts=[]:=by
   cases ts with
   | nil=>rfl
   | cons a r=>exact (ht a (by simp)).elim
  have hus:us=[]:=by
   cases us with
   | nil=>rfl
   | cons a r=>exact (hu a (by simp)).elim
  subst hts hus
  exact st_W (B:=fmtB 3 0) (nt:=0) (nu:=0) he hk (by omega) (by simp [fmtB,W]) (by simp [fmtB,W])
 | d+1,.mk k l s es ts us,ind,⟨_,he,ht,hu,hk⟩,hi=>by
  have h9:W (ind++[9])≤W ind+1:=by
   have:=z0B ind [9]
   have:W [9]≤1:=by decide
   omega
  exact st_W (B:=fmtB 3 (d+1)) he hk (by omega) (z3y _ _ 199 ts (fun t hm=>zd7 d t (ind++[9]) (ht t hm) (by omega))) (z3y _ _ 199 us (fun t hm=>zd7 d t (ind++[9]) (hu t hm) (by omega)))
theorem zdK {x:ByteArray × Int} (h:GG x):W (fmtG x)≤166 * 1:=by
 have h1:=z24 h.1
 have h2:=zdw (n:=x.2.toNat) (by have:=h.2.2; omega)
 have hend:=zdt
 have h3:W [103,108,111,98,97,108,32]≤27:=by decide
 have h4:=z0x ([103,108,111,98,97,108,32]++x.1.data.toList) (if 0<x.2 then [91]++numL x.2.toNat++[93] else []) [59,10]
 have h5:=z0B [103,108,111,98,97,108,32] x.1.data.toList
 have h6:W (if 0<x.2 then [91]++numL x.2.toNat++[93] else [])≤81:=by
  split
  ·have:=z0x [91] (numL x.2.toNat) [93]
   have:W [91]≤21:=by decide
   have:W [93]≤21:=by decide
   omega
  ·exact Nat.zero_le _
 unfold fmtG
 omega
theorem W_jl {ps:List ByteArray} (hp:∀ p∈ps,z0t p) (hl:ps.length≤2):W (jl (ps.map (·.data.toList)))≤94:=by
 match ps,hl with
 | [],_=>simp [jl,List.intercalate,W]
 | [a],_ =>
  have h1:=z24 (hp a (by simp))
  rw [show jl ([a].map (·.data.toList))=a.data.toList by simp [jl,List.intercalate]]
  omega
 | [a,b],_ =>
  have h1:=z24 (hp a (by simp))
  have h2:=z24 (hp b (by simp))
  have h3:=z0x a.data.toList [44,32] b.data.toList
  have h4:W [44,32]≤22:=by decide
  rw [show jl ([a,b].map (·.data.toList))=a.data.toList++[44,32]++b.data.toList by simp [jl,List.intercalate]]
  omega
 | a :: b :: c :: r,hl=>simp at hl
theorem zdJ {d:Nat} (hd:d≤4) {f:Fn} (h:GF d f):W (fmtF 3 (d+1) f)≤15565 * 1:=by
 have h1:=z24 h.1
 have h9:W [9]≤1:=by decide
 have hb:W (fmtB 3 (d+1) f.body [9])≤199 * (f.body.map (cntS (d+1))).sum:=z3y _ _ 199 f.body (fun t hm=>zd7 d t [9] (h.2.2.2.1 t hm) (by omega))
 have hc:=h.2.2.2.2
 have hj:=W_jl h.2.2.1 h.2.1
 have a1:=z0x [102,117,110,99,32] f.name.data.toList [40]
 have a2:=z0x ([102,117,110,99,32]++f.name.data.toList++[40]) (jl (f.params.map (·.data.toList))) [41,32,123,10]
 have a3:=z0x ([102,117,110,99,32]++f.name.data.toList++[40]++jl (f.params.map (·.data.toList))++[41,32,123,10]) (fmtB 3 (d+1) f.body [9]) [125,10]
 have b1:W [102,117,110,99,32]≤25:=by decide
 have b2:W [40]≤21:=by decide
 have b3:W [41,32,123,10]≤44:=by decide
 have b4:W [125,10]≤22:=by decide
 have e:fmtF 3 (d+1) f=[102,117,110,99,32]++f.name.data.toList++[40]++jl (f.params.map (·.data.toList))++[41,32,123,10]++fmtB 3 (d+1) f.body [9]++[125,10]:=rfl
 rw [e]
 omega
theorem zdL {d:Nat} (hd:d≤4) {gl:List (ByteArray × Int)} {fl:List Fn} (hg:∀ x∈gl,GG x) (hf:∀ f∈fl,GF d f) (hgl:gl.length≤4) (hfl:fl.length≤4):W (fmtP 3 (d+1) gl fl)≤65000:=by
 have h1:=z3y fmtG (fun _=>1) 166 gl (fun x hx=>zdK (hg x hx))
 have h2:=z3y (fmtF 3 (d+1)) (fun _=>1) 15565 fl (fun f hm=>zdJ hd (hf f hm))
 have c1:∀ {α:Type} (l:List α),(l.map (fun _=>1)).sum=l.length:=fun l=>by induction l <;> simp_all; omega
 have h3:=z0B (gl.flatMap fmtG) (fl.flatMap (fmtF 3 (d+1)))
 rw [c1] at h1 h2
 unfold fmtP
 omega
end Go.Proofs.YtgcjcclkialdgaaGreatDoor
namespace Go.Proofs.YtgcjcclkialdgaaGreatDoor
open Go.RowKit
mutual
def cnX:Ex→Ex
 | .mk k o a l s xs =>
  if k=1 then .mk 1 0 a l ⟨#[]⟩ []
  else if k=13 then .mk 13 0 0 l s []
  else if k=12 then .mk 12 0 0 l ⟨#[]⟩ []
  else if k=11 then .mk 11 0 0 l s []
  else if k=4 then .mk 4 0 0 l s (cnL xs)
  else if k=5 then .mk 5 o 0 l ⟨#[]⟩ (cnL xs)
  else if k=6 then .mk 6 o 0 l ⟨#[]⟩ (cnL xs)
  else if k=7 then .mk 7 0 0 l ⟨#[]⟩ (cnL xs)
  else if k=8 then .mk 8 0 0 l ⟨#[]⟩ (cnL xs)
  else if k=9 then .mk 9 0 0 l s (cnL xs)
  else if k=10 then .mk 10 0 0 l ⟨#[]⟩ (cnL xs)
  else .mk k o a l s (cnL xs)
def cnL:List Ex→List Ex
 | []=>[]
 | x :: r=>cnX x :: cnL r
end
theorem z4d:∀ xs,cnL xs=xs.map cnX
 | []=>rfl
 | x :: r=>by simp [cnL,z4d r]
theorem z4e (x:Ex):(cnX x).kind=x.kind:=by
 obtain ⟨k,o,a,l,s,xs⟩:=x
 unfold cnX
 (repeat' split) <;> simp_all [Ex.kind]
theorem z3H:∀ (d:Nat) (x:Ex),fmtE d (cnX x)=fmtE d x
 | 0,_=>by simp [fmtE]
 | d+1,.mk k o a l s xs=>by
  have hm:(cnL xs).map (fmtE d)=xs.map (fmtE d):=by
   rw [z4d,List.map_map]
   exact List.map_congr_left (fun x _=>z3H d x)
  unfold cnX
  split
  ·rename_i h; subst h; simp [fmtE]
  split
  ·rename_i h; subst h; simp [fmtE]
  split
  ·rename_i h; subst h; simp [fmtE]
  split
  ·rename_i h; subst h; simp [fmtE]
  split
  ·rename_i h; subst h
   match xs with
   | []=>simp [fmtE,cnL]
   | [x]=>simp [fmtE,cnL,z3H d]
   | x :: y :: r=>simp [fmtE,cnL]
  split
  ·rename_i h; subst h
   match xs with
   | []=>simp [fmtE,cnL]
   | [x]=>simp [fmtE,cnL,z3H d,z4e]
   | x :: y :: r=>simp [fmtE,cnL]
  split
  ·rename_i h; subst h
   match xs with
   | []=>simp [fmtE,cnL]
   | [x]=>simp [fmtE,cnL]
   | [x,y]=>simp [fmtE,cnL,z3H d,z4e]
   | x :: y :: z :: r=>simp [fmtE,cnL]
  split
  ·rename_i h; subst h
   match xs with
   | []=>simp [fmtE,cnL]
   | [x]=>simp [fmtE,cnL]
   | [x,y]=>simp [fmtE,cnL,z3H d,z4e]
   | x :: y :: z :: r=>simp [fmtE,cnL]
  split
  ·rename_i h; subst h
   match xs with
   | []=>simp [fmtE,cnL]
   | [x]=>simp [fmtE,cnL]
   | [x,y]=>simp [fmtE,cnL,z3H d,z4e]
   | x :: y :: z :: r=>simp [fmtE,cnL]
  split
  ·rename_i h; subst h; simp [fmtE,hm]
  split
  ·rename_i h; subst h
   match xs,hm with
   | [],_=>simp [fmtE,cnL]
   | x :: r,hm =>
    simp only [cnL,List.map_cons,List.cons.injEq] at hm
    simp [fmtE,cnL,z3H d,z4e,hm.2]
  ·rename_i h1 h2 h3 h4 h5 h6 h7 h8 h9 h10 h11
   by_cases hk:k=2∨k=3
   ·rcases hk with rfl | rfl <;> simp [fmtE]
   ·have h2':k≠2:=fun h=>hk (.inl h)
    have h3':k≠3:=fun h=>hk (.inr h)
    have e:∀ ys:List Ex,fmtE (d+1) (.mk k o a l s ys)=[]:=fun ys=>by
     simp only [fmtE,if_neg h1,if_neg h3,if_neg h4,h2,h2',h3',or_self,if_false]
     split <;> first | contradiction | rfl
    rw [e,e]
theorem z1l {s:ByteArray} (h:z0t s):isNm s.data.toList=true:=h.2
theorem z5X:∀ (d:Nat) (x:Ex),GE d x→WfX (cnX x):=by
 have leaf:∀ {k o a l:Int} {s:ByteArray} {xs:List Ex},0≤a→a<9223372036854775808→(k=12∨(k=13∧z0t s)∨k=1∨(k=11∧z0t s))→WfX (cnX (.mk k o a l s xs)):=by
  intro k o a l s xs h1 h2 hk
  rcases hk with rfl | ⟨rfl,hs⟩ | rfl | ⟨rfl,hs⟩
  ·exact .rd l
  ·exact .nam l s (z1l hs)
  ·exact .num a l h1 h2
  ·exact .fn l s (z1l hs)
 intro d
 induction d with
 | zero =>
  rintro ⟨k,o,a,l,s,xs⟩ ⟨_,_,_,h1,h2,_,_,hk⟩
  exact leaf h1 h2 hk
 | succ d ih =>
  rintro ⟨k,o,a,l,s,xs⟩ ⟨_,_,ho,h1,h2,_,⟨_,hk⟩ | ⟨hxs,hk⟩⟩
  ·exact leaf h1 h2 hk
  ·rcases hk with ⟨rfl,a1,a2,hl⟩ | ⟨rfl,a1,hl⟩ | ⟨rfl,hl⟩ | ⟨rfl,hl⟩ | ⟨rfl,hs,hl⟩ | ⟨rfl,hs,hl⟩ | ⟨rfl,hl,hl2⟩
   ·match xs,hl,hxs with
    | [x],_,hxs=>exact .un o l _ a1 a2 (ih x (hxs x (by simp)))
   ·match xs,hl,hxs with
    | [x,y],_,hxs=>exact .bin o l _ _ a1 ho (ih x (hxs x (by simp))) (ih y (hxs y (by simp)))
   ·match xs,hl,hxs with
    | [x,y],_,hxs=>exact .and_ l _ _ (ih x (hxs x (by simp))) (ih y (hxs y (by simp)))
   ·match xs,hl,hxs with
    | [x,y],_,hxs=>exact .or_ l _ _ (ih x (hxs x (by simp))) (ih y (hxs y (by simp)))
   ·match xs,hl,hxs with
    | [x],_,hxs=>exact .el l s _ (z1l hs) (ih x (hxs x (by simp)))
   ·refine .call l s _ (z1l hs) (fun x hx=>?_)
    rw [z4d] at hx
    obtain ⟨y,hy,rfl⟩:=List.mem_map.1 hx
    exact ih y (hxs y hy)
   ·match xs,hl,hxs with
    | x :: r,_,hxs =>
     refine .val l _ _ (ih x (hxs x (by simp))) (fun y hy=>?_)
     rw [z4d] at hy
     obtain ⟨z,hz,rfl⟩:=List.mem_map.1 hy
     exact ih z (hxs z (by simp [hz]))
theorem zci {d:Nat} {k o a l:Int} {s:ByteArray} {xs:List Ex} (h:∀ x∈xs,Dp d (cnX x)):Dp (d+1) (cnX (.mk k o a l s xs)):=by
 have h2:∀ x∈cnL xs,Dp d x:=fun x hx=>by
  rw [z4d] at hx
  obtain ⟨y,hy,rfl⟩:=List.mem_map.1 hx
  exact h y hy
 have h0:∀ x∈([]:List Ex),Dp d x:=fun x hx=>by simp at hx
 unfold cnX
 (repeat' split) <;> first | exact h0 | exact h2
theorem zeN:∀ (d:Nat) (x:Ex),GE d x→Dp (d+1) (cnX x):=by
 intro d
 induction d with
 | zero =>
  rintro ⟨k,o,a,l,s,xs⟩ ⟨_,_,_,_,_,_,rfl,_⟩
  exact zci (fun x hx=>by simp at hx)
 | succ d ih =>
  rintro ⟨k,o,a,l,s,xs⟩ ⟨_,_,_,_,_,_,⟨rfl,_⟩ | ⟨hxs,_⟩⟩
  ·exact zci (fun x hx=>by simp at hx)
  ·exact zci (fun x hx=>ih x (hxs x hx))
def exT (es:List Ex) (i:Nat):List Tok:=match es[i]? with | some x=>tkX (cnX x) | none=>[]
def asmS (k:Int) (s:z03) (es:List Ex) (T U:List Tok) (e:Bool):List Tok :=
 if k=1 then tW wVar :: tI s :: tS [61] :: (exT es 0++[tS [59]])
 else if k=2 then tI s :: tS [61] :: (exT es 0++[tS [59]])
 else if k=3 then tI s :: tS [91] :: (exT es 0++tS [93] :: tS [61] :: (exT es 1++[tS [59]]))
 else if k=6 then tW z1Z :: (exT es 0++[tS [59]])
 else if k=7 then tW z2Q :: (exT es 0++[tS [59]])
 else if k=8 then tW z4A :: (exT es 0++[tS [59]])
 else if k=5 then tW z28 :: (exT es 0++tS [123] :: (T++[tS [125]]))
 else if k=4 then tW wIf :: (exT es 0++tS [123] :: (T++tS [125] :: (if e then [] else tW z2i :: tS [123] :: (U++[tS [125]]))))
 else []
mutual
def tkS:St→List Tok
 | .mk k _ s es ts us=>asmS k s.data.toList es (tkB ts) (tkB us) us.isEmpty
def tkB:List St→List Tok
 | []=>[]
 | x :: r=>tkS x++tkB r
end
mutual
def cnS:St→St
 | .mk k _ s es ts us=>.mk k 1 (if k=1∨k=2∨k=3 then s else ⟨#[]⟩) (es.map fun x=>rlX (cnX x)) (cnM ts) (cnM us)
def cnM:List St→List St
 | []=>[]
 | x :: r=>cnS x :: cnM r
end
theorem z6s {x:Ex} (h:WfX x) {r:List Tok} (hr:Clo (hx r)):z2D (st (tkX x++r))=some (rlX x,st r):=by
 have hp:=((z3i h).hx (r:=r)).2.2
 have hl:(st (tkX x++r)).rest.length=((tkX x).length+r.length - 1)+1:=by simp only [st,List.length_append]; omega
 unfold z2D
 rw [hl]
 exact (zaA h).1 _ r (by omega) hr
theorem z7K {x:Ex} (h:WfX x) (r:List Tok):z12 z2D (st (tkX x++tS [59] :: r))=some (rlX x,st r):=by
 unfold z12
 rw [z6s h (by simp [z1b,tS,Clo])]
 simp only [z0P]
theorem z3k {k:Int} {nm:ByteArray} {x:Ex} (h:WfX x) (r:List Tok):oneP k 1 nm (z12 z2D) (st (tkX x++tS [59] :: r))=some (.mk k 1 nm [rlX x] [] [],st r):=by
 unfold oneP
 rw [z7K h]
theorem z4m {s:z03} (h:isNm s=true) {t:z03} (ht:isNm t=false) (a:List Tok):z0c [t] (st (tI s :: a))=false:=by
 rw [z11,z1b]
 cases e:[t].contains (tI s).text with
 | false=>rfl
 | true =>
  simp only [List.contains_iff_mem,List.mem_singleton] at e
  have e:s=t:=e
  rw [e,ht] at h
  cases h
def Sb (D:Nat) (x:St):Prop:=(∀ r,hx r≠z2i→z1X D (st (tkS x++r))=some (cnS x,st r))∧∃ t r,tkS x=t :: r∧t.text≠[125]∧t.text≠z2i
theorem z8r {D:Nat} (r:List Tok):∀ (ts l:List St) (n:Nat),(∀ t∈ts,Sb D t)→(tkB ts++tS [125] :: r).length<n→z27 (z1X D) n l (st (tkB ts++tS [125] :: r))=some (l++cnM ts,st r):=by
 intro ts
 induction ts with
 | nil =>
  intro l n _ hn
  obtain ⟨n,rfl⟩:∃ k,n=k+1:=⟨n - 1,by omega⟩
  have es:z0c [[125]] (st (tkB []++tS [125] :: r))=true:=rfl
  rw [z27,es]
  simp [tkB,cnM,z1q]
 | cons x ts ih =>
  intro l n hs hn
  obtain ⟨n,rfl⟩:∃ k,n=k+1:=⟨n - 1,by omega⟩
  obtain ⟨h1,t,q,h2,h3,h4⟩:=hs x (by simp)
  have e0:tkB (x :: ts)++tS [125] :: r=tkS x++(tkB ts++tS [125] :: r):=by simp [tkB]
  rw [e0] at hn ⊢
  have es:z0c [[125]] (st (tkS x++(tkB ts++tS [125] :: r)))=false:=by
   rw [h2,List.cons_append,z11,z1b]
   simpa using h3
  have hne:hx (tkB ts++tS [125] :: r)≠z2i:=by
   cases ts with
   | nil=>exact (by decide:([125]:z03)≠z2i)
   | cons y ts =>
    obtain ⟨_,t2,q2,h5,_,h6⟩:=hs y (by simp)
    rw [tkB,h5]
    exact h6
  have hl:1≤(tkS x).length:=by rw [h2]; simp
  rw [z27,es,h1 _ hne]
  simp only [Bool.false_eq_true,if_false]
  rw [if_neg (by simp [st])]
  rw [List.length_append] at hn
  rw [ih (l++[cnS x]) n (fun t ht=>hs t (by simp [ht])) (by omega)]
  simp [cnM]
theorem z3v {D:Nat} (r:List Tok) (ts:List St) (hs:∀ t∈ts,Sb D t):z1d (z1X D) (st (tS [123] :: (tkB ts++tS [125] :: r)))=some (cnM ts,st r):=by
 unfold z1d
 rw [z0P,z8r r ts [] _ hs (by simp only [st]; omega)]
 rfl
theorem z3A {D:Nat} {x:Ex} (h:WfX x) (r:List Tok) (ts:List St) (hs:∀ t∈ts,Sb D t):z1v (z1d (z1X D)) z2D (st (tkX x++tS [123] :: (tkB ts++tS [125] :: r)))=some (rlX x,cnM ts,st r):=by
 unfold z1v
 rw [z6s h (by simp [z1b,tS,Clo])]
 simp only [z3v r ts hs]
theorem z9k {t:z03} (h:isW t=true):isNm t=false:=by
 cases t with
 | nil=>rfl
 | cons c r=>simp [isNm,h]
theorem zae {D:Nat} {k l:Int} {s:ByteArray} {es:List Ex} {ts us:List St} (he:∀ x∈es,GE 2 x) (ht:∀ t∈ts,Sb D t) (hu:∀ t∈us,Sb D t)
  (hk:(k=1∧z0t s∧es.length=1∧ts=[]∧us=[])∨(k=2∧z0t s∧es.length=1∧ts=[]∧us=[])∨(k=3∧z0t s∧es.length=2∧ts=[]∧us=[])∨(k=4∧s.size=0∧es.length=1)∨(k=5∧s.size=0∧es.length=1∧us=[])∨((k=6∨k=7∨k=8)∧s.size=0∧es.length=1∧ts=[]∧us=[])) :
  Sb (D+1) (.mk k l s es ts us):=by
 have hW:∀ t,isW t=true→isNm t=false:=fun t h=>z9k h
 have oneW:∀ (k:Int) (w:z03) (x:Ex),(k=6∧w=z1Z∨k=7∧w=z2Q∨k=8∧w=z4A)→GE 2 x→Sb (D+1) (.mk k l s [x] [] []):=by
  intro k w x hk hx'
  have hw:=z5X 2 x hx'
  rcases hk with ⟨rfl,rfl⟩ | ⟨rfl,rfl⟩ | ⟨rfl,rfl⟩
  ·refine ⟨fun r hr=>?_,tW z1Z,_,rfl,by decide,by decide⟩
   have e:tkS (.mk 6 l s [x] [] [])++r=tW z1Z :: (tkX (cnX x)++tS [59] :: r):=by simp [tkS,asmS,exT]
   rw [e]
   exact z3k hw r
  ·refine ⟨fun r hr=>?_,tW z2Q,_,rfl,by decide,by decide⟩
   have e:tkS (.mk 7 l s [x] [] [])++r=tW z2Q :: (tkX (cnX x)++tS [59] :: r):=by simp [tkS,asmS,exT]
   rw [e]
   exact z3k hw r
  ·refine ⟨fun r hr=>?_,tW z4A,_,rfl,by decide,by decide⟩
   have e:tkS (.mk 8 l s [x] [] [])++r=tW z4A :: (tkX (cnX x)++tS [59] :: r):=by simp [tkS,asmS,exT]
   rw [e]
   exact z3k hw r
 have name:∀ (a:List Tok),isNm s.data.toList=true→z1X (D+1) (st (tI s.data.toList :: a))=z2a z2D 1 (st (tI s.data.toList :: a)):=by
  intro a hs
  show z38 (z1d (z1X D)) z2D (st (tI s.data.toList :: a))=_
  unfold z38
  rw [z4m hs (hW wVar (by decide)),z4m hs (hW wIf (by decide)),z4m hs (hW z28 (by decide)),z4m hs (hW z1Z (by decide)),z4m hs (hW z2Q (by decide)),z4m hs (hW z4A (by decide))]
  rfl
 have nhead:isNm s.data.toList=true→(tI s.data.toList).text≠[125]∧(tI s.data.toList).text≠z2i:=by
  intro hs
  refine ⟨fun e=>?_,fun e=>?_⟩
  ·have e:s.data.toList=[125]:=e
   rw [e] at hs
   revert hs
   decide
  ·have e:s.data.toList=z2i:=e
   rw [e] at hs
   revert hs
   decide
 rcases hk with ⟨rfl,hs,hl,rfl,rfl⟩ | ⟨rfl,hs,hl,rfl,rfl⟩ | ⟨rfl,hs,hl,rfl,rfl⟩ | ⟨rfl,_,hl⟩ | ⟨rfl,_,hl,rfl⟩ | ⟨hk,_,hl,rfl,rfl⟩
 ·match es,hl,he with
  | [x],_,he =>
   have hw:=z5X 2 x (he x (by simp))
   refine ⟨fun r hr=>?_,tW wVar,_,rfl,by decide,by decide⟩
   have e:tkS (.mk 1 l s [x] [] [])++r=tW wVar :: tI s.data.toList :: tS [61] :: (tkX (cnX x)++tS [59] :: r):=by simp [tkS,asmS,exT]
   rw [e]
   show oneP 1 1 (nmB s.data.toList) (z12 z2D) (z0a [61] (st (tS [61] :: (tkX (cnX x)++tS [59] :: r))))=_
   rw [z0P,z3k hw,z1F]
   rfl
 ·match es,hl,he with
  | [x],_,he =>
   have hw:=z5X 2 x (he x (by simp))
   have hn:=z1l hs
   refine ⟨fun r hr=>?_,tI s.data.toList,_,rfl,nhead hn⟩
   have e:tkS (.mk 2 l s [x] [] [])++r=tI s.data.toList :: tS [61] :: (tkX (cnX x)++tS [59] :: r):=by simp [tkS,asmS,exT]
   rw [e,name _ hn]
   show oneP 2 1 (nmB s.data.toList) (z12 z2D) (z0a [61] (st (tS [61] :: (tkX (cnX x)++tS [59] :: r))))=_
   rw [z0P,z3k hw,z1F]
   rfl
 ·match es,hl,he with
  | [x,y],_,he =>
   have hw:=z5X 2 x (he x (by simp))
   have hw2:=z5X 2 y (he y (by simp))
   have hn:=z1l hs
   refine ⟨fun r hr=>?_,tI s.data.toList,_,rfl,nhead hn⟩
   have e:tkS (.mk 3 l s [x,y] [] [])++r=tI s.data.toList :: tS [91] :: (tkX (cnX x)++tS [93] :: tS [61] :: (tkX (cnX y)++tS [59] :: r)):=by simp [tkS,asmS,exT]
   rw [e,name _ hn]
   have h1:=z6s hw (r:=tS [93] :: tS [61] :: (tkX (cnX y)++tS [59] :: r)) (by simp [z1b,tS,Clo])
   unfold z2a
   have es:z0c [[91]] (z06 1 (st (tI s.data.toList :: tS [91] :: (tkX (cnX x)++tS [93] :: tS [61] :: (tkX (cnX y)++tS [59] :: r))))).2=true:=rfl
   rw [es,z1Q,z1q,h1]
   simp only [if_true]
   rw [z0P,z0P,z7K hw2]
   simp only
   rfl
 ·match es,hl,he with
  | [x],_,he =>
   have hw:=z5X 2 x (he x (by simp))
   refine ⟨fun r hr=>?_,tW wIf,_,rfl,by decide,by decide⟩
   cases us with
   | nil =>
    have e:tkS (.mk 4 l s [x] ts [])++r=tW wIf :: (tkX (cnX x)++tS [123] :: (tkB ts++tS [125] :: r)):=by simp [tkS,asmS,exT]
    rw [e]
    show z38 (z1d (z1X D)) z2D (st (tW wIf :: (tkX (cnX x)++tS [123] :: (tkB ts++tS [125] :: r))))=_
    unfold z38
    have e1:z0c [wVar] (st (tW wIf :: (tkX (cnX x)++tS [123] :: (tkB ts++tS [125] :: r))))=false:=rfl
    have e2:z0c [wIf] (st (tW wIf :: (tkX (cnX x)++tS [123] :: (tkB ts++tS [125] :: r))))=true:=rfl
    have e3:z0c [z2i] (st r)=false:=by rw [z11]; simpa using hr
    rw [e1,e2,z1q,z3A hw r ts ht]
    simp only [Bool.false_eq_true,if_false,if_true,e3]
    rfl
   | cons u us =>
    have e:tkS (.mk 4 l s [x] ts (u :: us))++r=tW wIf :: (tkX (cnX x)++tS [123] :: (tkB ts++tS [125] :: (tW z2i :: tS [123] :: (tkB (u :: us)++tS [125] :: r)))):=by simp [tkS,asmS,exT]
    rw [e]
    show z38 (z1d (z1X D)) z2D (st (tW wIf :: (tkX (cnX x)++tS [123] :: (tkB ts++tS [125] :: (tW z2i :: tS [123] :: (tkB (u :: us)++tS [125] :: r))))))=_
    unfold z38
    have e1:∀ a,z0c [wVar] (st (tW wIf :: a))=false:=fun _=>rfl
    have e2:∀ a,z0c [wIf] (st (tW wIf :: a))=true:=fun _=>rfl
    have e3:∀ a,z0c [z2i] (st (tW z2i :: a))=true:=fun _=>rfl
    rw [e1,e2,z1q,z3A hw _ ts ht]
    simp only [Bool.false_eq_true,if_false,if_true,e3,z1q]
    rw [z3v r (u :: us) hu]
    rfl
 ·match es,hl,he with
  | [x],_,he =>
   have hw:=z5X 2 x (he x (by simp))
   refine ⟨fun r hr=>?_,tW z28,_,rfl,by decide,by decide⟩
   have e:tkS (.mk 5 l s [x] ts [])++r=tW z28 :: (tkX (cnX x)++tS [123] :: (tkB ts++tS [125] :: r)):=by simp [tkS,asmS,exT]
   rw [e]
   show z38 (z1d (z1X D)) z2D (st (tW z28 :: (tkX (cnX x)++tS [123] :: (tkB ts++tS [125] :: r))))=_
   unfold z38
   have e1:∀ a,z0c [wVar] (st (tW z28 :: a))=false:=fun _=>rfl
   have e2:∀ a,z0c [wIf] (st (tW z28 :: a))=false:=fun _=>rfl
   have e3:∀ a,z0c [z28] (st (tW z28 :: a))=true:=fun _=>rfl
   rw [e1,e2,e3,z1q,z3A hw r ts ht]
   rfl
 ·match es,hl,he with
  | [x],_,he =>
   rcases hk with rfl | rfl | rfl
   ·exact oneW 6 z1Z x (.inl ⟨rfl,rfl⟩) (he x (by simp))
   ·exact oneW 7 z2Q x (.inr (.inl ⟨rfl,rfl⟩)) (he x (by simp))
   ·exact oneW 8 z4A x (.inr (.inr ⟨rfl,rfl⟩)) (he x (by simp))
theorem zaO:∀ (d D:Nat) (x:St),GSt (d+1) x→d<D→Sb D x:=by
 intro d
 induction d with
 | zero =>
  rintro D ⟨k,l,s,es,ts,us⟩ ⟨_,he,ht,hu,hk⟩ hD
  obtain ⟨D,rfl⟩:∃ k,D=k+1:=⟨D - 1,by omega⟩
  exact zae he (fun t h=>(ht t h).elim) (fun t h=>(hu t h).elim) hk
 | succ d ih =>
  rintro D ⟨k,l,s,es,ts,us⟩ ⟨_,he,ht,hu,hk⟩ hD
  obtain ⟨D,rfl⟩:∃ k,D=k+1:=⟨D - 1,by omega⟩
  exact zae he (fun t h=>ih D t (ht t h) (by omega)) (fun t h=>ih D t (hu t h) (by omega)) hk
def parQ:List ByteArray→List Tok
 | []=>[]
 | p :: r=>tI p.data.toList :: r.flatMap (fun q=>[tS [44],tI q.data.toList])
def tkF (f:Fn):List Tok:=tW z2F :: tI f.name.data.toList :: tS [40] :: (parQ f.params++tS [41] :: tS [123] :: (tkB f.body++[tS [125]]))
def tkG (x:ByteArray × Int):List Tok:=tW z0p :: tI x.1.data.toList :: (if 0<x.2 then [tS [91],tN x.2.toNat,tS [93],tS [59]] else [tS [59]])
def tkP (gl:List (ByteArray × Int)) (fl:List Fn):List Tok:=gl.flatMap tkG++fl.flatMap tkF
def cnF (f:Fn):Fn:=⟨f.name,1,f.params,cnM f.body⟩
def eofT:Tok:=⟨0,1,0,[]⟩
theorem zb6 (r:List Tok):∀ (ps l:List ByteArray) (n:Nat),(ps.flatMap (fun q=>[tS [44],tI q.data.toList])++tS [41] :: r).length<n→z10 n l (st (ps.flatMap (fun q=>[tS [44],tI q.data.toList])++tS [41] :: r))=some (l++ps,st (tS [41] :: r)):=by
 intro ps
 induction ps with
 | nil =>
  intro l n hn
  obtain ⟨n,rfl⟩:∃ k,n=k+1:=⟨n - 1,by omega⟩
  have es:z0c [[44]] (st (([]:List ByteArray).flatMap (fun q=>[tS [44],tI q.data.toList])++tS [41] :: r))=false:=rfl
  rw [z10,es]
  simp
 | cons p ps ih =>
  intro l n hn
  obtain ⟨n,rfl⟩:∃ k,n=k+1:=⟨n - 1,by omega⟩
  have e0:(p :: ps).flatMap (fun q=>[tS [44],tI q.data.toList])++tS [41] :: r=tS [44] :: tI p.data.toList :: (ps.flatMap (fun q=>[tS [44],tI q.data.toList])++tS [41] :: r):=by simp
  rw [e0] at hn ⊢
  have es:∀ a,z0c [[44]] (st (tS [44] :: a))=true:=fun _=>rfl
  rw [z10,es,z1q,z1Q]
  simp only [if_true]
  rw [ih _ n (by simp only [List.length_cons] at hn; omega)]
  have:nmB (tI p.data.toList).text=p:=z1F p
  rw [this]
  simp
theorem z6z (r:List Tok) (ps:List ByteArray) (hp:∀ p∈ps,z0t p):z1V (st (parQ ps++tS [41] :: r))=some (ps,st r):=by
 cases ps with
 | nil=>rfl
 | cons p ps =>
  have e0:parQ (p :: ps)++tS [41] :: r=tI p.data.toList :: (ps.flatMap (fun q=>[tS [44],tI q.data.toList])++tS [41] :: r):=by simp [parQ]
  rw [e0]
  unfold z1V
  rw [z4m (z1l (hp p (by simp))) (by decide),z1Q]
  simp only [Bool.false_eq_true,if_false]
  rw [zb6 r ps _ _ (by simp only [st,List.length_cons]; omega)]
  have:nmB (tI p.data.toList).text=p:=z1F p
  rw [this]
  simp [z0P]
theorem z59 (t:z03) (r:List Tok):z0a t (st (tW t :: r))=st r:=by
 have:z0c [t] (st (tW t :: r))=true:=by simp [z11,z1b,tW]
 simp [z0a,this,z1q]
theorem z9c {D d:Nat} {f:Fn} (h:GF d f) (hD:d<D) (r:List Tok):z0Y (z1d (z1X D)) (st (tkF f++r))=some (cnF f,st r):=by
 have e0:tkF f++r=tW z2F :: tI f.name.data.toList :: tS [40] :: (parQ f.params++tS [41] :: (tS [123] :: (tkB f.body++tS [125] :: r))):=by simp [tkF]
 rw [e0]
 unfold z0Y
 rw [z59,z1Q,z0P,z6z _ _ h.2.2.1]
 simp only
 rw [z3v r f.body (fun t ht=>zaO d D t (h.2.2.2.1 t ht) hD)]
 have:nmB (tI f.name.data.toList).text=f.name:=z1F f.name
 rw [this]
 rfl
theorem z9e {x:ByteArray × Int} (h:GG x) (r:List Tok):z0Z (st (tkG x++r))=(x,st r):=by
 obtain ⟨s,n⟩:=x
 obtain ⟨h1,h2,h3⟩:=h
 have hnm:nmB (tI s.data.toList).text=s:=z1F s
 dsimp only at h2 h3
 by_cases hn:0<n
 ·have e0:tkG (s,n)++r=tW z0p :: tI s.data.toList :: tS [91] :: tN n.toNat :: tS [93] :: tS [59] :: r:=by simp [tkG,hn]
  rw [e0]
  have es:∀ a,z0c [[91]] (st (tS [91] :: a))=true:=fun _=>rfl
  have ex:∀ a,z06 2 (st (tN n.toNat :: a))=(tN n.toNat,st a):=fun _=>rfl
  have ho:∀ a,outP (tN n.toNat) (st a)=st a:=fun a=>by
   unfold outP
   rw [if_neg]
   rintro ⟨_,hc⟩
   have hv:(tN n.toNat).value=n.toNat:=rfl
   rw [hv] at hc
   omega
  have hv:(((tN n.toNat).value:Nat):Int)=n:=by
   show ((n.toNat:Nat):Int)=n
   omega
  unfold z0Z
  rw [z59,z1Q,es,z1q]
  simp only [if_true,z2u,ex,ho,z0P,hnm,hv]
 ·have e0:tkG (s,n)++r=tW z0p :: tI s.data.toList :: tS [59] :: r:=by simp [tkG,hn]
  have h0:n=0:=by omega
  rw [e0]
  have es:∀ a,z0c [[91]] (st (tS [59] :: a))=false:=fun _=>rfl
  unfold z0Z
  rw [z59,z1Q,es]
  simp only [Bool.false_eq_true,if_false,z0P,hnm,h0]
theorem z83 {D d:Nat} (hD:d<D):∀ (fl F:List Fn) (G:List (ByteArray × Int)) (n:Nat),(∀ f∈fl,GF d f)→(fl.flatMap tkF++[eofT]).length<n→z0E (z1d (z1X D)) n G F (st (fl.flatMap tkF++[eofT]))=some (G,F++fl.map cnF,st [eofT]):=by
 intro fl
 induction fl with
 | nil =>
  intro F G n _ hn
  obtain ⟨n,rfl⟩:∃ k,n=k+1:=⟨n - 1,by omega⟩
  rw [z0E,if_pos (by rfl)]
  simp
 | cons f fl ih =>
  intro F G n hf hn
  obtain ⟨n,rfl⟩:∃ k,n=k+1:=⟨n - 1,by omega⟩
  have e0:(f :: fl).flatMap tkF++[eofT]=tkF f++(fl.flatMap tkF++[eofT]):=by simp
  rw [e0] at hn ⊢
  have hl:1≤(tkF f).length:=by simp [tkF]
  rw [List.length_append] at hn
  have k0:(hdT (st (tkF f++(fl.flatMap tkF++[eofT])))).kind≠0:=by
   show (3:Nat)≠0
   decide
  have es:z0c [z0p] (st (tkF f++(fl.flatMap tkF++[eofT])))=false:=rfl
  rw [z0E,if_neg k0,es,z9c (hf f (by simp)) hD]
  simp only [Bool.false_eq_true,if_false]
  rw [ih _ G n (fun g hg=>hf g (by simp [hg])) (by omega)]
  simp
theorem z6K {D d:Nat} (hD:d<D) (fl:List Fn) (hf:∀ f∈fl,GF d f):∀ (gl G:List (ByteArray × Int)) (n:Nat),(∀ x∈gl,GG x)→(gl.flatMap tkG++(fl.flatMap tkF++[eofT])).length<n→z0E (z1d (z1X D)) n G [] (st (gl.flatMap tkG++(fl.flatMap tkF++[eofT])))=some (G++gl,fl.map cnF,st [eofT]):=by
 intro gl
 induction gl with
 | nil =>
  intro G n _ hn
  have:=z83 hD fl [] G n hf (by simpa using hn)
  simpa using this
 | cons x gl ih =>
  intro G n hg hn
  obtain ⟨n,rfl⟩:∃ k,n=k+1:=⟨n - 1,by omega⟩
  have e0:(x :: gl).flatMap tkG++(fl.flatMap tkF++[eofT])=tkG x++(gl.flatMap tkG++(fl.flatMap tkF++[eofT])):=by simp
  rw [e0] at hn ⊢
  have hl:1≤(tkG x).length:=by simp [tkG]
  rw [List.length_append] at hn
  have k0:(hdT (st (tkG x++(gl.flatMap tkG++(fl.flatMap tkF++[eofT]))))).kind≠0:=by
   show (3:Nat)≠0
   decide
  have es:z0c [z0p] (st (tkG x++(gl.flatMap tkG++(fl.flatMap tkF++[eofT]))))=true:=rfl
  rw [z0E,if_neg k0,es,z9e (hg x (by simp))]
  simp only [if_true]
  rw [ih _ n (fun g hg'=>hg g (by simp [hg'])) (by omega)]
  simp
theorem zb7 {d:Nat} {gl:List (ByteArray × Int)} {fl:List Fn} {l:z03} {ts:List Tok} (hg:∀ x∈gl,GG x) (hf:∀ f∈fl,GF d f) (hs:z1W l=.ok ts) (hu:ts.map unl=(tkP gl fl++[eofT]).map unl) :
  ∃ F,z3J (d+1) l=some (.ok (gl,F))∧F.map rlF=(fl.map cnF).map rlF:=by
 have hlen:ts.length=(tkP gl fl++[eofT]).length:=by
  have:=congrArg List.length hu
  simpa using this
 have hb:=z6K (D:=d+1) (d:=d) (by omega) fl hf gl [] (ts.length+1) hg (by rw [hlen]; simp [tkP])
 have hlk:Lk ⟨ts,0,0⟩ (st (gl.flatMap tkG++(fl.flatMap tkF++[eofT]))):=by
  unfold Lk unS st
  rw [hu]
  simp [tkP]
 rcases z9v (z7f (z7h (d+1))) (ts.length+1) [] [] [] _ _ rfl hlk with ⟨_,e2⟩ | ⟨G,F,F',s2,q2,e1,e2,hF,hL⟩
 ·rw [hb] at e2
  cases e2
 ·rw [hb] at e2
  injection e2 with e2
  injection e2 with e3 e2
  injection e2 with e4 e5
  subst e3 e4 e5
  have hr:s2.ref=0:=by
   have:=congrArg PS.ref (show unS s2=unS (st [eofT]) from hL)
   simp only [unS,st] at this
   omega
  have ho:s2.out=0:=by
   have:=congrArg PS.out (show unS s2=unS (st [eofT]) from hL)
   simp only [unS,st] at this
   omega
  refine ⟨F,?_,hF⟩
  unfold z3J
  rw [hs]
  simp only [e1,endS,hr,ho]
  rfl
end Go.Proofs.YtgcjcclkialdgaaGreatDoor
namespace Go.Proofs.YtgcjcclkialdgaaGreatDoor
open Go.RowKit
def unE:Except Nat (List Tok)→Option (List Tok)
 | .error _=>none
 | .ok ts=>some (ts.map unl)
def U (l:z03):Option (List Tok):=unE (scan 1 l)
theorem zan (ts:List Tok) (x:Except Nat (List Tok)):unE (ext ts x)=(unE x).map (ts.map unl++·):=by
 cases x <;> simp [unE,ext]
theorem zaq {a b k v:Nat} {t:z03} (ha:1≤a) (hb:1≤b):unl ⟨k,a,v,t⟩=unl ⟨k,b,v,t⟩:=by
 unfold unl
 simp only [Tok.mk.injEq,true_and,and_true]
 omega
theorem z8l:∀ (n:Nat) (l:z03) (a b:Nat),l.length≤n→1≤a→1≤b→unE (scan a l)=unE (scan b l):=by
 intro n
 induction n with
 | zero =>
  intro l a b hl ha hb
  cases l with
  | nil=>rw [scan,scan]; simp [unE,zaq ha hb]
  | cons c r=>simp at hl
 | succ n ih =>
  intro l a b hl ha hb
  cases l with
  | nil=>rw [scan,scan]; simp [unE,zaq ha hb]
  | cons c r =>
   simp only [List.length_cons] at hl
   rw [scan,scan]
   split
   ·exact ih r _ _ (by omega) (by omega) (by omega)
   split
   ·exact ih r _ _ (by omega) ha hb
   split
   ·have:=List.Sublist.length_le (List.dropWhile_sublist (fun x:UInt8=>decide (x.toNat≠10)) (l:=r))
    exact ih _ _ _ (by omega) ha hb
   ·cases rnext (c :: r) with
    | none=>rfl
    | some p =>
     obtain ⟨k,v,m⟩:=p
     have h:=ih (r.drop (m - 1)) a b (by simp; omega) ha hb
     simp only
     cases h1:scan a (r.drop (m - 1)) with
     | error e =>
      rw [h1] at h
      cases h2:scan b (r.drop (m - 1)) with
      | error e2=>rfl
      | ok ts=>rw [h2] at h; cases h
     | ok ts =>
      rw [h1] at h
      cases h2:scan b (r.drop (m - 1)) with
      | error e2=>rw [h2] at h; cases h
      | ok us =>
       rw [h2] at h
       injection h with h
       simp only [unE,List.map_cons,h,zaq ha hb]
theorem zew (l:z03) {a:Nat} (ha:1≤a):unE (scan a l)=U l:=z8l _ l a 1 (Nat.le_refl _) ha (Nat.le_refl _)
theorem u_nl (l:z03):U (10 :: l)=U l:=by
 unfold U
 rw [scan,if_pos (by decide)]
 exact zew l (by decide)
theorem u_sp (l:z03):U (32 :: l)=U l:=by
 unfold U
 rw [scan,if_neg (by decide),if_pos (by decide)]
theorem zdj (l:z03):U (9 :: l)=U l:=by
 unfold U
 rw [scan,if_neg (by decide),if_pos (by decide)]
def ScU (l:z03) (ts:List Tok):Prop:=∀ r,Stp r→U (l++r)=(U r).map (ts.map unl++·)
def SaU (l:z03) (ts:List Tok):Prop:=∀ r,U (l++r)=(U r).map (ts.map unl++·)
theorem ScT.u {l:z03} {ts:List Tok} (h:ScT l ts):ScU l ts:=fun r hr=>by
 unfold U
 rw [h r hr,zan]
theorem SaT.u {l:z03} {ts:List Tok} (h:SaT l ts):SaU l ts:=fun r=>by
 unfold U
 rw [h r,zan]
theorem z5m (a b:List Tok) (x:Option (List Tok)):(x.map (b.map unl++·)).map (a.map unl++·)=x.map ((a++b).map unl++·):=by cases x <;> simp
theorem SaU.sc {l:z03} {ts:List Tok} (h:SaU l ts):ScU l ts:=fun r _=>h r
theorem SaU.nil:SaU [] []:=fun r=>by cases h:U r <;> simp [h]
theorem ScU.nil:ScU [] []:=SaU.nil.sc
theorem SaU.append {a b:z03} {s t:List Tok} (ha:SaU a s) (hb:SaU b t):SaU (a++b) (s++t):=fun r=>by rw [List.append_assoc,ha,hb,z5m]
theorem ScU.append {a b:z03} {s t:List Tok} (ha:ScU a s) (h0:Sp0 b=true) (hb:SaU b t):SaU (a++b) (s++t):=fun r=>by rw [List.append_assoc,ha _ (z7I h0),hb,z5m]
theorem SaU.then {a b:z03} {s t:List Tok} (ha:SaU a s) (hb:ScU b t):ScU (a++b) (s++t):=fun r hr=>by rw [List.append_assoc,ha,hb r hr,z5m]
theorem ScU.then {a b:z03} {s t:List Tok} (ha:ScU a s) (h0:Sp0 b=true) (hb:ScU b t):ScU (a++b) (s++t):=fun r hr=>by rw [List.append_assoc,ha _ (z7I h0),hb r hr,z5m]
theorem z5F {c:UInt8} (h:∀ l,U (c :: l)=U l):SaU [c] []:=fun r=>by
 rw [List.singleton_append,h]
 cases U r <;> rfl
theorem z8v:SaU [10] []:=z5F u_nl
theorem z8w:SaU [32] []:=z5F u_sp
theorem zc6:SaU [9] []:=z5F zdj
theorem zed:OneS 59:=by unfold OneS; decide
theorem zef:OneS 61:=by unfold OneS; decide
theorem zcO:OneS 123:=by unfold OneS; decide
theorem zcP:OneS 125:=by unfold OneS; decide
theorem zeX:SaU [59] [tS [59]]:=(z2t zed (by decide)).u
theorem zex:SaU [123] [tS [123]]:=(z2t zcO (by decide)).u
theorem zao:SaU [125] [tS [125]]:=(z2t zcP (by decide)).u
theorem z2P:SaU [59,10] [tS [59]]:=zeX.append z8v
theorem zdk:SaU [32,61,32] [tS [61]]:=z8w.append ((za4 zef).u.append (b:=[32]) (by decide) z8w)
theorem z5E:SaU [32,123,10] [tS [123]]:=z8w.append (zex.append z8v)
theorem z2c {c:UInt8} {l:z03} (h:(letter c||digit c)=true) (hw:∀ x∈c :: l,wordy x=true) (hm:pmean (c :: l)=some (3,0)):SaU (c :: l++[32]) [tW (c :: l)]:=(z3n h hw hm).u.append (b:=[32]) (by decide) z8w
theorem zey {es:List Ex} {i:Nat} (h:∀ x∈es,GE 2 x):ScU (valL 3 es i) (exT es i):=by
 unfold valL exT
 cases hx:es[i]? with
 | some x =>
  have hg:=h x (List.mem_of_getElem? hx)
  have:=((zcp (z5X 2 x hg) 3 (zeN 2 x hg)).1).u
  rwa [z3H] at this
 | none=>exact ScU.nil
theorem z8u {α:Type} (f:α→z03) (g:α→List Tok):∀ (l:List α),(∀ x∈l,SaU (f x) (g x))→SaU (l.flatMap f) (l.flatMap g)
 | [],_=>SaU.nil
 | a :: r,h=>by
  rw [List.flatMap_cons,List.flatMap_cons]
  exact (h a (by simp)).append (z8u f g r (fun x hx=>h x (by simp [hx])))
theorem z5D:∀ ts,tkB ts=ts.flatMap tkS
 | []=>rfl
 | x :: r=>by simp [tkB,z5D r]
theorem z3O {l:z03} {s t:List Tok} (h:SaU l s) (e:s=t):SaU l t:=e ▸ h
theorem zeq {B:List St→z03→z03} {k l:Int} {s:ByteArray} {es:List Ex} {ts us:List St} {ind:z03} (he:∀ x∈es,GE 2 x)
  (hk:(k=1∧z0t s∧es.length=1∧ts=[]∧us=[])∨(k=2∧z0t s∧es.length=1∧ts=[]∧us=[])∨(k=3∧z0t s∧es.length=2∧ts=[]∧us=[])∨(k=4∧s.size=0∧es.length=1)∨(k=5∧s.size=0∧es.length=1∧us=[])∨((k=6∨k=7∨k=8)∧s.size=0∧es.length=1∧ts=[]∧us=[]))
  (hi:SaU ind []) (h1:SaU (B ts (ind++[9])) (tkB ts)) (h2:SaU (B us (ind++[9])) (tkB us)):SaU (stL 3 B ind (.mk k l s es ts us)) (tkS (.mk k l s es ts us)):=by
 have v0:=zey (i:=0) he
 have v1:=zey (i:=1) he
 have blk:SaU ([32,123,10]++B ts (ind++[9])++ind++[125]) ([tS [123]]++tkB ts++[]++[tS [125]]):=((z5E.append h1).append hi).append zao
 rcases hk with ⟨rfl,hs,_⟩ | ⟨rfl,hs,_⟩ | ⟨rfl,hs,_⟩ | ⟨rfl,_⟩ | ⟨rfl,_⟩ | ⟨rfl | rfl | rfl,_⟩
 ·have e:stL 3 B ind (.mk 1 l s es ts us)=ind++(([118,97,114]++[32])++(s.data.toList++([32,61,32]++(valL 3 es 0++[59,10])))):=by simp [stL]
  rw [e]
  exact z3O (hi.append ((z2c (by decide) (by decide) (by decide)).append ((z2A (z1l hs)).u.append rfl (zdk.append (v0.append (b:=[59,10]) rfl z2P))))) (by simp [tkS,asmS,wVar])
 ·have e:stL 3 B ind (.mk 2 l s es ts us)=ind++(s.data.toList++([32,61,32]++(valL 3 es 0++[59,10]))):=by simp [stL]
  rw [e]
  exact z3O (hi.append ((z2A (z1l hs)).u.append rfl (zdk.append (v0.append (b:=[59,10]) rfl z2P)))) (by simp [tkS,asmS])
 ·have e:stL 3 B ind (.mk 3 l s es ts us)=ind++(s.data.toList++([91]++(valL 3 es 0++([93]++[32,61,32]++(valL 3 es 1++[59,10]))))):=by simp [stL]
  rw [e]
  exact z3O (hi.append ((z2A (z1l hs)).u.append rfl (z9W.u.append (v0.append rfl ((z9X.u.append zdk).append (v1.append (b:=[59,10]) rfl z2P)))))) (by simp [tkS,asmS])
 ·by_cases hu:us.length=0
  ·have e:stL 3 B ind (.mk 4 l s es ts us)=ind++(([105,102]++[32])++(valL 3 es 0++(([32,123,10]++B ts (ind++[9])++ind++[125])++[10]))):=by simp [stL,hu]
   rw [e]
   have hu2:us=[]:=List.eq_nil_of_length_eq_zero hu
   exact z3O (hi.append ((z2c (by decide) (by decide) (by decide)).append (v0.append rfl (blk.append z8v)))) (by simp [tkS,asmS,wIf,hu2])
  ·have e:stL 3 B ind (.mk 4 l s es ts us)=ind++(([105,102]++[32])++(valL 3 es 0++(([32,123,10]++B ts (ind++[9])++ind++[125])++(([32]++([101,108,115,101]++[32,123,10])++B us (ind++[9])++ind++[125])++[10])))):=by simp [stL,hu]
   rw [e]
   have els:SaU ([101,108,115,101]++[32,123,10]:z03) ([tW z2i]++[tS [123]]):=((z3n (c:=101) (l:=[108,115,101]) (k:=3) (v:=0) (by decide) (by decide) (by decide)).u).append (b:=[32,123,10]) rfl z5E
   have hu2:us.isEmpty=false:=by
    cases us with
    | nil=>simp at hu
    | cons a r=>rfl
   exact z3O (hi.append ((z2c (by decide) (by decide) (by decide)).append (v0.append rfl (blk.append (((((z8w.append els).append h2).append hi).append zao).append z8v))))) (by simp [tkS,asmS,wIf,hu2])
 ·have e:stL 3 B ind (.mk 5 l s es ts us)=ind++(([119,104,105,108,101]++[32])++(valL 3 es 0++(([32,123,10]++B ts (ind++[9])++ind++[125])++[10]))):=by simp [stL]
  rw [e]
  exact z3O (hi.append ((z2c (by decide) (by decide) (by decide)).append (v0.append rfl (blk.append z8v)))) (by simp [tkS,asmS,z28])
 ·have e:stL 3 B ind (.mk 6 l s es ts us)=ind++(([114,101,116,117,114,110]++[32])++(valL 3 es 0++[59,10])):=by simp [stL]
  rw [e]
  exact z3O (hi.append ((z2c (by decide) (by decide) (by decide)).append (v0.append (b:=[59,10]) rfl z2P))) (by simp [tkS,asmS,z1Z])
 ·have e:stL 3 B ind (.mk 7 l s es ts us)=ind++(([112,114,105,110,116]++[32])++(valL 3 es 0++[59,10])):=by simp [stL]
  rw [e]
  exact z3O (hi.append ((z2c (by decide) (by decide) (by decide)).append (v0.append (b:=[59,10]) rfl z2P))) (by simp [tkS,asmS,z2Q])
 ·have e:stL 3 B ind (.mk 8 l s es ts us)=ind++(([99,97,108,108]++[32])++(valL 3 es 0++[59,10])):=by simp [stL]
  rw [e]
  exact z3O (hi.append ((z2c (by decide) (by decide) (by decide)).append (v0.append (b:=[59,10]) rfl z2P))) (by simp [tkS,asmS,z4A])
theorem zep:∀ (d:Nat) (t:St) (ind:z03),GSt (d+1) t→SaU ind []→SaU (stL 3 (fmtB 3 d) ind t) (tkS t):=by
 intro d
 induction d with
 | zero =>
  intro t ind hg hi
  match t,hg with
  | .mk k l s es ts us,⟨_,he,ht,hu,hk⟩ =>
   have hts:ts=[]:=by
    cases ts with
    | nil=>rfl
    | cons a r=>exact (ht a (by simp)).elim
   have hus:us=[]:=by
    cases us with
    | nil=>rfl
    | cons a r=>exact (hu a (by simp)).elim
   subst hts hus
   exact zeq (B:=fmtB 3 0) he hk hi (by simpa [fmtB,tkB] using SaU.nil) (by simpa [fmtB,tkB] using SaU.nil)
 | succ d ih =>
  intro t ind hg hi
  match t,hg with
  | .mk k l s es ts us,⟨_,he,ht,hu,hk⟩ =>
   have hi9:SaU (ind++[9]) []:=hi.append zc6
   exact zeq (B:=fmtB 3 (d+1)) he hk hi (by rw [z5D]; exact z8u _ _ ts (fun t hm=>ih t (ind++[9]) (ht t hm) hi9)) (by rw [z5D]; exact z8u _ _ us (fun t hm=>ih t (ind++[9]) (hu t hm) hi9))
theorem zcn {x:ByteArray × Int} (h:GG x):SaU (fmtG x) (tkG x):=by
 by_cases hp:0<x.2
 ·have e:fmtG x=([103,108,111,98,97,108]++[32])++(x.1.data.toList++([91]++(numL x.2.toNat++([93]++[59,10])))):=by simp [fmtG,hp]
  rw [e]
  exact z3O ((z2c (by decide) (by decide) (by decide)).append ((z2A (z1l h.1)).u.append rfl (z9W.u.append ((za3 (by have:=h.2.2; omega)).u.append rfl (z9X.u.append z2P))))) (by simp [tkG,hp,z0p])
 ·have e:fmtG x=([103,108,111,98,97,108]++[32])++(x.1.data.toList++[59,10]):=by simp [fmtG,hp]
  rw [e]
  exact z3O ((z2c (by decide) (by decide) (by decide)).append ((z2A (z1l h.1)).u.append (b:=[59,10]) rfl z2P)) (by simp [tkG,hp,z0p])
theorem zbV:∀ (ps:List ByteArray),(∀ p∈ps,z0t p)→ScU (jl (ps.map (·.data.toList))) (parQ ps)
 | [],_=>by
  have e:jl (([]:List ByteArray).map (·.data.toList))=[]:=by simp [jl,List.intercalate]
  rw [e]
  exact ScU.nil
 | [a],h=>by
  have e:jl ([a].map (·.data.toList))=a.data.toList:=by simp [jl,List.intercalate]
  rw [e]
  exact (z2A (z1l (h a (by simp)))).u
 | a :: b :: r,h=>by
  have ih:=zbV (b :: r) (fun p hp=>h p (by simp [hp]))
  have e:jl ((a :: b :: r).map (·.data.toList))=a.data.toList++(([44]++[32])++jl ((b :: r).map (·.data.toList))):=by
   simp only [jl,List.map_cons]
   rw [z7a]
   simp
  have e2:parQ (a :: b :: r)=[tI a.data.toList]++(([tS [44]]++[])++parQ (b :: r)):=by simp [parQ]
  rw [e,e2]
  exact (z2A (z1l (h a (by simp)))).u.then rfl ((zbZ.u.append z8w).then ih)
theorem zcm {d:Nat} {f:Fn} (h:GF d f):SaU (fmtF 3 (d+1) f) (tkF f):=by
 have e:fmtF 3 (d+1) f=([102,117,110,99]++[32])++(f.name.data.toList++([40]++(jl (f.params.map (·.data.toList))++([41]++[32,123,10]++(fmtB 3 (d+1) f.body [9]++([125]++[10])))))):=by simp [fmtF]
 have hj:=zbV f.params h.2.2.1
 have hb:SaU (fmtB 3 (d+1) f.body [9]) (tkB f.body):=by
  rw [z5D]
  exact z8u _ _ f.body (fun t hm=>zep d t [9] (h.2.2.2.1 t hm) zc6)
 rw [e]
 exact z3O ((z2c (by decide) (by decide) (by decide)).append ((z2A (z1l h.1)).u.append rfl (zbX.u.append (hj.append rfl ((zbY.u.append z5E).append (hb.append (zao.append z8v))))))) (by simp [tkF,z2F])
theorem zco {d:Nat} {gl:List (ByteArray × Int)} {fl:List Fn} (hg:∀ x∈gl,GG x) (hf:∀ f∈fl,GF d f):U (fmtP 3 (d+1) gl fl)=some ((tkP gl fl++[eofT]).map unl):=by
 have h:SaU (fmtP 3 (d+1) gl fl) (tkP gl fl):=(z8u _ _ gl (fun x hx=>zcn (hg x hx))).append (z8u _ _ fl (fun f hm=>zcm (hf f hm)))
 have:=h []
 rw [List.append_nil] at this
 have e0:U []=some [unl eofT]:=by
  unfold U
  rw [scan]
  rfl
 rw [this,e0]
 simp
def gapL (q:Nat):z03:=if q=0 then [32] else if q=1 then [10] else [32,32,35,32,110,111,116,101,10]
theorem zeW (q:Nat) (l:z03):U (gapL q++l)=U l:=by
 unfold gapL
 split
 ·exact u_sp l
 split
 ·exact u_nl l
 ·show U (32 :: 32 :: 35 :: 32 :: 110 :: 111 :: 116 :: 101 :: 10 :: l)=U l
  rw [u_sp,u_sp]
  have e:U (35 :: 32 :: 110 :: 111 :: 116 :: 101 :: 10 :: l)=U (10 :: l):=by
   unfold U
   rw [scan,if_neg (by decide),if_neg (by decide),if_pos (by decide)]
   rfl
  rw [e,u_nl]
def z2H (c:UInt8):Bool:=decide (c.toNat=32)||decide (c.toNat=10)
inductive Lay:z03→z03→Prop
 | nil:Lay [] []
 | same (c:UInt8) (t s:z03):z2H c=false→Lay t s→Lay (c :: t) (c :: s)
 | gap (c:UInt8) (q:Nat) (t s:z03):z2H c=true→Lay t s→Lay (c :: t) (gapL q++s)
theorem Lay.append {a b:z03} (h:Lay a b) {c d:z03} (h2:Lay c d):Lay (a++c) (b++d):=by
 induction h with
 | nil=>exact h2
 | same x t s hx _ ih=>exact .same x _ _ hx ih
 | gap x q t s hx _ ih =>
  rw [List.append_assoc]
  exact .gap x q _ _ hx ih
theorem z5W (q:Nat):∃ c r,gapL q=c :: r∧z2H c=true:=by
 unfold gapL
 split
 ·exact ⟨_,_,rfl,by decide⟩
 split
 ·exact ⟨_,_,rfl,by decide⟩
 ·exact ⟨_,_,rfl,by decide⟩
theorem z3j {c:UInt8} (h:z2H c=true):Gap c:=by
 simp only [z2H,Bool.or_eq_true,decide_eq_true_eq] at h
 unfold Gap
 omega
theorem Lay.tw {t s:z03} (h:Lay t s):s.takeWhile wordy=t.takeWhile wordy:=by
 induction h with
 | nil=>rfl
 | same c t s _ _ ih=>simp only [List.takeWhile_cons,ih]
 | gap c q t s hc _ ih =>
  obtain ⟨x,r,e,hx⟩:=z5W q
  rw [e]
  simp [z3h (z3j hc),z3h (z3j hx)]
theorem Lay.pre {t s:z03} (h:Lay t s):∀ k,(∀ x∈t.take k,z2H x=false)→s.take k=t.take k∧Lay (t.drop k) (s.drop k):=by
 induction h with
 | nil=>intro k _; simp [Lay.nil]
 | same c t s hc hl ih =>
  intro k hk
  cases k with
  | zero=>exact ⟨rfl,.same c t s hc hl⟩
  | succ k =>
   obtain ⟨h1,h2⟩:=ih k (fun x hx=>hk x (by simp [hx]))
   exact ⟨by simp [h1],h2⟩
 | gap c q t s hc hl ih =>
  intro k hk
  cases k with
  | zero=>exact ⟨rfl,.gap c q t s hc hl⟩
  | succ k =>
   have:=hk c (by simp)
   rw [hc] at this
   cases this
theorem zau {c:UInt8} (h:wordy c=true):z2H c=false:=by
 cases e:z2H c with
 | false=>rfl
 | true =>
  rw [z3h (z3j e)] at h
  cases h
theorem zcB {c:UInt8} {t s:z03} (h:Lay t s):plen (c :: s)=plen (c :: t)∧∀ x∈t.take (plen (c :: t) - 1),z2H x=false:=by
 by_cases hl:(letter c||digit c)=true
 ·have hw:wordy c=true:=by unfold wordy; rw [hl]; rfl
  have e1:∀ r,plen (c :: r)=(r.takeWhile wordy).length+1:=fun r=>by simp only [plen,hl,if_true,List.takeWhile_cons,hw,List.length_cons]
  rw [e1,e1,h.tw]
  refine ⟨rfl,fun x hx=>?_⟩
  rw [Nat.add_sub_cancel,z4z] at hx
  exact zau (z6f wordy _ x hx)
 ·have hl:(letter c||digit c)=false:=by simpa using hl
  cases h with
  | nil =>
   refine ⟨rfl,fun x hx=>by simp at hx⟩
  | same x t s hx h =>
   have e:plen (c :: x :: s)=plen (c :: x :: t):=by simp only [plen,hl,List.length_cons,List.take_succ_cons,List.take_zero]; simp; rfl
   refine ⟨e,fun y hy=>?_⟩
   have h2:plen (c :: x :: t)≤2:=by
    simp only [plen,hl]
    simp only [Bool.false_eq_true,if_false]
    split
    ·omega
    split <;> omega
   have:y∈(x :: t).take 1:=List.take_subset_take_left _ (by omega) hy
   simp at this
   rw [this]
   exact hx
  | gap x q t s hx h =>
   obtain ⟨y,r,e,hy⟩:=z5W q
   have e1:∀ (z:UInt8) (m:z03),z2H z=true→plen (c :: z :: m)=if isS [c] then 1 else 0:=fun z m hz=>by
    have:=z74 (a:=c) (z3j hz)
    simp [plen,hl,this]; rfl
   rw [e,List.cons_append,e1 y _ hy,e1 x _ hx]
   refine ⟨rfl,fun z hz=>?_⟩
   split at hz <;> simp at hz
theorem zc4 {c:UInt8} {r:z03} (h10:c.toNat≠10) (h32:¬(c.toNat=32∨c.toNat=9)) (h35:c.toNat≠35):U (c :: r)=match rnext (c :: r) with | none=>none | some (k,v,n)=>(U (r.drop (n - 1))).map (unl ⟨k,1,v,(c :: r).take n⟩ :: ·):=by
 unfold U
 rw [scan,if_neg h10,if_neg h32,if_neg h35]
 cases rnext (c :: r) with
 | none=>rfl
 | some p =>
  obtain ⟨k,v,n⟩:=p
  simp only
  cases scan 1 (r.drop (n - 1)) <;> simp [unE]
theorem zeQ:∀ (n:Nat) (t s:z03),t.length≤n→(∀ c∈t,c.toNat≠35)→Lay t s→U s=U t:=by
 intro n
 induction n with
 | zero =>
  intro t s hn _ h
  cases h with
  | nil=>rfl
  | same=>simp at hn
  | gap=>simp at hn
 | succ n ih =>
  intro t s hn h35 h
  cases h with
  | nil=>rfl
  | gap c q t s hc h =>
   rw [zeW,ih t s (by simpa using hn) (fun x hx=>h35 x (by simp [hx])) h]
   simp only [z2H,Bool.or_eq_true,decide_eq_true_eq] at hc
   rcases hc with hc | hc
   ·have:c=32:=UInt8.toNat_inj.1 hc
    rw [this,u_sp]
   ·have:c=10:=UInt8.toNat_inj.1 hc
    rw [this,u_nl]
  | same c t s hc h =>
   have hn2:t.length≤n:=by simpa using hn
   simp only [z2H,Bool.or_eq_false_iff,decide_eq_false_iff_not] at hc
   by_cases h9:c.toNat=9
   ·have:c=9:=UInt8.toNat_inj.1 h9
    rw [this,zdj,zdj]
    exact ih t s hn2 (fun x hx=>h35 x (by simp [hx])) h
   ·obtain ⟨e1,e2⟩:=zcB (c:=c) h
    obtain ⟨e3,e4⟩:=h.pre _ e2
    have hx:=h35 c (by simp)
    rw [zc4 hc.2 (by omega) hx,zc4 hc.2 (by omega) hx,z34,z34,e1]
    have e5:(c :: s).take (plen (c :: t))=(c :: t).take (plen (c :: t)):=by
     cases hp:plen (c :: t) with
     | zero=>rfl
     | succ m =>
      rw [hp,Nat.add_sub_cancel] at e3
      simp [e3]
    rw [e5]
    cases pmean ((c :: t).take (plen (c :: t))) with
    | none=>rfl
    | some p =>
     simp only [Option.map_some]
     rw [e5,ih _ _ (by simp; omega) (fun x hx=>h35 x (by simp [List.mem_of_mem_drop hx])) e4]
theorem z4Q:∀ {t s:z03},Lay t s→s.length≤W t:=by
 intro t s h
 induction h with
 | nil=>exact Nat.zero_le _
 | same c t s _ _ ih =>
  unfold W at *
  have:1≤wB c:=by unfold wB; split; omega; split <;> omega
  simp only [List.length_cons,List.map_cons,List.sum_cons]
  omega
 | gap c q t s hc _ ih =>
  unfold W at *
  have h1:(gapL q).length≤9:=by unfold gapL; split; decide; split <;> decide
  have h2:9≤wB c:=by
   simp only [z2H,Bool.or_eq_true,decide_eq_true_eq] at hc
   unfold wB
   rw [if_neg (by omega),if_pos hc]
   exact Nat.le_refl _
  simp only [List.length_append,List.map_cons,List.sum_cons]
  omega
theorem zdi (k:Nat) (l:z03):U (List.replicate k 10++l)=U l:=by
 induction k with
 | zero=>rfl
 | succ k ih=>rw [List.replicate_succ,List.cons_append,u_nl,ih]
theorem zcW {l:z03} {ts:List Tok} (hl:l.length≤65536) (h:U l=some (ts.map unl)):∃ us,z1W l=.ok us∧us.map unl=ts.map unl:=by
 unfold U at h
 unfold z1W
 rw [if_neg (by omega)]
 cases e:scan 1 l with
 | error n=>rw [e] at h; cases h
 | ok us =>
  rw [e] at h
  injection h with h
  exact ⟨us,rfl,h⟩
end Go.Proofs.YtgcjcclkialdgaaGreatDoor
