/-
  Kme: PrBk, PrTs, PrLaw. Walks and laws that the statement's proof is made of. No condition of its own.
-/
import Derived.Test.YtkeihncfmbicnaaGreatDoorKi
import Derived.Test.YtkeihncfmbicnaaGreatDoorKla
import Derived.Test.YtkeihncfmbicnaaGreatDoorKma
import Derived.Test.YtkeihncfmbicnaaGreatDoorKmd
import Derived.Test.YtkeihncfmbicnaaGreatDoorKq
import Derived.Test.YtkeihncfmbicnaaGreatDoorCards
import Derived.Test.YtkeihncfmbicnaaGreatDoorTie
import Derived.LaidLaws
namespace Go.Proofs.YtkeihncfmbicnaaGreatDoor
open Go.RowKit
mutual
def ndX:Ex→Nat
 | .mk _ _ _ _ _ xs=>1+ndL xs
def ndL:List Ex→Nat
 | []=>0
 | x :: r=>ndX x+ndL r
end
theorem z4C (a b:List Ex):ndL (a++b)=ndL a+ndL b:=by
 induction a with
 | nil=>simp [ndL]
 | cons x r ih=>simp [ndL,ih]; omega
theorem z9m (x:Ex):1≤ndX x:=by cases x; simp [ndX]
def OkS (s:PS):Prop:=WFt s.rest∧∀ t∈s.rest,1≤t.line∧(t.kind≠0→z7z t)
def WfP (P:P1):Prop:=∀ s x s',P s=some (x,s')→OkS s→OkS s'∧(s'.ref=0→s.ref=0∧WfX x∧ndX x+s'.rest.length≤s.rest.length)
theorem OkS.mem {s:PS} (h:OkS s):hdT s∈s.rest:=by
 have:=h.1.pos
 cases hq:s.rest with
 | nil=>rw [hq] at this; simp at this
 | cons a l=>simp [hdT,hq]
theorem OkS.pop {s:PS} (h:OkS s) (h2:2≤s.rest.length):OkS (popP s):=⟨h.1.tail h2,fun t ht=>h.2 t (List.mem_of_mem_tail ht)⟩
theorem OkS.refuse {s:PS} (h:OkS s):OkS (z0r s)∧(z0r s).ref≠0:=by
 refine ⟨⟨h.1.last,fun t ht=>h.2 t (List.mem_of_mem_drop ht)⟩,?_⟩
 have:=(h.2 _ h.mem).1
 show (if s.ref=0 then (hdT s).line else s.ref)≠0
 split <;> omega
theorem OkS.sees {s:PS} (h:OkS s) {t:z04} (ht:t≠[]) (hs:z0u [t] s=true):OkS (popP s)∧(popP s).rest.length+1=s.rest.length:=by
 have h2:=z10 h.1 (l:=[t]) (by simpa using ht) hs
 exact ⟨h.pop h2,by rw [z0W]; omega⟩
theorem OkS.sees_any {s:PS} (h:OkS s) {l:List z04} (ht:[] ∉ l) (hs:z0u l s=true):OkS (popP s)∧(popP s).rest.length+1=s.rest.length:=by
 have h2:=z10 h.1 ht hs
 exact ⟨h.pop h2,by rw [z0W]; omega⟩
theorem OkS.demand {s:PS} (h:OkS s) {t:z04} (ht:t≠[]):OkS (z0N t s)∧((z0N t s).ref=0→s.ref=0∧(z0N t s).rest.length+1=s.rest.length):=by
 unfold z0N
 split
 ·rename_i hs
  have:=h.sees ht hs
  exact ⟨this.1,fun h0=>⟨h0,this.2⟩⟩
 ·have:=h.refuse
  exact ⟨this.1,fun h0=>absurd h0 this.2⟩
theorem OkS.expect {s:PS} (h:OkS s):OkS (z0q 1 s).2∧((z0q 1 s).2.ref=0→s.ref=0∧(z0q 1 s).2.rest.length+1=s.rest.length∧(hdT s).kind=1∧(z0q 1 s).1=hdT s∧z7z (hdT s)):=by
 unfold z0q
 split
 ·rename_i hk
  have h2:=WFt.two h.1 (.inr (by omega:(hdT s).kind≠0))
  exact ⟨h.pop h2,fun h0=>⟨h0,by rw [z0W]; omega,hk,rfl,(h.2 _ h.mem).2 (by omega)⟩⟩
 ·have:=h.refuse
  exact ⟨this.1,fun h0=>absurd h0 this.2⟩
theorem z5r {t:Tok} (h:z7z t) (hk:t.kind=1):isNm t.text=true:=by
 obtain ⟨c,r,ht,_,_,_⟩:=h.head
 have hm:=h.mean
 rw [hk,ht] at hm
 unfold pmean at hm
 simp only [] at hm
 have hS:isS (c :: r)=false:=by
  cases e:isS (c :: r) with
  | false=>rfl
  | true=>rw [e] at hm; simp at hm
 have hW:isW (c :: r)=false:=by
  cases e:isW (c :: r) with
  | false=>rfl
  | true=>rw [e,hS] at hm; simp at hm
 have hD:digit c=false:=by
  cases e:digit c with
  | false=>rfl
  | true =>
   rw [hS,hW,e] at hm
   simp only [Bool.false_eq_true,if_false,if_true] at hm
   split at hm
   ·cases hm
   ·cases e2:val (c :: r) with
    | none=>rw [e2] at hm; cases hm
    | some q=>rw [e2] at hm; injection hm with hm; injection hm with hm; omega
 rw [hS,hW,hD] at hm
 simp only [Bool.false_eq_true,if_false] at hm
 have hl:=h.len [] (fun c r' e=>by cases e)
 rw [List.append_nil,ht] at hl
 simp only [plen,hD,Bool.or_false] at hl
 have hL:letter c=true:=by
  cases e:letter c with
  | true=>rfl
  | false =>
   rw [e] at hl
   simp only [Bool.false_eq_true,if_false] at hl
   split at hl
   ·rename_i h2
    simp only [Bool.and_eq_true,decide_eq_true_eq] at h2
    have:(c :: r).take 2=c :: r:=by rw [List.take_of_length_le (by omega)]
    rw [this,hS] at h2
    cases h2.2
   ·split at hl
    ·rename_i h3
     have:(c :: r).take 1=c :: r:=by rw [List.take_of_length_le (by omega)]
     rw [this,hS] at h3
     cases h3
    ·simp at hl
 rw [hL] at hl
 simp only [if_true] at hl
 have hall:∀ x∈c :: r,wordy x=true:=by
  have e:(c :: r).takeWhile wordy=c :: r:=by
   have:=z29 wordy (c :: r)
   rw [hl,List.take_length] at this
   exact this.symm
  intro x hx
  rw [← e] at hx
  exact z4b wordy _ x hx
 rw [ht]
 simp only [isNm,hL,hW,Bool.and_eq_true,decide_eq_true_eq,Bool.not_false,and_true,true_and]
 refine ⟨by rw [List.all_eq_true]; exact fun x hx=>hall x (by simp [hx]),?_⟩
 split at hm
 ·rename_i h5
  simp only [List.length_cons] at h5
  omega
 ·cases hm
theorem zd7 {t:Tok} (h:z7z t) (hk:t.kind=2):t.value<9223372036854775808:=by
 obtain ⟨c,r,ht,_,_,_⟩:=h.head
 have hm:=h.mean
 rw [hk,ht] at hm
 unfold pmean at hm
 simp only [] at hm
 split at hm
 ·injection hm with hm; injection hm with hm; omega
 split at hm
 ·injection hm with hm; injection hm with hm; omega
 split at hm
 ·rename_i hd
  split at hm
  ·cases hm
  ·rw [za8 hd] at hm
   cases e:Lib.parseUint10 0 (c :: r) with
   | ok u =>
    rw [e] at hm
    simp only [small] at hm
    split at hm
    ·cases hm
    ·simp only [Option.map_some,Option.some.injEq,Prod.mk.injEq] at hm
     omega
   | _=>rw [e] at hm; cases hm
 ·split at hm
  ·injection hm with hm; injection hm with hm; omega
  ·cases hm
theorem z5a (t:z04):(nmB t).data.toList=t:=by simp [nmB]
theorem zca {t:Tok} {x y:Ex} (ht:t.text∈([[42],[47],[37],[43],[45],[60],[60,61],[61,61],[33,61],[38,38],[124,124]]:List z04)) (hx:WfX x) (hy:WfX y):WfX (binP t x y)∧ndX (binP t x y)=1+ndX x+ndX y:=by
 refine ⟨?_,by simp [binP,ndX,ndL]; omega⟩
 unfold binP
 simp only [List.mem_cons,List.not_mem_nil,or_false] at ht
 rcases ht with h | h | h | h | h | h | h | h | h | h | h <;> rw [h]
 ·exact .bin 5 _ _ _ (by decide) (by decide) hx hy
 ·exact .bin 6 _ _ _ (by decide) (by decide) hx hy
 ·exact .bin 7 _ _ _ (by decide) (by decide) hx hy
 ·exact .bin 3 _ _ _ (by decide) (by decide) hx hy
 ·exact .bin 4 _ _ _ (by decide) (by decide) hx hy
 ·exact .bin 8 _ _ _ (by decide) (by decide) hx hy
 ·exact .bin 9 _ _ _ (by decide) (by decide) hx hy
 ·exact .bin 10 _ _ _ (by decide) (by decide) hx hy
 ·exact .bin 11 _ _ _ (by decide) (by decide) hx hy
 ·exact .and_ _ _ _ hx hy
 ·exact .or_ _ _ _ hx hy
def Lvl (l:List z04):Prop:=∀ t∈l,t∈([[42],[47],[37],[43],[45],[60],[60,61],[61,61],[33,61],[38,38],[124,124]]:List z04)
theorem Lvl.ne {l:List z04} (h:Lvl l):[] ∉ l:=fun h0=>by
 have:=h _ h0
 simp at this
theorem z7m {l:List z04} {s:PS} (h:z0u l s=true):(hdT s).text∈l:=by simpa [z0u,List.contains_iff_mem] using h
theorem zdd {P:P1} (hP:WfP P) {l:List z04} (hl:Lvl l):∀ (n:Nat) (x:Ex) (s:PS) (y:Ex) (s':PS),z5G P l n x s=some (y,s')→OkS s→OkS s'∧(s'.ref=0→s.ref=0∧(WfX x→WfX y∧ndX y+s'.rest.length≤ndX x+s.rest.length)):=by
 intro n
 induction n with
 | zero=>intro x s y s' h; cases h
 | succ n ih =>
  intro x s y s' h hs
  rw [z5G] at h
  split at h
  ·rename_i hse
   obtain ⟨hp,hpl⟩:=hs.sees_any hl.ne hse
   split at h
   ·cases h
   ·rename_i z s2 hz
    obtain ⟨h1,h2⟩:=hP _ _ _ hz hp
    obtain ⟨h3,h4⟩:=ih _ _ _ _ h h1
    refine ⟨h3,fun h0=>?_⟩
    obtain ⟨h5,h6⟩:=h4 h0
    obtain ⟨h7,h8,h9⟩:=h2 h5
    refine ⟨h7,fun hx=>?_⟩
    obtain ⟨b1,b2⟩:=zca (hl _ (z7m hse)) hx h8
    obtain ⟨b3,b4⟩:=h6 b1
    exact ⟨b3,by omega⟩
  ·injection h with h
   injection h with e1 e2
   subst e1 e2
   exact ⟨hs,fun h0=>⟨h0,fun hx=>⟨hx,Nat.le_refl _⟩⟩⟩
theorem z3I {P:P1} (hP:WfP P) {l:List z04} (hl:Lvl l):WfP (z3k P l):=by
 intro s x s' h hs
 unfold z3k at h
 split at h
 ·cases h
 ·rename_i z s2 hz
  obtain ⟨h1,h2⟩:=hP _ _ _ hz hs
  obtain ⟨h3,h4⟩:=zdd hP hl _ _ _ _ _ h h1
  refine ⟨h3,fun h0=>?_⟩
  obtain ⟨h5,h6⟩:=h4 h0
  obtain ⟨h7,h8,h9⟩:=h2 h5
  obtain ⟨b3,b4⟩:=h6 h8
  exact ⟨h7,b3,by omega⟩
theorem zdf {P:P1} (hP:WfP P) {l:List z04} (hl:Lvl l):WfP (z6u P l):=by
 intro s x s' h hs
 unfold z6u at h
 split at h
 ·cases h
 ·rename_i z s2 hz
  obtain ⟨h1,h2⟩:=hP _ _ _ hz hs
  split at h
  ·rename_i hse
   obtain ⟨hp,hpl⟩:=h1.sees_any hl.ne hse
   split at h
   ·cases h
   ·rename_i y s3 hy
    obtain ⟨h3,h4⟩:=hP _ _ _ hy hp
    injection h with h
    injection h with e1 e2
    subst e1 e2
    refine ⟨h3,fun h0=>?_⟩
    obtain ⟨h5,h6,h7⟩:=h4 h0
    obtain ⟨h8,h9,h10⟩:=h2 h5
    obtain ⟨b1,b2⟩:=zca (hl _ (z7m hse)) h9 h6
    exact ⟨h8,b1,by omega⟩
  ·injection h with h
   injection h with e1 e2
   subst e1 e2
   exact ⟨h1,h2⟩
theorem z88 {E:P1} (hE:WfP E):WfP (z0X E):=by
 intro s x s' h hs
 unfold z0X at h
 split at h
 ·rename_i hk
  injection h with h
  injection h with e1 e2
  subst e1 e2
  have h2:=WFt.two hs.1 (.inr (by omega:(hdT s).kind≠0))
  have hv:=zd7 ((hs.2 _ hs.mem).2 (by omega)) hk
  exact ⟨hs.pop h2,fun h0=>⟨h0,.num _ _ (by omega) (by omega),by rw [z0W]; simp [ndX,ndL]; omega⟩⟩
 split at h
 ·rename_i hse
  obtain ⟨hp,hpl⟩:=hs.sees (by simp) hse
  obtain ⟨h1,h2⟩:=hp.expect
  injection h with h
  injection h with e1 e2
  subst e1 e2
  refine ⟨h1,fun h0=>?_⟩
  obtain ⟨h3,h4,h5,h6,h7⟩:=h2 h0
  exact ⟨h3,.fn _ _ (by rw [z5a,h6]; exact z5r h7 h5),by simp [ndX,ndL]; omega⟩
 split at h
 ·rename_i hse
  obtain ⟨hp,hpl⟩:=hs.sees (by simp) hse
  injection h with h
  injection h with e1 e2
  subst e1 e2
  exact ⟨hp,fun h0=>⟨h0,.rd _,by simp [ndX,ndL]; omega⟩⟩
 split at h
 ·rename_i hse
  obtain ⟨hp,hpl⟩:=hs.sees (by simp) hse
  split at h
  ·cases h
  ·rename_i z s2 hz
   obtain ⟨h1,h2⟩:=hE _ _ _ hz hp
   obtain ⟨h3,h4⟩:=h1.demand (t:=[41]) (by simp)
   injection h with h
   injection h with e1 e2
   subst e1 e2
   refine ⟨h3,fun h0=>?_⟩
   obtain ⟨h5,h6⟩:=h4 h0
   obtain ⟨h7,h8,h9⟩:=h2 h5
   exact ⟨h7,h8,by omega⟩
 obtain ⟨hp,hpe⟩:=hs.expect
 split at h
 ·rename_i hse
  obtain ⟨hp2,hpl⟩:=hp.sees (by simp) hse
  split at h
  ·cases h
  ·rename_i z s2 hz
   obtain ⟨h1,h2⟩:=hE _ _ _ hz hp2
   obtain ⟨h3,h4⟩:=h1.demand (t:=[93]) (by simp)
   injection h with h
   injection h with e1 e2
   subst e1 e2
   refine ⟨h3,fun h0=>?_⟩
   obtain ⟨h5,h6⟩:=h4 h0
   obtain ⟨h7,h8,h9⟩:=h2 h5
   obtain ⟨g1,g2,g3,g4,g5⟩:=hpe h7
   exact ⟨g1,.el _ _ _ (by rw [z5a,g4]; exact z5r g5 g3) h8,by simp [ndX,ndL]; omega⟩
 ·injection h with h
  injection h with e1 e2
  subst e1 e2
  refine ⟨hp,fun h0=>?_⟩
  obtain ⟨g1,g2,g3,g4,g5⟩:=hpe h0
  exact ⟨g1,.nam _ _ (by rw [z5a,g4]; exact z5r g5 g3),by simp [ndX,ndL]; omega⟩
theorem zde {E:P1} (hE:WfP E):∀ (n:Nat) (xs:List Ex) (s:PS) (ys:List Ex) (s':PS),z5H E n xs s=some (ys,s')→OkS s→OkS s'∧(s'.ref=0→s.ref=0∧((∀ x∈xs,WfX x)→(∀ y∈ys,WfX y)∧ndL ys+s'.rest.length≤ndL xs+s.rest.length∧xs.length≤ys.length)):=by
 intro n
 induction n with
 | zero=>intro x s y s' h; cases h
 | succ n ih =>
  intro xs s ys s' h hs
  rw [z5H] at h
  split at h
  ·rename_i hse
   obtain ⟨hp,hpl⟩:=hs.sees (by simp) hse
   split at h
   ·cases h
   ·rename_i z s2 hz
    obtain ⟨h1,h2⟩:=hE _ _ _ hz hp
    obtain ⟨h3,h4⟩:=ih _ _ _ _ h h1
    refine ⟨h3,fun h0=>?_⟩
    obtain ⟨h5,h6⟩:=h4 h0
    obtain ⟨h7,h8,h9⟩:=h2 h5
    refine ⟨h7,fun hx=>?_⟩
    obtain ⟨b1,b2,b3⟩:=h6 (fun y hy=>by
     rcases List.mem_append.1 hy with hy | hy
     ·exact hx y hy
     ·rw [List.mem_singleton] at hy
      subst hy
      exact h8)
    rw [z4C] at b2
    simp only [ndL,Nat.add_zero] at b2
    simp only [List.length_append,List.length_singleton] at b3
    exact ⟨b1,by omega,by omega⟩
  ·injection h with h
   injection h with e1 e2
   subst e1 e2
   exact ⟨hs,fun h0=>⟨h0,fun hx=>⟨hx,Nat.le_refl _,Nat.le_refl _⟩⟩⟩
theorem zdc {E:P1} (hE:WfP E) (xs:List Ex) (s:PS) (ys:List Ex) (s':PS) (h:z6m E xs s=some (ys,s')) (hs:OkS s):OkS s'∧(s'.ref=0→s.ref=0∧((∀ x∈xs,WfX x)→(∀ y∈ys,WfX y)∧ndL ys+s'.rest.length+1≤ndL xs+s.rest.length∧xs.length≤ys.length)):=by
 unfold z6m at h
 split at h
 ·rename_i hse
  obtain ⟨hp,hpl⟩:=hs.sees (by simp) hse
  injection h with h
  injection h with e1 e2
  subst e1 e2
  exact ⟨hp,fun h0=>⟨h0,fun hx=>⟨hx,by omega,Nat.le_refl _⟩⟩⟩
 ·split at h
  ·cases h
  ·rename_i z s2 hz
   obtain ⟨h1,h2⟩:=hE _ _ _ hz hs
   split at h
   ·cases h
   ·rename_i zs s3 hzs
    obtain ⟨h3,h4⟩:=zde hE _ _ _ _ _ hzs h1
    obtain ⟨h5,h6⟩:=h3.demand (t:=[41]) (by simp)
    injection h with h
    injection h with e1 e2
    subst e1 e2
    refine ⟨h5,fun h0=>?_⟩
    obtain ⟨q1,q2⟩:=h6 h0
    obtain ⟨q3,q4⟩:=h4 q1
    obtain ⟨q5,q6,q7⟩:=h2 q3
    refine ⟨q5,fun hx=>?_⟩
    obtain ⟨b1,b2,b3⟩:=q4 (fun y hy=>by
     rcases List.mem_append.1 hy with hy | hy
     ·exact hx y hy
     ·rw [List.mem_singleton] at hy
      subst hy
      exact q6)
    rw [z4C] at b2
    simp only [ndL,Nat.add_zero] at b2
    simp only [List.length_append,List.length_singleton] at b3
    exact ⟨b1,by omega,by omega⟩
theorem WfX.bare {k o a l:Int} {nm:ByteArray} {xs:List Ex} (h:WfX (.mk k o a l nm xs)) (hk:k=13):isNm nm.data.toList=true∧xs=[]:=by
 subst hk
 cases h with
 | nam _ _ h=>exact ⟨h,rfl⟩
theorem zbz {E:P1} (hE:WfP E) (bare:Bool):∀ (n:Nat) (x:Ex) (s:PS) (y:Ex) (s':PS),z1C E bare n x s=some (y,s')→OkS s→OkS s'∧(s'.ref=0→s.ref=0∧(WfX x→WfX y∧ndX y+s'.rest.length≤ndX x+s.rest.length)):=by
 intro n
 induction n with
 | zero=>intro x s y s' h; cases h
 | succ n ih =>
  intro x s y s' h hs
  obtain ⟨k,o,a,l,nm,xs,rfl⟩:∃ k o a l nm xs,x=.mk k o a l nm xs:=by
   cases x
   exact ⟨_,_,_,_,_,_,rfl⟩
  rw [z1C] at h
  split at h
  ·rename_i hse
   obtain ⟨hp,hpl⟩:=hs.sees (by simp) hse
   split at h
   ·cases h
   ·rename_i z s2 hz
    simp only [z7C] at hz
    split at hz
    ·cases hz
    ·rename_i ys s3 hys
     injection hz with hz
     injection hz with e1 e2
     subst e1 e2
     obtain ⟨h1,h2⟩:=zdc hE _ _ _ _ hys hp
     obtain ⟨h3,h4⟩:=ih _ _ _ _ h h1
     refine ⟨h3,fun h0=>?_⟩
     obtain ⟨h5,h6⟩:=h4 h0
     obtain ⟨h7,h8⟩:=h2 h5
     refine ⟨h7,fun hx=>?_⟩
     cases hb:(bare&&k == 13) with
     | true =>
      have hk:k=13:=by
       simp only [Bool.and_eq_true,beq_iff_eq] at hb
       exact hb.2
      obtain ⟨hn,hxs⟩:=hx.bare hk
      rw [hb] at h8 h6
      obtain ⟨b1,b2,b3⟩:=h8 (fun x hx=>by simp at hx)
      obtain ⟨b4,b5⟩:=h6 (.call _ _ _ (by simpa using hn) b1)
      simp only [if_true,ndL,ndX] at b2 b5 ⊢
      exact ⟨b4,by omega⟩
     | false =>
      rw [hb] at h8 h6
      simp only [Bool.false_eq_true,if_false] at h8 h6
      obtain ⟨b1,b2,b3⟩:=h8 (fun y hy=>by
       rw [List.mem_singleton] at hy
       subst hy
       exact hx)
      cases ys with
      | nil=>simp at b3
      | cons y0 yr =>
       obtain ⟨b4,b5⟩:=h6 (.val _ _ _ (b1 _ (by simp)) (fun y hy=>b1 y (by simp [hy])))
       simp only [ndL,ndX] at b2 b5 ⊢
       exact ⟨b4,by omega⟩
  ·injection h with h
   injection h with e1 e2
   subst e1 e2
   exact ⟨hs,fun h0=>⟨h0,fun hx=>⟨hx,Nat.le_refl _⟩⟩⟩
theorem zac {E:P1} (hE:WfP E):WfP (z33 E):=by
 intro s x s' h hs
 unfold z33 at h
 split at h
 ·cases h
 ·rename_i z s2 hz
  obtain ⟨h1,h2⟩:=z88 hE _ _ _ hz hs
  obtain ⟨h3,h4⟩:=zbz hE _ _ _ _ _ _ h h1
  refine ⟨h3,fun h0=>?_⟩
  obtain ⟨h5,h6⟩:=h4 h0
  obtain ⟨h7,h8,h9⟩:=h2 h5
  obtain ⟨b3,b4⟩:=h6 h8
  exact ⟨h7,b3,by omega⟩
theorem zbA {E:P1} (hE:WfP E):∀ n,WfP (z2x E n):=by
 intro n
 induction n with
 | zero=>intro s x s' h; cases h
 | succ n ih =>
  intro s x s' h hs
  rw [z2x] at h
  split at h
  ·rename_i hse
   obtain ⟨hp,hpl⟩:=hs.sees (by simp) hse
   split at h
   ·cases h
   ·rename_i z s2 hz
    obtain ⟨h1,h2⟩:=ih _ _ _ hz hp
    injection h with h
    injection h with e1 e2
    subst e1 e2
    refine ⟨h1,fun h0=>?_⟩
    obtain ⟨h7,h8,h9⟩:=h2 h0
    exact ⟨h7,.un 1 _ _ (by decide) (by decide) h8,by simp [ndX,ndL]; omega⟩
  split at h
  ·rename_i hse
   obtain ⟨hp,hpl⟩:=hs.sees (by simp) hse
   split at h
   ·cases h
   ·rename_i z s2 hz
    obtain ⟨h1,h2⟩:=ih _ _ _ hz hp
    injection h with h
    injection h with e1 e2
    subst e1 e2
    refine ⟨h1,fun h0=>?_⟩
    obtain ⟨h7,h8,h9⟩:=h2 h0
    exact ⟨h7,.un 2 _ _ (by decide) (by decide) h8,by simp [ndX,ndL]; omega⟩
  ·exact zac hE _ _ _ h hs
theorem zdb:∀ d,WfP (z6a d):=by
 intro d
 induction d with
 | zero=>intro s x s' h; cases h
 | succ d ih =>
  intro s x s' h hs
  exact z3I (z3I (zdf (z3I (z3I (fun s=>zbA ih (s.rest.length+1) s) (l:=[[42],[47],[37]]) (by unfold Lvl; decide)) (l:=[[43],[45]]) (by unfold Lvl; decide)) (l:=[[60],[60,61],[61,61],[33,61]]) (by unfold Lvl; decide)) (l:=[[38,38]]) (by unfold Lvl; decide)) (l:=[[124,124]]) (by unfold Lvl; decide) s x s' h hs
theorem zcF {l:z04} {x:Ex} (h:z2B l=.ok x):WfX x∧ndX x≤l.length+1:=by
 unfold z2B at h
 cases hs:scan 1 l with
 | error n=>rw [hs] at h; cases h
 | ok ts =>
  rw [hs] at h
  simp only at h
  have hok:OkS ⟨ts,0,0⟩:=by
   obtain ⟨h1,h2,_,h4⟩:=z5O hs
   rcases h4 with ⟨_,_,_,h4⟩ | ⟨h4,_⟩
   ·exact ⟨h1,fun t ht=>⟨h2 t ht,h4 t ht⟩⟩
   ·cases h4
  cases he:z6a ts.length ⟨ts,0,0⟩ with
  | none=>rw [he] at h; cases h
  | some p =>
   obtain ⟨y,s⟩:=p
   rw [he] at h
   simp only at h
   split at h
   ·rename_i h0
    injection h with h
    subst h
    obtain ⟨h1,h2⟩:=zdb _ _ _ _ he hok
    have hr:s.ref=0:=by
     unfold endP at h0
     split at h0
     ·exact h0
     ·exact absurd h0 h1.refuse.2
    obtain ⟨_,h3,h4⟩:=h2 hr
    have h5:=h1.1.pos
    have h6:=(z5U _ _ _ _ (Nat.le_refl _) hs).2
    exact ⟨h3,by show ndX y≤_; simp only at h4; omega⟩
   ·cases h
end Go.Proofs.YtkeihncfmbicnaaGreatDoor
namespace Go.Proofs.YtkeihncfmbicnaaGreatDoor
open Go.RowKit
theorem z5c {s:ByteArray} (h:isNm s.data.toList=true):s.size≤1000:=by
 rw [Lib.size_eq]
 cases e:s.data.toList with
 | nil=>simp
 | cons c r =>
  rw [e] at h
  simp only [isNm,Bool.and_eq_true,decide_eq_true_eq] at h
  simp only [List.length_cons]
  omega
theorem z6o {x:Ex}:∀ {xs:List Ex},x∈xs→ndX x≤ndL xs
 | [],h=>by simp at h
 | y :: r,h=>by
  simp only [ndL]
  rcases List.mem_cons.1 h with rfl | h
  ·omega
  ·have:=z6o h; omega
theorem z6n:∀ xs:List Ex,xs.length≤ndL xs
 | []=>by simp
 | y :: r=>by
  have:=z6n r
  have:=z9m y
  simp only [ndL,List.length_cons]
  omega
theorem zc1 {x:Ex} (h:WfX x):∀ d,Dp d x→ndX x≤1000→ShP d x:=by
 induction h with
 | num a l h1 h2 =>
  intro d hd hn
  cases d with
  | zero=>exact hd.elim
  | succ d=>exact ⟨by simp,by decide,h1,h2,by decide,by decide,fun x hx=>by simp at hx,.inl rfl⟩
 | nam l s h =>
  intro d hd hn
  cases d with
  | zero=>exact hd.elim
  | succ d=>exact ⟨by simp,z5c h,by decide,by decide,by decide,by decide,fun x hx=>by simp at hx,by simp⟩
 | fn l s h =>
  intro d hd hn
  cases d with
  | zero=>exact hd.elim
  | succ d=>exact ⟨by simp,z5c h,by decide,by decide,by decide,by decide,fun x hx=>by simp at hx,by simp⟩
 | rd l =>
  intro d hd hn
  cases d with
  | zero=>exact hd.elim
  | succ d=>exact ⟨by simp,by decide,by decide,by decide,by decide,by decide,fun x hx=>by simp at hx,by simp⟩
 | el l s x h hx ih =>
  intro d hd hn
  simp only [ndX,ndL] at hn
  cases d with
  | zero=>exact hd.elim
  | succ d=>exact ⟨by simp,z5c h,by decide,by decide,by decide,by decide,fun y hy=>by rw [List.mem_singleton] at hy; subst hy; exact ih d (hd y (by simp)) (by omega),by simp⟩
 | un o l x h1 h2 hx ih =>
  intro d hd hn
  simp only [ndX,ndL] at hn
  cases d with
  | zero=>exact hd.elim
  | succ d=>exact ⟨by simp,by decide,by decide,by decide,by omega,by omega,fun y hy=>by rw [List.mem_singleton] at hy; subst hy; exact ih d (hd y (by simp)) (by omega),by simp⟩
 | bin o l x y h1 h2 hx hy ih1 ih2 =>
  intro d hd hn
  simp only [ndX,ndL] at hn
  cases d with
  | zero=>exact hd.elim
  | succ d=>exact ⟨by simp,by decide,by decide,by decide,by omega,h2,fun z hz=>by
    simp only [List.mem_cons,List.not_mem_nil,or_false] at hz
    rcases hz with rfl | rfl
    ·exact ih1 d (hd _ (by simp)) (by omega)
    ·exact ih2 d (hd _ (by simp)) (by omega),by simp⟩
 | and_ l x y hx hy ih1 ih2 =>
  intro d hd hn
  simp only [ndX,ndL] at hn
  cases d with
  | zero=>exact hd.elim
  | succ d=>exact ⟨by simp,by decide,by decide,by decide,by decide,by decide,fun z hz=>by
    simp only [List.mem_cons,List.not_mem_nil,or_false] at hz
    rcases hz with rfl | rfl
    ·exact ih1 d (hd _ (by simp)) (by omega)
    ·exact ih2 d (hd _ (by simp)) (by omega),by simp⟩
 | or_ l x y hx hy ih1 ih2 =>
  intro d hd hn
  simp only [ndX,ndL] at hn
  cases d with
  | zero=>exact hd.elim
  | succ d=>exact ⟨by simp,by decide,by decide,by decide,by decide,by decide,fun z hz=>by
    simp only [List.mem_cons,List.not_mem_nil,or_false] at hz
    rcases hz with rfl | rfl
    ·exact ih1 d (hd _ (by simp)) (by omega)
    ·exact ih2 d (hd _ (by simp)) (by omega),by simp⟩
 | call l s xs h hxs ih =>
  intro d hd hn
  simp only [ndX] at hn
  cases d with
  | zero=>exact hd.elim
  | succ d =>
   have:=z6n xs
   exact ⟨by omega,z5c h,by decide,by decide,by decide,by decide,fun y hy=>ih y hy d (hd y hy) (by have:=z6o hy; omega),by simp⟩
 | val l x xs hx hxs ih1 ih2 =>
  intro d hd hn
  simp only [ndX,ndL] at hn
  cases d with
  | zero=>exact hd.elim
  | succ d =>
   have:=z6n xs
   have:=z9m x
   exact ⟨by simp; omega,by decide,by decide,by decide,by decide,by decide,fun y hy=>by
    rcases List.mem_cons.1 hy with rfl | hy
    ·exact ih1 d (hd _ (by simp)) (by omega)
    ·exact ih2 y hy d (hd y (by simp [hy])) (by have:=z6o hy; omega),by simp⟩
end Go.Proofs.YtkeihncfmbicnaaGreatDoor
namespace Go.Proofs.YtkeihncfmbicnaaGreatDoor
open Go.RowKit
theorem zap {W a b:World} {g:Nat} (h:Below W.heap.size W a) (hg:a.grownBy b (some g)) (hW:W.heap.size≤g):Below W.heap.size W b :=
 h.trans (z09 hg (fun k hk=>by injection hk with hk; omega) h.size)
theorem PowT.lt {w:World} (h:PowT w):0<w.heap.size:=by
 unfold PowT Lib.TabIs World.var? at h
 rw [gTab] at h
 simp only [Option.bind_some] at h
 rcases Nat.lt_or_ge 0 w.heap.size with h' | h'
 ·exact h'
 ·rw [Array.getElem?_eq_none h'] at h; cases h
theorem PowT.low {w w':World} (h:PowT w) (hb:Below w.heap.size w w'):PowT w':=h.next hb h.lt
theorem PowT.gp {a b:World} {g:Nat} (h:PowT a) (hg:a.grownBy b (some g)) (h1:0<g):PowT b :=
 h.next (B:=0+1) (z09 hg (fun k hk=>by injection hk with hk; omega) (by have:=h.lt; omega)) (Nat.lt_succ_self _)
theorem zbs:(Rows.laid_internal_strconv_uint64pow10:DataW Unit)=Lib.tabData .u64 Lib.pow10Tab:=by
 unfold Rows.laid_internal_strconv_uint64pow10 Lib.tabData Lib.pow10Tab
 simp [List.range,List.range.loop]
theorem zaE:(Tryz.prog.globals[0]?).map (·.type)=some 147:=by kernel_rfl
theorem zcr {x:Ex} (h:WfX x):∀ d,Dp d x→(fmtE d x).length+10≤60 * ndX x:=by
 have ol:∀ (d:Nat) (y:Ex),(opd d y).length≤(fmtE d y).length+2:=fun d y=>by
  unfold opd
  split
  ·simp
  ·omega
 have nl:∀ {s:ByteArray},isNm s.data.toList=true→s.data.toList.length≤32:=fun {s} h=>by
  cases e:s.data.toList with
  | nil=>simp
  | cons c r =>
   rw [e] at h
   simp only [isNm,Bool.and_eq_true,decide_eq_true_eq] at h
   simp only [List.length_cons]
   omega
 have ll:∀ (d:Nat) (l:List Ex),(∀ y∈l,(fmtE d y).length+10≤60 * ndX y)→(lst d l).length≤2+60 * ndL l:=fun d l hl=>by
  have hm:∀ l:List Ex,(∀ y∈l,(fmtE d y).length+10≤60 * ndX y)→((l.map (fmtE d)).flatMap (fun y=>[44,32]++y)).length≤60 * ndL l:=by
   intro l
   induction l with
   | nil=>intro _; simp
   | cons y l ih =>
    intro h
    have h1:=h y (by simp)
    have h2:=ih (fun z hz=>h z (by simp [hz]))
    simp only [List.map_cons,List.flatMap_cons,List.length_append,List.length_cons,List.length_nil,ndL] at h2 ⊢
    omega
  unfold lst
  cases l with
  | nil=>simp [List.intercalate]
  | cons y l =>
   have h1:=hl y (by simp)
   have h2:=hm l (fun z hz=>hl z (by simp [hz]))
   simp only [List.map_cons,z35,List.length_cons,List.length_append,List.length_nil,ndL]
   omega
 induction h with
 | num a l h1 h2 =>
  intro d hd
  cases d with
  | zero=>exact hd.elim
  | succ d =>
   have e:fmtE (d+1) (.mk 1 0 a l ⟨#[]⟩ [])=numL (max a 0).toNat:=by simp [fmtE]
   have:=z0P (n:=(max a 0).toNat) (by omega)
   rw [e]
   simp only [ndX,ndL]
   omega
 | nam l s h =>
  intro d hd
  cases d with
  | zero=>exact hd.elim
  | succ d =>
   have e:fmtE (d+1) (.mk 13 0 0 l s [])=s.data.toList:=by simp [fmtE]
   have:=nl h
   rw [e]
   simp only [ndX,ndL]
   omega
 | fn l s h =>
  intro d hd
  cases d with
  | zero=>exact hd.elim
  | succ d =>
   have e:fmtE (d+1) (.mk 11 0 0 l s [])=38 :: s.data.toList:=by simp [fmtE]
   have:=nl h
   rw [e]
   simp only [ndX,ndL,List.length_cons]
   omega
 | rd l =>
  intro d hd
  cases d with
  | zero=>exact hd.elim
  | succ d =>
   have e:fmtE (d+1) (.mk 12 0 0 l ⟨#[]⟩ [])=[114,101,97,100]:=by simp [fmtE]
   rw [e]
   simp [ndX,ndL]
 | el l s x h hx ih =>
  intro d hd
  cases d with
  | zero=>exact hd.elim
  | succ d =>
   have h1:=ih d (hd x (by simp))
   have:=nl h
   rw [zdx]
   simp only [ndX,ndL,List.length_append,List.length_cons,List.length_nil]
   omega
 | un o l x h1 h2 hx ih =>
  intro d hd
  cases d with
  | zero=>exact hd.elim
  | succ d =>
   have h3:=ih d (hd x (by simp))
   have h4:=ol d x
   have h5:(z0U o).length≤2:=z3f 5 o
   rw [zdz]
   simp only [ndX,ndL,List.length_append]
   omega
 | bin o l x y h1 h2 hx hy ih1 ih2 =>
  intro d hd
  cases d with
  | zero=>exact hd.elim
  | succ d =>
   have h3:=ih1 d (hd x (by simp))
   have h4:=ih2 d (hd y (by simp))
   have h5:=ol d x
   have h6:=ol d y
   have h7:(z0U o).length≤2:=z3f 5 o
   rw [zbQ]
   simp only [ndX,ndL,List.length_append,List.length_cons,List.length_nil]
   omega
 | and_ l x y hx hy ih1 ih2 =>
  intro d hd
  cases d with
  | zero=>exact hd.elim
  | succ d =>
   have h3:=ih1 d (hd x (by simp))
   have h4:=ih2 d (hd y (by simp))
   have h5:=ol d x
   have h6:=ol d y
   rw [zbP]
   simp only [ndX,ndL,List.length_append,List.length_cons,List.length_nil]
   omega
 | or_ l x y hx hy ih1 ih2 =>
  intro d hd
  cases d with
  | zero=>exact hd.elim
  | succ d =>
   have h3:=ih1 d (hd x (by simp))
   have h4:=ih2 d (hd y (by simp))
   have h5:=ol d x
   have h6:=ol d y
   rw [zdy]
   simp only [ndX,ndL,List.length_append,List.length_cons,List.length_nil]
   omega
 | call l s xs h hxs ih =>
  intro d hd
  cases d with
  | zero=>exact hd.elim
  | succ d =>
   have h1:=ll d xs (fun y hy=>ih y hy d (hd y hy))
   have:=nl h
   rw [z8E]
   simp only [ndX,List.length_append]
   omega
 | val l x xs hx hxs ih1 ih2 =>
  intro d hd
  cases d with
  | zero=>exact hd.elim
  | succ d =>
   have h1:=ll d xs (fun y hy=>ih2 y hy d (hd y (by simp [hy])))
   have h3:=ih1 d (hd x (by simp))
   have h5:=ol d x
   rw [zbS]
   simp only [ndX,ndL,List.length_append]
   split
   ·simp only [List.length_cons,List.length_append,List.length_nil]
    omega
   ·omega
theorem zdC {x:Ex} (h:WfX x) {d:Nat} (hd:Dp d x):fmtE d x≠[]:=by
 obtain ⟨c,r,e,_⟩:=(zcs h d hd).2
 rw [e]
 simp
theorem zaU {l:z04} {n c:Nat} (h:z2B l=.error (n,c)):c=6∨c=7:=by
 unfold z2B at h
 cases hs:scan 1 l with
 | error k=>rw [hs] at h; injection h with h; injection h with _ h; exact .inl h.symm
 | ok ts =>
  rw [hs] at h
  obtain ⟨x,s,y,r,h1,_⟩:=z5z hs
  simp only [h1] at h
  split at h
  ·cases h
  ·injection h with h; injection h with _ h; exact .inr h.symm
def tree5:Ex:=.mk 6 3 0 1 ⟨#[]⟩ [.mk 1 0 1 1 ⟨#[]⟩ [],.mk 6 5 0 1 ⟨#[]⟩ [.mk 1 0 2 1 ⟨#[]⟩ [],.mk 1 0 3 1 ⟨#[]⟩ []]]
def ts5:List Tok:=[⟨2,1,1,[49]⟩,⟨4,1,0,[43]⟩,⟨2,1,2,[50]⟩,⟨4,1,0,[42]⟩,⟨2,1,3,[51]⟩,⟨0,1,0,[]⟩]
theorem zdV:z2B [49,43,50,42,51]=.ok tree5:=by
 have hs:scan 1 [49,43,50,42,51]=.ok ts5:=by
  rw [← z2V 6 1 _ (by decide)]
  kernel_rfl
 have he:z6a ts5.length ⟨ts5,0,0⟩=some (tree5,⟨[⟨0,1,0,[]⟩],0,0⟩):=by kernel_rfl
 unfold z2B
 rw [hs]
 simp only [he]
 rfl
theorem wf_5:WfX tree5:=.bin 3 1 _ _ (by decide) (by decide) (.num 1 1 (by decide) (by decide)) (.bin 5 1 _ _ (by decide) (by decide) (.num 2 1 (by decide) (by decide)) (.num 3 1 (by decide) (by decide)))
theorem nl_1:numL (max (1:Int) 0).toNat=[49]:=by
 rw [show (max (1:Int) 0).toNat=1 from rfl,numL]
 rfl
theorem nl_2:numL (max (2:Int) 0).toNat=[50]:=by
 rw [show (max (2:Int) 0).toNat=2 from rfl,numL]
 rfl
theorem nl_3:numL (max (3:Int) 0).toNat=[51]:=by
 rw [show (max (3:Int) 0).toNat=3 from rfl,numL]
 rfl
theorem zcq:∀ d,Dp d tree5→fmtE d tree5=[49,32,43,32,40,50,32,42,32,51,41]
 | 0,h=>h.elim
 | 1,h=>((h:∀ x∈_,Dp 0 x) _ (List.mem_cons_self ..)).elim
 | 2,h=>by
  have h1:=(h:∀ x∈_,Dp 1 x) (.mk 6 5 0 1 ⟨#[]⟩ [.mk 1 0 2 1 ⟨#[]⟩ [],.mk 1 0 3 1 ⟨#[]⟩ []]) (by simp)
  exact ((h1:∀ x∈_,Dp 0 x) _ (List.mem_cons_self ..)).elim
 | d+3,_=>by
  simp [tree5,fmtE,z0l,Ex.kind,z0U,nl_1,nl_2,nl_3]
set_option maxRecDepth 100000 in
set_option maxHeartbeats 2000000 in
theorem z8i (w:World) (ht:PowT w):Calls Tryz.prog 4 #[] w (RetV (.bool true) w):=by
 have HP:=zhi (z3Z ⟨#[49,43,50,42,51]⟩ w (by decide))
 have HT:=zhi ht
 have hlt:=ht.lt
 clear ht
 go_enter Tryz.func4,Tryz.ntmps4
 go_wp2_with fail
 refine HP.out.mono ?_
 rintro e w1 ⟨d,k,o,a,l,nm,A,n,c,rfl,hx,hb⟩
 have hm:z2B (⟨#[49,43,50,42,51]⟩:ByteArray).data.toList=.ok tree5:=zdV
 rw [hm] at hx ⊢
 have hx2:ExV (fun q=>w.heap.size≤q∧q<w1.heap.size) w1 d tree5 (.agg #[.int .i64 k,.int .i64 o,.int .i64 a,.int .i64 l,.string nm,.slice A n c]):=hx.out
 have hd:=zcl hx2
 have hb1:=(Below.refl _ w1).alloc (Nat.le_refl _) (.cells #[.int .i64 k,.int .i64 o,.int .i64 a,.int .i64 l,.string nm,.slice A n c] 37)
 have hbb:=z02 hb hb1
 have hr:=heap_alloc_new w1 (.cells #[.int .i64 k,.int .i64 o,.int .i64 a,.int .i64 l,.string nm,.slice A n c] 37)
 have HE:=zhi (z3b (fun q=>w.heap.size≤q∧q<w1.heap.size) d tree5 k o a l nm A n c _ (hx2.keep (fun _ h=>h) (fun q hq=>hb1.block q hq.2)) (fun q hq=>Nat.lt_of_lt_of_le hq.2 hb1.size) (zc1 wf_5 d hd (by decide)) (HT.out.low hbb) (Nat.lt_of_lt_of_le hlt hbb.size) (by rw [zcq d hd]; decide) (by rw [zcq d hd]; simp))
 rw [zcq d hd] at HE
 obtain ⟨j0,j1,j2,j3,j4,j5⟩:=cl6 hr
 have HB:=zhi hbb
 clear HP hx hx2 hd hb hb1 hbb hr hm
 go_wp2_with fail
 refine HE.out.mono ?_
 rintro e w2 ⟨t,rfl,ht,hb2⟩
 have HB2:=zhi (z02 HB.out hb2)
 obtain rfl:t=⟨#[49,32,43,32,40,50,32,42,32,51,41]⟩:=zcj ht.out
 clear hb2 HE HB ht j0 j1 j2 j3 j4 j5
 go_wp2_with fail
 go_ret
 exact ⟨rfl,HB2.out⟩
end Go.Proofs.YtkeihncfmbicnaaGreatDoor
