/-
  Ka: TokMath, Words, TokMap, Tok, Tok2, Base. Walks and laws that the statement's proof is made of. No condition of its own.
-/
import Derived.Lib.AtoiAll
import Derived.Lib.AtoiAllCases
import Derived.WalkKit
import Derived.WalkSpells
import Derived.ArgAppend
import Derived.Deep.Draws
import Derived.Maps.AppendAt
import Derived.Lib.Hide
import Derived.Outline
import Derived.Test.YtdplfnemedckaaaGreatDoorRows
import Derived.Maps.OwnSet
import Derived.StringKeys
import Derived.KernelRfl
import Derived.Test.YtdplfnemedckaaaGreatDoorKab
import Derived.Deep.QuietTactic
import Derived.BigQuiet
namespace Go.Proofs.YtdplfnemedckaaaGreatDoor
open Go.RowKit
theorem cl2 {w : World} {b : Nat} {cs : Array Value} {t : TypeId} (h : w.heap[b]? = some (.cells cs t (0, 0))) : w.cell? ⟨b, 0, none⟩ = cs[0]? ∧ w.cell? ⟨b, 1, none⟩ = cs[1]? := ⟨cell_of_row _ _ 0 _ _ _ h, cell_of_row _ _ 1 _ _ _ h⟩
theorem cl3 {w : World} {b : Nat} {cs : Array Value} {t : TypeId} (h : w.heap[b]? = some (.cells cs t (0, 0))) : w.cell? ⟨b, 0, none⟩ = cs[0]? ∧ w.cell? ⟨b, 1, none⟩ = cs[1]? ∧ w.cell? ⟨b, 2, none⟩ = cs[2]? := ⟨cell_of_row _ _ 0 _ _ _ h, cell_of_row _ _ 1 _ _ _ h, cell_of_row _ _ 2 _ _ _ h⟩
theorem cl4 {w : World} {b : Nat} {cs : Array Value} {t : TypeId} (h : w.heap[b]? = some (.cells cs t (0, 0))) : w.cell? ⟨b, 0, none⟩ = cs[0]? ∧ w.cell? ⟨b, 1, none⟩ = cs[1]? ∧ w.cell? ⟨b, 2, none⟩ = cs[2]? ∧ w.cell? ⟨b, 3, none⟩ = cs[3]? := ⟨cell_of_row _ _ 0 _ _ _ h, cell_of_row _ _ 1 _ _ _ h, cell_of_row _ _ 2 _ _ _ h, cell_of_row _ _ 3 _ _ _ h⟩
theorem cl5 {w : World} {b : Nat} {cs : Array Value} {t : TypeId} (h : w.heap[b]? = some (.cells cs t (0, 0))) : w.cell? ⟨b, 0, none⟩ = cs[0]? ∧ w.cell? ⟨b, 1, none⟩ = cs[1]? ∧ w.cell? ⟨b, 2, none⟩ = cs[2]? ∧ w.cell? ⟨b, 3, none⟩ = cs[3]? ∧ w.cell? ⟨b, 4, none⟩ = cs[4]? := ⟨cell_of_row _ _ 0 _ _ _ h, cell_of_row _ _ 1 _ _ _ h, cell_of_row _ _ 2 _ _ _ h, cell_of_row _ _ 3 _ _ _ h, cell_of_row _ _ 4 _ _ _ h⟩
theorem cl6 {w : World} {b : Nat} {cs : Array Value} {t : TypeId} (h : w.heap[b]? = some (.cells cs t (0, 0))) : w.cell? ⟨b, 0, none⟩ = cs[0]? ∧ w.cell? ⟨b, 1, none⟩ = cs[1]? ∧ w.cell? ⟨b, 2, none⟩ = cs[2]? ∧ w.cell? ⟨b, 3, none⟩ = cs[3]? ∧ w.cell? ⟨b, 4, none⟩ = cs[4]? ∧ w.cell? ⟨b, 5, none⟩ = cs[5]? := ⟨cell_of_row _ _ 0 _ _ _ h, cell_of_row _ _ 1 _ _ _ h, cell_of_row _ _ 2 _ _ _ h, cell_of_row _ _ 3 _ _ _ h, cell_of_row _ _ 4 _ _ _ h, cell_of_row _ _ 5 _ _ _ h⟩
theorem zhi {p : Prop} (h : p) : Hid p := Lib.hid h
end Go.Proofs.YtdplfnemedckaaaGreatDoor
namespace Go.Proofs.YtdplfnemedckaaaGreatDoor
abbrev z03:=List UInt8
def letter (c:UInt8):Bool:=(decide (97≤c.toNat)&&decide (c.toNat≤122))||(decide (65≤c.toNat)&&decide (c.toNat≤90))
def digit (c:UInt8):Bool:=decide (48≤c.toNat)&&decide (c.toNat≤57)
def wordy (c:UInt8):Bool:=letter c||digit c||decide (c.toNat=95)
def z96:List z03:=[[102,117,110,99],[103,108,111,98,97,108],[118,97,114],[105,102],[101,108,115,101],[119,104,105,108,101],[114,101,116,117,114,110],[112,114,105,110,116],[99,97,108,108],[114,101,97,100]]
def z5a:List z03:=[[40],[41],[123],[125],[91],[93],[44],[59],[61],[43],[45],[42],[47],[37],[60],[60,61],[61,61],[33,61],[38,38],[124,124],[33],[38]]
def isW (l:z03):Bool:=z96.contains l
def isS (l:z03):Bool:=z5a.contains l
structure Tok where
 kind:Nat
 line:Nat
 value:Nat
 text:z03
 deriving DecidableEq
def num (n:Nat):z03→Option Nat
 | []=>some n
 | c :: r=>if (9223372036854775807 - (c.toNat - 48)) / 10<n then none else num (10 * n+(c.toNat - 48)) r
def val (t:z03):Option Nat :=
 match Lib.atoiAll t with
 | .ok v=>some v.toNat
 | _=>none
theorem z8K:∀ (l:z03) (acc u:Nat),Lib.parseUint10 acc l=.ok u→acc≤u
 | [],acc,u,h=>by simp only [Lib.parseUint10] at h; injection h with h; omega
 | c :: r,acc,u,h=>by
  simp only [Lib.parseUint10] at h
  split at h
  ·split at h
   ·cases h
   ·split at h
    ·cases h
    ·have:=z8K r _ u h
     omega
  ·cases h
theorem z4q:∀ (l:z03) (acc u:Nat),Lib.parseUint10 acc l=.ok u→∀ c∈l,digit c=true
 | [],acc,u,h=>by simp
 | c :: r,acc,u,h=>by
  simp only [Lib.parseUint10] at h
  split at h
  ·rename_i hc
   split at h
   ·cases h
   ·split at h
    ·cases h
    ·intro x hx
     rcases List.mem_cons.1 hx with rfl | hx
     ·simp [digit,hc]
     ·exact z4q r _ u h x hx
  ·cases h
def small:Lib.NumEnd Nat→Option Nat
 | .ok u=>if 9223372036854775808≤u then none else some u
 | _=>none
theorem z9S {l:z03} {acc:Nat} (h:9223372036854775808≤acc):small (Lib.parseUint10 acc l)=none:=by
 cases e:Lib.parseUint10 acc l with
 | ok u=>have:=z8K l acc u e; simp [small]; omega
 | _=>rfl
theorem zem:∀ (l:z03) (acc:Nat),(∀ c∈l,digit c=true)→acc≤9223372036854775807→num acc l=small (Lib.parseUint10 acc l)
 | [],acc,_,h=>by simp [num,Lib.parseUint10,small]; omega
 | c :: r,acc,hd,h=>by
  have hc:=hd c (by simp)
  simp only [digit,Bool.and_eq_true,decide_eq_true_eq] at hc
  have e1:48≤c.toNat∧c.toNat≤57:=hc
  simp only [num,Lib.parseUint10]
  rw [if_pos e1]
  by_cases hb:(9223372036854775807 - (c.toNat - 48)) / 10<acc
  ·rw [if_pos hb]
   split
   ·rfl
   ·split
    ·rfl
    ·rw [z9S (by omega)]
  ·rw [if_neg hb,if_neg (by omega),if_neg (by omega)]
   have:=zem r (10 * acc+(c.toNat - 48)) (fun x hx=>hd x (by simp [hx])) (by omega)
   rw [this,Nat.mul_comm]
theorem z3r {c:UInt8} (h:digit c=true):48≤c.toNat∧c.toNat≤57:=by
 simpa only [digit,Bool.and_eq_true,decide_eq_true_eq] using h
theorem zeD {c:UInt8} {r:z03} (h:digit c=true):val (c :: r)=small (Lib.parseUint10 0 (c :: r)):=by
 have hc:=z3r h
 unfold val
 rw [Lib.atoiAll_plain c r (by omega) (by omega)]
 simp only [Lib.parseMag,if_neg (List.cons_ne_nil c r)]
 cases Lib.parseUint10 0 (c :: r) with
 | ok u =>
  simp only [Lib.signless,small]
  by_cases hu:9223372036854775808≤u
  ·simp [hu]
  ·simp [hu]
 | _=>rfl
theorem z8e {c:UInt8} {r:z03} (h:digit c=true) (hr:∀ x∈r,digit x=true):val (c :: r)=num 0 (c :: r):=by
 rw [zeD h,zem (c :: r) 0 (fun x hx=>by rcases List.mem_cons.1 hx with rfl | hx; exact h; exact hr x hx) (by omega)]
theorem ze2 {c x:UInt8} {r:z03} (h:digit c=true) (hx:x∈r) (hn:digit x=false):val (c :: r)=none:=by
 rw [zeD h]
 cases e:Lib.parseUint10 0 (c :: r) with
 | ok u =>
  have:=z4q _ _ _ e x (by simp [hx])
  rw [this] at hn
  cases hn
 | _=>rfl
def plen (l:z03):Nat :=
 match l with
 | []=>0
 | c :: _=>if letter c||digit c then (l.takeWhile wordy).length else if decide (2≤l.length)&&isS (l.take 2) then 2 else if isS (l.take 1) then 1 else 0
def pmean (t:z03):Option (Nat × Nat) :=
 match t with
 | []=>none
 | c :: r=>if isS t then some (4,0) else if isW t then some (3,0) else if digit c then (if decide (1<(c :: r).length)&&decide (c.toNat=48) then none else (val t).map fun v=>(2,v)) else if (c :: r).length≤32 then some (1,0) else none
def rnext (l:z03):Option (Nat × Nat × Nat) :=
 match l with
 | []=>none
 | c :: _ =>
  if letter c then (if isW (l.takeWhile wordy) then some (3,0,(l.takeWhile wordy).length) else if (l.takeWhile wordy).length≤32 then some (1,0,(l.takeWhile wordy).length) else none)
  else if digit c then
   (match num 0 (l.takeWhile digit) with
    | none=>none
    | some v=>if (match l.drop (l.takeWhile digit).length with | []=>false | x :: _=>letter x||decide (x.toNat=95))||(decide (c.toNat=48)&&decide (1<(l.takeWhile digit).length)) then none else some (2,v,(l.takeWhile digit).length))
  else if decide (2≤l.length)&&isS (l.take 2) then some (4,0,2) else if isS (l.take 1) then some (4,0,1) else none
theorem z3l {α:Type} (p:α→Bool):∀ l:List α,l.take (l.takeWhile p).length=l.takeWhile p
 | []=>rfl
 | a :: r=>by
  by_cases h:p a=true
  ·simp [h,z3l p r]
  ·simp [h]
theorem zau {α:Type} (p:α→Bool):∀ l:List α,l.drop (l.takeWhile p).length=l.dropWhile p
 | []=>rfl
 | a :: r=>by
  by_cases h:p a=true
  ·simp [h,zau p r]
  ·simp [h]
theorem zav {α:Type} (p:α→Bool):∀ (l:List α) (x:α) (r:List α),l.dropWhile p=x :: r→p x=false
 | [],x,r,h=>by simp at h
 | a :: l,x,r,h=>by
  by_cases hp:p a=true
  ·rw [List.dropWhile_cons,if_pos hp] at h; exact zav p l x r h
  ·rw [List.dropWhile_cons,if_neg hp] at h
   injection h with h1 h2
   subst h1
   simpa using hp
theorem z4W {c:UInt8} (h:letter c=true):(97≤c.toNat∧c.toNat≤122)∨(65≤c.toNat∧c.toNat≤90):=by
 simpa only [letter,Bool.and_eq_true,Bool.or_eq_true,decide_eq_true_eq] using h
theorem zda:∀ l∈z5a,∃ c r,l=c :: r∧letter c=false∧digit c=false:=by
 unfold z5a
 intro l hl
 simp only [List.mem_cons,List.not_mem_nil,or_false] at hl
 rcases hl with rfl|rfl|rfl|rfl|rfl|rfl|rfl|rfl|rfl|rfl|rfl|rfl|rfl|rfl|rfl|rfl|rfl|rfl|rfl|rfl|rfl|rfl <;> exact ⟨_,_,rfl,by decide,by decide⟩
theorem z4g {c:UInt8} {r:z03} (h:(letter c||digit c)=true):isS (c :: r)=false:=by
 cases e:isS (c :: r) with
 | false=>rfl
 | true =>
  obtain ⟨c',r',he,h1,h2⟩:=zda (c :: r) (by simpa [isS] using e)
  injection he with he _
  subst he
  simp [h1,h2] at h
theorem zdb:∀ l∈z96,∃ c r,l=c :: r∧digit c=false:=by
 unfold z96
 intro l hl
 simp only [List.mem_cons,List.not_mem_nil,or_false] at hl
 rcases hl with rfl|rfl|rfl|rfl|rfl|rfl|rfl|rfl|rfl|rfl <;> exact ⟨_,_,rfl,by decide⟩
theorem z62 {c:UInt8} {r:z03} (h:digit c=true):isW (c :: r)=false:=by
 cases e:isW (c :: r) with
 | false=>rfl
 | true =>
  obtain ⟨c',r',he,h1⟩:=zdb (c :: r) (by simpa [isW] using e)
  injection he with he _
  subst he
  rw [h] at h1; cases h1
theorem z32 {c:UInt8} (h:letter c=true):digit c=false:=by
 have:=z4W h
 cases e:digit c with
 | false=>rfl
 | true=>have:=z3r e; omega
theorem zg5 {α:Type} {p q:α→Bool} (hpq:∀ a,p a=true→q a=true):∀ (l:List α),(match l.dropWhile p with | []=>true | x :: _=>!q x)=true→l.takeWhile q=l.takeWhile p
 | [],_=>rfl
 | a :: r,h=>by
  by_cases hp:p a=true
  ·rw [List.dropWhile_cons,if_pos hp] at h
   rw [List.takeWhile_cons,List.takeWhile_cons,if_pos hp,if_pos (hpq a hp),zg5 hpq r h]
  ·rw [List.dropWhile_cons,if_neg hp] at h
   have hq:q a=false:=by simpa using h
   rw [List.takeWhile_cons,List.takeWhile_cons,if_neg hp,if_neg (by simp [hq])]
theorem zeA {α:Type} {p q:α→Bool} (hpq:∀ a,p a=true→q a=true):∀ (l:List α) (x:α) (r:List α),l.dropWhile p=x :: r→q x=true→x∈l.takeWhile q
 | [],x,r,h,_=>by simp at h
 | a :: l,x,r,h,hq=>by
  by_cases hp:p a=true
  ·rw [List.dropWhile_cons,if_pos hp] at h
   rw [List.takeWhile_cons,if_pos (hpq a hp)]
   exact List.mem_cons_of_mem _ (zeA hpq l x r h hq)
  ·rw [List.dropWhile_cons,if_neg hp] at h
   injection h with h1 h2
   subst h1
   rw [List.takeWhile_cons,if_pos hq]
   simp
theorem z5G {α:Type} (p:α→Bool):∀ (l:List α) (x:α),x∈l.takeWhile p→p x=true
 | [],x,h=>by simp at h
 | a :: r,x,h=>by
  rw [List.takeWhile_cons] at h
  split at h
  ·rename_i ha
   rcases List.mem_cons.1 h with rfl | h
   ·exact ha
   ·exact z5G p r x h
  ·simp at h
theorem z4i (l:z03):rnext l=(pmean (l.take (plen l))).map fun x=>(x.1,x.2,plen l):=by
 match l with
 | []=>rfl
 | c :: r =>
  by_cases hl:letter c=true
  ·have hd:=z32 hl
   have hw:wordy c=true:=by simp [wordy,hl]
   simp only [rnext,plen,hl,Bool.true_or,if_true]
   rw [z3l]
   rw [List.takeWhile_cons,if_pos hw]
   simp only [pmean,z4g (c:=c) (r:=r.takeWhile wordy) (by simp [hl]),hd]
   by_cases h1:isW (c :: r.takeWhile wordy)=true
   ·simp [h1]
   ·by_cases h2:(c :: r.takeWhile wordy).length≤32
    ·simp [h1]
    ·simp [h1]
  ·have hl:letter c=false:=by simpa using hl
   by_cases hd:digit c=true
   ·have hw:wordy c=true:=by simp [wordy,hd]
    simp only [rnext,plen,hl,hd,Bool.or_true,if_true,Bool.false_eq_true,if_false]
    rw [z3l,zau]
    have hpq:∀ a,digit a=true→wordy a=true:=fun a h=>by simp [wordy,h]
    cases e:(c :: r).dropWhile digit with
    | nil =>
     have htw:=zg5 hpq (c :: r) (by rw [e])
     rw [htw,List.takeWhile_cons,if_pos hd]
     simp only [pmean,z4g (c:=c) (r:=r.takeWhile digit) (by simp [hd]),z62 (c:=c) (r:=r.takeWhile digit) hd,hd]
     rw [z8e hd (fun x hx=>z5G _ _ _ hx)]
     generalize decide (1<(c :: r.takeWhile digit).length)=X
     generalize decide (c.toNat=48)=Y
     cases num 0 (c :: r.takeWhile digit) <;> cases X <;> cases Y <;> rfl
    | cons x r' =>
     have hx:=zav digit _ _ _ e
     by_cases hq:wordy x=true
     ·have hm:=zeA hpq (c :: r) x r' e hq
      have e1:(c :: r).takeWhile wordy=c :: r.takeWhile wordy:=by rw [List.takeWhile_cons,if_pos hw]
      rw [e1] at hm ⊢
      have hm':x∈r.takeWhile wordy:=by
       rcases List.mem_cons.1 hm with rfl | hm
       ·rw [hd] at hx; cases hx
       ·exact hm
      simp only [pmean,z4g (c:=c) (r:=r.takeWhile wordy) (by simp [hd]),z62 (c:=c) (r:=r.takeWhile wordy) hd,hd,ze2 hd hm' hx]
      have hlx:(letter x||decide (x.toNat=95))=true:=by
       simpa [wordy,hx] using hq
      cases num 0 (List.takeWhile digit (c :: r)) <;> simp [hlx]
     ·have hq:wordy x=false:=by simpa using hq
      have hlx:(letter x||decide (x.toNat=95))=false:=by
       have:=hq
       simp only [wordy,hx,Bool.or_false] at this
       exact this
      have htw:=zg5 hpq (c :: r) (by rw [e]; simp [hq])
      rw [htw,List.takeWhile_cons,if_pos hd]
      simp only [pmean,z4g (c:=c) (r:=r.takeWhile digit) (by simp [hd]),z62 (c:=c) (r:=r.takeWhile digit) hd,hd]
      rw [z8e hd (fun x hx=>z5G _ _ _ hx)]
      simp only [hlx]
      generalize decide (1<(c :: r.takeWhile digit).length)=X
      generalize decide (c.toNat=48)=Y
      cases num 0 (c :: r.takeWhile digit) <;> cases X <;> cases Y <;> rfl
   ·have hd:digit c=false:=by simpa using hd
    have hnn:∀ n,n≠0→(c :: r).take n≠[]:=fun n hn=>by cases n with | zero=>exact absurd rfl hn | succ n=>simp
    simp only [rnext,plen,hl,hd,Bool.or_false,Bool.false_eq_true,if_false]
    by_cases h2:(decide (2≤(c :: r).length)&&isS ((c :: r).take 2))=true
    ·rw [if_pos h2,if_pos h2]
     simp only [Bool.and_eq_true] at h2
     have h2':=h2.2
     simp only [List.take_succ_cons] at h2' ⊢
     simp [pmean,h2']
    ·rw [if_neg h2,if_neg h2]
     by_cases h3:isS ((c :: r).take 1)=true
     ·rw [if_pos h3,if_pos h3]
      simp only [List.take_succ_cons,List.take_zero] at h3 ⊢
      simp [pmean,h3]
     ·rw [if_neg h3,if_neg h3]
      simp [pmean]
def scan (line:Nat) (l:z03):Except Nat (List Tok) :=
 match l with
 | []=>.ok [⟨0,line,0,[]⟩]
 | c :: r =>
  if c.toNat=10 then scan (line+1) r
  else if c.toNat=32∨c.toNat=9 then scan line r
  else if c.toNat=35 then scan line (r.dropWhile fun x=>decide (x.toNat≠10))
  else
   match rnext (c :: r) with
   | none=>.error line
   | some (k,v,n) =>
    match scan line (r.drop (n - 1)) with
    | .error e=>.error e
    | .ok ts=>.ok (⟨k,line,v,(c :: r).take n⟩ :: ts)
termination_by l.length
decreasing_by
 all_goals simp
 ·have:=List.Sublist.length_le (List.dropWhile_sublist (fun x:UInt8=>decide (x.toNat≠10)) (l:=r)); simp at this; omega
 ·omega
def ext (ts:List Tok):Except Nat (List Tok)→Except Nat (List Tok)
 | .error e=>.error e
 | .ok l=>.ok (ts++l)
theorem z2t (x:Except Nat (List Tok)):ext [] x=x:=by cases x <;> rfl
def blk (com:Bool):z03→Nat
 | []=>0
 | c :: r=>if c.toNat=10 then 1+blk false r else if c.toNat=35 then 1+blk true r else if com||decide (c.toNat=32)||decide (c.toNat=9) then 1+blk com r else 0
theorem z6G:∀ (l:z03) (com:Bool),blk com l≤l.length
 | [],_=>Nat.le_refl _
 | c :: r,com=>by
  have h1:=z6G r false
  have h2:=z6G r true
  have h3:=z6G r com
  simp only [blk,List.length_cons]
  repeat' split
  all_goals omega
def lns (l:z03) (n:Nat):Nat:=(l.take n).count 10
theorem z6s:∀ (l:z03) (com:Bool) (line:Nat),scan line (if com then l.dropWhile (fun x=>decide (x.toNat≠10)) else l)=scan (line+lns l (blk com l)) (l.drop (blk com l))
 | [],com,line=>by cases com <;> simp [lns,blk]
 | c :: r,com,line=>by
  have h0:=z6s r false
  have h1:=z6s r true
  simp only [Bool.false_eq_true,if_false,if_true] at h0 h1
  have e10:(c == 10)=decide (c.toNat=10):=by
   rw [Bool.eq_iff_iff]; simp [← UInt8.toNat_inj]
  have hl:∀ n,lns (c :: r) (1+n)=lns r n+(if c.toNat=10 then 1 else 0):=fun n=>by
   rw [Nat.add_comm 1 n]
   simp only [lns,List.take_succ_cons,List.count_cons,e10]
   simp
  by_cases a:c.toNat=10
  ·have e:(if com=true then (c :: r).dropWhile (fun x=>decide (x.toNat≠10)) else c :: r)=c :: r:=by
    cases com <;> simp [a]
   rw [e]
   simp only [blk,if_pos a]
   rw [hl,if_pos a,Nat.add_comm 1,List.drop_succ_cons]
   rw [scan]
   simp only [if_pos a]
   rw [h0]
   congr 1
   omega
  ·by_cases b:c.toNat=35
   ·simp only [blk,if_neg a,if_pos b]
    rw [hl,if_neg a,Nat.add_comm 1,List.drop_succ_cons,Nat.add_zero,← h1]
    cases com with
    | true =>
     simp only [if_true]
     rw [List.dropWhile_cons,if_pos (by simpa using a)]
    | false =>
     simp only [Bool.false_eq_true,if_false]
     rw [scan]
     simp only [if_neg a]
     rw [if_neg (by omega),if_pos b]
   ·cases com with
    | true =>
     simp only [blk,if_neg a,if_neg b,Bool.true_or,if_true]
     rw [hl,if_neg a,Nat.add_comm 1,List.drop_succ_cons,Nat.add_zero,← h1]
     rw [List.dropWhile_cons,if_pos (by simpa using a)]
    | false =>
     by_cases d:c.toNat=32∨c.toNat=9
     ·have d':(false||decide (c.toNat=32)||decide (c.toNat=9))=true:=by simpa using d
      simp only [blk,if_neg a,if_neg b,d',if_true,Bool.false_eq_true,if_false]
      rw [hl,if_neg a,Nat.add_comm 1,List.drop_succ_cons,Nat.add_zero,← h0]
      rw [scan]
      simp only [if_neg a]
      rw [if_pos d]
     ·have d':(false||decide (c.toNat=32)||decide (c.toNat=9))=false:=by simpa using d
      simp only [blk,if_neg a,if_neg b,d',Bool.false_eq_true,if_false]
      simp [lns]
theorem z4t:∀ (l:z03) (com:Bool) (c:UInt8) (r:z03),l.drop (blk com l)=c :: r→c.toNat≠10∧¬(c.toNat=32∨c.toNat=9)∧c.toNat≠35
 | [],com,c,r,h=>by simp at h
 | x :: l,com,c,r,h=>by
  have h0:=z4t l false c r
  have h1:=z4t l true c r
  have h2:=z4t l com c r
  simp only [blk] at h
  by_cases a:x.toNat=10
  ·simp only [if_pos a,Nat.add_comm 1,List.drop_succ_cons] at h
   exact h0 h
  ·by_cases b:x.toNat=35
   ·simp only [if_neg a,if_pos b,Nat.add_comm 1,List.drop_succ_cons] at h
    exact h1 h
   ·by_cases d:(com||decide (x.toNat=32)||decide (x.toNat=9))=true
    ·simp only [if_neg a,if_neg b,if_pos d,Nat.add_comm 1,List.drop_succ_cons] at h
     exact h2 h
    ·rw [if_neg a,if_neg b,if_neg d,List.drop_zero] at h
     injection h with e _
     subst e
     simp at d
     exact ⟨a,by rintro (h | h); exact d.1.2 h; exact d.2 h,b⟩
end Go.Proofs.YtdplfnemedckaaaGreatDoor
namespace Go.Proofs.YtdplfnemedckaaaGreatDoor
open Go.RowKit
theorem add_zero (a:Addr):a.add 0=a:=by simp [Addr.add]
theorem z6H (a:Addr) (n:Nat):(a.add n).block=a.block:=by unfold Addr.add; split <;> rfl
def Rd (w:World) (A:Option Addr) (xs:List Value):Prop:=∀ j u,xs[j]?=some u→∃ ad,A=some ad∧w.cell? (ad.add j)=some u
section
variable {w w':World} {A:Option Addr} {xs ys:List Value}
theorem Rd.nil:Rd w A []:=fun j u h=>by simp at h
theorem Rd.at_ {k:Nat} (h:Rd w A xs) (hk:k<xs.length):∃ ad,A=some ad∧w.cell? (ad.add k)=some xs[k]:=h k _ (List.getElem?_eq_getElem hk)
theorem Rd.cells {ad:Addr} (h:Rd w (some ad) xs):∀ j u,xs[j]?=some u→w.cell? (ad.add j)=some u:=fun j u hu=>by
 obtain ⟨_,e,hc⟩:=h j u hu
 injection e with e
 subst e
 exact hc
theorem Rd.of_cells {ad:Addr} (h:∀ j u,xs[j]?=some u→w.cell? (ad.add j)=some u):Rd w (some ad) xs:=fun j u hu=>⟨ad,rfl,h j u hu⟩
theorem Rd.keep (h:Rd w A xs) (hk:∀ p:Addr,p.block<w.heap.size→w'.cell? p=w.cell? p):Rd w' A xs:=fun j u hu=>by
 obtain ⟨ad,e,hc⟩:=h j u hu
 exact ⟨ad,e,(hk _ (World.block_lt_of_cell? w _ hc)).trans hc⟩
theorem Rd.below (h:Rd w A xs) (hb:Below w.heap.size w w'):Rd w' A xs:=h.keep fun _ hp=>hb.cell hp
theorem Rd.drew (h:Rd w A xs):Rd w.drew A xs:=h
theorem Rd.drewN (h:Rd w A xs) (k:Nat):Rd (w.drewN k) A xs:=h
theorem Rd.alloc (h:Rd w A xs) (o:Obj):Rd (w.alloc o) A xs:=h.keep fun p hp=>World.cell?_alloc_lt w o p hp
theorem Rd.new (w:World) (C:Array Value) (t:TypeId) (fr:Nat × Nat):Rd (w.alloc (.cells C t fr)) (some ⟨w.heap.size,0,none⟩) C.toList:=Rd.of_cells fun j u hu=>by
 rw [Addr.add_lit,Nat.zero_add]
 exact (cell_of_row _ _ _ _ _ _ (heap_alloc_new w _)).trans (by simpa using hu)
theorem Rd.left (h:Rd w A (xs++ys)):Rd w A xs:=fun j u hu=>h j u (by
 rw [List.getElem?_append_left (by rcases Nat.lt_or_ge j xs.length with hl | hl; exact hl; rw [List.getElem?_eq_none hl] at hu; cases hu)]; exact hu)
theorem Rd.take (h:Rd w A xs) (k:Nat):Rd w A (xs.take k):=by
 rw [← List.take_append_drop k xs] at h
 exact h.left
theorem Rd.set_ {g:Nat} (h:Rd w (some ⟨g,0,none⟩) xs) (i:Nat) (hi:i<xs.length) (u:Value):Rd (w.setCell ⟨g,i,none⟩ u) (some ⟨g,0,none⟩) (xs.set i u):=Rd.of_cells fun j u' hu=>by
 rw [Addr.add_lit,Nat.zero_add]
 by_cases hj:i=j
 ·subst hj
  have hc:=h.cells i xs[i] (List.getElem?_eq_getElem hi)
  rw [Addr.add_lit,Nat.zero_add] at hc
  rw [List.getElem?_set_self hi] at hu
  injection hu with hu
  subst hu
  exact World.cell?_setCell_same _ _ _ hc
 ·rw [List.getElem?_set_ne hj] at hu
  have hc:=h.cells j u' hu
  rw [Addr.add_lit,Nat.zero_add] at hc
  rw [World.cell?_setCell_other _ _ _ _ (fun he=>hj (by injection he))]
  exact hc
end
def Sl (w:World) (base:Nat) (e:TypeId) (v:Value) (xs:List Value):Prop :=
 w.ownsRow base e 1 v xs.length xs∨∃ A,v=.slice A xs.length xs.length∧Rd w A xs∧(A=none→xs=[])
section
variable {w w':World} {base:Nat} {e:TypeId} {v:Value} {xs:List Value}
theorem Sl.alloc (h:Sl w base e v xs) (o:Obj):Sl (w.alloc o) base e v xs:=by
 rcases h with h | ⟨A,rfl,hr,h0⟩
 ·exact .inl (h.alloc o)
 ·exact .inr ⟨A,rfl,hr.alloc o,h0⟩
theorem Sl.drew (h:Sl w base e v xs):Sl w.drew base e v xs:=h
theorem Sl.below (h:Sl w base e v xs) (hb:Below w.heap.size w w'):Sl w' base e v xs:=by
 rcases h with h | ⟨A,rfl,hr,h0⟩
 ·exact .inl (h.kept (row:=none) ⟨hb.os,hb.tape,hb.output,hb.size,fun k hk _=>hb.block k hk⟩ (by cases hv:v.ownBlock <;> simp))
 ·exact .inr ⟨A,rfl,hr.below hb,h0⟩
end
theorem z0d {w w1 w2:World} (h:Below w.heap.size w w1) (k:Below w1.heap.size w1 w2):Below w.heap.size w w2:=h.trans (k.mono h.size)
def z0a (p:Prop):Prop:=p
theorem z0a.out {p:Prop} (h:z0a p):p:=h
theorem z0a.of {p:Prop} (h:p):z0a p:=h
section
variable {P:Program} (w:World)
end
end Go.Proofs.YtdplfnemedckaaaGreatDoor
namespace Go.Proofs.YtdplfnemedckaaaGreatDoor
open Go.RowKit Go.WideMaps
theorem z9K {H:Type} {P:Program} {e:TypeId} {v:Value} {x:Bool} {ps:List MemPlace} (he:P.underlying e=some .bool) (h:plainElem (H:=H) P e v=some (.lit (.bool x),ps)):v=.bool x:=by
 unfold plainElem at h
 rw [he] at h
 cases v <;> simp at h
 rw [h.1]
theorem zhN (w:World):(zeroValue 4).run Tryz.prog w=.ok (.bool false) w:=by kernel_rfl
theorem zek:Maps.Keyed Tryz.prog 9:=Maps.string_keyed Tryz.underlying9
def MapB (w:World) (b n:Nat) (f:z03→Bool):Prop :=
 ∃ D,w.ownsMap (H:=Unit) Tryz.prog 9 (plainElem Tryz.prog 4) b n D∧Maps.IsMap D∧∀ l:z03,D.atKey (.string l) (.lit (.bool false))=.lit (.bool (f l))
section
variable {w w':World} {b n:Nat} {f:z03→Bool}
theorem MapB.new (w:World):MapB (w.alloc (.map #[] 0)) w.heap.size 0 (fun _=>false):=⟨_,World.ownsMap_made _ _ _ _,Maps.isMap_empty,fun _=>rfl⟩
theorem MapB.lt (h:MapB w b n f):b<w.heap.size:=by obtain ⟨D,h,_⟩:=h; exact h.lt
theorem MapB.below (h:MapB w b n f) {B:Nat} (hB:b<B) (hb:Below B w w'):MapB w' b n f:=by
 obtain ⟨D,⟨es,clock,h0,F,hs,hD⟩,h2,h3⟩:=h
 exact ⟨D,⟨es,clock,(hb.block b hB).trans h0,F,hs,hD⟩,h2,h3⟩
theorem MapB.alloc (h:MapB w b n f) (o:Obj):MapB (w.alloc o) b n f:=by
 obtain ⟨D,h1,h2,h3⟩:=h
 exact ⟨D,h1.alloc o,h2,h3⟩
theorem MapB.drew (h:MapB w b n f):MapB w.drew b n f:=h
theorem MapB.grown (h:MapB w b n f) {row:Option Nat} (hg:w.grownBy w' row) (hne:some b≠row):MapB w' b n f:=by
 obtain ⟨D,h1,h2,h3⟩:=h
 exact ⟨D,h1.kept hg hne,h2,h3⟩
theorem MapB.look (h:MapB w b n f) (s:ByteArray) (hs:s.size≤maxLen):(Instr.lookup 120 (.map (some b)) (.string s) false).run Tryz.prog w=.ok (.bool (f s.data.toList)) w:=by
 obtain ⟨D,h1,h2,h3⟩:=h
 obtain ⟨v,ps,hrun,hv⟩:=h1.lookup zek Tryz.underlying120 (zhN w) (plainElem_bool Tryz.underlying4 false) (keyOf_string_mk Tryz.underlying9 hs)
 rw [hrun]
 rw [h3] at hv
 rw [z9K Tryz.underlying4 hv]
theorem MapB.put (h:MapB w b n f) (hn:n<maxLen) (s:ByteArray) (hs:s.size≤maxLen):∃ w',(Instr.mapUpdate 120 (.map (some b)) (.string s) (.bool true)).run Tryz.prog w=.ok () w'∧MapB w' b (n+1) (fun l=>f l||l == s.data.toList)∧w.grownBy w' (some b):=by
 obtain ⟨D,h1,h2,h3⟩:=h
 obtain ⟨w',hrun,h4,h5⟩:=h1.update zek Tryz.underlying120 hn (keyOf_string_mk Tryz.underlying9 hs) (plainElem_bool Tryz.underlying4 true)
 refine ⟨w',hrun,⟨_,h4,h2.put _ _,fun l=>?_⟩,h5⟩
 by_cases hl:l=s.data.toList
 ·subst hl
  rw [Maps.atKey_put_same h2 (by trivial)]
  simp
 ·rw [Maps.atKey_put_other (by intro e; injection e with e; exact hl e),h3]
  have:(l == s.data.toList)=false:=by simpa using hl
  simp only [this,Bool.or_false]
end
def Tab (w:World) (b n:Nat) (f:z03→Bool) (w':World):Prop:=MapB w' b n f∧Below b w w'
theorem Tab.put {w w':World} {b n:Nat} {f:z03→Bool} (h:Tab w b n f w') (hn:n<1000) {s:ByteArray} (hs:s.size≤1000) :
  ∃ w2,(Instr.mapUpdate 120 (.map (some b)) (.string s) (.bool true)).run Tryz.prog w'=.ok () w2∧Tab w b (n+1) (fun l=>f l||l == s.data.toList) w2:=by
 obtain ⟨w2,h1,h2,h3⟩:=h.1.put (by unfold maxLen; omega) s (by unfold maxLen; omega)
 exact ⟨w2,h1,h2,h.2.grown h3 (Nat.le_of_lt h.1.lt) (fun j hj=>by injection hj with hj; omega)⟩
theorem MapB.of {w:World} {b n:Nat} {f g:z03→Bool} (h:MapB w b n f) (e:∀ l,f l=g l):MapB w b n g:=by
 obtain rfl:f=g:=funext e
 exact h
def zac (f:z03→Bool) (w:World) (e:Ending) (w':World):Prop:=∃ b n,e=.returned (.map (some b))∧w.heap.size≤b∧MapB w' b n f∧Below w.heap.size w w'
set_option maxRecDepth 10000 in
theorem zct (w:World):Calls Tryz.prog 60 #[] w (zac isW w):=by
 have hmm:=@run_makeMap Tryz.prog
 have h0:Tab w w.heap.size 0 (fun _=>false) (w.alloc (.map #[] 0)):=⟨MapB.new w,(Below.refl _ w).alloc (Nat.le_refl _) _⟩
 obtain ⟨w1,r1,h1⟩:=h0.put (by decide) (s:={ data:=#[102,117,110,99] }) (by decide)
 obtain ⟨w2,r2,h2⟩:=h1.put (by decide) (s:={ data:=#[103,108,111,98,97,108] }) (by decide)
 obtain ⟨w3,r3,h3⟩:=h2.put (by decide) (s:={ data:=#[118,97,114] }) (by decide)
 obtain ⟨w4,r4,h4⟩:=h3.put (by decide) (s:={ data:=#[105,102] }) (by decide)
 obtain ⟨w5,r5,h5⟩:=h4.put (by decide) (s:={ data:=#[101,108,115,101] }) (by decide)
 obtain ⟨w6,r6,h6⟩:=h5.put (by decide) (s:={ data:=#[119,104,105,108,101] }) (by decide)
 obtain ⟨w7,r7,h7⟩:=h6.put (by decide) (s:={ data:=#[114,101,116,117,114,110] }) (by decide)
 obtain ⟨w8,r8,h8⟩:=h7.put (by decide) (s:={ data:=#[112,114,105,110,116] }) (by decide)
 obtain ⟨w9,r9,h9⟩:=h8.put (by decide) (s:={ data:=#[99,97,108,108] }) (by decide)
 obtain ⟨w10,r10,h10⟩:=h9.put (by decide) (s:={ data:=#[114,101,97,100] }) (by decide)
 have H:=zhi h10
 clear h10 h9 h8 h7 h6 h5 h4 h3 h2 h1 h0
 go_enter Tryz.func60,Tryz.ntmps60
 go_wp2_with fail
 go_ret
 exact ⟨_,_,rfl,Nat.le_refl _,H.out.1.of (fun l=>by rw [Bool.eq_iff_iff]; simp [isW,z96,or_assoc]),H.out.2⟩
set_option maxRecDepth 10000 in
theorem zc1 (w:World):Calls Tryz.prog 61 #[] w (zac isS w):=by
 have hmm:=@run_makeMap Tryz.prog
 have h0:Tab w w.heap.size 0 (fun _=>false) (w.alloc (.map #[] 0)):=⟨MapB.new w,(Below.refl _ w).alloc (Nat.le_refl _) _⟩
 obtain ⟨w1,r1,h1⟩:=h0.put (by decide) (s:={ data:=#[40] }) (by decide)
 obtain ⟨w2,r2,h2⟩:=h1.put (by decide) (s:={ data:=#[41] }) (by decide)
 obtain ⟨w3,r3,h3⟩:=h2.put (by decide) (s:={ data:=#[123] }) (by decide)
 obtain ⟨w4,r4,h4⟩:=h3.put (by decide) (s:={ data:=#[125] }) (by decide)
 obtain ⟨w5,r5,h5⟩:=h4.put (by decide) (s:={ data:=#[91] }) (by decide)
 obtain ⟨w6,r6,h6⟩:=h5.put (by decide) (s:={ data:=#[93] }) (by decide)
 obtain ⟨w7,r7,h7⟩:=h6.put (by decide) (s:={ data:=#[44] }) (by decide)
 obtain ⟨w8,r8,h8⟩:=h7.put (by decide) (s:={ data:=#[59] }) (by decide)
 obtain ⟨w9,r9,h9⟩:=h8.put (by decide) (s:={ data:=#[61] }) (by decide)
 obtain ⟨w10,r10,h10⟩:=h9.put (by decide) (s:={ data:=#[43] }) (by decide)
 obtain ⟨w11,r11,h11⟩:=h10.put (by decide) (s:={ data:=#[45] }) (by decide)
 obtain ⟨w12,r12,h12⟩:=h11.put (by decide) (s:={ data:=#[42] }) (by decide)
 obtain ⟨w13,r13,h13⟩:=h12.put (by decide) (s:={ data:=#[47] }) (by decide)
 obtain ⟨w14,r14,h14⟩:=h13.put (by decide) (s:={ data:=#[37] }) (by decide)
 obtain ⟨w15,r15,h15⟩:=h14.put (by decide) (s:={ data:=#[60] }) (by decide)
 obtain ⟨w16,r16,h16⟩:=h15.put (by decide) (s:={ data:=#[60,61] }) (by decide)
 obtain ⟨w17,r17,h17⟩:=h16.put (by decide) (s:={ data:=#[61,61] }) (by decide)
 obtain ⟨w18,r18,h18⟩:=h17.put (by decide) (s:={ data:=#[33,61] }) (by decide)
 obtain ⟨w19,r19,h19⟩:=h18.put (by decide) (s:={ data:=#[38,38] }) (by decide)
 obtain ⟨w20,r20,h20⟩:=h19.put (by decide) (s:={ data:=#[124,124] }) (by decide)
 obtain ⟨w21,r21,h21⟩:=h20.put (by decide) (s:={ data:=#[33] }) (by decide)
 obtain ⟨w22,r22,h22⟩:=h21.put (by decide) (s:={ data:=#[38] }) (by decide)
 have H:=zhi h22
 clear h22 h21 h20 h19 h18 h17 h16 h15 h14 h13 h12 h11 h10 h9 h8 h7 h6 h5 h4 h3 h2 h1 h0
 go_enter Tryz.func61,Tryz.ntmps61
 go_wp2_with fail
 go_ret
 exact ⟨_,_,rfl,Nat.le_refl _,H.out.1.of (fun l=>by rw [Bool.eq_iff_iff]; simp [isS,z5a,or_assoc]),H.out.2⟩
end Go.Proofs.YtdplfnemedckaaaGreatDoor
namespace Go.Proofs.YtdplfnemedckaaaGreatDoor
open Go.RowKit
def RetB (x:Bool) (w:World) (e:Ending) (w':World):Prop:=e=.returned (.bool x)∧w=w'
theorem retB {x y:Bool} {w:World} (h:x=y):RetB y w (.returned (.bool x)) w:=⟨by rw [h],rfl⟩
set_option maxRecDepth 10000 in
theorem z1M (c:UInt8) (w:World):Calls Tryz.prog 94 #[.int .u8 (c.toNat:Int)] w (RetB (letter c) w):=by
 go_enter Tryz.func94,Tryz.ntmps94
 go_wp2_with fail
 all_goals (go_ret; refine retB ?_; rw [Bool.eq_iff_iff]; simp [letter]; try omega)
theorem z1F (c:UInt8) (w:World):Calls Tryz.prog 95 #[.int .u8 (c.toNat:Int)] w (RetB (digit c) w):=by
 go_enter Tryz.func95,Tryz.ntmps95
 go_wp2_with fail
 all_goals (go_ret; refine retB ?_; rw [Bool.eq_iff_iff]; simp [digit]; try omega)
theorem z0Z (s:ByteArray) (k:Nat) (h:k<s.size):s.data.toList.drop k=s[k] :: s.data.toList.drop (k+1):=by
 rw [List.drop_eq_getElem_cons (by simpa using h)]
 rfl
theorem z24 (s:ByteArray) (k:Nat) (h:s.size≤k):s.data.toList.drop k=[]:=List.drop_eq_nil_of_le (by simpa using h)
theorem z3s (s:ByteArray) (k:Nat):(s.extract 0 k).data.toList=s.data.toList.take k:=by simp
theorem z4v (s:ByteArray) (k:Nat):(s.extract k s.size).data.toList=s.data.toList.drop k:=by
 have e:s.size=s.data.toList.length:=by simp
 simp only [ByteArray.data_extract,Array.toList_extract,List.extract_eq_take_drop,e]
 rw [List.take_of_length_le (by simp)]
theorem z8q (s:ByteArray) (k:Nat):(s.extract 0 k).size=min k s.size:=by simp
def twl (l:z03):Nat:=(l.takeWhile wordy).length
theorem z91 {c:UInt8} {r:z03} (h:wordy c=true):twl (c :: r)=1+twl r:=by simp [twl,h,Nat.add_comm]
theorem z92 {c:UInt8} {r:z03} (h:wordy c=false):twl (c :: r)=0:=by simp [twl,h]
def RetN (x:Nat) (w:World) (e:Ending) (w':World):Prop:=e=.returned (.int .i64 (x:Int))∧w=w'
theorem retN {x y:Nat} {w:World} (h:x=y):RetN y w (.returned (.int .i64 (x:Int))) w:=⟨by rw [h],rfl⟩
set_option maxRecDepth 10000 in
set_option maxHeartbeats 1000000 in
theorem zbO (s:ByteArray) (w:World) (hs:s.size≤140737488355328):Calls Tryz.prog 96 #[.string s] w (RetN (twl s.data.toList) w):=by
 go_enter Tryz.func96,Tryz.ntmps96
 go_wp2_with fail
 go_loop [3] (fun i=>∃ k:Nat,k≤s.size∧i=.int .i64 k∧Hid (twl s.data.toList=k+twl (s.data.toList.drop k))) (fun i=>s.size - (intOf i).toNat)
 case atStart=>exact ⟨0,Nat.zero_le _,rfl,zhi (by simp)⟩
 case round =>
  obtain ⟨k,hk,rfl,H⟩:=hrel
  by_cases hlt:k<s.size
  ·have Hd:=zhi (z0Z s k hlt)
   by_cases hw:wordy s[k]=true
   ·have H2:Hid (twl s.data.toList=(k+1:Nat)+twl (s.data.toList.drop (k+1))):=zhi (by rw [H.out,Hd.out,z91 hw]; omega)
    clear H Hd
    by_cases h1:letter s[k]=true
    ·clear hw
     go_wp2_with (go_at_call 94; (with_reducible refine (z1M _ _).mono ?_); rintro e w' ⟨rfl,rfl⟩)
     go_round
     case rel=>exact ⟨k+1,by omega,by go_num,H2⟩
     case measure=>simp [intOf]; omega
    ·by_cases h2:digit s[k]=true
     ·clear hw
      go_wp2_with (first | (go_at_call 94; (with_reducible refine (z1M _ _).mono ?_); rintro e w' ⟨rfl,rfl⟩) | (go_at_call 95; (with_reducible refine (z1F _ _).mono ?_); rintro e w' ⟨rfl,rfl⟩))
      go_round
      case rel=>exact ⟨k+1,by omega,by go_num,H2⟩
      case measure=>simp [intOf]; omega
     ·have h3:((s[k].toNat:Int) == 95)=true:=by
       simp [wordy,h1,h2] at hw
       simp; omega
      clear hw
      go_wp2_with (first | (go_at_call 94; (with_reducible refine (z1M _ _).mono ?_); rintro e w' ⟨rfl,rfl⟩) | (go_at_call 95; (with_reducible refine (z1F _ _).mono ?_); rintro e w' ⟨rfl,rfl⟩))
      go_round
      case rel=>exact ⟨k+1,by omega,by go_num,H2⟩
      case measure=>simp [intOf]; omega
   ·have hw:wordy s[k]=false:=by simpa using hw
    have H2:Hid (k=twl s.data.toList):=zhi (by rw [H.out,Hd.out,z92 hw]; rfl)
    have h1:letter s[k]=false:=by cases e:letter s[k] with | false=>rfl | true=>simp [wordy,e] at hw
    have h2:digit s[k]=false:=by cases e:digit s[k] with | false=>rfl | true=>simp [wordy,e] at hw
    have h3:((s[k].toNat:Int) == 95)=false:=by
     simp [wordy,h1,h2] at hw
     simp; omega
    clear H Hd hw
    go_wp2_with (first | (go_at_call 94; (with_reducible refine (z1M _ _).mono ?_); rintro e w' ⟨rfl,rfl⟩) | (go_at_call 95; (with_reducible refine (z1F _ _).mono ?_); rintro e w' ⟨rfl,rfl⟩))
    go_ret
    exact retN H2.out
  ·have H2:Hid (k=twl s.data.toList):=zhi (by rw [H.out,z24 s k (by omega)]; rfl)
   clear H
   go_wp2_with fail
   go_ret
   exact retN H2.out
set_option maxRecDepth 10000 in
set_option maxHeartbeats 1000000 in
theorem zah (s:ByteArray) (w:World) (hs:s.size≤140737488355328):Calls Tryz.prog 64 #[.string s] w (RetN (blk false s.data.toList) w):=by
 go_enter Tryz.func64,Tryz.ntmps64
 go_wp2_with fail
 go_loop [3,8] (fun cm i=>∃ (k:Nat) (com:Bool),k≤s.size∧cm=.bool com∧i=.int .i64 k∧Hid (blk false s.data.toList=k+blk com (s.data.toList.drop k))) (fun _ i=>s.size - (intOf i).toNat)
 case atStart=>exact ⟨0,false,Nat.zero_le _,rfl,rfl,zhi (by simp)⟩
 case round =>
  obtain ⟨k,com,hk,rfl,rfl,H⟩:=hrel
  by_cases hlt:k<s.size
  ·have Hd:=zhi (z0Z s k hlt)
   by_cases a:s[k].toNat=10
   ·have h10:((s[k].toNat:Int) == 10)=true:=by simp; omega
    have H2:Hid (blk false s.data.toList=(k+1:Nat)+blk false (s.data.toList.drop (k+1))):=zhi (by rw [H.out,Hd.out,blk,if_pos a]; omega)
    clear H Hd a
    go_wp2_with fail
    go_round
    case rel=>exact ⟨k+1,false,by omega,rfl,by go_num,H2⟩
    case measure=>simp [intOf]; omega
   ·have h10:((s[k].toNat:Int) == 10)=false:=by simp; omega
    by_cases b:s[k].toNat=35
    ·have h35:((s[k].toNat:Int) == 35)=true:=by simp; omega
     have H2:Hid (blk false s.data.toList=(k+1:Nat)+blk true (s.data.toList.drop (k+1))):=zhi (by rw [H.out,Hd.out,blk,if_neg a,if_pos b]; omega)
     clear H Hd a b
     go_wp2_with fail
     go_round
     case rel=>exact ⟨k+1,true,by omega,rfl,by go_num,H2⟩
     case measure=>simp [intOf]; omega
    ·have h35:((s[k].toNat:Int) == 35)=false:=by simp; omega
     by_cases d:(com||decide (s[k].toNat=32)||decide (s[k].toNat=9))=true
     ·have H2:Hid (blk false s.data.toList=(k+1:Nat)+blk com (s.data.toList.drop (k+1))):=zhi (by rw [H.out,Hd.out,blk,if_neg a,if_neg b,if_pos d]; omega)
      have D:=zhi d
      clear H Hd a b d
      cases com with
      | true =>
       clear D
       go_wp2_with fail
       go_round
       case rel=>exact ⟨k+1,true,by omega,rfl,by go_num,H2⟩
       case measure=>simp [intOf]; omega
      | false =>
       by_cases e:s[k].toNat=32
       ·have h32:((s[k].toNat:Int) == 32)=true:=by simp; omega
        have h32':((s[k].toNat:Int) != 32)=false:=by simp; omega
        clear D e
        go_wp2_with fail
        go_round
        case rel=>exact ⟨k+1,false,by omega,rfl,by go_num,H2⟩
        case measure=>simp [intOf]; omega
       ·have h32:((s[k].toNat:Int) == 32)=false:=by simp; omega
        have h32':((s[k].toNat:Int) != 32)=true:=by simp; omega
        have h9:((s[k].toNat:Int) == 9)=true:=by have:=D.out; simp [e] at this; simp; omega
        have h9':((s[k].toNat:Int) != 9)=false:=by have:=D.out; simp [e] at this; simp; omega
        clear D e
        go_wp2_with fail
        go_round
        case rel=>exact ⟨k+1,false,by omega,rfl,by go_num,H2⟩
        case measure=>simp [intOf]; omega
     ·have H2:Hid (k=blk false s.data.toList):=zhi (by rw [H.out,Hd.out,blk,if_neg a,if_neg b,if_neg d]; rfl)
      have D:=zhi d
      clear H Hd a b d
      cases com with
      | true=>exact absurd rfl D.out
      | false =>
       have h32:((s[k].toNat:Int) == 32)=false:=by have:=D.out; simp at this; simp; omega
       have h32':((s[k].toNat:Int) != 32)=true:=by have:=D.out; simp at this; simp; omega
       have h9:((s[k].toNat:Int) == 9)=false:=by have:=D.out; simp at this; simp; omega
       have h9':((s[k].toNat:Int) != 9)=true:=by have:=D.out; simp at this; simp; omega
       clear D
       go_wp2_with fail
       go_ret
       exact retN H2.out
  ·have H2:Hid (s.size=blk false s.data.toList):=zhi (by rw [H.out,z24 s k (by omega)]; simp [blk]; omega)
   clear H
   go_wp2_with fail
   go_ret
   exact retN H2.out
def chk (l:z03):Nat→Nat
 | 0=>0
 | k+1=>if isS (l.take (k+1)) then k+1 else chk l k
theorem zbz {c:UInt8} {r:z03} (h:(letter c||digit c)=true):plen (c :: r)=twl (c :: r):=by
 simp only [plen,if_pos h,twl]
theorem zby {c:UInt8} {r:z03} (h:(letter c||digit c)=false):plen (c :: r)=chk (c :: r) (min 2 (c :: r).length):=by
 have:¬ (letter c||digit c)=true:=by simp [h]
 simp only [plen,if_neg this]
 cases r with
 | nil=>simp [chk]
 | cons x r =>
  have e:min 2 (c :: x :: r).length=2:=by simp
  have e2:decide (2≤(c :: x :: r).length)=true:=by simp
  rw [e,e2,Bool.true_and]
  rfl
set_option maxRecDepth 10000 in
set_option maxHeartbeats 1000000 in
theorem z9v (s:ByteArray) (b n:Nat) (w:World) (hs:s.size≤140737488355328) (h0:0<s.size) (hm:MapB w b n isS):Calls Tryz.prog 65 #[.string s,.map (some b)] w (RetN (plen s.data.toList) w):=by
 have Hd:=zhi (z0Z s 0 h0)
 by_cases hw:(letter s[0]||digit s[0])=true
 ·have H:Hid (plen s.data.toList=twl s.data.toList):=zhi (by have:=Hd.out; rw [List.drop_zero] at this; rw [this]; exact zbz hw)
  have HW:=zhi hw
  clear hw Hd hm
  by_cases h1:letter s[0]=true
  ·go_enter Tryz.func65,Tryz.ntmps65
   go_wp2_with (first | (go_at_call 94; (with_reducible refine (z1M _ _).mono ?_); rintro e w' ⟨rfl,rfl⟩) | (go_at_call 95; (with_reducible refine (z1F _ _).mono ?_); rintro e w' ⟨rfl,rfl⟩) | (go_at_call 96; (with_reducible refine (zbO _ _ hs).mono ?_); rintro e w' ⟨rfl,rfl⟩))
   go_ret
   exact retN H.out.symm
  ·have h2:digit s[0]=true:=by have:=HW.out; simpa [h1] using this
   go_enter Tryz.func65,Tryz.ntmps65
   go_wp2_with (first | (go_at_call 94; (with_reducible refine (z1M _ _).mono ?_); rintro e w' ⟨rfl,rfl⟩) | (go_at_call 95; (with_reducible refine (z1F _ _).mono ?_); rintro e w' ⟨rfl,rfl⟩) | (go_at_call 96; (with_reducible refine (zbO _ _ hs).mono ?_); rintro e w' ⟨rfl,rfl⟩))
   go_ret
   exact retN H.out.symm
 ·have hw:(letter s[0]||digit s[0])=false:=by simpa using hw
  have H:Hid (plen s.data.toList=chk s.data.toList (min 2 s.size)):=zhi (by
   have:=Hd.out; rw [List.drop_zero] at this
   have e:=zby (r:=List.drop (0+1) s.data.toList) hw
   rw [← this] at e
   simpa using e)
  have h1:letter s[0]=false:=by cases e:letter s[0] with | false=>rfl | true=>simp [e] at hw
  have h2:digit s[0]=false:=by cases e:digit s[0] with | false=>rfl | true=>simp [e] at hw
  have Hm:=zhi hm
  clear hw Hd hm
  go_enter Tryz.func65,Tryz.ntmps65
  go_wp2_with (first | (go_at_call 94; (with_reducible refine (z1M _ _).mono ?_); rintro e w' ⟨rfl,rfl⟩) | (go_at_call 95; (with_reducible refine (z1F _ _).mono ?_); rintro e w' ⟨rfl,rfl⟩))
  go_loop [5] (fun i=>∃ k:Nat,k≤2∧k≤s.size∧i=.int .i64 k∧Hid (plen s.data.toList=chk s.data.toList k)) (fun i=>(intOf i).toNat)
  case atStart=>exact ⟨min 2 s.size,by omega,by omega,by congr 1; omega,H⟩
  case round =>
   obtain ⟨k,hk2,hks,rfl,H⟩:=hrel
   by_cases hk:0<k
   ·obtain ⟨j,rfl⟩:∃ j,k=j+1:=⟨k - 1,by omega⟩
    by_cases hS:isS (s.data.toList.take (j+1))=true
    ·have H2:Hid (j+1=plen s.data.toList):=zhi (by rw [H.out,chk,if_pos hS])
     have hrun:=Hm.out.look (s.extract 0 (j+1)) (by rw [z8q]; unfold maxLen; omega)
     rw [z3s,hS] at hrun
     clear hS H
     go_wp2_with fail
     go_ret
     exact retN H2.out
    ·have H2:Hid (plen s.data.toList=chk s.data.toList j):=zhi (by rw [H.out,chk,if_neg hS])
     have hrun:=Hm.out.look (s.extract 0 (j+1)) (by rw [z8q]; unfold maxLen; omega)
     rw [z3s,show isS (s.data.toList.take (j+1))=false by simpa using hS] at hrun
     clear hS H
     go_wp2_with fail
     go_round
     case rel=>exact ⟨j,by omega,by omega,by go_num,H2⟩
     case measure=>simp [intOf]
   ·obtain rfl:k=0:=by omega
    have H2:Hid (0=plen s.data.toList):=H.out.symm
    clear H
    go_wp2_with fail
    go_ret
    exact retN H2.out
end Go.Proofs.YtdplfnemedckaaaGreatDoor
namespace Go.Proofs.YtdplfnemedckaaaGreatDoor
open Go.RowKit
def Errs (w:World):Prop:=(∃ te pe,w.cell? ⟨4,0,none⟩=some (.iface te pe))∧(∃ te pe,w.cell? ⟨5,0,none⟩=some (.iface te pe))
theorem Errs.below {w w':World} (h:Errs w) (hb:Below w.heap.size w w'):Errs w':=by
 obtain ⟨⟨a,b,h1⟩,c,d,h2⟩:=h
 exact ⟨⟨a,b,(hb.cell (p:=⟨4,0,none⟩) (World.block_lt_of_cell? w _ h1)).trans h1⟩,c,d,(hb.cell (p:=⟨5,0,none⟩) (World.block_lt_of_cell? w _ h2)).trans h2⟩
theorem Errs.grown {w w':World} {row:Option Nat} (h:Errs w) (hb:w.grownBy w' row) (h1:row≠some 4) (h2:row≠some 5):Errs w':=by
 obtain ⟨⟨a,b,e1⟩,c,d,e2⟩:=h
 exact ⟨⟨a,b,(World.cell?_of_block (hb.block _ (World.block_lt_of_cell? w _ e1) (Ne.symm h1))).trans e1⟩,c,d,(World.cell?_of_block (hb.block _ (World.block_lt_of_cell? w _ e2) (Ne.symm h2))).trans e2⟩
def pnum:z03→Option Nat
 | []=>none
 | c :: r=>if decide (1<(c :: r).length)&&decide (c.toNat=48) then none else val (c :: r)
theorem z7s {c:UInt8} {r:z03} {v:Int} (h:digit c=true) (hv:Lib.atoiAll (c :: r)=.ok v):v=((v.toNat:Nat):Int):=by
 have hc:=z3r h
 rw [Lib.atoiAll_plain c r (by omega) (by omega)] at hv
 cases e:Lib.parseMag (c :: r) with
 | ok u =>
  rw [e] at hv
  simp only [Lib.signless] at hv
  split at hv
  ·cases hv
  ·injection hv with hv
   omega
 | _=>rw [e] at hv; cases hv
def za9 (p:Option Nat) (w:World) (e:Ending) (w':World):Prop :=
 ∃ x:Int,e=.returned (.tuple #[.int .i64 x,.bool p.isSome])∧(∀ v,p=some v→x=(v:Int))∧Below w.heap.size w w'
theorem zbs {p:Option Nat} {x:Int} {b:Bool} {w w':World} (hb:b=p.isSome) (hx:∀ v,p=some v→x=(v:Int)) (h:Below w.heap.size w w'):za9 p w (.returned (.tuple #[.int .i64 x,.bool b])) w':=⟨x,by rw [hb],hx,h⟩
theorem z2a {B:Nat} {w w':World} (h:Below B w w') (n:Nat):Below B w (w'.drewN n):=⟨h.os,h.tape,h.output,h.size,h.block⟩
theorem z7u {w w':World} {e:TypeId} (h:w'=w∨∃ t,w'=Lib.bytesWorld w e t):Below w.heap.size w w':=by
 rcases h with rfl | ⟨t,rfl⟩
 ·exact Below.refl _ _
 ·exact Lib.bytesWorld_below _ _ _
def zcy (p:Option Nat) (w:World) (e:Ending) (w':World):Prop :=
 ∃ (x:Int) (ev:Value),e=.returned (.tuple #[.int .i64 x,ev])∧((ev=.nilIface∧∃ v:Nat,p=some v∧x=(v:Int))∨(∃ (T:TypeId) (N:Nat),ev=.iface T (.pointer (some ⟨N,0,none⟩))∧p=none))∧Below w.heap.size w w'
theorem zcE (s:ByteArray) (c:UInt8) (r:z03) (w:World) (hs:s.size≤140737488355328) (hl:s.data.toList=c :: r) (hd:digit c=true) (he:Errs w):Calls Tryz.prog 115 #[.string s] w (zcy (val s.data.toList) w):=by
 obtain ⟨⟨ta,pa,ha⟩,tb,pb,hb⟩:=he
 cases e:Lib.atoiAll s.data.toList with
 | ok v =>
  have hv:v=((v.toNat:Nat):Int):=by rw [hl] at e; exact z7s hd e
  refine (Tryz.strconv_Atoi_ok s (by omega) v e w).mono fun e' w' ⟨h1,h2⟩=>⟨v,_,h1,.inl ⟨rfl,v.toNat,by simp [val,e],hv⟩,z7u h2⟩
 | range=>exact (Tryz.strconv_Atoi_range s (by omega) e _ w hb (.inr ⟨_,_,rfl⟩)).mono fun e' w' ⟨N,h1,_,_,h2⟩=>⟨_,_,h1,.inr ⟨_,N,rfl,by simp [val,e]⟩,h2⟩
 | _=>exact (Tryz.strconv_Atoi_syntax s (by omega) e _ w ha (.inr ⟨_,_,rfl⟩)).mono fun e' w' ⟨N,h1,_,_,h2⟩=>⟨0,_,h1,.inr ⟨_,N,rfl,by simp [val,e]⟩,h2⟩
set_option maxRecDepth 10000 in
set_option maxHeartbeats 1000000 in
theorem z9F (s:ByteArray) (w:World) (hs:s.size≤140737488355328) (h0:0<s.size) (hd:digit s[0]=true) (he:Errs w):Calls Tryz.prog 97 #[.string s] w (za9 (pnum s.data.toList) w):=by
 have hl:s.data.toList=s[0] :: s.data.toList.drop 1:=by have:=z0Z s 0 h0; rwa [List.drop_zero] at this
 have hlen:(s[0] :: s.data.toList.drop 1).length=s.size:=by rw [← hl]; simp
 by_cases hz:1<s.size∧s[0].toNat=48
 ·have HP:Hid (pnum s.data.toList=none):=zhi (by rw [hl,pnum,hlen,if_pos (by simp [hz.1,hz.2])])
  obtain ⟨hz1,hz2⟩:=hz
  have hz3:((s[0].toNat:Int) == 48)=true:=by simp; omega
  clear hl hlen hd he hz2
  go_enter Tryz.func97,Tryz.ntmps97
  go_wp2_with fail
  go_ret2
  exact zbs (by rw [HP.out]; rfl) (fun v hv=>by rw [HP.out] at hv; cases hv) (Below.refl _ _)
 ·have hp:Hid (pnum s.data.toList=val s.data.toList):=zhi (by
   have:¬ (decide (1<s.size)&&decide (s[0].toNat=48))=true:=by simpa using hz
   rw [hl,pnum,hlen,if_neg this])
  have hz3:1<s.size→((s[0].toNat:Int) == 48)=false:=fun h=>by simp; omega
  have ha:=zhi (zcE s _ _ w hs hl hd he)
  clear hl hlen hd hz he
  have Hz:=zhi hz3
  clear hz3
  by_cases h1:1<s.size
  all_goals
   first | have h48:=Hz.out h1 | have h48:True:=trivial
   go_enter Tryz.func97,Tryz.ntmps97
   go_wp2_with fail
   refine ha.out.mono ?_
   rintro e w1 ⟨x,ev,rfl,hv,hb⟩
   have Hb:=zhi hb
   clear hb
   rcases hv with ⟨rfl,v,hv,hx⟩ | ⟨T,N,rfl,hv⟩
   all_goals
    have Hv:=zhi hv
    clear hv
    try (have Hx:=zhi hx; clear hx)
    go_wp2_with fail
    go_quiet (fail)
    go_wp2_with fail
    go_ret2
    refine zbs (by rw [hp.out,Hv.out]; rfl) (fun v' hv'=>?_) (z2a Hb.out _)
    rw [hp.out,Hv.out] at hv'
    first | (injection hv' with hv'; rw [← hv']; exact Hx.out) | cases hv'
theorem z8l {s:ByteArray} (h:0<s.size):s.toList.isEmpty=false:=by
 rw [Lib.toList_data]
 cases e:s.data.toList with
 | nil =>
  have:s.data.toList.length=s.size:=by simp
  rw [e] at this
  simp at this
  omega
 | cons c r=>rfl
def z8g (p:Option (Nat × Nat)) (w:World) (e:Ending) (w':World):Prop :=
 ∃ (k x:Int),e=.returned (.tuple #[.int .i64 k,.int .i64 x,.bool p.isSome])∧(∀ q,p=some q→k=(q.1:Int)∧x=(q.2:Int))∧Below w.heap.size w w'
theorem z3t {p:Option (Nat × Nat)} {k x:Int} {b:Bool} {w w':World} (hb:b=p.isSome) (hx:∀ q,p=some q→k=(q.1:Int)∧x=(q.2:Int)) (h:Below w.heap.size w w'):z8g p w (.returned (.tuple #[.int .i64 k,.int .i64 x,.bool b])) w':=⟨k,x,by rw [hb],hx,h⟩
theorem z7V {c:UInt8} {r:z03} (h1:isS (c :: r)=false) (h2:isW (c :: r)=false) (h:digit c=true):pmean (c :: r)=(pnum (c :: r)).map fun v=>(2,v):=by
 simp only [pmean,pnum,h1,h2,h]
 generalize (decide (1<(c :: r).length)&&decide (c.toNat=48))=B
 cases B <;> rfl
set_option maxRecDepth 10000 in
set_option maxHeartbeats 1000000 in
theorem z7H (s:ByteArray) (bw nw bs ns:Nat) (w:World) (hs:s.size≤140737488355328) (hW:MapB w bw nw isW) (hS:MapB w bs ns isS) (he:Errs w):Calls Tryz.prog 66 #[.string s,.map (some bw),.map (some bs)] w (z8g (pmean s.data.toList) w):=by
 have rS:=hS.look s (by unfold maxLen; omega)
 have rW:=hW.look s (by unfold maxLen; omega)
 clear hS hW
 by_cases h0:s.size=0
 ·have hl:s.data.toList=[]:=List.eq_nil_of_length_eq_zero (by simpa using h0)
  have HP:Hid (pmean s.data.toList=none):=zhi (by rw [hl]; rfl)
  obtain rfl:s={ data:=#[] }:=by
   cases s with | mk d=>cases d with | mk l=>simp at hl; rw [hl]
  clear rS rW he hl h0
  go_enter Tryz.func66,Tryz.ntmps66
  go_wp2_with fail
  go_ret3
  exact z3t rfl (fun q hq=>by cases hq) (Below.refl _ _)
 ·have hl:s.data.toList=s[0] :: s.data.toList.drop 1:=by have:=z0Z s 0 (by omega); rwa [List.drop_zero] at this
  have hp:0<s.size:=by omega
  have hne:=z8l hp
  by_cases h1:isS s.data.toList=true
  ·have HP:Hid (pmean s.data.toList=some (4,0)):=zhi (by rw [hl] at h1 ⊢; simp only [pmean,h1,if_true])
   rw [h1] at rS
   clear rW he hl h0 h1
   go_enter Tryz.func66,Tryz.ntmps66
   go_wp2_with fail
   go_ret3
   exact z3t (by rw [HP.out]; rfl) (fun q hq=>by rw [HP.out] at hq; injection hq with hq; subst hq; exact ⟨rfl,rfl⟩) (Below.refl _ _)
  ·have h1:isS s.data.toList=false:=by simpa using h1
   rw [h1] at rS
   by_cases h2:isW s.data.toList=true
   ·have HP:Hid (pmean s.data.toList=some (3,0)):=zhi (by rw [hl] at h1 h2 ⊢; simp only [pmean,h1,h2,if_true,Bool.false_eq_true,if_false])
    rw [h2] at rW
    clear he hl h0 h1 h2
    go_enter Tryz.func66,Tryz.ntmps66
    go_wp2_with fail
    go_ret3
    exact z3t (by rw [HP.out]; rfl) (fun q hq=>by rw [HP.out] at hq; injection hq with hq; subst hq; exact ⟨rfl,rfl⟩) (Below.refl _ _)
   ·have h2:isW s.data.toList=false:=by simpa using h2
    rw [h2] at rW
    by_cases h3:digit s[0]=true
    ·have HP:Hid (pmean s.data.toList=(pnum s.data.toList).map fun v=>(2,v)):=zhi (by rw [hl] at h1 h2 ⊢; exact z7V h1 h2 h3)
     have ha:=zhi (z9F s w hs hp h3 he)
     clear he hl h0 h1 h2
     go_enter Tryz.func66,Tryz.ntmps66
     go_wp2_with (go_at_call 95; (with_reducible refine (z1F _ _).mono ?_); rintro e w' ⟨rfl,rfl⟩)
     refine ha.out.mono ?_
     rintro e w1 ⟨x,rfl,hx,hb⟩
     have Hb:=zhi hb
     have Hx:=zhi hx
     clear hb hx
     go_wp2_with fail
     go_ret3
     refine z3t (by rw [HP.out]; cases pnum s.data.toList <;> rfl) (fun q hq=>?_) Hb.out
     rw [HP.out] at hq
     cases e:pnum s.data.toList with
     | none=>rw [e] at hq; cases hq
     | some v=>rw [e] at hq; injection hq with hq; subst hq; exact ⟨rfl,Hx.out v e⟩
    ·have h3:digit s[0]=false:=by simpa using h3
     by_cases h4:s.size≤32
     ·have HP:Hid (pmean s.data.toList=some (1,0)):=zhi (by
       have hlen:(s[0] :: s.data.toList.drop 1).length=s.size:=by rw [← hl]; simp
       rw [hl] at h1 h2 ⊢
       simp only [pmean,h1,h2,h3,Bool.false_eq_true,if_false]
       rw [hlen,if_pos h4])
      clear he hl h0 h1 h2
      go_enter Tryz.func66,Tryz.ntmps66
      go_wp2_with (go_at_call 95; (with_reducible refine (z1F _ _).mono ?_); rintro e w' ⟨rfl,rfl⟩)
      go_ret3
      exact z3t (by rw [HP.out]; simp; omega) (fun q hq=>by rw [HP.out] at hq; injection hq with hq; subst hq; exact ⟨rfl,rfl⟩) (Below.refl _ _)
     ·have HP:Hid (pmean s.data.toList=none):=zhi (by
       have hlen:(s[0] :: s.data.toList.drop 1).length=s.size:=by rw [← hl]; simp
       rw [hl] at h1 h2 ⊢
       simp only [pmean,h1,h2,h3,Bool.false_eq_true,if_false]
       rw [hlen,if_neg h4])
      clear he hl h0 h1 h2
      go_enter Tryz.func66,Tryz.ntmps66
      go_wp2_with (go_at_call 95; (with_reducible refine (z1F _ _).mono ?_); rintro e w' ⟨rfl,rfl⟩)
      go_ret3
      exact z3t (by rw [HP.out]; simp; omega) (fun q hq=>by rw [HP.out] at hq; cases hq) (Below.refl _ _)
end Go.Proofs.YtdplfnemedckaaaGreatDoor
namespace Go.Proofs.YtdplfnemedckaaaGreatDoor
open Go.RowKit
def bv (c:Nat):Value:=.int .u8 (c:Int)
def uv (c:Nat):Value:=.int .u64 (c:Int)
def strV (l:List ByteArray):List Value:=l.map Value.string
end Go.Proofs.YtdplfnemedckaaaGreatDoor
