/-
  Ka: TokMath, Words, TokMap, Tok, Tok2, Base. Part of the proof. No condition.
-/
import Derived.Lib.AtoiAll
import Derived.Lib.AtoiAllCases
import Derived.WalkKit
import Derived.WalkSpells
import Derived.ArgAppend
import Derived.Deep.Draws
import Derived.Maps.AppendAt
import Derived.Lib.Hide
import Derived.Outline
import Derived.Test.YtdflbhofmmlpgaaGreatRows
import Derived.Maps.OwnSet
import Derived.StringKeys
import Derived.KernelRfl
import Derived.Lib.Strings
import Derived.Deep.QuietTactic
import Derived.BigQuiet
set_option maxRecDepth 100000
set_option maxHeartbeats 8000000
namespace Go.Proofs.YtdflbhofmmlpgaaGreat
open Go.RowKit
theorem cl2 {w : World} {b : Nat} {cs : Array Value} {t : TypeId} (h : w.heap[b]? = some (.cells cs t (0, 0))) : w.cell? ⟨b, 0, none⟩ = cs[0]? /\ w.cell? ⟨b, 1, none⟩ = cs[1]? := ⟨cell_of_row _ _ 0 _ _ _ h, cell_of_row _ _ 1 _ _ _ h⟩
theorem cl3 {w : World} {b : Nat} {cs : Array Value} {t : TypeId} (h : w.heap[b]? = some (.cells cs t (0, 0))) : w.cell? ⟨b, 0, none⟩ = cs[0]? /\ w.cell? ⟨b, 1, none⟩ = cs[1]? /\ w.cell? ⟨b, 2, none⟩ = cs[2]? := ⟨cell_of_row _ _ 0 _ _ _ h, cell_of_row _ _ 1 _ _ _ h, cell_of_row _ _ 2 _ _ _ h⟩
theorem cl4 {w : World} {b : Nat} {cs : Array Value} {t : TypeId} (h : w.heap[b]? = some (.cells cs t (0, 0))) : w.cell? ⟨b, 0, none⟩ = cs[0]? /\ w.cell? ⟨b, 1, none⟩ = cs[1]? /\ w.cell? ⟨b, 2, none⟩ = cs[2]? /\ w.cell? ⟨b, 3, none⟩ = cs[3]? := ⟨cell_of_row _ _ 0 _ _ _ h, cell_of_row _ _ 1 _ _ _ h, cell_of_row _ _ 2 _ _ _ h, cell_of_row _ _ 3 _ _ _ h⟩
theorem cl5 {w : World} {b : Nat} {cs : Array Value} {t : TypeId} (h : w.heap[b]? = some (.cells cs t (0, 0))) : w.cell? ⟨b, 0, none⟩ = cs[0]? /\ w.cell? ⟨b, 1, none⟩ = cs[1]? /\ w.cell? ⟨b, 2, none⟩ = cs[2]? /\ w.cell? ⟨b, 3, none⟩ = cs[3]? /\ w.cell? ⟨b, 4, none⟩ = cs[4]? := ⟨cell_of_row _ _ 0 _ _ _ h, cell_of_row _ _ 1 _ _ _ h, cell_of_row _ _ 2 _ _ _ h, cell_of_row _ _ 3 _ _ _ h, cell_of_row _ _ 4 _ _ _ h⟩
theorem cl6 {w : World} {b : Nat} {cs : Array Value} {t : TypeId} (h : w.heap[b]? = some (.cells cs t (0, 0))) : w.cell? ⟨b, 0, none⟩ = cs[0]? /\ w.cell? ⟨b, 1, none⟩ = cs[1]? /\ w.cell? ⟨b, 2, none⟩ = cs[2]? /\ w.cell? ⟨b, 3, none⟩ = cs[3]? /\ w.cell? ⟨b, 4, none⟩ = cs[4]? /\ w.cell? ⟨b, 5, none⟩ = cs[5]? := ⟨cell_of_row _ _ 0 _ _ _ h, cell_of_row _ _ 1 _ _ _ h, cell_of_row _ _ 2 _ _ _ h, cell_of_row _ _ 3 _ _ _ h, cell_of_row _ _ 4 _ _ _ h, cell_of_row _ _ 5 _ _ _ h⟩
theorem zhi {p : Prop} (h : p) : Hid p := Lib.hid h
theorem zcr {w : World} {b : Nat} {cs : Array Value} {t : TypeId} {f : Nat × Nat} (i : Nat) (h : w.heap[b]? = some (.cells cs t f)) : w.cell? ⟨b, i, none⟩ = cs[i]? := cell_of_row _ _ i _ _ _ h
abbrev Zb := ByteArray
theorem q_0.{u} {α : Type u} {i : Nat} {b : α} {xs : Array α} : xs[i]? = some b ↔ ∃ h : i < xs.size, xs[i] = b := Array.getElem?_eq_some_iff
theorem q_1 {n m k : Nat} : n < m -> m <= k -> n < k := Nat.lt_of_lt_of_le
theorem q_2 (n : Nat) : n <= n := Nat.le_refl n
theorem q_3 {P : Program} {fn : Func} {R : Ending -> World -> Prop} {a : Act} {w : World} {v : Value} : Sem.run P (results fn a.tmps) w = .ok v w -> a.defers = [] -> R (.returned v) w -> bodyPost P fn R .ret a w := bodyPost_ret
theorem q_4 (w : World) (o : Obj) : (w.alloc o).heap[w.heap.size]? = some o := heap_alloc_new w o
theorem q_5 (w : World) (o : Obj) {r : Nat} : r < w.heap.size -> (w.alloc o).heap[r]? = w.heap[r]? := heap_alloc_old _ _
theorem q_6 {w w' : World} {a : Addr} : w'.heap[a.block]? = w.heap[a.block]? -> w'.cell? a = w.cell? a := World.cell?_of_block
theorem q_7.{u} {α : Type u} {l : List α} {i : Nat} (h : i < l.length) : l[i]? = some l[i] := List.getElem?_eq_getElem _
theorem q_8.{u} {α : Type u} {a : α} {s t : List α} : a ∈ s ++ t ↔ a ∈ s \/ a ∈ t := List.mem_append
theorem q_9 {n m k : Nat} : n <= m -> m <= k -> n <= k := Nat.le_trans
theorem q_a.{u} {α : Type u} {l : List α} {i : Nat} {a : α} : l[i]? = some a -> a ∈ l := List.mem_of_getElem?
theorem q_b.{u,v} {α : Type u} {β : Type v} {f : α -> β} {l : List α} {i : Nat} : (l.map f)[i]? = l[i]?.map f := List.getElem?_map
theorem q_c.{u,v} {α : Type u} {b : α} {β : Type v} {x : Option β} {f : β -> α} : x.map f = some b ↔ ∃ a, x = some a /\ f a = b := Option.map_eq_some_iff
theorem q_d.{u} {α : Type u} {b : α} {l : List α} {a : α} : a ∈ b :: l ↔ a = b \/ a ∈ l := List.mem_cons
theorem q_e {n m k : Nat} : n <= m -> m < k -> n < k := Nat.lt_of_le_of_lt
theorem q_f (n m : Nat) : n < m \/ n ≥ m := Nat.lt_or_ge n m
theorem q_g.{u} {α : Type u} {l : List α} : l.length = 0 -> l = [] := List.eq_nil_of_length_eq_zero
theorem q_h (n : Nat) : 0 <= n := Nat.zero_le n
theorem q_i (B : Nat) (w : World) : Below B w w := Below.refl B w
theorem q_j.{u} {α : Type u} {l : List α} {i : Nat} (h : l.length <= i) : l[i]? = none := List.getElem?_eq_none h
theorem q_k (w : World) (a : Addr) {v : Value} : w.cell? a = some v -> a.block < w.heap.size := World.block_lt_of_cell? _ _
theorem q_l.{u} {α : Type u} {a : α} {l : List α} : a ∈ l -> ∃ i : Nat, l[i]? = some a := List.getElem?_of_mem
end Go.Proofs.YtdflbhofmmlpgaaGreat
namespace Go.Proofs.YtdflbhofmmlpgaaGreat
abbrev z0e:=List UInt8
def letter (c:UInt8):Bool:=(decide (97<=c.toNat)&&decide (c.toNat<=122))||(decide (65<=c.toNat)&&decide (c.toNat<=90))
def digit (c:UInt8):Bool:=decide (48<=c.toNat)&&decide (c.toNat<=57)
def wordy (c:UInt8):Bool:=letter c||digit c||decide (c.toNat=95)
def zah:List z0e:=[[102,117,110,99],[103,108,111,98,97,108],[118,97,114],[105,102],[101,108,115,101],[119,104,105,108,101],[114,101,116,117,114,110],[112,114,105,110,116],[99,97,108,108],[114,101,97,100]]
def z5X:List z0e:=[[40],[41],[123],[125],[91],[93],[44],[59],[61],[43],[45],[42],[47],[37],[60],[60,61],[61,61],[33,61],[38,38],[124,124],[33],[38]]
def isW (l:z0e):Bool:=zah.contains l
def isS (l:z0e):Bool:=z5X.contains l
structure Tok where
 kind:Nat
 line:Nat
 value:Nat
 text:z0e
 deriving DecidableEq
def num (n:Nat):z0e->Option Nat
 | []=>some n
 | c :: r=>if (9223372036854775807 - (c.toNat - 48)) / 10<n then none else num (10 * n+(c.toNat - 48)) r
def val (t:z0e):Option Nat :=
 match Lib.atoiAll t with
 | .ok v=>some v.toNat
 | _=>none
theorem z7h:∀ (l:z0e) (acc u:Nat),Lib.parseUint10 acc l=.ok u->acc<=u
 | [],acc,u,h=>by simp only [Lib.parseUint10] at h; injection h with h; omega
 | c :: r,acc,u,h=>by
  simp only [Lib.parseUint10] at h;split at h
  ·split at h
   ·cases h
   ·split at h
    ·cases h
    ·have:=z7h r _ u h;omega
  ·cases h
theorem z3t:∀ (l:z0e) (acc u:Nat),Lib.parseUint10 acc l=.ok u->∀ c∈l,digit c=true
 | [],acc,u,h=>by simp
 | c :: r,acc,u,h=>by
  simp only [Lib.parseUint10] at h;split at h
  ·rename_i hc;split at h
   ·cases h
   ·split at h
    ·cases h
    ·intro x hx;rcases q_d.1 hx with rfl | hx
     ·simp [digit,hc]
     ·exact z3t r _ u h x hx
  ·cases h
def small:Lib.NumEnd Nat->Option Nat
 | .ok u=>if 9223372036854775808<=u then none else some u
 | _=>none
theorem z84 {l:z0e} {acc:Nat} (h:9223372036854775808<=acc):small (Lib.parseUint10 acc l)=none:=by
 cases e:Lib.parseUint10 acc l with
 | ok u=>have:=z7h l acc u e; simp [small]; omega
 | _=>rfl
theorem zc2:∀ (l:z0e) (acc:Nat),(∀ c∈l,digit c=true)->acc<=9223372036854775807->num acc l=small (Lib.parseUint10 acc l)
 | [],acc,_,h=>by simp [num,Lib.parseUint10,small]; omega
 | c :: r,acc,hd,h=>by
  have hc:=hd c (by simp);simp only [digit,Bool.and_eq_true,decide_eq_true_eq] at hc;have e1:48<=c.toNat/\c.toNat<=57:=hc;simp only [num,Lib.parseUint10];rw [if_pos e1]
  by_cases hb:(9223372036854775807 - (c.toNat - 48)) / 10<acc
  ·rw [if_pos hb];split
   ·rfl
   ·split
    ·rfl
    ·rw [z84 (by omega)]
  ·rw [if_neg hb,if_neg (by omega),if_neg (by omega)];have:=zc2 r (10 * acc+(c.toNat - 48)) (fun x hx=>hd x (by simp [hx])) (by omega);rw [this,Nat.mul_comm]
theorem z4S {c:UInt8} (h:digit c=true):48<=c.toNat/\c.toNat<=57:=by
 simpa only [digit,Bool.and_eq_true,decide_eq_true_eq] using h
theorem zcb {c:UInt8} {r:z0e} (h:digit c=true):val (c :: r)=small (Lib.parseUint10 0 (c :: r)):=by
 have hc:=z4S h;unfold val;rw [Lib.atoiAll_plain c r (by omega) (by omega)];simp only [Lib.parseMag,if_neg (List.cons_ne_nil c r)];cases Lib.parseUint10 0 (c :: r) with
 | ok u =>
  simp only [Lib.signless,small]
  by_cases hu:9223372036854775808<=u
  ·simp [hu]
  ·simp [hu]
 | _=>rfl
theorem zab {c:UInt8} {r:z0e} (h:digit c=true) (hr:∀ x∈r,digit x=true):val (c :: r)=num 0 (c :: r):=by
 rw [zcb h,zc2 (c :: r) 0 (fun x hx=>by rcases q_d.1 hx with rfl | hx; exact h; exact hr x hx) (by omega)]
theorem zbu {c x:UInt8} {r:z0e} (h:digit c=true) (hx:x∈r) (hn:digit x=false):val (c :: r)=none:=by
 rw [zcb h];cases e:Lib.parseUint10 0 (c :: r) with
 | ok u =>
  have:=z3t _ _ _ e x (by simp [hx]);rw [this] at hn;cases hn
 | _=>rfl
def plen (l:z0e):Nat :=
 match l with
 | []=>0
 | c :: _=>if letter c||digit c then (l.takeWhile wordy).length else if decide (2<=l.length)&&isS (l.take 2) then 2 else if isS (l.take 1) then 1 else 0
def pmean (t:z0e):Option (Nat × Nat) :=
 match t with
 | []=>none
 | c :: r=>if isS t then some (4,0) else if isW t then some (3,0) else if digit c then (if decide (1<(c :: r).length)&&decide (c.toNat=48) then none else (val t).map fun v=>(2,v)) else if (c :: r).length<=32 then some (1,0) else none
def rnext (l:z0e):Option (Nat × Nat × Nat) :=
 match l with
 | []=>none
 | c :: _ =>
  if letter c then (if isW (l.takeWhile wordy) then some (3,0,(l.takeWhile wordy).length) else if (l.takeWhile wordy).length<=32 then some (1,0,(l.takeWhile wordy).length) else none)
  else if digit c then
   (match num 0 (l.takeWhile digit) with
    | none=>none
    | some v=>if (match l.drop (l.takeWhile digit).length with | []=>false | x :: _=>letter x||decide (x.toNat=95))||(decide (c.toNat=48)&&decide (1<(l.takeWhile digit).length)) then none else some (2,v,(l.takeWhile digit).length))
  else if decide (2<=l.length)&&isS (l.take 2) then some (4,0,2) else if isS (l.take 1) then some (4,0,1) else none
theorem z2A {α:Type} (p:α->Bool):∀ l:List α,l.take (l.takeWhile p).length=l.takeWhile p
 | []=>rfl
 | a :: r=>by
  by_cases h:p a=true
  ·simp [h,z2A p r]
  ·simp [h]
theorem z8C {α:Type} (p:α->Bool):∀ l:List α,l.drop (l.takeWhile p).length=l.dropWhile p
 | []=>rfl
 | a :: r=>by
  by_cases h:p a=true
  ·simp [h,z8C p r]
  ·simp [h]
theorem z8D {α:Type} (p:α->Bool):∀ (l:List α) (x:α) (r:List α),l.dropWhile p=x :: r->p x=false
 | [],x,r,h=>by simp at h
 | a :: l,x,r,h=>by
  by_cases hp:p a=true
  ·rw [List.dropWhile_cons,if_pos hp] at h; exact z8D p l x r h
  ·rw [List.dropWhile_cons,if_neg hp] at h;injection h with h1 h2;subst h1;simpa using hp
theorem z9a {c:UInt8} (h:letter c=true):(97<=c.toNat/\c.toNat<=122)\/(65<=c.toNat/\c.toNat<=90):=by
 simpa only [letter,Bool.and_eq_true,Bool.or_eq_true,decide_eq_true_eq] using h
theorem zaO:∀ l∈z5X,∃ c r,l=c :: r/\letter c=false/\digit c=false:=by
 unfold z5X;intro l hl;simp only [q_d,List.not_mem_nil,or_false] at hl;rcases hl with rfl|rfl|rfl|rfl|rfl|rfl|rfl|rfl|rfl|rfl|rfl|rfl|rfl|rfl|rfl|rfl|rfl|rfl|rfl|rfl|rfl|rfl <;> exact ⟨_,_,rfl,by decide,by decide⟩
theorem z54 {c:UInt8} {r:z0e} (h:(letter c||digit c)=true):isS (c :: r)=false:=by
 cases e:isS (c :: r) with
 | false=>rfl
 | true =>
  obtain ⟨c',r',he,h1,h2⟩:=zaO (c :: r) (by simpa [isS] using e);injection he with he _;subst he;simp [h1,h2] at h
theorem zaP:∀ l∈zah,∃ c r,l=c :: r/\digit c=false:=by
 unfold zah;intro l hl;simp only [q_d,List.not_mem_nil,or_false] at hl;rcases hl with rfl|rfl|rfl|rfl|rfl|rfl|rfl|rfl|rfl|rfl <;> exact ⟨_,_,rfl,by decide⟩
theorem z6q {c:UInt8} {r:z0e} (h:digit c=true):isW (c :: r)=false:=by
 cases e:isW (c :: r) with
 | false=>rfl
 | true =>
  obtain ⟨c',r',he,h1⟩:=zaP (c :: r) (by simpa [isW] using e);injection he with he _;subst he;rw [h] at h1; cases h1
theorem z3u {c:UInt8} (h:letter c=true):digit c=false:=by
 have:=z9a h;cases e:digit c with
 | false=>rfl
 | true=>have:=z4S e; omega
theorem zdm {α:Type} {p q:α->Bool} (hpq:∀ a,p a=true->q a=true):∀ (l:List α),(match l.dropWhile p with | []=>true | x :: _=>!q x)=true->l.takeWhile q=l.takeWhile p
 | [],_=>rfl
 | a :: r,h=>by
  by_cases hp:p a=true
  ·rw [List.dropWhile_cons,if_pos hp] at h;rw [List.takeWhile_cons,List.takeWhile_cons,if_pos hp,if_pos (hpq a hp),zdm hpq r h]
  ·rw [List.dropWhile_cons,if_neg hp] at h;have hq:q a=false:=by simpa using h
   rw [List.takeWhile_cons,List.takeWhile_cons,if_neg hp,if_neg (by simp [hq])]
theorem zca {α:Type} {p q:α->Bool} (hpq:∀ a,p a=true->q a=true):∀ (l:List α) (x:α) (r:List α),l.dropWhile p=x :: r->q x=true->x∈l.takeWhile q
 | [],x,r,h,_=>by simp at h
 | a :: l,x,r,h,hq=>by
  by_cases hp:p a=true
  ·rw [List.dropWhile_cons,if_pos hp] at h;rw [List.takeWhile_cons,if_pos (hpq a hp)];exact List.mem_cons_of_mem _ (zca hpq l x r h hq)
  ·rw [List.dropWhile_cons,if_neg hp] at h;injection h with h1 h2;subst h1;rw [List.takeWhile_cons,if_pos hq];simp
theorem z4G {α:Type} (p:α->Bool):∀ (l:List α) (x:α),x∈l.takeWhile p->p x=true
 | [],x,h=>by simp at h
 | a :: r,x,h=>by
  rw [List.takeWhile_cons] at h;split at h
  ·rename_i ha;rcases q_d.1 h with rfl | h
   ·exact ha
   ·exact z4G p r x h
  ·simp at h
theorem z5c (l:z0e):rnext l=(pmean (l.take (plen l))).map fun x=>(x.1,x.2,plen l):=by
 match l with
 | []=>rfl
 | c :: r =>
  by_cases hl:letter c=true
  ·have hd:=z3u hl;have hw:wordy c=true:=by simp [wordy,hl]
   simp only [rnext,plen,hl,Bool.true_or,if_true];rw [z2A];rw [List.takeWhile_cons,if_pos hw];simp only [pmean,z54 (c:=c) (r:=r.takeWhile wordy) (by simp [hl]),hd]
   by_cases h1:isW (c :: r.takeWhile wordy)=true
   ·simp [h1]
   ·by_cases h2:(c :: r.takeWhile wordy).length<=32
    ·simp [h1]
    ·simp [h1]
  ·have hl:letter c=false:=by simpa using hl
   by_cases hd:digit c=true
   ·have hw:wordy c=true:=by simp [wordy,hd]
    simp only [rnext,plen,hl,hd,Bool.or_true,if_true,Bool.false_eq_true,if_false];rw [z2A,z8C];have hpq:∀ a,digit a=true->wordy a=true:=fun a h=>by simp [wordy,h]
    cases e:(c :: r).dropWhile digit with
    | nil =>
     have htw:=zdm hpq (c :: r) (by rw [e]);rw [htw,List.takeWhile_cons,if_pos hd];simp only [pmean,z54 (c:=c) (r:=r.takeWhile digit) (by simp [hd]),z6q (c:=c) (r:=r.takeWhile digit) hd,hd];rw [zab hd (fun x hx=>z4G _ _ _ hx)];generalize decide (1<(c :: r.takeWhile digit).length)=X;generalize decide (c.toNat=48)=Y;cases num 0 (c :: r.takeWhile digit) <;> cases X <;> cases Y <;> rfl
    | cons x r' =>
     have hx:=z8D digit _ _ _ e
     by_cases hq:wordy x=true
     ·have hm:=zca hpq (c :: r) x r' e hq;have e1:(c :: r).takeWhile wordy=c :: r.takeWhile wordy:=by rw [List.takeWhile_cons,if_pos hw]
      rw [e1] at hm ⊢;have hm':x∈r.takeWhile wordy:=by
       rcases q_d.1 hm with rfl | hm
       ·rw [hd] at hx; cases hx
       ·exact hm
      simp only [pmean,z54 (c:=c) (r:=r.takeWhile wordy) (by simp [hd]),z6q (c:=c) (r:=r.takeWhile wordy) hd,hd,zbu hd hm' hx];have hlx:(letter x||decide (x.toNat=95))=true:=by
       simpa [wordy,hx] using hq
      cases num 0 (List.takeWhile digit (c :: r)) <;> simp [hlx]
     ·have hq:wordy x=false:=by simpa using hq
      have hlx:(letter x||decide (x.toNat=95))=false:=by
       have:=hq;simp only [wordy,hx,Bool.or_false] at this;exact this
      have htw:=zdm hpq (c :: r) (by rw [e]; simp [hq]);rw [htw,List.takeWhile_cons,if_pos hd];simp only [pmean,z54 (c:=c) (r:=r.takeWhile digit) (by simp [hd]),z6q (c:=c) (r:=r.takeWhile digit) hd,hd];rw [zab hd (fun x hx=>z4G _ _ _ hx)];simp only [hlx];generalize decide (1<(c :: r.takeWhile digit).length)=X;generalize decide (c.toNat=48)=Y;cases num 0 (c :: r.takeWhile digit) <;> cases X <;> cases Y <;> rfl
   ·have hd:digit c=false:=by simpa using hd
    have hnn:∀ n,n≠0->(c :: r).take n≠[]:=fun n hn=>by cases n with | zero=>exact absurd rfl hn | succ n=>simp
    simp only [rnext,plen,hl,hd,Bool.or_false,Bool.false_eq_true,if_false]
    by_cases h2:(decide (2<=(c :: r).length)&&isS ((c :: r).take 2))=true
    ·rw [if_pos h2,if_pos h2];simp only [Bool.and_eq_true] at h2;have h2':=h2.2;simp only [List.take_succ_cons] at h2' ⊢;simp [pmean,h2']
    ·rw [if_neg h2,if_neg h2]
     by_cases h3:isS ((c :: r).take 1)=true
     ·rw [if_pos h3,if_pos h3];simp only [List.take_succ_cons,List.take_zero] at h3 ⊢;simp [pmean,h3]
     ·rw [if_neg h3,if_neg h3];simp [pmean]
def scan (line:Nat) (l:z0e):Except Nat (List Tok) :=
 match l with
 | []=>.ok [⟨0,line,0,[]⟩]
 | c :: r =>
  if c.toNat=10 then scan (line+1) r
  else if c.toNat=32\/c.toNat=9 then scan line r
  else if c.toNat=35 then scan line (r.dropWhile fun x=>decide (x.toNat≠10))
  else
   match rnext (c :: r) with
   | none=>.error line
   | some (k,v,n) =>
    match scan line (r.drop (n - 1)) with
    | .error e=>.error e
    | .ok ts=>.ok (⟨k,line,v,(c :: r).take n⟩ :: ts)
termination_by l.length
decreasing_by
 all_goals simp
 ·have:=List.Sublist.length_le (List.dropWhile_sublist (fun x:UInt8=>decide (x.toNat≠10)) (l:=r)); simp at this; omega
 ·omega
def ext (ts:List Tok):Except Nat (List Tok)->Except Nat (List Tok)
 | .error e=>.error e
 | .ok l=>.ok (ts++l)
theorem z3k (x:Except Nat (List Tok)):ext [] x=x:=by cases x <;> rfl
end Go.Proofs.YtdflbhofmmlpgaaGreat
namespace Go.Proofs.YtdflbhofmmlpgaaGreat
open Go.RowKit
theorem z0N (a:Addr):a.add 0=a:=by simp [Addr.add]
theorem z0i (a:Addr) (n:Nat):(a.add n).block=a.block:=by unfold Addr.add; split <;> rfl
theorem zcn (a:Addr) (i j:Nat):(a.add i).add j=a.add (i+j):=by
 unfold Addr.add
 by_cases hi:i=0 <;> by_cases hj:j=0 <;> simp [hi,hj,Nat.add_assoc]
def Rd (w:World) (A:Option Addr) (xs:List Value):Prop:=∀ j u,xs[j]?=some u->∃ ad,A=some ad/\w.cell? (ad.add j)=some u
section
variable {w w':World} {A:Option Addr} {xs ys:List Value}
theorem Rd.nil:Rd w A []:=fun j u h=>by simp at h
theorem Rd.at_ {k:Nat} (h:Rd w A xs) (hk:k<xs.length):∃ ad,A=some ad/\w.cell? (ad.add k)=some xs[k]:=h k _ (q_7 hk)
theorem Rd.some_ (h:Rd w A xs) (hx:xs≠[]):∃ ad,A=some ad:=by
 obtain ⟨ad,e,_⟩:=h.at_ (k:=0) (List.length_pos_iff.2 hx);exact ⟨ad,e⟩
theorem Rd.cells {ad:Addr} (h:Rd w (some ad) xs):∀ j u,xs[j]?=some u->w.cell? (ad.add j)=some u:=fun j u hu=>by
 obtain ⟨_,e,hc⟩:=h j u hu;injection e with e;subst e;exact hc
theorem Rd.of_cells {ad:Addr} (h:∀ j u,xs[j]?=some u->w.cell? (ad.add j)=some u):Rd w (some ad) xs:=fun j u hu=>⟨ad,rfl,h j u hu⟩
theorem Rd.keep (h:Rd w A xs) (hk:∀ p:Addr,p.block<w.heap.size->w'.cell? p=w.cell? p):Rd w' A xs:=fun j u hu=>by
 obtain ⟨ad,e,hc⟩:=h j u hu;exact ⟨ad,e,(hk _ (q_k w _ hc)).trans hc⟩
theorem Rd.below (h:Rd w A xs) (hb:Below w.heap.size w w'):Rd w' A xs:=h.keep fun _ hp=>hb.cell hp
theorem Rd.drew (h:Rd w A xs):Rd w.drew A xs:=h
theorem Rd.drewN (h:Rd w A xs) (k:Nat):Rd (w.drewN k) A xs:=h
theorem Rd.alloc (h:Rd w A xs) (o:Obj):Rd (w.alloc o) A xs:=h.keep fun p hp=>World.cell?_alloc_lt w o p hp
theorem Rd.new (w:World) (C:Array Value) (t:TypeId) (fr:Nat × Nat):Rd (w.alloc (.cells C t fr)) (some ⟨w.heap.size,0,none⟩) C.toList:=Rd.of_cells fun j u hu=>by
 rw [Addr.add_lit,Nat.zero_add];exact (zcr _ (q_4 w _)).trans (by simpa using hu)
theorem Rd.left (h:Rd w A (xs++ys)):Rd w A xs:=fun j u hu=>h j u (by
 rw [List.getElem?_append_left (by rcases q_f j xs.length with hl | hl; exact hl; rw [q_j hl] at hu; cases hu)]; exact hu)
theorem Rd.take (h:Rd w A xs) (k:Nat):Rd w A (xs.take k):=by
 rw [<- List.take_append_drop k xs] at h;exact h.left
theorem Rd.cut (h:Rd w A xs) {k c:Nat} (hc:xs.length<=c):Rd w (if c=k then A else A.map (·.add k)) (xs.drop k):=fun j u hu=>by
 rw [List.getElem?_drop] at hu;obtain ⟨ad,e,hcell⟩:=h _ u hu;have hlt:k+j<xs.length:=by
  rcases q_f (k+j) xs.length with hl | hl
  ·exact hl
  ·rw [q_j hl] at hu; cases hu
 rw [if_neg (by omega),e];exact ⟨ad.add k,rfl,by rw [zcn]; exact hcell⟩
theorem Rd.set_ {g:Nat} (h:Rd w (some ⟨g,0,none⟩) xs) (i:Nat) (hi:i<xs.length) (u:Value):Rd (w.setCell ⟨g,i,none⟩ u) (some ⟨g,0,none⟩) (xs.set i u):=Rd.of_cells fun j u' hu=>by
 rw [Addr.add_lit,Nat.zero_add]
 by_cases hj:i=j
 ·subst hj;have hc:=h.cells i xs[i] (q_7 hi);rw [Addr.add_lit,Nat.zero_add] at hc;rw [List.getElem?_set_self hi] at hu;injection hu with hu;subst hu;exact World.cell?_setCell_same _ _ _ hc
 ·rw [List.getElem?_set_ne hj] at hu;have hc:=h.cells j u' hu;rw [Addr.add_lit,Nat.zero_add] at hc;rw [World.cell?_setCell_other _ _ _ _ (fun he=>hj (by injection he))];exact hc
end
section
variable {w w':World} {base:Nat} {e:TypeId} {v:Value} {xs:List Value}
end
theorem z08 {w w1 w2:World} (h:Below w.heap.size w w1) (k:Below w1.heap.size w1 w2):Below w.heap.size w w2:=h.trans (k.mono h.size)
def z07 (p:Prop):Prop:=p
theorem z07.out {p:Prop} (h:z07 p):p:=h
theorem z07.of {p:Prop} (h:p):z07 p:=h
section
variable {P:Program} (w:World)
end
end Go.Proofs.YtdflbhofmmlpgaaGreat
namespace Go.Proofs.YtdflbhofmmlpgaaGreat
open Go.RowKit Go.WideMaps
section
variable {w w':World} {b n:Nat} {f:z0e->Bool}
end
end Go.Proofs.YtdflbhofmmlpgaaGreat
namespace Go.Proofs.YtdflbhofmmlpgaaGreat
open Go.RowKit
def RetB (x:Bool) (w:World) (e:Ending) (w':World):Prop:=e=.returned (.bool x)/\w=w'
theorem retB {x y:Bool} {w:World} (h:x=y):RetB y w (.returned (.bool x)) w:=⟨by rw [h],rfl⟩
theorem z1u (s:Zb) (k:Nat) (h:k<s.size):s.data.toList.drop k=s[k] :: s.data.toList.drop (k+1):=by
 rw [List.drop_eq_getElem_cons (by simpa using h)];rfl
theorem z2d (s:Zb) (k:Nat) (h:s.size<=k):s.data.toList.drop k=[]:=List.drop_eq_nil_of_le (by simpa using h)
def twl (l:z0e):Nat:=(l.takeWhile wordy).length
theorem zbs {c:UInt8} {r:z0e} (h:wordy c=true):twl (c :: r)=1+twl r:=by simp [twl,h,Nat.add_comm]
theorem zbt {c:UInt8} {r:z0e} (h:wordy c=false):twl (c :: r)=0:=by simp [twl,h]
theorem z2Q {B:Nat} {w w':World} (h:Below B w w') (n:Nat):Below B w (w'.drewN n):=⟨h.os,h.tape,h.output,h.size,h.block⟩
def bv (c:Nat):Value:=.int .u8 (c:Int)
def uv (c:Nat):Value:=.int .u64 (c:Int)
def strV (l:List Zb):List Value:=l.map Value.string
end Go.Proofs.YtdflbhofmmlpgaaGreat
