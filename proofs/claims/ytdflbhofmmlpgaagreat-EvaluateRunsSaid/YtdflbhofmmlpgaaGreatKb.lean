/-
  Kb: Tok3, Tok4, TokForm, Tree, Grow, Node, TokJoin, Draw, StG, Law. Part of the proof. No condition.
-/
import Derived.Test.YtdflbhofmmlpgaaGreatKa
import Derived.Laws.AppendOwn
import Derived.Laws.IdiomStrings
import Derived.Deep.RegionHeld3
import Derived.Deep.AppendLies
import Derived.Deep.Cut
import Derived.Deep.RegionWith
import Derived.Laws.AppendOwnNone
import Derived.Laws.OwnMore
import Derived.Lib.Join
import Derived.ProofKit
import Derived.OpenShut
import Derived.ChangeMaps5
import Derived.Deep.DeepHandedRow
import Derived.Lib.LaidTab
set_option maxRecDepth 100000
set_option maxHeartbeats 8000000
namespace Go.Proofs.YtdflbhofmmlpgaaGreat
open Go.RowKit
def tkc (t:Tok):List Value:=[.int .i64 (t.kind:Int),.int .i64 (t.line:Int),.int .i64 (t.value:Int),.string ⟨t.text.toArray⟩]
def tks (l:List Tok):List Value:=l.flatMap tkc
theorem z88 (a b:List Tok):tks (a++b)=tks a++tks b:=by simp [tks]
theorem zdl (l:List Tok):∀ u∈tks l,u.oneCell'=true:=by
 intro u hu;obtain ⟨t,_,h⟩:=List.mem_flatMap.1 hu;simp only [tkc,q_d,List.not_mem_nil,or_false] at h;rcases h with rfl | rfl | rfl | rfl <;> rfl
theorem z03 (w:World) (a:Addr) (u:Value):w.grownBy (w.setCell a u) (some a.block):=⟨rfl,rfl,rfl,by simp [World.setCell],fun i _ hne=>Below.heap_setCell w _ _ i (fun he=>hne (by rw [he]))⟩
def z3a (l:z0e):Except (Nat × Nat) (List Tok):=if 65536<l.length then .error (0,5) else match scan 1 l with | .error n=>.error (n,6) | .ok ts=>.ok ts
def z4M (x:Except (Nat × Nat) (List Tok)) (w:World) (e:Ending) (w':World):Prop :=
 match x with
 | .ok ts=>∃ v,e=.returned (.tuple #[v,.int .i64 0,.int .i64 0])/\w'.ownsRow w.heap.size 110 4 v ts.length (tks ts)/\Below w.heap.size w w'
 | .error (n,c)=>e=.returned (.tuple #[.slice none 0 0,.int .i64 (n:Int),.int .i64 (c:Int)])/\Below w.heap.size w w'
theorem z9E (l:z0e):plen l<=l.length:=by
 match l with
 | []=>exact q_2 _
 | c :: r =>
  simp only [plen];split
  ·exact (List.takeWhile_sublist _).length_le
  ·split
   ·rename_i h;simp only [Bool.and_eq_true,decide_eq_true_eq] at h;exact h.1
   ·split <;> simp
theorem z3W (a b:List Tok) (x:Except Nat (List Tok)):ext a (ext b x)=ext (a++b) x:=by cases x <;> simp [ext]
section
variable {w w':World} {base n:Nat} {T:TypeId} {size:Nat} {v:Value} {xs:List Value}
end
theorem zb1 {w:World} {base n size:Nat} {T:TypeId} {v:Value} {xs:List Value} (h:w.ownsRow base T size v n xs):∀ k,v.ownBlock=some k->base<=k:=fun k hk=>by
 rcases h.2 with ⟨rfl,_⟩ | ⟨g',cap,cur,rfl,hb,_⟩
 ·simp [Value.ownBlock] at hk
 ·simp [Value.ownBlock] at hk;omega
theorem zcQ:(Tryz.prog.info? 110).map (fun i=>(i.zero,i.size,i.bytes))=some (some (.agg #[.int .i64 0,.int .i64 0,.int .i64 0,.string ⟨#[]⟩]),4,40):=by kernel_rfl
theorem z2a {ops:Array Oper} {rest:List Oper} {o:Oper} {a:Act} {Q:Exit->Act->World->Prop} (w:World) (hgd:o.guard=none) (s x:Operand)
  (ho:o.op=.call { callee:=.builtin .append,args:=#[s,x],argTypes:=#[72,72] }) (base:Nat) (v:Value) (ts:List Tok) (t:Tok) (k l y z:Value) (hk:[k,l,y,z]=tkc t)
  (hs:a.eval s=v) (hx:a.eval x=.slice (some ⟨w.heap.size,0,none⟩) 1 1) (hown:w.ownsRow base 110 4 v ts.length (tks ts)) (hlen:ts.length<=1000000) (hbase:base<=w.heap.size)
  (h:∀ v' w',w'.ownsRow base 110 4 v' (ts++[t]).length (tks (ts++[t]))->w.grownBy w' v.ownBlock->wpList Tryz.prog ops Q rest (a.put o.dst v') w') :
  wpList Tryz.prog ops Q (o :: rest) a (w.alloc (.cells #[k,l,y,z] 110)):=by
 obtain ⟨i,hi,hz,hsz,hby⟩:=info_parts zcQ;refine wpList_append_own _ hgd s x _ ho base 110 i _ 4 40 Tryz.underlying72 hi hz hsz hby rfl (by decide) v ts.length (tks ts) hs (hown.alloc _) ⟨w.heap.size,0,none⟩ 1 1 [k,l,y,z] hx (by simp) ?_ ?_ (by unfold maxLen; omega) (by omega) (by simp; omega) fun v' w' h1 h2 _=>h v' w' ?_ ((World.grownBy_alloc _ _ _).trans h2)
 ·intro j u hu;rw [Addr.add_lit,Nat.zero_add];exact (zcr _ (q_4 w _)).trans (by simpa using hu)
 ·rw [hk];intro u hu;exact zdl [t] u (by simpa [tks] using hu)
 ·rw [hk] at h1;simpa [z88,tks] using h1
theorem z7j {l:z0e} {q:Nat × Nat} (hm:pmean (l.take (plen l))=some q):0<plen l:=by
 cases h:plen l with
 | zero=>rw [h] at hm; cases hm
 | succ n=>omega
def RetG (x:Bool) (w:World) (e:Ending) (w':World):Prop:=e=.returned (.bool x)/\Below w.heap.size w w'
theorem z9C {w:World} {base:Nat} {v:Value} {l:List Tok} (h:w.ownsRow base 110 4 v l.length (tks l)) {k:Nat} {t:Tok} (hk:l[k]?=some t) :
  ∃ g c,v=.slice (some ⟨g,0,none⟩) l.length c/\base<=g/\l.length<=c/\g<w.heap.size/\w.cell? ⟨g,k * 4,none⟩=some (.int .i64 (t.kind:Int))/\w.cell? ⟨g,k * 4+1,none⟩=some (.int .i64 (t.line:Int))/\w.cell? ⟨g,k * 4+2,none⟩=some (.int .i64 (t.value:Int))/\w.cell? ⟨g,k * 4+3,none⟩=some (.string ⟨t.text.toArray⟩):=by
 rcases h.2 with ⟨_,h0⟩ | ⟨g,cap,cur,hv,hb,hg,hc,_,hsz,ht⟩
 ·have:l=[]:=q_g h0;subst this;simp at hk
 ·have hlt:k<l.length:=by
   rcases q_f k l.length with h | h
   ·exact h
   ·rw [q_j h] at hk; cases hk
  have hcell:∀ j u,(tks l)[k * 4+j]?=some u->w.cell? ⟨g,k * 4+j,none⟩=some u:=fun j u hu=>by
   rw [cell_of_row w g _ _ _ _ hg];rw [<- ht] at hu;rw [List.getElem?_take] at hu;split at hu
   ·simpa using hu
   ·cases hu
  have hat:∀ (l:List Tok) (k:Nat) (t:Tok) (j:Nat),j<4->l[k]?=some t->(tks l)[k * 4+j]?=(tkc t)[j]?:=by
   intro l
   induction l with
   | nil=>intro k t j _ hk; simp at hk
   | cons a r ih =>
    intro k t j hj hk;cases k with
    | zero =>
     simp at hk;subst hk;simp only [tks,List.flatMap_cons];rw [List.getElem?_append_left (by simp [tkc]; omega)];simp
    | succ k =>
     simp only [List.getElem?_cons_succ] at hk;have:=ih k t j hj hk;simp only [tks,List.flatMap_cons] at this ⊢;rw [List.getElem?_append_right (by simp [tkc]; omega)];have e:(k+1) * 4+j - (tkc a).length=k * 4+j:=by simp [tkc]; omega
     rw [e,this]
  exact ⟨g,cap,hv,hb,hc,(q_0.1 hg).1,by simpa using hcell 0 _ ((hat l k t 0 (by omega) hk).trans rfl),hcell 1 _ ((hat l k t 1 (by omega) hk).trans rfl),hcell 2 _ ((hat l k t 2 (by omega) hk).trans rfl),hcell 3 _ ((hat l k t 3 (by omega) hk).trans rfl)⟩
def Gap (c:UInt8):Prop:=c.toNat=32\/c.toNat=9\/c.toNat=10
theorem z8Q {c:UInt8} (h:Gap c):wordy c=false:=by
 unfold wordy letter digit;rcases h with h | h | h <;> simp [h]
theorem zaI {a c:UInt8} (h:Gap c):isS [a,c]=false:=by
 cases e:isS [a,c] with
 | false=>rfl
 | true =>
  simp only [isS,z5X,List.contains_iff_mem] at e;simp only [q_d,List.cons.injEq,List.not_mem_nil,or_false,reduceCtorEq,and_false,false_or,and_true] at e;rcases h with h | h | h <;> (rcases e with ⟨_,e⟩ | ⟨_,e⟩ | ⟨_,e⟩ | ⟨_,e⟩ | ⟨_,e⟩ <;> (rw [e] at h; exact absurd h (by decide)))
def z8i (r:z0e):Prop:=∀ c r',r=c :: r'->Gap c
theorem zem {l r:z0e} (hr:z8i r) (h:∀ c∈l,wordy c=true):(l++r).takeWhile wordy=l:=by
 induction l with
 | nil =>
  cases r with
  | nil=>rfl
  | cons c r'=>simp [z8Q (hr c r' rfl)]
 | cons a l ih=>simp [h a (by simp),ih (fun c hc=>h c (by simp [hc]))]
theorem zbr (l:z0e):∀ c∈l.takeWhile wordy,wordy c=true:=fun c hc=>z4G wordy l c hc
theorem z7i {c:UInt8} {l r:z0e} (hr:z8i r) (hp:0<plen (c :: l)):plen ((c :: l).take (plen (c :: l))++r)=plen (c :: l):=by
 by_cases h1:(letter c||digit c)=true
 ·have hp1:plen (c :: l)=((c :: l).takeWhile wordy).length:=by simp only [plen,h1,if_true]
  have hw:wordy c=true:=by unfold wordy; simp only [Bool.or_eq_true] at h1 ⊢; exact .inl h1
  rw [hp1,z2A];have e:(c :: l).takeWhile wordy=c :: l.takeWhile wordy:=by simp [hw]
  rw [e];have:plen (c :: l.takeWhile wordy++r)=((c :: l.takeWhile wordy++r).takeWhile wordy).length:=by simp only [List.cons_append,plen,h1,if_true]
  rw [this,zem hr (by rw [<- e]; exact zbr _)]
 ·have h1:(letter c||digit c)=false:=by simpa using h1
  by_cases h2:(decide (2<=(c :: l).length)&&isS ((c :: l).take 2))=true
  ·have hp1:plen (c :: l)=2:=by simp only [plen,h1]; simp only [h2]; rfl
   rw [hp1]
   match l,h2 with
   | d :: l,h2 =>
    have h3:isS [c,d]=true:=by simpa using h2
    simp [plen,h1,h3]
  ·have h2:(decide (2<=(c :: l).length)&&isS ((c :: l).take 2))=false:=by simpa using h2
   by_cases h3:isS ((c :: l).take 1)=true
   ·have hp1:plen (c :: l)=1:=by simp only [plen,h1]; simp only [h2,h3]; rfl
    have h4:isS [c]=true:=by simpa using h3
    rw [hp1];cases r with
    | nil=>simp [plen,h1,h4]
    | cons x r'=>simp [plen,h1,h4,zaI (a:=c) (hr x r' rfl)]
   ·have h3:isS ((c :: l).take 1)=false:=by simpa using h3
    have:plen (c :: l)=0:=by simp only [plen,h1]; simp only [h2,h3]; rfl
    omega
structure zeN (t:Tok):Prop where
 kd:t.kind≠0
 head:∃ c r,t.text=c :: r/\c.toNat≠10/\¬(c.toNat=32\/c.toNat=9)/\c.toNat≠35
 mean:pmean t.text=some (t.kind,t.value)
 len:∀ r,z8i r->plen (t.text++r)=t.text.length
theorem z7Z {l:z0e} {k v:Nat} (h:pmean l=some (k,v)):k≠0:=by
 unfold pmean at h;split at h
 ·cases h
 ·split at h
  ·injection h with h; injection h with h; omega
  ·split at h
   ·injection h with h; injection h with h; omega
   ·split at h
    ·split at h
     ·cases h
     ·rename_i c r _ _ _ _;cases e:val (c :: r) with
      | none=>rw [e] at h; cases h
      | some q=>rw [e] at h; injection h with h; injection h with h; omega
    ·split at h
     ·injection h with h; injection h with h; omega
     ·cases h
theorem z9R (n:Nat):∀ (l:z0e) (line:Nat) (ts:List Tok),l.length<=n->scan line l=.ok ts->∃ toks e,ts=toks++[⟨0,e,0,[]⟩]/\∀ t∈toks,zeN t:=by
 induction n with
 | zero =>
  intro l line ts hl h;have:l=[]:=q_g (by omega);subst this;rw [scan] at h;injection h with h;exact ⟨[],line,by rw [<- h]; rfl,by simp⟩
 | succ n ih =>
  intro l line ts hl h
  match l with
  | [] =>
   rw [scan] at h;injection h with h;exact ⟨[],line,by rw [<- h]; rfl,by simp⟩
  | c :: r =>
   simp only [List.length_cons] at hl;rw [scan] at h;split at h
   ·exact ih _ _ _ (by omega) h
   split at h
   ·exact ih _ _ _ (by omega) h
   split at h
   ·refine ih _ _ _ ?_ h;have:=List.Sublist.length_le (List.dropWhile_sublist (fun x:UInt8=>decide (x.toNat≠10)) (l:=r));omega
   rename_i h10 h32 h35;split at h
   ·cases h
   rename_i k v m hm;split at h
   ·cases h
   rename_i us hus;injection h with h;obtain ⟨toks,e,rfl,hok⟩:=ih _ _ _ (by simp; omega) hus;rw [z5c] at hm;obtain ⟨p,hp,he⟩:=q_c.1 hm;obtain ⟨k',v'⟩:=p;simp only [Prod.mk.injEq] at he;obtain ⟨rfl,rfl,rfl⟩:=he;have hpos:0<plen (c :: r):=by
    rcases Nat.eq_zero_or_pos (plen (c :: r)) with h0 | h0
    ·rw [h0] at hp; cases hp
    ·exact h0
   obtain ⟨q,hq⟩:∃ q,plen (c :: r)=q+1:=⟨plen (c :: r) - 1,by omega⟩;have hle:plen (c :: r)<=(c :: r).length:=by
    have:=z7i (c:=c) (l:=r) (r:=[]) (fun c r' h=>by cases h) hpos;rcases q_f (c :: r).length (plen (c :: r)) with h' | h'
    ·exfalso
     by_cases h1:(letter c||digit c)=true
     ·have hp1:plen (c :: r)=((c :: r).takeWhile wordy).length:=by simp only [plen,h1,if_true]
      have:=(List.takeWhile_sublist wordy (l:=c :: r)).length_le;omega
     ·have h1:(letter c||digit c)=false:=by simpa using h1
      simp only [plen,h1] at h';split at h'
      ·rename_i h9; cases h9
      ·split at h'
       ·rename_i h9; simp at h9; simp at h'; omega
       ·split at h' <;> simp at h'
    ·exact h'
   refine ⟨⟨k',line,v',(c :: r).take (plen (c :: r))⟩ :: toks,e,by rw [<- h]; rfl,fun t ht=>?_⟩;rcases q_d.1 ht with rfl | ht
   ·refine ⟨z7Z hp,⟨c,r.take q,by rw [hq]; rfl,h10,h32,h35⟩,hp,fun r' hr'=>?_⟩;simp only [];rw [z7i hr' hpos,List.length_take];omega
   ·exact hok t ht
theorem z9S (n:Nat):∀ (l:z0e) (line:Nat) (ts:List Tok),l.length<=n->scan line l=.ok ts->(ts.map (·.text.length)).sum<=l.length/\ts.length<=l.length+1:=by
 induction n with
 | zero =>
  intro l line ts hl h;have:l=[]:=q_g (by omega);subst this;rw [scan] at h;injection h with h;subst h;simp
 | succ n ih =>
  intro l line ts hl h
  match l with
  | [] =>
   rw [scan] at h;injection h with h;subst h;simp
  | c :: r =>
   simp only [List.length_cons] at hl ⊢;rw [scan] at h;split at h
   ·have:=ih _ _ _ (by omega) h;omega
   split at h
   ·have:=ih _ _ _ (by omega) h;omega
   split at h
   ·have hd:=List.Sublist.length_le (List.dropWhile_sublist (fun x:UInt8=>decide (x.toNat≠10)) (l:=r));have:=ih _ _ _ (by omega) h;omega
   split at h
   ·cases h
   rename_i k v m hm;split at h
   ·cases h
   rename_i us hus;injection h with h;have h1:=ih _ _ _ (by simp; omega) hus;rw [z5c] at hm;obtain ⟨p,hp,he⟩:=q_c.1 hm;obtain ⟨k',v'⟩:=p;simp only [Prod.mk.injEq] at he;obtain ⟨rfl,rfl,rfl⟩:=he;have hpos:=z7j hp;have hle:=z9E (c :: r);simp only [List.length_cons] at hle;rw [<- h];simp only [List.map_cons,List.sum_cons,List.length_cons,List.length_take,List.length_drop] at h1 ⊢;omega
inductive Ex where
 | mk (kind op value line:Int) (name:Zb) (args:List Ex)
def Ex.kind:Ex->Int | .mk k _ _ _ _ _=>k
def Ex.args:Ex->List Ex | .mk _ _ _ _ _ xs=>xs
def ExV (F:Nat->Prop) (w:World):Nat->Ex->Value->Prop
 | 0,_,_=>False
 | d+1,.mk k o a l s xs,v=>∃ A c,v=.agg #[.int .i64 k,.int .i64 o,.int .i64 a,.int .i64 l,.string s,.slice A xs.length c]/\xs.length<=c /\
   ∀ i x,xs[i]?=some x->∃ g off c0 c1 c2 c3 c4 c5,A=some ⟨g,off,none⟩/\F g/\w.cell? ⟨g,off+i * 6,none⟩=some c0/\w.cell? ⟨g,off+i * 6+1,none⟩=some c1/\w.cell? ⟨g,off+i * 6+2,none⟩=some c2/\w.cell? ⟨g,off+i * 6+3,none⟩=some c3/\w.cell? ⟨g,off+i * 6+4,none⟩=some c4/\w.cell? ⟨g,off+i * 6+5,none⟩=some c5/\ExV F w d x (.agg #[c0,c1,c2,c3,c4,c5])
def RowE (F:Nat->Prop) (w:World) (d:Nat) (xs:List Ex) (A:Option Addr) (c:Nat):Prop :=
 xs.length<=c/\∀ i x,xs[i]?=some x->∃ g off c0 c1 c2 c3 c4 c5,A=some ⟨g,off,none⟩/\F g/\w.cell? ⟨g,off+i * 6,none⟩=some c0/\w.cell? ⟨g,off+i * 6+1,none⟩=some c1/\w.cell? ⟨g,off+i * 6+2,none⟩=some c2/\w.cell? ⟨g,off+i * 6+3,none⟩=some c3/\w.cell? ⟨g,off+i * 6+4,none⟩=some c4/\w.cell? ⟨g,off+i * 6+5,none⟩=some c5/\ExV F w d x (.agg #[c0,c1,c2,c3,c4,c5])
theorem z1D {F:Nat->Prop} {w:World} {d:Nat} {k o a l:Int} {s:Zb} {xs:List Ex} {v:Value}:ExV F w (d+1) (.mk k o a l s xs) v ↔ ∃ A c,v=.agg #[.int .i64 k,.int .i64 o,.int .i64 a,.int .i64 l,.string s,.slice A xs.length c]/\RowE F w d xs A c:=Iff.rfl
theorem ExV.keep {F G:Nat->Prop} {w w':World} (hFG:∀ k,F k->G k) (hk:∀ k,F k->w'.heap[k]?=w.heap[k]?):∀ (d:Nat) (x:Ex) (v:Value),ExV F w d x v->ExV G w' d x v
 | 0,_,_,h=>h
 | d+1,.mk k o a l s xs,v,⟨A,c,hv,hc,h⟩=>⟨A,c,hv,hc,fun i x hi=>by
   obtain ⟨g,off,c0,c1,c2,c3,c4,c5,hA,hF,h0,h1,h2,h3,h4,h5,hx⟩:=h i x hi;have e:∀ o,w'.cell? ⟨g,o,none⟩=w.cell? ⟨g,o,none⟩:=fun o=>q_6 (hk g hF)
   exact ⟨g,off,c0,c1,c2,c3,c4,c5,hA,hFG g hF,(e _).trans h0,(e _).trans h1,(e _).trans h2,(e _).trans h3,(e _).trans h4,(e _).trans h5,ExV.keep hFG hk d x _ hx⟩⟩
theorem RowE.keep {F G:Nat->Prop} {w w':World} {d:Nat} {xs:List Ex} {A:Option Addr} {c:Nat} (hFG:∀ k,F k->G k) (hk:∀ k,F k->w'.heap[k]?=w.heap[k]?) (h:RowE F w d xs A c):RowE G w' d xs A c:=by
 have:=ExV.keep hFG hk (d+1) (.mk 0 0 0 0 ⟨#[]⟩ xs) _ ⟨A,c,rfl,h⟩;obtain ⟨A',c',e,h'⟩:=this;injection e with e;injection e with e;injection e with _ e;injection e with _ e;injection e with _ e;injection e with _ e;injection e with _ e;injection e with e _;injection e with e1 e2 e3;subst e1 e3;exact h'
def numL (n:Nat):z0e:=if h:n<10 then [UInt8.ofNat (48+n)] else numL (n / 10)++[UInt8.ofNat (48+n % 10)]
termination_by n
decreasing_by omega
def z8l (l:z0e) (w:World) (e:Ending) (w':World):Prop:=∃ s:Zb,e=.returned (.string s)/\Hid (s.data.toList=l)/\Below w.heap.size w w'
theorem z4d {s:Zb} {l:z0e} (h:s.data.toList=l):s.size=l.length:=by rw [<- h]; simp
theorem zc5 {s:Zb} {l:z0e} {w w':World} (h:s.data.toList=l) (hb:Below w.heap.size w w'):z8l l w (.returned (.string s)) w':=⟨s,rfl,zhi h,hb⟩
theorem z7e:∀ (k n:Nat),n<10 ^ (k+1)->(numL n).length<=k+1
 | 0,n,h=>by rw [numL,dif_pos (by simpa using h)]; simp
 | k+1,n,h=>by
  rw [numL];split
  ·simp
  ·have:=z7e k (n / 10) (by rw [Nat.pow_succ] at h; omega);simp;omega
theorem z2G {n:Nat} (h:n<9223372036854775808):(numL n).length<=19:=z7e 18 n (by omega)
theorem zaX (n:Nat):∀ (w:World),n<9223372036854775808->Calls Tryz.prog 32 #[.int .i64 (n:Int)] w (z8l (numL n) w):=by
 induction n using Nat.strongRecOn with
 | ind n ih =>
  intro w hn;have hcv:∀ (w:World) (z:Int) (c:Nat),c<256->z=(c:Int)->(convert 22 9 (.slice (some ⟨w.heap.size,0,none⟩) 1 1)).run Tryz.prog (w.alloc (.cells #[.int .u8 z] 5))=.ok (.string ⟨#[UInt8.ofNat c]⟩) (w.alloc (.cells #[.int .u8 z] 5)):=fun w z c hc hz=>by
   subst hz;have hu:(UInt8.ofNat c).toNat=c:=by simp; omega
   have h:=run_convert_bytes_back (P:=Tryz.prog) (w.alloc (.cells #[.int .u8 (c:Int)] 5)) 22 9 5 ⟨w.heap.size,0,none⟩ 1 [UInt8.ofNat c] Tryz.underlying22 Tryz.underlying5 Tryz.underlying9 (fun j hj=>by
    obtain rfl:j=0:=by simpa using hj
    have:=(Rd.new w #[.int .u8 (c:Int)] 5 (0,0)).cells 0 _ rfl;simpa [hu] using this)
   simpa using h
  have hc:=hcv w (48+(n:Int) % 10) (48+n % 10) (by omega) (by omega);clear hcv;obtain ⟨B,hB⟩:∃ B,B=UInt8.ofNat (48+n % 10):=⟨_,rfl⟩;rw [<- hB] at hc;have HB:=zhi hB;clear hB
  by_cases h10:n<10
  ·have HN:Hid ([B]=numL n):=zhi (by rw [HB.out,numL,dif_pos h10,Nat.mod_eq_of_lt h10]);clear ih;go_enter Tryz.func32,Tryz.ntmps32;go_wp2_with fail;go_ret;exact zc5 HN.out ((q_i _ w).alloc (q_2 _) _)
  ·have HN:Hid (numL (n / 10)++[B]=numL n):=zhi (by rw [HB.out]; conv=>rhs; rw [numL,dif_neg h10]);have Ih:=zhi (ih (n / 10) (by omega));have hlen:=z2G (n:=n / 10) (by omega);clear ih;go_enter Tryz.func32,Tryz.ntmps32;go_wp2_with fail;refine (Ih.out _ (by omega)).mono ?_;rintro e w1 ⟨s,rfl,hs,hb⟩;have Hb:=zhi hb;have hsz:s.size<=19:=by rw [z4d hs.out]; exact hlen
   clear hb hlen;go_wp2_with fail;go_ret;exact zc5 (by rw [<- HN.out,<- hs.out]; simp) (z08 ((q_i _ w).alloc (q_2 _) _) Hb.out)
theorem z05 {w w':World} {B:Nat} {row:Option Nat} (h:w.grownBy w' row) (hB:∀ k,row=some k->B<=k) (hBw:B<=w.heap.size):Below B w w':=⟨h.os,h.tape,h.output,h.size,fun k hk=>h.block k (by omega) (fun he=>by have:=hB k he.symm; omega)⟩
theorem z0r {w a b:World} {row:Option Nat} {go:Nat} (h:w.grownBy a row) (k:a.grownBy b (some go)) (hgo:w.heap.size<=go):w.grownBy b row :=
 ⟨k.os.trans h.os,k.tape.trans h.tape,k.output.trans h.output,q_9 h.size k.size,fun i hi hne=>(k.block i (q_1 hi h.size) (fun he=>by injection he with he; omega)).trans (h.block i hi hne)⟩
theorem z02 {w w':World} (h:Below w.heap.size w w') (row:Option Nat):w.grownBy w' row:=⟨h.os,h.tape,h.output,h.size,fun k hk _=>h.block k hk⟩
theorem z1N {w a b:World} {row:Option Nat} {go:Nat} (h:w.grownBy a row) (k:Below go a b) (hgo:w.heap.size<=go):w.grownBy b row :=
 ⟨k.os.trans h.os,k.tape.trans h.tape,k.output.trans h.output,q_9 h.size k.size,fun i hi hne=>(k.block i (by omega)).trans (h.block i hi hne)⟩
theorem hold {w w':World} {p:Addr} {v:Value} (hb:Below w.heap.size w w') (h:w.cell? p=some v):w'.cell? p=some v:=(hb.cell (q_k _ _ h)).trans h
theorem z0b {w w':World} {g r o:Nat} {v:Value} (hg:w.grownBy w' (some g)) (hr:r≠g) (h:w.cell? ⟨r,o,none⟩=some v):w'.cell? ⟨r,o,none⟩=some v :=
 (q_6 (hg.block r (q_k w _ h) (fun e=>hr (by injection e)))).trans h
theorem z0x {w:World} {base:Nat} {v:Value} {n size:Nat} {T:TypeId} {xs:List Value} (h:w.ownsRow base T size v n xs):∃ a c,v=.slice a n c:=by
 rcases h.2 with ⟨rfl,h0⟩ | ⟨g,cap,cur,rfl,_⟩
 ·exact ⟨none,0,by rw [h0]⟩
 ·exact ⟨_,_,rfl⟩
theorem z01 {P:Program} {w:World} {ops:Array Oper} {rest:List Oper} {d:Option Tmp} {t ty:TypeId} {x y:Operand} {pos:String} {af:Array Edge} {gd:Option (Nat × Bool)} {a:Act} {Q:Exit->Act->World->Prop}
  (h:z07 (wpList P ops Q ({ dst:=d,op:=.store t x y,type:=ty,pos:=pos,after:=af,guard:=gd } :: rest) a w)):wpList P ops Q ({ dst:=d,op:=.store t x y,type:=ty,pos:=pos,after:=af,guard:=gd } :: rest) a w:=h
theorem z00 {P:Program} {ops:Array Oper} {rest:List Oper} {o:Oper} {a:Act} (w:World) {Q:Exit->Act->World->Prop} (hgd:o.guard=none) (ty:TypeId) (x y:Operand) (ho:o.op=.store ty x y)
  (b:Nat) (cells:Array Value) (hx:a.eval x=.pointer (some ⟨b,0,none⟩)) (hy:a.eval y=.agg cells) (t:TypeId) (old:Array Value) (hg:w.heap[b]?=some (.cells old t (0,0))) (hi:(P.info? ty).map (·.size)=some cells.size)
  (hold:old.size=cells.size) (h1:cells.all (·.oneCell')=true)
  (h:∀ w',w'.heap[b]?=some (.cells cells t (0,0))->w.grownBy w' (some b)->wpList P ops Q rest (a.put o.dst undef) w'):wpList P ops Q (o :: rest) a w :=
 wpList_store_row hgd ty x y ho b cells hx hy t old hg hi hold h1 (h _ (setRow_heap w b old cells t (0,0) hg) ⟨rfl,rfl,rfl,by simp,fun i _ hne=>setRow_other w b i _ (fun e=>hne (by rw [e]))⟩)
theorem z2e {F:Nat->Prop} {w:World} {d:Nat} {k o a l:Int} {s:Zb}:ExV F w (d+1) (.mk k o a l s []) (.agg #[.int .i64 k,.int .i64 o,.int .i64 a,.int .i64 l,.string s,.slice none 0 0]) :=
 ⟨none,0,rfl,q_2 _,fun i x h=>by simp at h⟩
theorem z04 {w w':World} {g b:Nat} {o:Obj} (hg:w.grownBy w' (some g)) (hb:b≠g) (h:w.heap[b]?=some o):w'.heap[b]?=some o :=
 (hg.block _ (q_0.1 h).1 (fun e=>hb (by injection e))).trans h
theorem z0a {w:World} {b i:Nat} {cs:Array Value} {t:TypeId} (v:Value) (h:w.heap[b]?=some (.cells cs t (0,0))):(w.setCell ⟨b,i,none⟩ v).heap[b]?=some (.cells (cs.setIfInBounds i v) t (0,0)):=by
 have:=heap_setCell_same w b i _ _ v h;simpa using this
theorem z1l {w:World} {b:Nat} {c0 c1 c2 c3 c4 c5:Value} {t:TypeId} (v0 v1 v2 v3 v4 v5:Value) (h:w.heap[b]?=some (.cells #[c0,c1,c2,c3,c4,c5] t (0,0))) :
  ((((((w.setCell ⟨b,0,none⟩ v0).setCell ⟨b,1,none⟩ v1).setCell ⟨b,2,none⟩ v2).setCell ⟨b,3,none⟩ v3).setCell ⟨b,4,none⟩ v4).setCell ⟨b,5,none⟩ v5).heap[b]?=some (.cells #[v0,v1,v2,v3,v4,v5] t (0,0)) /\
  w.grownBy ((((((w.setCell ⟨b,0,none⟩ v0).setCell ⟨b,1,none⟩ v1).setCell ⟨b,2,none⟩ v2).setCell ⟨b,3,none⟩ v3).setCell ⟨b,4,none⟩ v4).setCell ⟨b,5,none⟩ v5) (some b) :=
 ⟨z0a v5 (z0a v4 (z0a v3 (z0a v2 (z0a v1 (z0a v0 h))))),((((((z03 w ⟨b,0,none⟩ v0).trans (z03 _ ⟨b,1,none⟩ v1)).trans (z03 _ ⟨b,2,none⟩ v2)).trans (z03 _ ⟨b,3,none⟩ v3)).trans (z03 _ ⟨b,4,none⟩ v4)).trans (z03 _ ⟨b,5,none⟩ v5))⟩
theorem z0G {F:Nat->Prop} {w:World} {d:Nat} {x:Ex} {v:Value} (h:ExV F w d x v):∃ k o a l s A n c,v=.agg #[.int .i64 k,.int .i64 o,.int .i64 a,.int .i64 l,.string s,.slice A n c]/\(∀ k',v=.agg #[.int .i64 k',.int .i64 o,.int .i64 a,.int .i64 l,.string s,.slice A n c]->x.kind=k'):=by
 cases d with
 | zero=>exact h.elim
 | succ d =>
  match x,h with
  | .mk k o a l s xs,⟨A,c,hv,_⟩=>exact ⟨k,o,a,l,s,A,xs.length,c,hv,fun k' hk=>by rw [hv] at hk; injection hk with hk; injection hk with hk; injection hk with hk _; injection hk with _ hk⟩
theorem z2w {F G:Nat->Prop} {w w':World} {d:Nat} {x:Ex} {c0 c1 c2 c3 c4 c5:Value} {b:Nat} {t:TypeId} (hx:ExV F w d x (.agg #[c0,c1,c2,c3,c4,c5])) (hFG:∀ k,F k->G k) (hk:∀ k,F k->w'.heap[k]?=w.heap[k]?) (hb:G b) (h:w'.heap[b]?=some (.cells #[c0,c1,c2,c3,c4,c5] t (0,0))) :
  RowE G w' d [x] (some ⟨b,0,none⟩) 1:=by
 refine ⟨q_2 _,fun i y hi=>?_⟩
 match i,hi with
 | 0,hi =>
  injection hi with hi;subst hi;exact ⟨b,0,c0,c1,c2,c3,c4,c5,rfl,hb,zcr 0 h,zcr 1 h,zcr 2 h,zcr 3 h,zcr 4 h,zcr 5 h,hx.keep hFG hk⟩
 | i+1,hi=>simp at hi
theorem z2j {G:Nat->Prop} {w':World} {d:Nat} {x y:Ex} {c0 c1 c2 c3 c4 c5 e0 e1 e2 e3 e4 e5:Value} {b:Nat} {t:TypeId} (hx:ExV G w' d x (.agg #[c0,c1,c2,c3,c4,c5])) (hy:ExV G w' d y (.agg #[e0,e1,e2,e3,e4,e5])) (hb:G b) (h:w'.heap[b]?=some (.cells #[c0,c1,c2,c3,c4,c5,e0,e1,e2,e3,e4,e5] t (0,0))) :
  RowE G w' d [x,y] (some ⟨b,0,none⟩) 2:=by
 refine ⟨q_2 _,fun i z hi=>?_⟩
 match i,hi with
 | 0,hi =>
  injection hi with hi;subst hi;exact ⟨b,0,c0,c1,c2,c3,c4,c5,rfl,hb,zcr 0 h,zcr 1 h,zcr 2 h,zcr 3 h,zcr 4 h,zcr 5 h,hx⟩
 | 1,hi =>
  injection hi with hi;subst hi;exact ⟨b,0,e0,e1,e2,e3,e4,e5,rfl,hb,zcr 6 h,zcr 7 h,zcr 8 h,zcr 9 h,zcr 10 h,zcr 11 h,hy⟩
 | i+2,hi=>simp at hi
theorem z1c {F:Nat->Prop} {w0 w w':World} {d:Nat} {x:Ex} {v:Value} (hx:ExV F w d x v) (hF:∀ k,F k->w0.heap.size<k/\k<w.heap.size) (hg:w.grownBy w' (some w0.heap.size)):ExV (fun k=>w0.heap.size<=k/\k<w'.heap.size) w' d x v :=
 hx.keep (fun k hk=>⟨by have:=hF k hk; omega,q_1 (hF k hk).2 hg.size⟩) (fun k hk=>hg.block k (hF k hk).2 (fun e=>by injection e with e; have:=hF k hk; omega))
theorem z0H {F G:Nat->Prop} {w w':World} {d g:Nat} {x:Ex} {v:Value} (hx:ExV F w d x v) (hF:∀ k,F k->G k/\k<w.heap.size/\k≠g) (hg:w.grownBy w' (some g)):ExV G w' d x v :=
 hx.keep (fun k hk=>(hF k hk).1) (fun k hk=>hg.block k (hF k hk).2.1 (fun e=>by injection e with e; exact (hF k hk).2.2 e))
theorem z3L:(Tryz.prog.info? 124).map (fun i=>(i.zero,i.size,i.bytes))=some (some (.agg #[.int .i64 0,.int .i64 0,.int .i64 0,.int .i64 0,.string ⟨#[]⟩,.slice none 0 0]),6,72):=by kernel_rfl
structure z0p (base d:Nat) (wr:World) (v:Value) (xs:List Ex) (L:List Value):Prop where
 own:wr.ownsRow base 124 6 v xs.length L
 at_:∀ j x,xs[j]?=some x->∃ c0 c1 c2 c3 c4 c5,L[j * 6]?=some c0/\L[j * 6+1]?=some c1/\L[j * 6+2]?=some c2/\L[j * 6+3]?=some c3/\L[j * 6+4]?=some c4/\L[j * 6+5]?=some c5/\ExV (fun b=>base<=b/\b<wr.heap.size/\v.ownBlock≠some b) wr d x (.agg #[c0,c1,c2,c3,c4,c5])
theorem z0p.nil (base d:Nat) (w:World):z0p base d w (.slice none 0 0) [] []:=⟨World.ownsRow_nil _ _ _ _,fun j x h=>by simp at h⟩
theorem z0p.grown {base d g:Nat} {w w':World} {v:Value} {xs:List Ex} {L:List Value} (h:z0p base d w v xs L) (hg:w.grownBy w' (some g)) (hb:g<base):z0p base d w' v xs L:=by
 refine ⟨?_,fun j x hj=>?_⟩
 ·rcases h.own.2 with hn | ⟨g',cap,cur,e,hb',hh,rest⟩
  ·exact ⟨h.own.1,.inl hn⟩
  ·exact ⟨h.own.1,.inr ⟨g',cap,cur,e,hb',(hg.block g' (q_0.1 hh).1 (fun e=>by injection e with e; omega)).trans hh,rest⟩⟩
 ·obtain ⟨c0,c1,c2,c3,c4,c5,e0,e1,e2,e3,e4,e5,hx⟩:=h.at_ j x hj;exact ⟨c0,c1,c2,c3,c4,c5,e0,e1,e2,e3,e4,e5,z0H hx (fun k hk=>⟨⟨hk.1,q_1 hk.2.1 hg.size,hk.2.2⟩,hk.2.1,by omega⟩) hg⟩
theorem z0p.push {base d g:Nat} {w wa w':World} {v:Value} {xs:List Ex} {L:List Value} {x:Ex} {cap:Nat} {c0 c1 c2 c3 c4 c5:Value} {F:Nat->Prop} (h:z0p base d w v xs L) (hx:ExV F w d x (.agg #[c0,c1,c2,c3,c4,c5])) (hF:∀ b,F b->base<=b/\b<w.heap.size/\v.ownBlock≠some b)
  (hown:w'.ownsRow base 124 6 (.slice (some ⟨g,0,none⟩) (xs.length+1) cap) (xs.length+1) (L++[c0,c1,c2,c3,c4,c5])) (ha:Below w.heap.size w wa) (hg:wa.grownBy w' v.ownBlock) (hat:v.ownBlock=some g\/g=wa.heap.size) :
  z0p base d w' (.slice (some ⟨g,0,none⟩) (xs.length+1) cap) (xs++[x]) (L++[c0,c1,c2,c3,c4,c5]):=by
 have hL:L.length=xs.length * 6:=h.own.1;have step:∀ {F:Nat->Prop} {y:Ex} {u:Value},ExV F w d y u->(∀ b,F b->base<=b/\b<w.heap.size/\v.ownBlock≠some b)->ExV (fun b=>base<=b/\b<w'.heap.size/\(Value.slice (some ⟨g,0,none⟩) (xs.length+1) cap).ownBlock≠some b) w' d y u:=fun hy hF=>hy.keep (fun b hb=>by
   obtain ⟨h1,h2,h3⟩:=hF b hb;refine ⟨h1,q_1 h2 (q_9 ha.size hg.size),?_⟩;intro e;have e2:g=b:=by simpa [Value.ownBlock] using e
   subst e2;rcases hat with hh | hh
   ·exact h3 hh
   ·have:=ha.size;omega) (fun b hb=>by
   obtain ⟨h1,h2,h3⟩:=hF b hb;exact (hg.block b (q_1 h2 ha.size) (fun e=>h3 e.symm)).trans (ha.block b h2))
 refine ⟨by simpa using hown,fun j y hj=>?_⟩;rcases q_f j xs.length with hlt | hge
 ·rw [List.getElem?_append_left hlt] at hj;obtain ⟨d0,d1,d2,d3,d4,d5,e0,e1,e2,e3,e4,e5,hy⟩:=h.at_ j y hj;have hl:∀ k u,L[k]?=some u->(L++[c0,c1,c2,c3,c4,c5])[k]?=some u:=fun k u hk=>by
   have hk2:k<L.length:=by
    rcases q_f k L.length with h' | h'
    ·exact h'
    ·rw [q_j h'] at hk; cases hk
   rw [List.getElem?_append_left hk2]; exact hk
  exact ⟨d0,d1,d2,d3,d4,d5,hl _ _ e0,hl _ _ e1,hl _ _ e2,hl _ _ e3,hl _ _ e4,hl _ _ e5,step hy (fun b hb=>hb)⟩
 ·have hjx:j=xs.length:=by
   rcases q_f xs.length j with h' | h'
   ·rw [q_j (by simp; omega)] at hj; cases hj
   ·omega
  subst hjx;simp at hj;subst hj;have hr:∀ k,(L++[c0,c1,c2,c3,c4,c5])[xs.length * 6+k]?=[c0,c1,c2,c3,c4,c5][k]?:=fun k=>by
   rw [List.getElem?_append_right (by omega)]
   congr 1
   omega
  exact ⟨c0,c1,c2,c3,c4,c5,hr 0,hr 1,hr 2,hr 3,hr 4,hr 5,step hx hF⟩
theorem z0p.row {base d:Nat} {w:World} {A:Option Addr} {n c:Nat} {xs:List Ex} {L:List Value} (h:z0p base d w (.slice A n c) xs L):n=xs.length/\RowE (fun b=>base<=b/\b<w.heap.size) w d xs A c:=by
 rcases h.own.2 with ⟨e,h0⟩ | ⟨g,cap,cur,e,hb,hh,hc,_⟩
 ·injection e with e1 e2 e3;subst e1 e2 e3;exact ⟨h0.symm,by rw [h0]; exact q_2 _,fun i x hi=>by rw [q_g h0] at hi; simp at hi⟩
 ·injection e with e1 e2 e3;subst e1 e2 e3;refine ⟨rfl,hc,fun i x hi=>?_⟩;obtain ⟨c0,c1,c2,c3,c4,c5,e0,e1,e2,e3,e4,e5,hx⟩:=h.at_ i x hi;have hi2:i<xs.length:=by
   rcases q_f i xs.length with h' | h'
   ·exact h'
   ·rw [q_j h'] at hi; cases hi
  have hcell:∀ k u,L[k]?=some u->w.cell? ⟨g,0+k,none⟩=some u:=fun k u hk=>by
   rw [Nat.zero_add];have hk2:k<L.length:=by
    rcases q_f k L.length with h' | h'
    ·exact h'
    ·rw [q_j h'] at hk; cases hk
   exact (h.own.cellAt k (by have:=h.own.1; omega)).trans hk
  exact ⟨g,0,c0,c1,c2,c3,c4,c5,rfl,⟨hb,(q_0.1 hh).1⟩,hcell _ _ e0,hcell _ _ e1,hcell _ _ e2,hcell _ _ e3,hcell _ _ e4,hcell _ _ e5,hx.keep (fun b hb=>⟨hb.1,hb.2.1⟩) (fun _ _=>rfl)⟩
theorem z0M {ops:Array Oper} {rest:List Oper} {o:Oper} {a:Act} {Q:Exit->Act->World->Prop} (w:World) (hgd:o.guard=none) (s x:Operand)
  (ho:o.op=.call { callee:=.builtin .append,args:=#[s,x],argTypes:=#[119,119] }) (base d:Nat) (v:Value) (xs:List Ex) (L:List Value) (y:Ex) (k o' a' l':Int) (t:Zb) (A:Option Addr) (n c:Nat) (F:Nat->Prop)
  (hs:a.eval s=v) (hx:a.eval x=.slice (some ⟨w.heap.size,0,none⟩) 1 1) (h:z0p base d w v xs L) (hlen:xs.length<=1000000) (hbase:base<=w.heap.size)
  (hy:ExV F w d y (.agg #[.int .i64 k,.int .i64 o',.int .i64 a',.int .i64 l',.string t,.slice A n c])) (hF:∀ b,F b->base<=b/\b<w.heap.size/\v.ownBlock≠some b)
  (hk:∀ g cap w',z0p base d w' (.slice (some ⟨g,0,none⟩) (xs.length+1) cap) (xs++[y]) (L++[.int .i64 k,.int .i64 o',.int .i64 a',.int .i64 l',.string t,.slice A n c])->w.grownBy w' v.ownBlock->wpList Tryz.prog ops Q rest (a.put o.dst (.slice (some ⟨g,0,none⟩) (xs.length+1) cap)) w') :
  wpList Tryz.prog ops Q (o :: rest) a (w.alloc (.cells #[.int .i64 k,.int .i64 o',.int .i64 a',.int .i64 l',.string t,.slice A n c] 124)):=by
 obtain ⟨i,hi,hz,hsz,hby⟩:=info_parts z3L;refine wpList_append_lies _ hgd s x _ ho base 124 i _ 6 72 Tryz.underlying119 hi hz hsz hby rfl (by decide) v xs.length L hs (h.own.alloc _) ⟨w.heap.size,0,none⟩ 1 1 [.int .i64 k,.int .i64 o',.int .i64 a',.int .i64 l',.string t,.slice A n c] hx (by simp) ?_ ?_ (by decide) (by unfold maxLen; omega) (by omega) (by simp; omega) _ rfl fun g cap w' h1 h2 h3 _=>hk g cap w' (h.push hy hF h1 ((q_i _ w).alloc (q_2 _) _) h2 h3) ((World.grownBy_alloc _ _ _).trans h2)
 ·intro j u hu;rw [Addr.add_lit,Nat.zero_add];exact (zcr _ (q_4 w _)).trans (by simpa using hu)
 ·intro u hu;simp at hu;rcases hu with rfl | rfl | rfl | rfl | rfl | rfl <;> rfl
theorem z34 {w:World} {base base' n size:Nat} {T:TypeId} {v:Value} {xs:List Value} (h:w.ownsRow base T size v n xs) (hb:base'<=base):w.ownsRow base' T size v n xs:=by
 rcases h.2 with hn | ⟨g',cap,cur,e,hb',rest⟩
 ·exact ⟨h.1,.inl hn⟩
 ·exact ⟨h.1,.inr ⟨g',cap,cur,e,q_9 hb hb',rest⟩⟩
theorem z0p.one {base d:Nat} {w:World} {v:Value} {xs:List Ex} {L:List Value} (h:z0p base d w v xs L):∀ u∈L,u.oneCell'=true:=by
 intro u hu;obtain ⟨p,hp,rfl⟩:=List.mem_iff_getElem.1 hu;have hpl:p<xs.length * 6:=by rw [<- h.own.1]; exact hp
 have hj:p / 6<xs.length:=by omega
 obtain ⟨c0,c1,c2,c3,c4,c5,e0,e1,e2,e3,e4,e5,hx⟩:=h.at_ (p / 6) _ (q_7 hj);obtain ⟨k,o,a,l,s,A,n,c,hv,_⟩:=z0G hx;injection hv with hv;injection hv with hv;injection hv with h0 hv;injection hv with h1 hv;injection hv with h2 hv;injection hv with h3 hv;injection hv with h4 hv;injection hv with h5 _;subst h0 h1 h2 h3 h4 h5;have hc:p=p / 6 * 6\/p=p / 6 * 6+1\/p=p / 6 * 6+2\/p=p / 6 * 6+3\/p=p / 6 * 6+4\/p=p / 6 * 6+5:=by omega
 have hg:∀ q v,p=q->L[q]?=some v->L[p]=v:=fun q v hq hv=>by
  subst hq;rw [q_7 hp] at hv;injection hv
 rcases hc with hc | hc | hc | hc | hc | hc
 ·rw [hg _ _ hc e0]; rfl
 ·rw [hg _ _ hc e1]; rfl
 ·rw [hg _ _ hc e2]; rfl
 ·rw [hg _ _ hc e3]; rfl
 ·rw [hg _ _ hc e4]; rfl
 ·rw [hg _ _ hc e5]; rfl
theorem z0p.cons {base d:Nat} {w w':World} {va v':Value} {xs:List Ex} {L:List Value} {y:Ex} {c0 c1 c2 c3 c4 c5:Value} {F:Nat->Prop} (h:z0p base d w va xs L) (hy:ExV F w d y (.agg #[c0,c1,c2,c3,c4,c5])) (hF:∀ b,F b->base<=b/\b<w.heap.size) (hb:base<=w.heap.size)
  (hown:w'.ownsRow w.heap.size 124 6 v' (1+xs.length) ([c0,c1,c2,c3,c4,c5]++L)) (hw:Below w.heap.size w w'):z0p base d w' v' (y :: xs) ([c0,c1,c2,c3,c4,c5]++L):=by
 have hne:∀ b,b<w.heap.size->v'.ownBlock≠some b:=fun b hb e=>by have:=(hown.lt b e).1; omega
 have hL:L.length=xs.length * 6:=h.own.1;refine ⟨by rw [List.length_cons,Nat.add_comm]; exact z34 hown hb,fun j x hj=>?_⟩;cases j with
 | zero =>
  simp at hj;subst hj;exact ⟨c0,c1,c2,c3,c4,c5,rfl,rfl,rfl,rfl,rfl,rfl,hy.keep (fun b hb=>⟨(hF b hb).1,q_1 (hF b hb).2 hw.size,hne b (hF b hb).2⟩) (fun b hb=>hw.block b (hF b hb).2)⟩
 | succ j =>
  rw [List.getElem?_cons_succ] at hj;obtain ⟨d0,d1,d2,d3,d4,d5,e0,e1,e2,e3,e4,e5,hx⟩:=h.at_ j x hj;have hr:∀ k,([c0,c1,c2,c3,c4,c5]++L)[(j+1) * 6+k]?=L[j * 6+k]?:=fun k=>by
   rw [List.getElem?_append_right (by simp; omega)]
   congr 1
   simp;omega
  exact ⟨d0,d1,d2,d3,d4,d5,(hr 0).trans e0,(hr 1).trans e1,(hr 2).trans e2,(hr 3).trans e3,(hr 4).trans e4,(hr 5).trans e5,hx.keep (fun b hb=>⟨hb.1,q_1 hb.2.1 hw.size,hne b hb.2.1⟩) (fun b hb=>hw.block b hb.2.1)⟩
theorem z3f {ops:Array Oper} {rest:List Oper} {o:Oper} {a:Act} {Q:Exit->Act->World->Prop} (w:World) (hgd:o.guard=none) (s x:Operand)
  (ho:o.op=.call { callee:=.builtin .append,args:=#[s,x],argTypes:=#[119,119] }) (base d:Nat) (aA:Option Addr) (aC:Nat) (xs:List Ex) (L:List Value) (y:Ex) (k o' a' l':Int) (t:Zb) (A:Option Addr) (n c:Nat) (F:Nat->Prop)
  (hs:a.eval s=.slice (some ⟨w.heap.size,0,none⟩) 1 1) (hx:a.eval x=.slice aA xs.length aC) (h:z0p base d w (.slice aA xs.length aC) xs L) (hlen:xs.length<=1000000) (hbase:base<=w.heap.size)
  (hy:ExV F w d y (.agg #[.int .i64 k,.int .i64 o',.int .i64 a',.int .i64 l',.string t,.slice A n c])) (hF:∀ b,F b->base<=b/\b<w.heap.size)
  (hk:∀ A' c' w',RowE (fun b=>base<=b/\b<w'.heap.size) w' d (y :: xs) A' c'->Below w.heap.size w w'->wpList Tryz.prog ops Q rest (a.put o.dst (.slice A' (1+xs.length) c')) w') :
  wpList Tryz.prog ops Q (o :: rest) a (w.alloc (.cells #[.int .i64 k,.int .i64 o',.int .i64 a',.int .i64 l',.string t,.slice A n c] 124)):=by
 obtain ⟨i,hi,hz,hsz,hby⟩:=info_parts z3L;have hlit:(w.alloc (.cells #[.int .i64 k,.int .i64 o',.int .i64 a',.int .i64 l',.string t,.slice A n c] 124)).ownsRow w.heap.size 124 6 (.slice (some ⟨w.heap.size,0,none⟩) 1 1) 1 [.int .i64 k,.int .i64 o',.int .i64 a',.int .i64 l',.string t,.slice A n c]:=World.ownsRow_lit w _ 1 (q_2 _) (by unfold maxLen; omega) (by simp);have hend:∀ v' w',w'.ownsRow w.heap.size 124 6 v' (1+xs.length) ([.int .i64 k,.int .i64 o',.int .i64 a',.int .i64 l',.string t,.slice A n c]++L)->Below w.heap.size w w'->wpList Tryz.prog ops Q rest (a.put o.dst v') w':=fun v' w' ho hw=>by
  obtain ⟨A',c',rfl⟩:=z0x ho;have hr:=(h.cons hy hF hbase ho hw).row;exact hk A' c' w' hr.2 hw
 rcases h.own.2 with ⟨e,h0⟩ | ⟨g,cap,cur,e,hb,hh,hc,_⟩
 ·injection e with e1 e2 e3;subst e1 e3;have hx0:=q_g h0;subst hx0;have hL0:L=[]:=q_g (by have:=h.own.1; simpa using this);subst hL0;exact wpList_append_own_none hgd s x _ ho w.heap.size 124 i 6 Tryz.underlying119 hi _ 1 _ hs hlit hx (hend _ _ (by simpa using hlit) ((q_i _ w).alloc (q_2 _) _))
 ·injection e with e1 e2 e3;subst e1 e3;refine wpList_append_own _ hgd s x _ ho w.heap.size 124 i _ 6 72 Tryz.underlying119 hi hz hsz hby rfl (by decide) _ 1 _ hs hlit ⟨g,0,none⟩ xs.length aC L hx h.own.1 ?_ ?_ (by unfold maxLen; omega) (by omega) (by simp) fun v' w' h1 h2 _=>hend v' w' h1 ?_
  ·intro j u hu;have hj:j<xs.length * 6:=by
    rw [<- h.own.1];rcases q_f j L.length with h' | h'
    ·exact h'
    ·rw [q_j h'] at hu; cases hu
   rw [Addr.add_lit,Nat.zero_add];exact hold ((q_i _ w).alloc (q_2 _) _) ((h.own.cellAt j hj).trans hu)
  ·exact h.one
  ·exact ((q_i _ w).alloc (q_2 _) _).trans (z05 h2 (fun k hk=>Nat.le_of_eq (by simpa [Value.ownBlock] using hk)) (by simp))
def z0A (w:World) (g:Nat) (l:List Nat) (k:Nat):Prop :=
 ∃ A c,w.heap[g]?=some (.cells #[.slice A l.length c,.int .i64 (k:Int)] 50 (0,0))/\Rd w A (l.map bv)/\l.length<=c/\k<=l.length/\(∀ ad,A=some ad->l≠[]->ad.block<g)
theorem z06 {w:World} {g:Nat} {cs:Array Value} {t:TypeId} (h:w.heap[g]?=some (.cells cs t (0,0))) (i:Nat):w.frozen? ⟨g,i,none⟩=false:=by simp [World.frozen?,h]
theorem zb4 {w w':World} {g:Nat} {A B:Option Addr} {m c:Nat} {x:Int} {t:TypeId} {l:List Nat} (hg:w.heap[g]?=some (.cells #[.slice B m c,.int .i64 x] t (0,0))) (h:Rd w A (l.map bv)) (hk:∀ p:Addr,p.block≠g->p.block<w.heap.size->w'.cell? p=w.cell? p):Rd w' A (l.map bv):=fun j u hu=>by
 obtain ⟨ad,e,hc⟩:=h j u hu;refine ⟨ad,e,(hk _ (fun he=>?_) (q_k w _ hc)).trans hc⟩;obtain ⟨b,_,rfl⟩:=List.mem_map.1 (q_a hu);have h1:∃ i:Nat,(#[Value.slice B m c,Value.int .i64 x]:Array Value)[i]?=some (bv b):=by
  refine ⟨(ad.add j).off,?_⟩;simp only [World.cell?,he,hg] at hc
  revert hc
  cases (ad.add j).spot <;> simp
 obtain ⟨i,hi⟩:=h1
 match i,hi with
 | 0,hi=>simp [bv] at hi
 | 1,hi=>simp [bv] at hi
 | n+2,hi=>simp at hi
theorem Rd.only {w w':World} {g:Nat} {A B:Option Addr} {m c:Nat} {x:Int} {t:TypeId} {l:List Nat} (h:Rd w A (l.map bv)) (hg:w.heap[g]?=some (.cells #[.slice B m c,.int .i64 x] t (0,0))) (hb:w.grownBy w' (some g)):Rd w' A (l.map bv) :=
 zb4 hg h fun p hp hlt=>q_6 (hb.block p.block hlt (fun he=>hp (by injection he)))
theorem z5B {w:World} {A:Option Addr} {l:List Nat} {m c:Nat} (hm:l.length=m) (hr:Rd w A (l.map bv)) (hc:m<=c):z0A (w.alloc (.cells #[.slice A m c,.int .i64 0] 50)) w.heap.size l 0:=by
 subst hm;refine ⟨A,c,q_4 w _,hr.alloc _,hc,q_h _,fun ad hA hne=>?_⟩;subst hA;obtain ⟨_,he,hcell⟩:=hr.at_ (k:=0) (by simpa using List.length_pos_iff.2 hne);injection he with he;subst he;have:=q_k w _ hcell
 rwa [z0i] at this
theorem z4y {w:World} {g:Nat} {l:List Nat} {k:Nat} (h:z0A w g l k) (hk:k<l.length) :
  z0A (w.setCell ⟨g,1,none⟩ (.int .i64 ((k:Int)+1))) g l (k+1)/\w.grownBy (w.setCell ⟨g,1,none⟩ (.int .i64 ((k:Int)+1))) (some g):=by
 obtain ⟨A,c,hg,hr,hlc,_,hlow⟩:=h;have hgr:w.grownBy (w.setCell ⟨g,1,none⟩ (.int .i64 ((k:Int)+1))) (some g) :=
  ⟨rfl,rfl,rfl,by simp [World.setCell],fun i _ hne=>Below.heap_setCell w _ _ i (fun he=>hne (by rw [he]))⟩
 refine ⟨⟨A,c,?_,hr.only hg hgr,hlc,hk,hlow⟩,hgr⟩;have:=heap_setCell_same w g 1 _ _ (.int .i64 ((k:Int)+1)) hg;simpa using this
theorem z2R {w:World} {g:Nat} {l:List Nat} {k:Nat} (h:z0A w g l k) (n:Nat):z0A (w.drewN n) g l k:=h
def z2V (g:Nat) (l:List Nat) (n:Int) (w:World) (e:Ending) (w':World):Prop :=
 ∃ r k:Nat,e=.returned (.int .i64 (r:Int))/\(1<=n->(r:Int)<n)/\(n<1->r=0)/\z0A w' g l k/\w.grownBy w' (some g)
theorem z47 {a w:World} {row:Option Nat} (h:a.grownBy w row) (n:Nat):a.grownBy (w.drewN n) row:=⟨h.os,h.tape,h.output,h.size,h.block⟩
theorem z6o (w:World) (row:Option Nat) (n:Nat):w.grownBy (w.drewN n) row:=⟨rfl,rfl,rfl,q_2 _,fun _ _ _=>rfl⟩
theorem z4E {g:Nat} {l:List Nat} {k:Nat} {n:Int} {w:World} (h:z0A w g l k) (q:Nat):z2V g l n w (.returned (.int .i64 0)) (w.drewN q) :=
 ⟨0,k,rfl,fun h=>by omega,fun _=>rfl,z2R h q,z6o w _ q⟩
theorem z6x {g:Nat} {l:List Nat} {k x n:Nat} {w:World} {z:Int} (h:z0A w g l k) (q:Nat) (hk:k<l.length) (hn:1<=n) (hz:z=((x % n:Nat):Int)):z2V g l n w (.returned (.int .i64 z)) ((w.setCell ⟨g,1,none⟩ (.int .i64 ((k:Int)+1))).drewN q):=by
 subst hz;have hs:=z4y h hk;refine ⟨x % n,k+1,rfl,fun _=>?_,fun h=>by omega,z2R hs.1 q,z47 hs.2 q⟩;have:=Nat.mod_lt x hn;omega
theorem zcS (A:Option Addr) (l:List Nat) (m c:Nat) (n:Nat) (w:World) (hm:l.length=m) (hmc:m<=c) (hr:Rd w A (l.map bv)) (hn:n<=1000000) :
  Calls Tryz.prog 5 #[.slice A m c,.int .i64 (n:Int)] w fun e w'=>∃ g l',e=.returned (.pointer (some ⟨g,0,none⟩))/\w.heap.size<=g/\l'.length<=n/\l'=l.take n/\z0A w' g l' 0/\Below w.heap.size w w':=by
 by_cases hbig:n<m
 ·have Hm:=zhi hm; clear hm;have Hr:=zhi hr; clear hr;go_enter Tryz.func5,Tryz.ntmps5;go_wp2_with fail;go_ret;refine ⟨_,l.take n,rfl,q_2 _,List.length_take_le _ _,rfl,?_,(q_i _ _).alloc (q_2 _) _⟩;have hlen:(l.take n).length=n:=by rw [List.length_take,Hm.out]; omega
  refine z5B hlen ?_ (by omega);rw [List.map_take];exact Hr.out.take n
 ·have Hm:=zhi hm; clear hm;have Hr:=zhi hr; clear hr;go_enter Tryz.func5,Tryz.ntmps5;go_wp2_with fail;go_ret;exact ⟨_,l,rfl,q_2 _,by have:=Hm.out; omega,(List.take_of_length_le (by have:=Hm.out; omega)).symm,z5B Hm.out Hr.out hmc,(q_i _ _).alloc (q_2 _) _⟩
theorem z7b (g:Nat) (l:List Nat) (k:Nat) (n:Int) (w:World) (hc:z0A w g l k) (h:l.length<=k\/n<1) :
  Calls Tryz.prog 15 #[.pointer (some ⟨g,0,none⟩),.int .i64 n] w (z2V g l n w):=by
 have Hc:=zhi hc;obtain ⟨A,c,hg,hr,hlc,hkl,_⟩:=hc;have c0:w.cell? ⟨g,0,none⟩=some (.slice A l.length c):=by rw [cell_of_row w g 0 _ _ _ hg]; rfl
 have c1:w.cell? ⟨g,1,none⟩=some (.int .i64 (k:Int)):=by rw [cell_of_row w g 1 _ _ _ hg]; rfl
 clear hg hr
 by_cases h1:l.length<=k
 ·have hd:decide ((l.length:Int)<=(k:Int))=true:=by simp; omega
  clear h;go_enter Tryz.func15,Tryz.ntmps15;go_wp2_with fail;go_quiet (fail);go_wp2_with fail;go_ret;exact z4E Hc.out _
 ·have hd:decide ((l.length:Int)<=(k:Int))=false:=by simp; omega
  have hn:n<1:=by omega
  clear h;go_enter Tryz.func15,Tryz.ntmps15;go_wp2_with fail;go_quiet (fail);go_wp2_with fail;go_ret;exact z4E Hc.out _
theorem z7V (g:Nat) (l:List Nat) (k:Nat) (n:Nat) (w:World) (hc:z0A w g l k) (hk:k<l.length) (hn:1<=n) (hn2:n<=256) (hlen:l.length<=1000000) (hl:∀ x∈l,x<256) :
  Calls Tryz.prog 15 #[.pointer (some ⟨g,0,none⟩),.int .i64 (n:Int)] w (z2V g l n w):=by
 have Hc:=zhi hc;obtain ⟨A,c,hg,hr,hlc,hkl,_⟩:=hc;have c0:w.cell? ⟨g,0,none⟩=some (.slice A l.length c):=by rw [cell_of_row w g 0 _ _ _ hg]; rfl
 have c1:w.cell? ⟨g,1,none⟩=some (.int .i64 (k:Int)):=by rw [cell_of_row w g 1 _ _ _ hg]; rfl
 have f1:w.frozen? ⟨g,1,none⟩=false:=z06 hg 1;obtain ⟨ad,rfl,hcx⟩:=hr.at_ (k:=k) (by simp; omega);simp only [List.getElem_map] at hcx;have hx:l[k]<256:=hl _ (List.getElem_mem _);generalize l[k]=x at *;unfold bv at hcx;have Hl:=zhi hl; clear hl;clear hg hr;have hd:decide ((l.length:Int)<=(k:Int))=false:=by simp; omega
 go_enter Tryz.func15,Tryz.ntmps15;go_wp2_with fail;go_quiet (fail);go_wp2_with fail;go_quiet (fail);go_wp2_with fail;go_ret;exact z6x (x:=x) Hc.out _ hk hn (by simp)
theorem z5J (g:Nat) (l:List Nat) (k:Nat) (n:Nat) (w:World) (hc:z0A w g l k) (hn2:n<=256) (hlen:l.length<=1000000) (hl:∀ x∈l,x<256) :
  Calls Tryz.prog 15 #[.pointer (some ⟨g,0,none⟩),.int .i64 (n:Int)] w (z2V g l n w):=by
 by_cases h:l.length<=k\/(n:Int)<1
 ·exact z7b g l k n w hc h
 ·exact z7V g l k n w hc (by omega) (by omega) hn2 hlen hl
theorem z7W {g:Nat} {l:List Nat} {n x:Nat} {w w1 w2:World} {z:Int} {y k:Nat} (hn:1<=n) (hz:z=(((256 * x+y) % n:Nat):Int)) (hc:z0A w2 g l k) (h1:w.grownBy w1 (some g)) (h2:w1.grownBy w2 (some g)):z2V g l n w (.returned (.int .i64 z)) w2:=by
 subst hz;refine ⟨(256 * x+y) % n,k,rfl,fun _=>?_,fun h=>by omega,hc,h1.trans h2⟩;have:=Nat.mod_lt (256 * x+y) hn;omega
theorem z7U (g:Nat) (l:List Nat) (k:Nat) (n:Nat) (w:World) (hc:z0A w g l k) (hk:k<l.length) (hn2:256<n) (hn3:n<=1000000000) (hlen:l.length<=1000000) (hl:∀ x∈l,x<256) :
  Calls Tryz.prog 15 #[.pointer (some ⟨g,0,none⟩),.int .i64 (n:Int)] w (z2V g l n w):=by
 have Hc:=zhi hc;have Hs:=zhi (z4y hc hk);obtain ⟨A,c,hg,hr,hlc,hkl,_⟩:=hc;have c0:w.cell? ⟨g,0,none⟩=some (.slice A l.length c):=by rw [cell_of_row w g 0 _ _ _ hg]; rfl
 have c1:w.cell? ⟨g,1,none⟩=some (.int .i64 (k:Int)):=by rw [cell_of_row w g 1 _ _ _ hg]; rfl
 have f1:w.frozen? ⟨g,1,none⟩=false:=z06 hg 1;obtain ⟨ad,rfl,hcx⟩:=hr.at_ (k:=k) (by simp; omega);simp only [List.getElem_map] at hcx;have hx:l[k]<256:=hl _ (List.getElem_mem _);generalize l[k]=x at *;unfold bv at hcx;have Hl:=zhi hl; clear hl;clear hg hr;have hd:decide ((l.length:Int)<=(k:Int))=false:=by simp; omega
 go_enter Tryz.func15,Tryz.ntmps15;go_wp2_with fail;go_quiet (fail);go_wp2_with fail;go_quiet (fail);go_wp2_with fail;refine (z5J g l (k+1) 256 _ (z2R Hs.out.1 _) (by decide) hlen Hl.out).mono ?_;rintro e w2 ⟨y,k2,rfl,hy,_,hc2,hg2⟩;have hy2:y<256:=by have:=hy (by omega); omega
 have Hc2:=zhi hc2; clear hc2;have Hg2:=zhi hg2; clear hg2 hy;go_wp2_with fail;go_ret;exact z7W (x:=x) (y:=y) (by omega) (by simp) Hc2.out (z47 Hs.out.2 _) Hg2.out
theorem z25 (g:Nat) (l:List Nat) (k:Nat) (n:Nat) (w:World) (hc:z0A w g l k) (hn3:n<=1000000000) (hlen:l.length<=1000000) (hl:∀ x∈l,x<256) :
  Calls Tryz.prog 15 #[.pointer (some ⟨g,0,none⟩),.int .i64 (n:Int)] w (z2V g l n w):=by
 by_cases h:n<=256
 ·exact z5J g l k n w hc h hlen hl
 ·by_cases hk:k<l.length
  ·exact z7U g l k n w hc hk (by omega) hn3 hlen hl
  ·exact z7b g l k n w hc (Or.inl (by omega))
theorem z1W {w:World} {g:Nat} {l:List Nat} {k:Nat} (h:z0A w g l k):g<w.heap.size:=by
 obtain ⟨A,c,hg,_⟩:=h;rcases q_f g w.heap.size with hlt | hge
 ·exact hlt
 ·rw [Array.getElem?_eq_none hge] at hg; cases hg
theorem z0C {w w':World} {g:Nat} {l:List Nat} {k:Nat} (h:z0A w g l k) (hb:Below w.heap.size w w'):z0A w' g l k:=by
 have hlt:=z1W h;obtain ⟨A,c,hg,hr,h1,h2,h3⟩:=h;exact ⟨A,c,(hb.block g hlt).trans hg,hr.below hb,h1,h2,h3⟩
theorem z1i {w w':World} {g B:Nat} {l:List Nat} {k:Nat} (h:z0A w g l k) (hb:Below B w w') (hB:g<B):z0A w' g l k:=by
 obtain ⟨A,c,hg,hr,h1,h2,h3⟩:=h;refine ⟨A,c,(hb.block g hB).trans hg,fun j u hu=>?_,h1,h2,h3⟩;obtain ⟨ad,rfl,hc⟩:=hr j u hu;have hne:l≠[]:=fun h0=>by subst h0; simp at hu
 exact ⟨ad,rfl,(hb.cell (p:=ad.add j) (by rw [z0i]; have:=h3 ad rfl hne; omega)).trans hc⟩
theorem z3q {w w':World} {row:Option Nat} (h:w.drew.grownBy w' row):w.grownBy w' row:=⟨h.os,h.tape,h.output,h.size,h.block⟩
theorem z0v {w w':World} {g go:Nat} {l:List Nat} {k:Nat} (h:z0A w g l k) (hb:w.grownBy w' (some go)) (hlt:g<go):z0A w' g l k:=by
 have hgw:=z1W h;exact z1i h (B:=g+1) (z05 hb (fun k hk=>by injection hk with hk; omega) hgw) (by omega)
inductive St where
 | mk (kind line:Int) (name:Zb) (exprs:List Ex) (thens elses:List St)
def StV (F:Nat->Prop) (w:World) (D:Nat):Nat->St->Value->Prop
 | 0,_,_=>False
 | d+1,.mk k l s es ts us,v=>∃ eA ec tA tc uA uc,v=.agg #[.int .i64 k,.int .i64 l,.string s,.slice eA es.length ec,.slice tA ts.length tc,.slice uA us.length uc]/\RowE F w D es eA ec /\
   (ts.length<=tc/\∀ i x,ts[i]?=some x->∃ g off c0 c1 c2 c3 c4 c5,tA=some ⟨g,off,none⟩/\F g/\w.cell? ⟨g,off+i * 6,none⟩=some c0/\w.cell? ⟨g,off+i * 6+1,none⟩=some c1/\w.cell? ⟨g,off+i * 6+2,none⟩=some c2/\w.cell? ⟨g,off+i * 6+3,none⟩=some c3/\w.cell? ⟨g,off+i * 6+4,none⟩=some c4/\w.cell? ⟨g,off+i * 6+5,none⟩=some c5/\StV F w D d x (.agg #[c0,c1,c2,c3,c4,c5])) /\
   (us.length<=uc/\∀ i x,us[i]?=some x->∃ g off c0 c1 c2 c3 c4 c5,uA=some ⟨g,off,none⟩/\F g/\w.cell? ⟨g,off+i * 6,none⟩=some c0/\w.cell? ⟨g,off+i * 6+1,none⟩=some c1/\w.cell? ⟨g,off+i * 6+2,none⟩=some c2/\w.cell? ⟨g,off+i * 6+3,none⟩=some c3/\w.cell? ⟨g,off+i * 6+4,none⟩=some c4/\w.cell? ⟨g,off+i * 6+5,none⟩=some c5/\StV F w D d x (.agg #[c0,c1,c2,c3,c4,c5]))
def RowS (F:Nat->Prop) (w:World) (D d:Nat) (ts:List St) (A:Option Addr) (c:Nat):Prop :=
 ts.length<=c/\∀ i x,ts[i]?=some x->∃ g off c0 c1 c2 c3 c4 c5,A=some ⟨g,off,none⟩/\F g/\w.cell? ⟨g,off+i * 6,none⟩=some c0/\w.cell? ⟨g,off+i * 6+1,none⟩=some c1/\w.cell? ⟨g,off+i * 6+2,none⟩=some c2/\w.cell? ⟨g,off+i * 6+3,none⟩=some c3/\w.cell? ⟨g,off+i * 6+4,none⟩=some c4/\w.cell? ⟨g,off+i * 6+5,none⟩=some c5/\StV F w D d x (.agg #[c0,c1,c2,c3,c4,c5])
theorem z6N {F:Nat->Prop} {w:World} {D d:Nat} {k l:Int} {s:Zb} {es:List Ex} {ts us:List St} {v:Value}:StV F w D (d+1) (.mk k l s es ts us) v ↔ ∃ eA ec tA tc uA uc,v=.agg #[.int .i64 k,.int .i64 l,.string s,.slice eA es.length ec,.slice tA ts.length tc,.slice uA us.length uc]/\RowE F w D es eA ec/\RowS F w D d ts tA tc/\RowS F w D d us uA uc:=Iff.rfl
theorem StV.keep {F G:Nat->Prop} {w w':World} {D:Nat} (hFG:∀ k,F k->G k) (hk:∀ k,F k->w'.heap[k]?=w.heap[k]?):∀ (d:Nat) (x:St) (v:Value),StV F w D d x v->StV G w' D d x v
 | 0,_,_,h=>h
 | d+1,.mk k l s es ts us,v,⟨eA,ec,tA,tc,uA,uc,hv,he,⟨h1,h2⟩,h3,h4⟩=>⟨eA,ec,tA,tc,uA,uc,hv,he.keep hFG hk,⟨h1,fun i x hi=>by
   obtain ⟨g,off,c0,c1,c2,c3,c4,c5,hA,hF,e0,e1,e2,e3,e4,e5,hx⟩:=h2 i x hi;have e:∀ o,w'.cell? ⟨g,o,none⟩=w.cell? ⟨g,o,none⟩:=fun o=>q_6 (hk g hF)
   exact ⟨g,off,c0,c1,c2,c3,c4,c5,hA,hFG g hF,(e _).trans e0,(e _).trans e1,(e _).trans e2,(e _).trans e3,(e _).trans e4,(e _).trans e5,StV.keep hFG hk d x _ hx⟩⟩,h3,fun i x hi=>by
   obtain ⟨g,off,c0,c1,c2,c3,c4,c5,hA,hF,e0,e1,e2,e3,e4,e5,hx⟩:=h4 i x hi;have e:∀ o,w'.cell? ⟨g,o,none⟩=w.cell? ⟨g,o,none⟩:=fun o=>q_6 (hk g hF)
   exact ⟨g,off,c0,c1,c2,c3,c4,c5,hA,hFG g hF,(e _).trans e0,(e _).trans e1,(e _).trans e2,(e _).trans e3,(e _).trans e4,(e _).trans e5,StV.keep hFG hk d x _ hx⟩⟩
theorem RowS.keep {F G:Nat->Prop} {w w':World} {D d:Nat} {ts:List St} {A:Option Addr} {c:Nat} (hFG:∀ k,F k->G k) (hk:∀ k,F k->w'.heap[k]?=w.heap[k]?) (h:RowS F w D d ts A c):RowS G w' D d ts A c :=
 ⟨h.1,fun i x hi=>by
   obtain ⟨g,off,c0,c1,c2,c3,c4,c5,hA,hF,e0,e1,e2,e3,e4,e5,hx⟩:=h.2 i x hi;have e:∀ o,w'.cell? ⟨g,o,none⟩=w.cell? ⟨g,o,none⟩:=fun o=>q_6 (hk g hF)
   exact ⟨g,off,c0,c1,c2,c3,c4,c5,hA,hFG g hF,(e _).trans e0,(e _).trans e1,(e _).trans e2,(e _).trans e3,(e _).trans e4,(e _).trans e5,StV.keep hFG hk d x _ hx⟩⟩
structure Fn where
 name:Zb
 line:Int
 params:List Zb
 body:List St
def z0k (F:Nat->Prop) (w:World) (gl:List (Zb × Int)) (A:Option Addr) (c:Nat):Prop :=
 gl.length<=c/\∀ i x,gl[i]?=some x->∃ g,A=some ⟨g,0,none⟩/\F g/\w.cell? ⟨g,i * 2,none⟩=some (.string x.1)/\w.cell? ⟨g,i * 2+1,none⟩=some (.int .i64 x.2)
def z0l (F:Nat->Prop) (w:World) (l:List Zb) (A:Option Addr) (c:Nat):Prop :=
 l.length<=c/\∀ i x,l[i]?=some x->∃ g,A=some ⟨g,0,none⟩/\F g/\w.cell? ⟨g,i,none⟩=some (.string x)
def z0R (F:Nat->Prop) (w:World) (D d:Nat) (fl:List Fn) (A:Option Addr) (c:Nat):Prop :=
 fl.length<=c/\∀ i f,fl[i]?=some f->∃ g pA pc bA bc,A=some ⟨g,0,none⟩/\F g/\w.cell? ⟨g,i * 4,none⟩=some (.string f.name)/\w.cell? ⟨g,i * 4+1,none⟩=some (.int .i64 f.line)/\w.cell? ⟨g,i * 4+2,none⟩=some (.slice pA f.params.length pc)/\w.cell? ⟨g,i * 4+3,none⟩=some (.slice bA f.body.length bc)/\z0l F w f.params pA pc/\RowS F w D d f.body bA bc
theorem z6Z {F:Nat->Prop} {w:World}:∀ (d:Nat) (x:Ex) (v:Value),ExV F w d x v->ExV F w (d+1) x v
 | 0,_,_,h=>h.elim
 | d+1,.mk k o a l s xs,v,⟨A,c,hv,hc,h⟩=>⟨A,c,hv,hc,fun i x hi=>by
   obtain ⟨g,off,c0,c1,c2,c3,c4,c5,hA,hF,h0,h1,h2,h3,h4,h5,hx⟩:=h i x hi;exact ⟨g,off,c0,c1,c2,c3,c4,c5,hA,hF,h0,h1,h2,h3,h4,h5,z6Z d x _ hx⟩⟩
theorem zaF {F:Nat->Prop} {w:World} {d:Nat} {x:Ex} {v:Value} (n:Nat) (h:ExV F w d x v):ExV F w (d+n) x v:=by
 induction n with
 | zero=>exact h
 | succ n ih=>exact z6Z _ _ _ ih
theorem RowE.up {F:Nat->Prop} {w:World} {d:Nat} {xs:List Ex} {A:Option Addr} {c:Nat} (h:RowE F w d xs A c) (n:Nat):RowE F w (d+n) xs A c:=by
 refine ⟨h.1,fun i x hi=>?_⟩;obtain ⟨g,off,c0,c1,c2,c3,c4,c5,hA,hF,e0,e1,e2,e3,e4,e5,hx⟩:=h.2 i x hi;exact ⟨g,off,c0,c1,c2,c3,c4,c5,hA,hF,e0,e1,e2,e3,e4,e5,zaF n hx⟩
theorem StV.up {F:Nat->Prop} {w:World} {D:Nat} (m:Nat):∀ (d:Nat) (x:St) (v:Value),StV F w D d x v->StV F w (D+m) (d+1) x v
 | 0,_,_,h=>h.elim
 | d+1,.mk k l s es ts us,v,⟨eA,ec,tA,tc,uA,uc,hv,he,⟨h1,h2⟩,h3,h4⟩=>⟨eA,ec,tA,tc,uA,uc,hv,he.up m,⟨h1,fun i x hi=>by
   obtain ⟨g,off,c0,c1,c2,c3,c4,c5,hA,hF,e0,e1,e2,e3,e4,e5,hx⟩:=h2 i x hi;exact ⟨g,off,c0,c1,c2,c3,c4,c5,hA,hF,e0,e1,e2,e3,e4,e5,StV.up m d x _ hx⟩⟩,h3,fun i x hi=>by
   obtain ⟨g,off,c0,c1,c2,c3,c4,c5,hA,hF,e0,e1,e2,e3,e4,e5,hx⟩:=h4 i x hi;exact ⟨g,off,c0,c1,c2,c3,c4,c5,hA,hF,e0,e1,e2,e3,e4,e5,StV.up m d x _ hx⟩⟩
theorem StV.more {F:Nat->Prop} {w:World} {D d:Nat} {x:St} {v:Value} (h:StV F w D d x v) (m:Nat):∀ n,StV F w (D+m) (d+(n+1)) x v
 | 0=>StV.up m d x v h
 | n+1=>StV.up 0 _ x v (h.more m n)
theorem RowS.more {F:Nat->Prop} {w:World} {D d:Nat} {ts:List St} {A:Option Addr} {c:Nat} (h:RowS F w D d ts A c) (m n:Nat):RowS F w (D+m) (d+(n+1)) ts A c:=by
 refine ⟨h.1,fun i x hi=>?_⟩;obtain ⟨g,off,c0,c1,c2,c3,c4,c5,hA,hF,e0,e1,e2,e3,e4,e5,hx⟩:=h.2 i x hi;exact ⟨g,off,c0,c1,c2,c3,c4,c5,hA,hF,e0,e1,e2,e3,e4,e5,hx.more m n⟩
abbrev z1H (α:Type):=(Nat->Prop)->World->α->List Value->Prop
def z1H.Keeps {α:Type} (V:z1H α):Prop:=∀ (F G:Nat->Prop) (w w':World) (x:α) (cs:List Value),(∀ b,F b->G b)->(∀ b,F b->w'.heap[b]?=w.heap[b]?)->V F w x cs->V G w' x cs
structure GRow {α:Type} (k:Nat) (T:TypeId) (V:z1H α) (base:Nat) (w:World) (v:Value) (xs:List α) (L:List Value):Prop where
 own:w.ownsRow base T k v xs.length L
 at_:∀ (j:Nat) (x:α),xs[j]?=some x->∃ cs:List Value,cs.length=k/\(∀ (i:Nat) (u:Value),cs[i]?=some u->L[j * k+i]?=some u)/\V (fun b=>base<=b/\b<w.heap.size/\v.ownBlock≠some b) w x cs
def RowG {α:Type} (k:Nat) (V:z1H α) (F:Nat->Prop) (w:World) (xs:List α) (A:Option Addr) (c:Nat):Prop :=
 xs.length<=c/\∀ (i:Nat) (x:α),xs[i]?=some x->∃ (g:Nat) (cs:List Value),A=some ⟨g,0,none⟩/\F g/\cs.length=k/\(∀ (j:Nat) (u:Value),cs[j]?=some u->w.cell? ⟨g,i * k+j,none⟩=some u)/\V F w x cs
section
variable {α:Type} {k:Nat} {T:TypeId} {V:z1H α} {base:Nat} {w w':World} {v:Value} {xs:List α} {L:List Value}
theorem GRow.nil:GRow k T V base w (.slice none 0 0) [] []:=⟨World.ownsRow_nil _ _ _ _,fun j x h=>by simp at h⟩
theorem GRow.grown {g:Nat} (hV:V.Keeps) (h:GRow k T V base w v xs L) (hg:w.grownBy w' (some g)) (hb:g<base):GRow k T V base w' v xs L:=by
 refine ⟨?_,fun j x hj=>?_⟩
 ·rcases h.own.2 with hn | ⟨g',cap,cur,e,hb',hh,rest⟩
  ·exact ⟨h.own.1,.inl hn⟩
  ·exact ⟨h.own.1,.inr ⟨g',cap,cur,e,hb',(hg.block g' (q_0.1 hh).1 (fun e=>by injection e with e; omega)).trans hh,rest⟩⟩
 ·obtain ⟨cs,h1,h2,h3⟩:=h.at_ j x hj;exact ⟨cs,h1,h2,hV _ _ _ _ _ _ (fun b hb=>⟨hb.1,q_1 hb.2.1 hg.size,hb.2.2⟩) (fun b hb=>hg.block b hb.2.1 (fun e=>by injection e with e; omega)) h3⟩
theorem GRow.map {V':z1H α} (h:GRow k T V base w v xs L) (hm:∀ F w x cs,V F w x cs->V' F w x cs):GRow k T V' base w v xs L :=
 ⟨h.own,fun j x hj=>by
  obtain ⟨cs,h1,h2,h3⟩:=h.at_ j x hj;exact ⟨cs,h1,h2,hm _ _ _ _ h3⟩⟩
theorem GRow.push {F:Nat->Prop} {g cap:Nat} {wa:World} {y:α} {cs:List Value} (hV:V.Keeps) (h:GRow k T V base w v xs L) (hcs:cs.length=k) (hy:V F w y cs) (hF:∀ b,F b->base<=b/\b<w.heap.size/\v.ownBlock≠some b)
  (hown:w'.ownsRow base T k (.slice (some ⟨g,0,none⟩) (xs.length+1) cap) (xs.length+1) (L++cs)) (ha:Below w.heap.size w wa) (hg:wa.grownBy w' v.ownBlock) (hat:v.ownBlock=some g\/g=wa.heap.size) :
  GRow k T V base w' (.slice (some ⟨g,0,none⟩) (xs.length+1) cap) (xs++[y]) (L++cs):=by
 have hL:L.length=xs.length * k:=h.own.1;have step:∀ {F:Nat->Prop} {z:α} {us:List Value},V F w z us->(∀ b,F b->base<=b/\b<w.heap.size/\v.ownBlock≠some b)->V (fun b=>base<=b/\b<w'.heap.size/\(Value.slice (some ⟨g,0,none⟩) (xs.length+1) cap).ownBlock≠some b) w' z us:=fun hz hF=>hV _ _ _ _ _ _ (fun b hb=>by
   obtain ⟨h1,h2,h3⟩:=hF b hb;refine ⟨h1,q_1 h2 (q_9 ha.size hg.size),?_⟩;intro e;have e2:g=b:=by simpa [Value.ownBlock] using e
   subst e2;rcases hat with hh | hh
   ·exact h3 hh
   ·have:=ha.size;omega) (fun b hb=>by
   obtain ⟨h1,h2,h3⟩:=hF b hb;exact (hg.block b (q_1 h2 ha.size) (fun e=>h3 e.symm)).trans (ha.block b h2)) hz
 refine ⟨by simpa using hown,fun j z hj=>?_⟩;rcases q_f j xs.length with hlt | hge
 ·rw [List.getElem?_append_left hlt] at hj;obtain ⟨ds,h1,h2,h3⟩:=h.at_ j z hj;refine ⟨ds,h1,fun i u hu=>?_,step h3 (fun b hb=>hb)⟩;have hk:=h2 i u hu;have hk2:j * k+i<L.length:=by
   rcases q_f (j * k+i) L.length with h' | h'
   ·exact h'
   ·rw [q_j h'] at hk; cases hk
  rw [List.getElem?_append_left hk2];exact hk
 ·have hjx:j=xs.length:=by
   rcases q_f xs.length j with h' | h'
   ·rw [q_j (by simp; omega)] at hj; cases hj
   ·omega
  subst hjx;simp at hj;subst hj;refine ⟨cs,hcs,fun i u hu=>?_,step hy hF⟩;rw [List.getElem?_append_right (by omega),hL,Nat.add_sub_cancel_left];exact hu
theorem GRow.row {A:Option Addr} {n c:Nat} (hV:V.Keeps) (h:GRow k T V base w (.slice A n c) xs L):n=xs.length/\RowG k V (fun b=>base<=b/\b<w.heap.size) w xs A c:=by
 rcases h.own.2 with ⟨e,h0⟩ | ⟨g,cap,cur,e,hb,hh,hc,_⟩
 ·injection e with e1 e2 e3;subst e1 e2 e3;exact ⟨h0.symm,by rw [h0]; exact q_2 _,fun i x hi=>by rw [q_g h0] at hi; simp at hi⟩
 ·injection e with e1 e2 e3;subst e1 e2 e3;refine ⟨rfl,hc,fun i x hi=>?_⟩;obtain ⟨cs,h1,h2,h3⟩:=h.at_ i x hi;refine ⟨g,cs,rfl,⟨hb,(q_0.1 hh).1⟩,h1,fun j u hu=>?_,hV _ _ _ _ _ _ (fun b hb=>⟨hb.1,hb.2.1⟩) (fun _ _=>rfl) h3⟩;have hk:=h2 j u hu;have hk2:i * k+j<L.length:=by
   rcases q_f (i * k+j) L.length with h' | h'
   ·exact h'
   ·rw [q_j h'] at hk; cases hk
  exact (h.own.cellAt _ (by have:=h.own.1; omega)).trans hk
end
theorem z1T {α:Type} {k:Nat} {T S:TypeId} {V:z1H α} {ops:Array Oper} {rest:List Oper} {o:Oper} {a:Act} {Q:Exit->Act->World->Prop} (w:World) (hgd:o.guard=none) (s x:Operand)
  (ho:o.op=.call { callee:=.builtin .append,args:=#[s,x],argTypes:=#[S,S] }) (hV:V.Keeps) (z:Value) (bytes:Nat) (ht:Tryz.prog.underlying S=some (.slice T)) (hinfo:(Tryz.prog.info? T).map (fun i=>(i.zero,i.size,i.bytes))=some (some z,k,bytes)) (hzs:z.cells.size=k) (hk0:0<k) (hb0:bytes<=1000)
  (base:Nat) (v:Value) (xs:List α) (L:List Value) (y:α) (cs:List Value) (F:Nat->Prop)
  (hs:a.eval s=v) (hx:a.eval x=.slice (some ⟨w.heap.size,0,none⟩) 1 1) (h:GRow k T V base w v xs L) (hlen:xs.length<=1000000) (hbase:base<=w.heap.size)
  (hcs:cs.length=k) (h1:∀ u∈cs,u.oneCell'=true) (hy:V F w y cs) (hF:∀ b,F b->base<=b/\b<w.heap.size/\v.ownBlock≠some b)
  (hk:∀ g cap w',GRow k T V base w' (.slice (some ⟨g,0,none⟩) (xs.length+1) cap) (xs++[y]) (L++cs)->w.grownBy w' v.ownBlock->wpList Tryz.prog ops Q rest (a.put o.dst (.slice (some ⟨g,0,none⟩) (xs.length+1) cap)) w') :
  wpList Tryz.prog ops Q (o :: rest) a (w.alloc (.cells cs.toArray T)):=by
 obtain ⟨i,hi,hz,hsz,hby⟩:=info_parts hinfo;have hmul:(xs.length+1) * bytes<=1000001 * 1000:=Nat.mul_le_mul (by omega) hb0;refine wpList_append_lies _ hgd s x _ ho base T i z k bytes ht hi hz hsz hby hzs hk0 v xs.length L hs (h.own.alloc _) ⟨w.heap.size,0,none⟩ 1 1 cs hx (by omega) ?_ h1 (by decide) (by unfold maxLen; omega) (by omega) (by simp; omega) _ rfl fun g cap w' h1 h2 h3 _=>hk g cap w' (h.push hV hcs hy hF h1 ((q_i _ w).alloc (q_2 _) _) h2 h3) ((World.grownBy_alloc _ _ _).trans h2)
 intro j u hu;rw [Addr.add_lit,Nat.zero_add];exact (zcr _ (q_4 w _)).trans (by simpa using hu)
end Go.Proofs.YtdflbhofmmlpgaaGreat
namespace Go.Proofs.YtdflbhofmmlpgaaGreat
open Go.ChangeShapes Go.WideShapes Go.ChangeAt Go.RowKit
section
variable {H:Type} {enc:TypeId × Value->H} {P:Program}
theorem z3e {W W':World} (hl:laidOutB P=true) (hb:Below W.heap.size W W'):∀ {ts:List TypeId} {vs:List Value} {ds:List (DataW H)} {ps:List MemPlace},(∀ t∈ts,P.readableRec t=true/\t<P.types.size) ->
  DataW.TrodAll enc P W 0 (fun _=>true) true ts vs ds ps->(∀ x∈ps,x.block<W.heap.size)->DataW.TrodAll enc P W' 0 (fun b=>decide (b<W.heap.size)) true ts vs ds ps
 | [],vs,ds,ps,_,h,_=>by
  obtain ⟨rfl,rfl,rfl⟩:=trodAll_nil h;exact trodAll_mk0
 | t :: ts,vs,ds,ps,ht,h,hp=>by
  obtain ⟨v,vs',d,ds',p,q,rfl,rfl,rfl,h0,r0⟩:=trodAll_cons h;have ht0:=ht t (by simp);exact trodAll_cons_mk (Below.trod hl ht0.1 ht0.2 h0 hb (fun x hx=>hp x (by simp [hx]))) (z3e hl hb (fun t' h'=>ht t' (by simp [h'])) r0 (fun x hx=>hp x (by simp [hx])))
theorem law_post {f:Func} {s:ChangeSpec} {W W':World} {args:Array Value} {ds gs:List (DataW H)} {before:List MemPlace} {T:TypeId} (hl:laidOutB P=true) (hts:∀ t∈f.params.toList,P.readableRec t=true/\t<P.types.size)
  (hrt:f.resultTypes=#[T]) (hT:P.underlying T=some .bool) (hv:s.vars=[]) (hfn:∀ gs,gs=[]->s.fn H (ds++gs)={ results:=[.lit (.bool true)],args:=ds })
  (hW:DataW.Whole enc P f.params.toList s.vars false W args.toList ds gs before) (hb:Below W.heap.size W W'):s.post enc P f false true false false W args (.bool true) W':=by
 have hlt:∀ x∈before,x.block<W.heap.size:=fun x hx=>by simpa using hW.lt x hx
 obtain ⟨p,q,hA,hV,hbe,hz,hn⟩:=id hW;obtain ⟨rfl,rfl⟩:gs=[]/\q=[]:=by rw [hv] at hV; exact trodVars_none hV
 have e:=hfn [] rfl;have hbef:before=p:=by simpa using hbe
 refine ⟨ds,[],before,[],p,[],hW,?_,?_,?_,hb.frame _,fun h=>by cases h⟩
 ·rw [e,hrt];exact trodAll_cons_mk (shut_bool hT true) trodAll_mk0
 ·rw [e];exact z3e hl hb hts hA (by rw [<- hbef]; exact hlt)
 ·rw [hv];rw [e];exact rfl
theorem open_bytes {W:World} {base:Nat} {T E:TypeId} {v:Value} {d:DataW H} {p:List MemPlace} (hT:P.underlying T=some (.slice E)) (hE:P.underlying E=some (.int .u8)) (hc:P.cellsOf E=1) (hv:Value.okWide P W .any base T v)
  (h:DataW.Trod enc P W 0 (fun _=>true) true T v d p):∃ (A:Option Addr) (l:List Nat) (k c:Nat),v=.slice A k c/\l.length=k/\Rd W A (l.map bv)/\(∀ x∈l,x<256)/\k<=c/\c<=maxLen/\(A=none->l=[]):=by
 obtain ⟨a0,len,cap,rfl⟩:=okWide_slice hT hv;obtain ⟨fuel,hf⟩:=h;rcases open_ints hT hE hc hf with ⟨hcs,_⟩ | ⟨a,len',cap',zs,hcs,_,hl,hm,hz,_,hcell,hwz⟩
 ·simp [Value.cells] at hcs;obtain ⟨rfl,rfl,rfl⟩:=hcs;exact ⟨none,[],0,0,rfl,rfl,Rd.nil,by simp,q_2 _,by simp,fun _=>rfl⟩
 ·simp [Value.cells] at hcs;obtain ⟨rfl,rfl,rfl⟩:=hcs;simp only [if_true] at hz;have hb:∀ n∈zs,0<=n/\n<256:=fun n hn=>by
   have:=bounds_u8 (hwz n hn);omega
  refine ⟨some a,(zs.take len).map Int.toNat,len,cap,rfl,by simp; omega,?_,?_,hl,hm,fun h=>by cases h⟩
  ·refine Rd.of_cells fun j u hu=>?_
   simp only [List.map_map,q_b,q_c] at hu;obtain ⟨z,hz1,rfl⟩:=hu;have hj:j<len:=by
    rcases q_f j len with hlt | hge
    ·exact hlt
    ·rw [q_j (by simp; omega)] at hz1; cases hz1
   rw [List.getElem?_take_of_lt hj] at hz1;rw [hcell j (by omega)];have hmem:z∈zs:=q_a hz1;have hzb:=hb z hmem;simp only [Function.comp,bv,List.getD_eq_getElem?_getD,hz1,Option.getD_some]
   congr 2
   omega
  ·intro x hx;obtain ⟨z,hz1,rfl⟩:=List.mem_map.1 hx;have:=hb z (List.mem_of_mem_take hz1);omega
end
end Go.Proofs.YtdflbhofmmlpgaaGreat
