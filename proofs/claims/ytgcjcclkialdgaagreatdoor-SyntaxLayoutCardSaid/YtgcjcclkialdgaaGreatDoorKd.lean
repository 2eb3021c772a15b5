/-
  Kd: PsMath, RpMath, RpNow. Walks and laws that the statement's proof is made of. No condition of its own.
-/
import Derived.Test.YtgcjcclkialdgaaGreatDoorKb
import Derived.RegionTactic
import Derived.ChangeAlike
import Derived.BigRegion
namespace Go.Proofs.YtgcjcclkialdgaaGreatDoor
open Go.RowKit
structure PS where
 rest:List Tok
 ref:Nat
 out:Nat
def noT:Tok:=⟨0,0,0,[]⟩
def hdT (s:PS):Tok:=s.rest.head?.getD noT
def popP (s:PS):PS:={ s with rest:=s.rest.tail }
def z0u (s:PS):PS:={ s with rest:=s.rest.drop (s.rest.length - 1),ref:=if s.ref=0 then (hdT s).line else s.ref }
def z0c (l:List z03) (s:PS):Bool:=l.contains (hdT s).text
def z0a (t:z03) (s:PS):PS:=if z0c [t] s then popP s else z0u s
def z06 (k:Nat) (s:PS):Tok × PS:=if (hdT s).kind=k then (hdT s,popP s) else (noT,z0u s)
def nmB (t:z03):ByteArray:=⟨t.toArray⟩
def binK (t:z03):Int:=if t=[124,124] then 8 else if t=[38,38] then 7 else 6
def binO (t:z03):Int:=if t=[124,124] then 0 else if t=[38,38] then 0 else if t=[60] then 8 else if t=[60,61] then 9 else if t=[61,61] then 10 else if t=[33,61] then 11 else if t=[43] then 3 else if t=[45] then 4 else if t=[42] then 5 else if t=[47] then 6 else if t=[37] then 7 else 0
def binP (t:Tok) (x y:Ex):Ex:=.mk (binK t.text) (binO t.text) 0 (t.line:Int) ⟨#[]⟩ [x,y]
abbrev P1:=PS→Option (Ex × PS)
def z2b (sub:P1) (signs:List z03):Nat→Ex→P1
 | 0,_,_=>none
 | n+1,x,s =>
  if z0c signs s then
   match sub (popP s) with
   | none=>none
   | some (y,s2)=>z2b sub signs n (binP (hdT s) x y) s2
  else some (x,s)
def z0w (sub:P1) (signs:List z03):P1:=fun s =>
 match sub s with
 | none=>none
 | some (x,s1)=>z2b sub signs (s.rest.length+1) x s1
def z2E (sub:P1) (signs:List z03):P1:=fun s =>
 match sub s with
 | none=>none
 | some (x,s1) =>
  if z0c signs s1 then
   match sub (popP s1) with
   | none=>none
   | some (y,s2)=>some (binP (hdT s1) x y,s2)
  else some (x,s1)
def z0y (E:P1):P1:=fun s =>
 if (hdT s).kind=2 then some (.mk 1 0 ((hdT s).value:Int) ((hdT s).line:Int) ⟨#[]⟩ [],popP s)
 else if z0c [[38]] s then some (.mk 11 0 0 ((hdT s).line:Int) (nmB (z06 1 (popP s)).1.text) [],(z06 1 (popP s)).2)
 else if z0c [[114,101,97,100]] s then some (.mk 12 0 0 ((hdT s).line:Int) ⟨#[]⟩ [],popP s)
 else if z0c [[40]] s then
  match E (popP s) with
  | none=>none
  | some (x,s1)=>some (x,z0a [41] s1)
 else if z0c [[91]] (z06 1 s).2 then
  match E (popP (z06 1 s).2) with
  | none=>none
  | some (x,s1)=>some (.mk 4 0 0 ((hdT s).line:Int) (nmB (z06 1 s).1.text) [x],z0a [93] s1)
 else some (.mk 13 0 0 ((hdT s).line:Int) (nmB (z06 1 s).1.text) [],(z06 1 s).2)
def z2o (E:P1):Nat→List Ex→PS→Option (List Ex × PS)
 | 0,_,_=>none
 | n+1,xs,s =>
  if z0c [[44]] s then
   match E (popP s) with
   | none=>none
   | some (y,s2)=>z2o E n (xs++[y]) s2
  else some (xs,s)
def z2n (E:P1) (xs:List Ex):PS→Option (List Ex × PS):=fun s =>
 if z0c [[41]] s then some (xs,popP s)
 else
  match E s with
  | none=>none
  | some (y,s1) =>
   match z2o E (s.rest.length+1) (xs++[y]) s1 with
   | none=>none
   | some (ys,s2)=>some (ys,z0a [41] s2)
def z2C (E:P1) (x:Ex) (named:Bool):P1:=fun s =>
 match z2n E (if named then [] else [x]) (popP s) with
 | none=>none
 | some (ys,s2) =>
  match x with
  | .mk _ _ _ _ nm _=>some (.mk (if named then 9 else 10) 0 0 ((hdT s).line:Int) (if named then nm else ⟨#[]⟩) ys,s2)
def z13 (E:P1) (bare:Bool):Nat→Ex→P1
 | 0,_,_=>none
 | n+1,x,s =>
  if z0c [[40]] s then
   match z2C E x (match x with | .mk k _ _ _ _ _=>bare&&k == 13) s with
   | none=>none
   | some (y,s2)=>z13 E bare n y s2
  else some (x,s)
def z1O (E:P1):P1:=fun s =>
 match z0y E s with
 | none=>none
 | some (x,s1)=>z13 E ((hdT s).kind == 1) (s.rest.length+1) x s1
def z1r (E:P1):Nat→P1
 | 0,_=>none
 | n+1,s =>
  if z0c [[45]] s then
   match z1r E n (popP s) with
   | none=>none
   | some (x,s1)=>some (.mk 5 1 0 ((hdT s).line:Int) ⟨#[]⟩ [x],s1)
  else if z0c [[33]] s then
   match z1r E n (popP s) with
   | none=>none
   | some (x,s1)=>some (.mk 5 2 0 ((hdT s).line:Int) ⟨#[]⟩ [x],s1)
  else z1O E s
def z1Y (E:P1):P1:=fun s=>z1r E (s.rest.length+1) s
def zeV (E:P1):P1:=z0w (z1Y E) [[42],[47],[37]]
def sumP (E:P1):P1:=z0w (zeV E) [[43],[45]]
def zaE (E:P1):P1:=z2E (sumP E) [[60],[60,61],[61,61],[33,61]]
def andP (E:P1):P1:=z0w (zaE E) [[38,38]]
def z0X:Nat→P1
 | 0,_=>none
 | d+1,s=>z0w (andP (z0X d)) [[124,124]] s
def WFt (l:List Tok):Prop:=∃ r e,l=r++[e]∧(e.kind=0∧e.text=[])∧∀ t∈r,t.kind≠0∧t.text≠[]
theorem WFt.pos {l:List Tok} (h:WFt l):0<l.length:=by
 obtain ⟨r,e,rfl,_⟩:=h
 simp
theorem WFt.two {s:PS} (h:WFt s.rest) (h2:(hdT s).text≠[]∨(hdT s).kind≠0):2≤s.rest.length:=by
 obtain ⟨r,e,hl,he,_⟩:=h
 cases r with
 | nil =>
  have:hdT s=e:=by simp [hdT,hl]
  rw [this] at h2
  rcases h2 with h2 | h2
  ·exact absurd he.2 h2
  ·exact absurd he.1 h2
 | cons a r=>rw [hl]; simp
theorem WFt.tail {l:List Tok} (h:WFt l) (h2:2≤l.length):WFt l.tail:=by
 obtain ⟨r,e,rfl,he,hr⟩:=h
 cases r with
 | nil=>simp at h2
 | cons a r=>exact ⟨r,e,rfl,he,fun t ht=>hr t (by simp [ht])⟩
theorem WFt.last {l:List Tok} (h:WFt l):WFt (l.drop (l.length - 1)):=by
 obtain ⟨r,e,rfl,he,_⟩:=h
 exact ⟨[],e,by simp,he,fun t ht=>by simp at ht⟩
theorem z7L {l:z03} {line:Nat} {ts:List Tok} (h:scan line l=.ok ts):WFt ts:=by
 obtain ⟨toks,e,rfl,ht⟩:=z9Z l.length l line ts (Nat.le_refl _) h
 refine ⟨toks,_,rfl,⟨rfl,rfl⟩,fun t hm=>⟨(ht t hm).kd,?_⟩⟩
 obtain ⟨c,r,hc,_⟩:=(ht t hm).head
 rw [hc]
 simp
theorem z18 {l:List z03} {s:PS} (h:WFt s.rest) (hl:[] ∉ l) (hs:z0c l s=true):2≤s.rest.length:=by
 refine h.two (.inl fun e=>hl ?_)
 simp only [z0c,List.contains_iff_mem] at hs
 rwa [e] at hs
def z5H (w:World) (b o:Nat) (t:Tok):Prop:=w.cell? ⟨b,o,none⟩=some (.int .i64 (t.kind:Int))∧w.cell? ⟨b,o+1,none⟩=some (.int .i64 (t.line:Int))∧w.cell? ⟨b,o+2,none⟩=some (.int .i64 (t.value:Int))∧w.cell? ⟨b,o+3,none⟩=some (.string (nmB t.text))
structure PR (w:World) (p tb off c n:Nat) (s:PS):Prop where
 wf:WFt s.rest
 ne:tb≠p
 len:s.rest.length=n+1
 cap:n+1≤c
 sm:n≤1000000
 row:∃ T,w.heap[p]?=some (.cells #[.slice (some ⟨tb,off,none⟩) (n+1) c,.int .i64 (s.ref:Int),.int .i64 (s.out:Int)] T (0,0))
 tok:∀ k t,s.rest[k]?=some t→z5H w tb (off+k * 4) t
def PA (w:World) (p tb:Nat) (s:PS):Prop:=∃ off c n,PR w p tb off c n s
theorem PR.hd {w:World} {p tb off c n:Nat} {s:PS} (h:PR w p tb off c n s):z5H w tb off (hdT s):=by
 have hl:=h.wf.pos
 have:=h.tok 0 (hdT s) (by
  cases hr:s.rest with
  | nil=>rw [hr] at hl; simp at hl
  | cons a r=>simp [hdT,hr])
 simpa using this
theorem PR.plt {w:World} {p tb off c n:Nat} {s:PS} (h:PR w p tb off c n s):p<w.heap.size:=by
 obtain ⟨T,hr⟩:=h.row
 exact (Array.getElem?_eq_some_iff.1 hr).1
theorem PR.tlt {w:World} {p tb off c n:Nat} {s:PS} (h:PR w p tb off c n s):tb<w.heap.size:=World.block_lt_of_cell? w _ h.hd.1
theorem PA.wf {w:World} {p tb:Nat} {s:PS} (h:PA w p tb s):WFt s.rest:=by
 obtain ⟨off,c,n,h⟩:=h
 exact h.wf
theorem PA.lt {w:World} {p tb:Nat} {s:PS} (h:PA w p tb s):p<w.heap.size∧tb<w.heap.size∧tb≠p:=by
 obtain ⟨off,c,n,h⟩:=h
 exact ⟨h.plt,h.tlt,h.ne⟩
theorem z5H.keep {w w':World} {b o:Nat} {t:Tok} (h:z5H w b o t) (hb:w'.heap[b]?=w.heap[b]?):z5H w' b o t:=by
 have e:∀ o,w'.cell? ⟨b,o,none⟩=w.cell? ⟨b,o,none⟩:=fun o=>World.cell?_of_block hb
 exact ⟨(e _).trans h.1,(e _).trans h.2.1,(e _).trans h.2.2.1,(e _).trans h.2.2.2⟩
theorem PA.keep {w w':World} {p tb:Nat} {s:PS} (h:PA w p tb s) (hp:w'.heap[p]?=w.heap[p]?) (ht:w'.heap[tb]?=w.heap[tb]?):PA w' p tb s:=by
 obtain ⟨off,c,n,h⟩:=h
 obtain ⟨T,hr⟩:=h.row
 exact ⟨off,c,n,h.wf,h.ne,h.len,h.cap,h.sm,⟨T,hp.trans hr⟩,fun k t hk=>(h.tok k t hk).keep ht⟩
theorem PA.low {w w':World} {p tb B:Nat} {s:PS} (h:PA w p tb s) (hb:Below B w w') (h1:p<B) (h2:tb<B):PA w' p tb s:=h.keep (hb.block _ h1) (hb.block _ h2)
theorem PA.below {w w':World} {p tb:Nat} {s:PS} (h:PA w p tb s) (hb:Below w.heap.size w w'):PA w' p tb s:=h.low hb h.lt.1 h.lt.2.1
theorem PA.alloc {w:World} {p tb:Nat} {s:PS} (h:PA w p tb s) (o:Obj):PA (w.alloc o) p tb s:=h.below ((Below.refl _ w).alloc (Nat.le_refl _) o)
theorem PA.other {w w':World} {p tb g:Nat} {s:PS} (h:PA w p tb s) (hg:w.grownBy w' (some g)) (h1:p≠g) (h2:tb≠g):PA w' p tb s :=
 h.keep (hg.block _ h.lt.1 (fun e=>h1 (by injection e))) (hg.block _ h.lt.2.1 (fun e=>h2 (by injection e)))
theorem PR.cells {w:World} {p tb off c n:Nat} {s:PS} (h:PR w p tb off c n s):w.cell? ⟨p,0,none⟩=some (.slice (some ⟨tb,off,none⟩) (n+1) c)∧w.cell? ⟨p,1,none⟩=some (.int .i64 (s.ref:Int))∧w.cell? ⟨p,2,none⟩=some (.int .i64 (s.out:Int))∧(∀ i,w.frozen? ⟨p,i,none⟩=false):=by
 obtain ⟨T,hr⟩:=h.row
 exact ⟨cell_of_row _ _ 0 _ _ _ hr,cell_of_row _ _ 1 _ _ _ hr,cell_of_row _ _ 2 _ _ _ hr,fun i=>by simp [World.frozen?,hr]⟩
theorem PR.pop {w w':World} {p tb off c n:Nat} {s:PS} (h:PR w p tb off c (n+1) s) (hp:∃ T,w'.heap[p]?=some (.cells #[.slice (some ⟨tb,off+4,none⟩) (n+1) (c - 1),.int .i64 (s.ref:Int),.int .i64 (s.out:Int)] T (0,0))) (ht:w'.heap[tb]?=w.heap[tb]?):PR w' p tb (off+4) (c - 1) n (popP s):=by
 have hl:=h.len
 refine ⟨h.wf.tail (by omega),h.ne,by simp [popP,hl],by have:=h.cap; omega,by have:=h.sm; omega,hp,fun k t hk=>?_⟩
 have:=(h.tok (k+1) t (by simpa [popP] using hk)).keep ht
 have e:off+4+k * 4=off+(k+1) * 4:=by omega
 rw [e]
 exact this
theorem PR.refuse {w w':World} {p tb off c n r:Nat} {s:PS} (h:PR w p tb off c n s) (hr:r=(z0u s).ref) (hp:∃ T,w'.heap[p]?=some (.cells #[.slice (some ⟨tb,off+n * 4,none⟩) 1 (c - n),.int .i64 (r:Int),.int .i64 (s.out:Int)] T (0,0))) (ht:w'.heap[tb]?=w.heap[tb]?):PR w' p tb (off+n * 4) (c - n) 0 (z0u s):=by
 have hl:=h.len
 subst hr
 refine ⟨h.wf.last,h.ne,by simp [z0u,hl],by have:=h.cap; omega,by omega,hp,fun k t hk=>?_⟩
 have:=(h.tok (n+k) t (by simpa [z0u,hl] using hk)).keep ht
 have e:off+n * 4+k * 4=off+(n+k) * 4:=by omega
 rw [e]
 exact this
theorem z0o (s:PS):(popP s).rest.length=s.rest.length - 1:=by simp [popP]
theorem z3D (s:PS) (h:0<s.rest.length):(z0u s).rest.length=1:=by simp [z0u]; omega
end Go.Proofs.YtgcjcclkialdgaaGreatDoor
namespace Go.Proofs.YtgcjcclkialdgaaGreatDoor
open Go.RowKit
structure RS where
 rest:List Tok
 bad:Bool
 wrong:Nat
def hdR (s:RS):Tok:=s.rest.head?.getD noT
def popR (s:RS):RS:={ s with rest:=s.rest.tail }
def Ex.nm:Ex→ByteArray | .mk _ _ _ _ s _=>s
structure RR (w:World) (p tb at_ c N:Nat) (s:RS):Prop where
 wf:WFt s.rest
 ne:tb≠p
 len:at_+s.rest.length=N
 cap:N≤c
 sm:N≤1000000
 row:∃ T,w.heap[p]?=some (.cells #[.slice (some ⟨tb,0,none⟩) N c,.int .i64 (at_:Int),.bool s.bad,.int .i64 (s.wrong:Int)] T (0,0))
 tok:∀ k t,s.rest[k]?=some t→z5H w tb ((at_+k) * 4) t
def RA (w:World) (p tb:Nat) (s:RS):Prop:=∃ at_ c N,RR w p tb at_ c N s
theorem RR.lt {w:World} {p tb at_ c N:Nat} {s:RS} (h:RR w p tb at_ c N s):at_<N:=by
 have:=h.wf.pos
 have:=h.len
 omega
theorem RR.hd {w:World} {p tb at_ c N:Nat} {s:RS} (h:RR w p tb at_ c N s):z5H w tb (at_ * 4) (hdR s):=by
 have hl:=h.wf.pos
 have:=h.tok 0 (hdR s) (by
  cases hr:s.rest with
  | nil=>rw [hr] at hl; simp at hl
  | cons a r=>simp [hdR,hr])
 simpa using this
theorem RR.plt {w:World} {p tb at_ c N:Nat} {s:RS} (h:RR w p tb at_ c N s):p<w.heap.size:=by
 obtain ⟨T,hr⟩:=h.row
 exact (Array.getElem?_eq_some_iff.1 hr).1
theorem RR.tlt {w:World} {p tb at_ c N:Nat} {s:RS} (h:RR w p tb at_ c N s):tb<w.heap.size:=World.block_lt_of_cell? w _ h.hd.1
theorem RA.wf {w:World} {p tb:Nat} {s:RS} (h:RA w p tb s):WFt s.rest:=by
 obtain ⟨off,c,n,h⟩:=h
 exact h.wf
theorem RA.lt {w:World} {p tb:Nat} {s:RS} (h:RA w p tb s):p<w.heap.size∧tb<w.heap.size∧tb≠p:=by
 obtain ⟨off,c,n,h⟩:=h
 exact ⟨h.plt,h.tlt,h.ne⟩
theorem RA.sm {w:World} {p tb:Nat} {s:RS} (h:RA w p tb s):s.rest.length≤1000000:=by
 obtain ⟨off,c,n,h⟩:=h
 have:=h.len
 have:=h.sm
 omega
theorem RR.keep {w w':World} {p tb at_ c N:Nat} {s:RS} (h:RR w p tb at_ c N s) (hp:w'.heap[p]?=w.heap[p]?) (ht:w'.heap[tb]?=w.heap[tb]?):RR w' p tb at_ c N s:=by
 obtain ⟨T,hr⟩:=h.row
 exact ⟨h.wf,h.ne,h.len,h.cap,h.sm,⟨T,hp.trans hr⟩,fun k t hk=>(h.tok k t hk).keep ht⟩
theorem RA.keep {w w':World} {p tb:Nat} {s:RS} (h:RA w p tb s) (hp:w'.heap[p]?=w.heap[p]?) (ht:w'.heap[tb]?=w.heap[tb]?):RA w' p tb s:=by
 obtain ⟨a,c,n,h⟩:=h
 exact ⟨a,c,n,h.keep hp ht⟩
theorem RA.low {w w':World} {p tb B:Nat} {s:RS} (h:RA w p tb s) (hb:Below B w w') (h1:p<B) (h2:tb<B):RA w' p tb s:=h.keep (hb.block _ h1) (hb.block _ h2)
theorem RA.below {w w':World} {p tb:Nat} {s:RS} (h:RA w p tb s) (hb:Below w.heap.size w w'):RA w' p tb s:=h.low hb h.lt.1 h.lt.2.1
theorem RA.alloc {w:World} {p tb:Nat} {s:RS} (h:RA w p tb s) (o:Obj):RA (w.alloc o) p tb s:=h.below ((Below.refl _ w).alloc (Nat.le_refl _) o)
theorem RA.drew {w:World} {p tb:Nat} {s:RS} (h:RA w p tb s):RA w.drew p tb s:=h.keep rfl rfl
theorem RA.drewN {w:World} {p tb:Nat} {s:RS} (h:RA w p tb s) (q:Nat):RA (w.drewN q) p tb s:=h.keep rfl rfl
theorem RA.other {w w':World} {p tb g:Nat} {s:RS} (h:RA w p tb s) (hg:w.grownBy w' (some g)) (h1:p≠g) (h2:tb≠g):RA w' p tb s :=
 h.keep (hg.block _ h.lt.1 (fun e=>h1 (by injection e))) (hg.block _ h.lt.2.1 (fun e=>h2 (by injection e)))
theorem RR.cells {w:World} {p tb at_ c N:Nat} {s:RS} (h:RR w p tb at_ c N s):w.cell? ⟨p,0,none⟩=some (.slice (some ⟨tb,0,none⟩) N c)∧w.cell? ⟨p,1,none⟩=some (.int .i64 (at_:Int))∧w.cell? ⟨p,2,none⟩=some (.bool s.bad)∧w.cell? ⟨p,3,none⟩=some (.int .i64 (s.wrong:Int))∧(∀ i,w.frozen? ⟨p,i,none⟩=false):=by
 obtain ⟨T,hr⟩:=h.row
 exact ⟨cell_of_row _ _ 0 _ _ _ hr,cell_of_row _ _ 1 _ _ _ hr,cell_of_row _ _ 2 _ _ _ hr,cell_of_row _ _ 3 _ _ _ hr,fun i=>by simp [World.frozen?,hr]⟩
theorem RR.pop {w w':World} {p tb at_ c N:Nat} {s:RS} (h:RR w p tb at_ c N s) (h2:2≤s.rest.length) (hp:∃ T,w'.heap[p]?=some (.cells #[.slice (some ⟨tb,0,none⟩) N c,.int .i64 ((at_+1:Nat):Int),.bool s.bad,.int .i64 (s.wrong:Int)] T (0,0))) (ht:w'.heap[tb]?=w.heap[tb]?):RR w' p tb (at_+1) c N (popR s):=by
 have hl:=h.len
 refine ⟨h.wf.tail h2,h.ne,by simp [popR]; omega,h.cap,h.sm,hp,fun k t hk=>?_⟩
 have:=(h.tok (k+1) t (by simpa [popR] using hk)).keep ht
 have e:at_+1+k=at_+(k+1):=by omega
 rw [e]
 exact this
end Go.Proofs.YtgcjcclkialdgaaGreatDoor
namespace Go.Proofs.YtgcjcclkialdgaaGreatDoor
open Go.RowKit
end Go.Proofs.YtgcjcclkialdgaaGreatDoor
