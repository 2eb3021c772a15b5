/-
  Kq: ScanF, PsPrec, PsLawA. Walks and laws that the statement's proof is made of. No condition of its own.
-/
import Derived.Test.YtgcjcclkialdgaaGreatDoorKa
import Derived.Test.YtgcjcclkialdgaaGreatDoorKi
import Derived.KernelRfl
import Derived.Test.YtgcjcclkialdgaaGreatDoorKm
namespace Go.Proofs.YtgcjcclkialdgaaGreatDoor
def z67:Nat→Nat→z03→Except Nat (List Tok)
 | 0,_,_=>.error 0
 | _+1,line,[]=>.ok [⟨0,line,0,[]⟩]
 | m+1,line,c :: r =>
  if c.toNat=10 then z67 m (line+1) r
  else if c.toNat=32∨c.toNat=9 then z67 m line r
  else if c.toNat=35 then z67 m line (r.dropWhile fun x=>decide (x.toNat≠10))
  else
   match rnext (c :: r) with
   | none=>.error line
   | some (k,v,n) =>
    match z67 m line (r.drop (n - 1)) with
    | .error e=>.error e
    | .ok ts=>.ok (⟨k,line,v,(c :: r).take n⟩ :: ts)
theorem z3m:∀ (m line:Nat) (l:z03),l.length<m→z67 m line l=scan line l
 | 0,_,_,h=>by omega
 | m+1,line,[],_=>by rw [scan]; rfl
 | m+1,line,c :: r,h=>by
  have hr:r.length<m:=by simp at h; omega
  have hd:(r.dropWhile fun x=>decide (x.toNat≠10)).length<m:=by
   have:=List.Sublist.length_le (List.dropWhile_sublist (fun x:UInt8=>decide (x.toNat≠10)) (l:=r))
   omega
  rw [scan,z67]
  split
  ·exact z3m m _ r hr
  ·split
   ·exact z3m m _ r hr
   ·split
    ·exact z3m m _ _ hd
    ·cases rnext (c :: r) with
     | none=>rfl
     | some q =>
      obtain ⟨k,v,n⟩:=q
      simp only []
      rw [z3m m line (r.drop (n - 1)) (by simp; omega)]
      cases scan line (r.drop (n - 1)) <;> rfl
end Go.Proofs.YtgcjcclkialdgaaGreatDoor
namespace Go.Proofs.YtgcjcclkialdgaaGreatDoor
open Go.RowKit
def sg (i:Nat):z03:=z3L.getD i []
def lv (i:Nat):Nat:=[0,1,2,2,2,2,3,3,4,4,4].getD i 0
def tx0 (i k:Nat):z03:=[49,32]++sg i++[32,50,32]++sg k++[32,51]
def resF (l:z03):Option Ex :=
 match z67 (l.length+1) 1 l with
 | .error _=>none
 | .ok ts =>
  match z0X 3 ⟨ts,0,0⟩ with
  | none=>none
  | some (x,s)=>if (hdT s).kind=0∧s.ref=0∧s.out=0 then some x else none
def Good (l:z03) (x:Ex):Prop:=∃ ts s,scan 1 l=.ok ts∧z0X 3 ⟨ts,0,0⟩=some (x,s)∧(hdT s).kind=0∧s.ref=0∧s.out=0
theorem z9R {l:z03} {x:Ex} (h:resF l=some x):Good l x:=by
 unfold resF at h
 cases hs:z67 (l.length+1) 1 l with
 | error e=>rw [hs] at h; cases h
 | ok ts =>
  rw [hs] at h
  simp only [] at h
  cases hp:z0X 3 ⟨ts,0,0⟩ with
  | none=>rw [hp] at h; cases h
  | some q =>
   obtain ⟨y,s⟩:=q
   rw [hp] at h
   simp only [] at h
   split at h
   ·rename_i hc
    injection h with h
    subst h
    exact ⟨ts,s,by rw [← z3m (l.length+1) 1 l (by omega)]; exact hs,hp,hc.1,hc.2.1,hc.2.2⟩
   ·cases h
end Go.Proofs.YtgcjcclkialdgaaGreatDoor
namespace Go.Proofs.YtgcjcclkialdgaaGreatDoor
open Go.RowKit
def PG (e0:Int) (x:Ex) (w:World) (e:Ending) (w':World):Prop:=∃ ln k o a l nm A n c,e=.returned (.tuple #[.agg #[.int .i64 k,.int .i64 o,.int .i64 a,.int .i64 l,.string nm,.slice A n c],.int .i64 ln,.int .i64 e0])∧Hid (e0=0→∃ d,ExV (fun q=>w.heap.size≤q∧q<w'.heap.size) w' d x (.agg #[.int .i64 k,.int .i64 o,.int .i64 a,.int .i64 l,.string nm,.slice A n c]))∧Below w.heap.size w w'
theorem zcw {L:z03} {x:Ex} (h:Good L x) (S:ByteArray) (w:World) (hS:S.data.toList=L) (hL:L.length≤65536) (he:Errs w):Calls Tryz.prog 10 #[.string S] w (PG 0 x w):=by
 obtain ⟨ts,s,h1,h2,h3,h4,h5⟩:=h
 have hsz:S.size=L.length:=by rw [← hS]; simp
 refine (zb8 S w (by omega) he ts 3 x s (by rw [hS]; exact h1) h2 h3 h4 h5).mono ?_
 rintro e w' ⟨d,k,o,a,l,nm,A,n,c,rfl,hx,hb⟩
 exact ⟨0,k,o,a,l,nm,A,n,c,rfl,zhi (fun _=>⟨d,hx.out⟩),hb⟩
end Go.Proofs.YtgcjcclkialdgaaGreatDoor
namespace Go.Proofs.YtgcjcclkialdgaaGreatDoor
open Go.RowKit
def exA:Ex:=.mk 6 3 0 1 ⟨#[]⟩ [.mk 1 0 1 1 ⟨#[]⟩ [],.mk 6 5 0 1 ⟨#[]⟩ [.mk 1 0 2 1 ⟨#[]⟩ [],.mk 1 0 3 1 ⟨#[]⟩ []]]
theorem zdE:resF (tx0 6 8)=some exA:=by kernel_rfl
theorem zdD {F:Nat→Prop} {w:World} {d:Nat} {k o a l:Int} {nm:ByteArray} {A:Option Addr} {n c:Nat} (h:ExV F w d exA (.agg #[.int .i64 k,.int .i64 o,.int .i64 a,.int .i64 l,.string nm,.slice A n c])) :
  o=3∧n=2∧2≤c∧∃ g off,A=some ⟨g,off,none⟩∧w.cell? ⟨g,off+7,none⟩=some (.int .i64 5)∧g<w.heap.size:=by
 cases d with
 | zero=>exact h.elim
 | succ d =>
  obtain ⟨A',c',hv,hr⟩:=z4g.1 h
  injection hv with hv
  injection hv with hv
  injection hv with _ hv
  injection hv with e1 hv
  injection e1 with _ e1
  injection hv with _ hv
  injection hv with _ hv
  injection hv with _ hv
  injection hv with e5 _
  injection e5 with e5 e6 e7
  subst e1 e5 e6 e7
  cases d with
  | zero =>
   obtain ⟨_,_,_,_,_,_,_,_,_,_,_,_,_,_,_,_,hv⟩:=hr.2 0 _ rfl
   exact hv.elim
  | succ d =>
   have hc:=hr.1
   obtain ⟨g,off,k',o',a',l',s',us,A',c',rfl,hm,_,p1,_⟩:=z6F hr (k:=1) rfl
   injection hm with _ hm
   subst hm
   exact ⟨rfl,rfl,hc,g,off,rfl,p1,World.block_lt_of_cell? w _ p1⟩
set_option maxRecDepth 100000 in
set_option maxHeartbeats 2000000 in
theorem zce (w:World) (he:Errs w):Calls Tryz.prog 4 #[] w (RetG true w):=by
 have HP:=zhi (zcw (z9R zdE) ⟨#[49,32,43,32,50,32,42,32,51]⟩ w (by rfl) (by decide) he)
 clear he
 go_enter Tryz.func4,Tryz.ntmps4
 go_wp2_with fail
 refine HP.out.mono ?_
 rintro e w1 ⟨ln,k,o,a,l,nm,A,n,c,rfl,hx,hb⟩
 obtain ⟨d,hv⟩:=hx.out rfl
 obtain ⟨rfl,rfl,hc,g,off,rfl,p1,hg⟩:=zdD hv
 have HZ:=zhi (heap_alloc_new w1 (.cells #[.int .i64 0,.int .i64 0,.int .i64 0,.int .i64 0,.string { data:=#[] },.slice none 0 0] 40))
 have HB:=zhi hb
 have p2:=hold ((Below.refl _ w1).alloc (Nat.le_refl _) (.cells #[.int .i64 0,.int .i64 0,.int .i64 0,.int .i64 0,.string { data:=#[] },.slice none 0 0] 40)) p1
 clear HP hx hv hb p1
 go_wp2_with (with_reducible refine z5q ?_)
 refine z0e.of (z00 _ rfl _ _ _ rfl _ _ rfl (by rfl) _ _ HZ.out (by kernel_rfl) (by rfl) (by simp [Value.oneCell']) ?_)
 intro w5 hrow5 hg5
 have j1:=cell_of_row _ _ 1 _ _ _ hrow5
 have j5:=cell_of_row _ _ 5 _ _ _ hrow5
 have p3:=z07 hg5 (by omega) p2
 have HH:=zhi ((HB.out.alloc HB.out.size _).trans (z0f hg5 (fun k hk=>by injection hk with hk; have:=HB.out.size; omega) (by have:=HB.out.size; simp; omega):Below w.heap.size _ w5))
 clear hrow5 hg5 p2 HZ
 go_wp2_with fail
 go_ret
 exact ⟨rfl,HH.out⟩
end Go.Proofs.YtgcjcclkialdgaaGreatDoor
