/-
  Kda: RpOp, RpLev, RpLev2, RpUn, RpPrim, RpCall0. Walks and laws that the statement's proof is made of. No condition of its own.
-/
import Derived.Test.YtgcjcclkialdgaaGreatDoorKd
import Derived.Test.YtgcjcclkialdgaaGreatDoorKh
import Derived.Deep.RegionWith
namespace Go.Proofs.YtgcjcclkialdgaaGreatDoor
open Go.RowKit
end Go.Proofs.YtgcjcclkialdgaaGreatDoor
namespace Go.Proofs.YtgcjcclkialdgaaGreatDoor
open Go.RowKit
def z7u (w:World) (p:Nat):Nat:=match w.cell? ⟨p,0,none⟩,w.cell? ⟨p,1,none⟩ with | some (.slice _ n _),some (.int _ a)=>n - a.toNat | _,_=>0
theorem RA.rest {w:World} {p tb:Nat} {s:RS} (h:RA w p tb s):z7u w p=s.rest.length:=by
 obtain ⟨a,c,n,h⟩:=h
 have:=h.len
 simp [z7u,h.cells.1,h.cells.2.1]
 omega
def XBox (lo:Nat) (w:World) (b:Nat) (x:Ex):Prop:=lo≤b∧∃ d k o a l s A n c,w.heap[b]?=some (.cells #[.int .i64 k,.int .i64 o,.int .i64 a,.int .i64 l,.string s,.slice A n c] 40 (0,0))∧ExV (fun q=>lo≤q∧q<w.heap.size∧q≠b) w d x (.agg #[.int .i64 k,.int .i64 o,.int .i64 a,.int .i64 l,.string s,.slice A n c])
theorem XBox.lt {lo:Nat} {w:World} {b:Nat} {x:Ex} (h:XBox lo w b x):b<w.heap.size:=by
 obtain ⟨_,d,k,o,a,l,s,A,n,c,hr,_⟩:=h
 exact (Array.getElem?_eq_some_iff.1 hr).1
theorem XBox.keep {lo:Nat} {w w':World} {b:Nat} {x:Ex} (h:XBox lo w b x) (hs:w.heap.size≤w'.heap.size) (hk:∀ q,lo≤q→q<w.heap.size→w'.heap[q]?=w.heap[q]?):XBox lo w' b x:=by
 have hlt:=h.lt
 obtain ⟨h1,d,k,o,a,l,s,A,n,c,hr,hx⟩:=h
 exact ⟨h1,d,k,o,a,l,s,A,n,c,(hk b h1 hlt).trans hr,hx.keep (fun q hq=>⟨hq.1,Nat.lt_of_lt_of_le hq.2.1 hs,hq.2.2⟩) (fun q hq=>hk q hq.1 hq.2.1)⟩
theorem XBox.below {lo:Nat} {w w':World} {b:Nat} {x:Ex} (h:XBox lo w b x) (hb:Below w.heap.size w w'):XBox lo w' b x:=h.keep hb.size (fun q _ hq=>hb.block q hq)
theorem XBox.grown {lo p:Nat} {w w':World} {b:Nat} {x:Ex} (h:XBox lo w b x) (hg:w.grownBy w' (some p)) (hp:p<lo):XBox lo w' b x:=h.keep hg.size (fun q hq hq2=>hg.block q hq2 (fun e=>by injection e with e; omega))
theorem z33 {w w':World} {row:Option Nat} (h:w.drew.grownBy w' row):w.grownBy w' row:=⟨h.os,h.tape,h.output,h.size,h.block⟩
end Go.Proofs.YtgcjcclkialdgaaGreatDoor
namespace Go.Proofs.YtgcjcclkialdgaaGreatDoor
open Go.RowKit
end Go.Proofs.YtgcjcclkialdgaaGreatDoor
namespace Go.Proofs.YtgcjcclkialdgaaGreatDoor
open Go.RowKit
end Go.Proofs.YtgcjcclkialdgaaGreatDoor
namespace Go.Proofs.YtgcjcclkialdgaaGreatDoor
open Go.RowKit
end Go.Proofs.YtgcjcclkialdgaaGreatDoor
namespace Go.Proofs.YtgcjcclkialdgaaGreatDoor
open Go.RowKit
theorem z0V.up {base d:Nat} {w:World} {v:Value} {xs:List Ex} {L:List Value} (h:z0V base d w v xs L) (n:Nat):z0V base (d+n) w v xs L :=
 ⟨h.own,fun j x hj=>by
  obtain ⟨c0,c1,c2,c3,c4,c5,e0,e1,e2,e3,e4,e5,hx⟩:=h.at_ j x hj
  exact ⟨c0,c1,c2,c3,c4,c5,e0,e1,e2,e3,e4,e5,hx.mono n⟩⟩
end Go.Proofs.YtgcjcclkialdgaaGreatDoor
