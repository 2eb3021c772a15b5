/-
  Kc: RTokA. Walks and laws that the statement's proof is made of. No condition of its own.
-/
import Derived.Test.YtgcjcclkialdgaaGreatDoorKb
import Derived.Deep.RegionWith
import Derived.Deep.Cut
import Derived.Deep.CutRange
import Derived.Deep.AppendLies
import Derived.Deep.RegionHeld3
import Derived.RegionTactic
import Derived.BigRegion
namespace Go.Proofs.YtgcjcclkialdgaaGreatDoor
open Go.RowKit
end Go.Proofs.YtgcjcclkialdgaaGreatDoor
namespace Go.Proofs.YtgcjcclkialdgaaGreatDoor
open Go.RowKit
end Go.Proofs.YtgcjcclkialdgaaGreatDoor
namespace Go.Proofs.YtgcjcclkialdgaaGreatDoor
open Go.RowKit
theorem zbf {w:World} {b i:Nat} {cs:Array Value} {t:TypeId} (v:Value) (h:w.heap[b]?=some (.cells cs t (0,0))):(w.setCell ⟨b,i,none⟩ v).heap[b]?=some (.cells (cs.setIfInBounds i v) t (0,0)):=by
 have:=heap_setCell_same w b i _ _ v h
 simpa using this
structure RNs (w:World) (k line v:Int) (T:ByteArray) (wc:World):Prop where
 r6:wc.heap[w.heap.size]?=some (.cells #[.int .i64 0,.int .i64 0,.int .i64 0,.string ⟨#[]⟩] 79 (0,0))
 r10:wc.heap[w.heap.size+1]?=some (.cells #[.int .i64 k,.int .i64 line,.int .i64 v,.string T] 79 (0,0))
 bl:Below w.heap.size w wc
theorem RNs.below {w wc w':World} {k line v:Int} {T:ByteArray} (h:RNs w k line v T wc) (hb:Below wc.heap.size wc w'):RNs w k line v T w' :=
 ⟨(hb.block _ (Array.getElem?_eq_some_iff.1 h.r6).1).trans h.r6,(hb.block _ (Array.getElem?_eq_some_iff.1 h.r10).1).trans h.r10,h.bl.trans (hb.mono h.bl.size)⟩
theorem RNs.set {w wc:World} {k line v k' v':Int} {T T':ByteArray} (i:Nat) (u:Value) (h:RNs w k line v T wc) (hc:(#[Value.int .i64 k,.int .i64 line,.int .i64 v,.string T]).setIfInBounds i u=#[.int .i64 k',.int .i64 line,.int .i64 v',.string T']):RNs w k' line v' T' (wc.setCell ⟨w.heap.size+1,i,none⟩ u):=by
 have hs:=z05 wc ⟨w.heap.size+1,i,none⟩ u
 refine ⟨(hs.block _ (Array.getElem?_eq_some_iff.1 h.r6).1 (fun e=>absurd (show w.heap.size=w.heap.size+1 by injection e) (by omega))).trans h.r6,by rw [zbf u h.r10,hc],h.bl.trans (z0f hs (fun k hk=>Nat.le_trans (Nat.le_succ _) (Nat.le_of_eq (show w.heap.size+1=k by injection hk))) h.bl.size)⟩
end Go.Proofs.YtgcjcclkialdgaaGreatDoor
namespace Go.Proofs.YtgcjcclkialdgaaGreatDoor
open Go.RowKit
end Go.Proofs.YtgcjcclkialdgaaGreatDoor
namespace Go.Proofs.YtgcjcclkialdgaaGreatDoor
open Go.RowKit
end Go.Proofs.YtgcjcclkialdgaaGreatDoor
namespace Go.Proofs.YtgcjcclkialdgaaGreatDoor
open Go.RowKit
end Go.Proofs.YtgcjcclkialdgaaGreatDoor
namespace Go.Proofs.YtgcjcclkialdgaaGreatDoor
open Go.RowKit
end Go.Proofs.YtgcjcclkialdgaaGreatDoor
