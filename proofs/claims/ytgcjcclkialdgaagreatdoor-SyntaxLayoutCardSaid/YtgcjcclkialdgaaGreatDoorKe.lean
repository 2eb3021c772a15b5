/-
  Ke: RpCall, RpDone. Walks and laws that the statement's proof is made of. No condition of its own.
-/
import Derived.Test.YtgcjcclkialdgaaGreatDoorKda
import Derived.Test.YtgcjcclkialdgaaGreatDoorKc
namespace Go.Proofs.YtgcjcclkialdgaaGreatDoor
open Go.RowKit
end Go.Proofs.YtgcjcclkialdgaaGreatDoor
namespace Go.Proofs.YtgcjcclkialdgaaGreatDoor
open Go.RowKit
theorem zbh {l:z03} {ts:List Tok} (h:z1W l=.ok ts):WFt ts∧ts.length≤1000000:=by
 unfold z1W at h
 split at h
 ·cases h
 ·rename_i hl
  cases hs:scan 1 l with
  | error n=>rw [hs] at h; cases h
  | ok t =>
   rw [hs] at h
   injection h with h
   subst h
   have:=(z4u l.length l 1 t (Nat.le_refl _) hs).2
   exact ⟨z7L hs,by omega⟩
end Go.Proofs.YtgcjcclkialdgaaGreatDoor
