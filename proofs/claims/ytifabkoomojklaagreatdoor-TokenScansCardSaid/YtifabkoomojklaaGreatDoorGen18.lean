/-
  The maker of sources: statements and blocks at every depth. Condition: at most a million codes.
-/
import Derived.Test.YtifabkoomojklaaGreatDoorGen15
import Derived.Test.YtifabkoomojklaaGreatDoorGen17
import Derived.Test.YtifabkoomojklaaGreatDoorGenLen
namespace Go.Proofs.YtifabkoomojklaaGreatDoor
open Go.RowKit

theorem stmt_all (m g : Nat) (l : List Nat) (base : Nat) : ∀ d, d ≤ 5 → StmtCt m g l base d
  | 0, _ => stmt_step m g l base 0 (by omega) (fun d' h => by omega) (fun h => by omega)
  | d + 1, h => by
    have hb := blockG_step m g l base d (by omega) (stmt_all m g l base d (by omega))
    exact stmt_step m g l base (d + 1) h (fun d' hd => by obtain rfl : d = d' := by omega
                                                          exact hb) (fun _ => loop_step m g l base d (by omega) hb)
theorem block_all (m g : Nat) (l : List Nat) (base d : Nat) (h : d ≤ 5) : BlockCt m g l base d := blockG_step m g l base d h (stmt_all m g l base d h)
end Go.Proofs.YtifabkoomojklaaGreatDoor
