/-
  The maker of sources: expressions and calls at every depth; what a statement is that it makes. Condition: at most a million codes.
-/
import Derived.Test.YtifabkoomojklaaGreatDoorGen5
import Derived.Test.YtifabkoomojklaaGreatDoorGen6
namespace Go.Proofs.YtifabkoomojklaaGreatDoor
open Go.RowKit

theorem expr_all (m g : Nat) (l : List Nat) (E : Env) (bud : Int) (hE : EnvOk E) : ∀ d, d ≤ 6 → ExprCt m g l E bud d
  | 0, _ => expr_0 m g l E bud hE
  | d + 1, h => exprG_step m g l E bud d (by omega) hE (expr_all m g l E bud hE d (by omega)) (call_step m g l E bud d (by omega) hE (expr_all m g l E bud hE d (by omega)))
theorem call_all (m g : Nat) (l : List Nat) (E : Env) (bud : Int) (hE : EnvOk E) (d : Nat) (h : d ≤ 5) : CallCt m g l E bud d := call_step m g l E bud d h hE (expr_all m g l E bud hE d (by omega))
/-- What the maker makes has the shape that the writer asks. -/
theorem ge_shape : ∀ (d : Nat) (x : Ex), GE d x → ShE (d + 1) x
  | 0, .mk k o a l s xs, ⟨_, h1, h2, h3, h4, h5, hxs, hk⟩ => by
    subst hxs
    refine ⟨by simp, by omega, by omega, h4, h1, h2, by simp, ?_⟩
    rcases hk with hk | ⟨hk, _⟩ | hk | ⟨hk, _⟩ <;> subst hk <;> decide
  | d + 1, .mk k o a l s xs, ⟨_, h1, h2, h3, h4, h5, hk⟩ => by
    rcases hk with ⟨hxs, hk⟩ | ⟨hxs, hk⟩
    · subst hxs
      refine ⟨by simp, by omega, by omega, h4, h1, h2, by simp, ?_⟩
      rcases hk with hk | ⟨hk, _⟩ | hk | ⟨hk, _⟩ <;> subst hk <;> decide
    · refine ⟨by omega, by omega, by omega, h4, h1, h2, fun x hx => ge_shape d x (hxs x hx), ?_⟩
      rcases hk with ⟨hk, _, _, hl⟩ | ⟨hk, _, hl⟩ | ⟨hk, hl⟩ | ⟨hk, hl⟩ | ⟨hk, _, hl⟩ | ⟨hk, _, hl⟩ | ⟨hk, hl, _⟩ <;> simp [hk, hl]
end Go.Proofs.YtifabkoomojklaaGreatDoor
