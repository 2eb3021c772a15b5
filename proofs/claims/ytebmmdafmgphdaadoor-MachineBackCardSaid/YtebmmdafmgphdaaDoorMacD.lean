/-
  What the functions of package machine answer, in plain words. No condition.
-/
import Derived.Test.YtebmmdafmgphdaaDoorMacM
import Derived.Test.YtebmmdafmgphdaaDoorNums
namespace Go.Proofs.YtebmmdafmgphdaaDoor
open Go.RowKit

/-- A number of either sign as a value. -/
def iz (n : Int) : Value := .int .i64 n
/-- An instruction as a value. -/
def cdv (x : Cd) (v : Value) : Value := .agg #[.int .i64 x.op, .int .i64 x.ari, .int .i64 x.dst, .int .i64 x.a, .int .i64 x.b, .int .i64 x.val, .bool x.wide, v]
def NumP (n : Int) (w : World) (e : Ending) (w' : World) : Prop := e = .returned (.int .i64 n) ∧ Below w.heap.size w w'
def EncP (x : Cd) (w : World) (e : Ending) (w' : World) : Prop := ∃ v, e = .returned (.tuple #[v, .int .i64 (chkC x : Nat)]) ∧ RdS w' v ((encO x).map bv) (encO x).length ∧ Below w.heap.size w w'
def DecP (y : Cd) (k er : Nat) (w : World) (e : Ending) (w' : World) : Prop :=
  ∃ v, e = .returned (.tuple #[cdv y v, .int .i64 (k : Int), .int .i64 (er : Int)]) ∧ RdS w' v (y.args.map iz) y.args.length ∧ Below w.heap.size w w'
end Go.Proofs.YtebmmdafmgphdaaDoor
