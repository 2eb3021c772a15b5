/-
  What the functions of package predictor answer, in plain words. No condition.
-/
import Derived.Test.YtanjggfcahjkfaaTrace
import Derived.Test.YtanjggfcahjkfaaPredM
namespace Go.Proofs.Ytanjggfcahjkfaa
open Go.RowKit

/-- Numbers in memory. -/
def IntsP (xs : List Nat) (w : World) (e : Ending) (w' : World) : Prop := ∃ v, e = .returned v ∧ RdS w' v (xs.map nv) xs.length ∧ Below w.heap.size w w'
def BolQ (b : Bool) (w : World) (e : Ending) (w' : World) : Prop := e = .returned (.bool b) ∧ ∃ m, w' = w.drewN m
def ft (f : F3) : Ft := (f.a, f.k)
def newP (size : Int) : List Nat := if 1 ≤ size ∧ size ≤ 4096 then List.replicate size.toNat 1 else []
def wrongS (size : Nat) (l : List Ft) : Nat := if size = 0 then 0 else nWrong (List.replicate size 1) l
def CntP (b x : Nat) (w : World) (e : Ending) (w' : World) : Prop := e = .returned (.tuple #[.int .i64 (b : Int), .int .i64 (x : Int)]) ∧ Below w.heap.size w w'
def bov (b : Bool) : Value := .bool b
def eachS (size : Nat) (l : List Ft) : List Bool := if size = 0 then List.replicate l.length false else eachT (List.replicate size 1) l
def BolsP (xs : List Bool) (w : World) (e : Ending) (w' : World) : Prop := ∃ v, e = .returned v ∧ RdS w' v (xs.map bov) xs.length ∧ Below w.heap.size w w'
/-- Fetches with small addresses and kinds. -/
def smallF (fs : List F3) : Prop := ∀ f ∈ fs, f.a ≤ 1000000 ∧ f.k ≤ 1000000
end Go.Proofs.Ytanjggfcahjkfaa
