/-
  No cell of these rows narrows 'for every input' (looked for: loops, veiled, ifaces, maps, wideKeys, modest, calm, conditions, laid).
  DERIVED. THE GIVEN ROWS OF THIS SEAT. 4 by the template 'for every input the law returns true; each argument reads behind the call as it read before'; 0 by the template 'total and deterministic' (their statements: YtanjggfcahjkfaaTotals.lean).
  GIVEN WITH THE SEED: the statements are not yours to turn. If you find one false, say at which input.
  Laid BY PROGRAM, IN A SANDBOX (cutbox-rows.mjs): the forced cells as the released guide's own fill.sh prints them over the translation 649826e7062e2d51… (all of the seat's roots in one cut). By AI agents, Wed Nov 11 2026. No macro, syntax, notation, axiom, sorry.
-/
import Derived.Test.YtanjggfcahjkfaaChecked
import GoSem.Claim
import GoSem.ClaimJoined
import GoSem.ClaimMapViews
import Derived.JoinedTies
import Derived.KernelRfl
namespace Go.Proofs.Ytanjggfcahjkfaa
/- THE CELL 'sum', in the pinned program and in every row, IS THE sha256 OF THE DUMP (.gsa) THAT YtanjggfcahjkfaaProg.lean LOADS. Nothing in Lean hashes anything: it is a label: what it is worth is what the hold of that sum in a sandbox is worth. -/
noncomputable def Try.pinned : Pinned := { name := "ytanjggfcahjkfaa", sum := "649826e7062e2d515042edfd4108a3e408b9fd9c1f2eba4a134de807cee05af9", checked := Try.checked }
namespace Rows
def none {H : Type} : Left H := { results := [], args := [] }

/-- 'warmpathlaw16.PredictorExact': WHATEVER THE INPUT: true; the input reads as it did. -/
def predictorExactSpec : ChangeSpec := { name := "predictorExact", fn := fun _ => fun
  | [d1, d2, d3, d4] => { results := [.lit (.bool true)], args := [d1, d2, d3, d4] }
  | _ => none }
def predictorExactRow : OpenClaim := { program := "ytanjggfcahjkfaa", sum := "649826e7062e2d515042edfd4108a3e408b9fd9c1f2eba4a134de807cee05af9", func := "warmpath/warmpathlaw16.PredictorExact", spec := "predictorExact", recurses := true, apart := false }
def PredictorExactSaid : Prop := predictorExactRow.holds Try.pinned (OpenSpec.ofChange predictorExactSpec)

/-- ITS FALSE NEIGHBOUR: 'it returns false'. Refute it at one input. -/
def predictorExactWrong : ChangeSpec := { name := "predictorExact", fn := fun _ => fun
  | [d1, d2, d3, d4] => { results := [.lit (.bool false)], args := [d1, d2, d3, d4] }
  | _ => none }
def PredictorExactWrongFalsely : Prop := predictorExactRow.holds Try.pinned (OpenSpec.ofChange predictorExactWrong)

/-- 'warmpathlaw16.PredictorSteps': WHATEVER THE INPUT: true; the input reads as it did. -/
def predictorStepsSpec : ChangeSpec := { name := "predictorSteps", fn := fun _ => fun
  | [d] => { results := [.lit (.bool true)], args := [d] }
  | _ => none }
def predictorStepsRow : OpenClaim := { program := "ytanjggfcahjkfaa", sum := "649826e7062e2d515042edfd4108a3e408b9fd9c1f2eba4a134de807cee05af9", func := "warmpath/warmpathlaw16.PredictorSteps", spec := "predictorSteps", recurses := true, apart := false }
def PredictorStepsSaid : Prop := predictorStepsRow.holds Try.pinned (OpenSpec.ofChange predictorStepsSpec)

/-- ITS FALSE NEIGHBOUR: 'it returns false'. Refute it at one input. -/
def predictorStepsWrong : ChangeSpec := { name := "predictorSteps", fn := fun _ => fun
  | [d] => { results := [.lit (.bool false)], args := [d] }
  | _ => none }
def PredictorStepsWrongFalsely : Prop := predictorStepsRow.holds Try.pinned (OpenSpec.ofChange predictorStepsWrong)

/-- 'warmpathlaw16.PredictorSteady': WHATEVER THE INPUT: true; the input reads as it did. -/
def predictorSteadySpec : ChangeSpec := { name := "predictorSteady", fn := fun _ => fun
  | [d1, d2, d3] => { results := [.lit (.bool true)], args := [d1, d2, d3] }
  | _ => none }
def predictorSteadyRow : OpenClaim := { program := "ytanjggfcahjkfaa", sum := "649826e7062e2d515042edfd4108a3e408b9fd9c1f2eba4a134de807cee05af9", func := "warmpath/warmpathlaw16.PredictorSteady", spec := "predictorSteady", recurses := true, apart := false }
def PredictorSteadySaid : Prop := predictorSteadyRow.holds Try.pinned (OpenSpec.ofChange predictorSteadySpec)

/-- ITS FALSE NEIGHBOUR: 'it returns false'. Refute it at one input. -/
def predictorSteadyWrong : ChangeSpec := { name := "predictorSteady", fn := fun _ => fun
  | [d1, d2, d3] => { results := [.lit (.bool false)], args := [d1, d2, d3] }
  | _ => none }
def PredictorSteadyWrongFalsely : Prop := predictorSteadyRow.holds Try.pinned (OpenSpec.ofChange predictorSteadyWrong)

/-- 'warmpathlaw16.PredictorApart': WHATEVER THE INPUT: true; the input reads as it did. -/
def predictorApartSpec : ChangeSpec := { name := "predictorApart", fn := fun _ => fun
  | [d] => { results := [.lit (.bool true)], args := [d] }
  | _ => none }
def predictorApartRow : OpenClaim := { program := "ytanjggfcahjkfaa", sum := "649826e7062e2d515042edfd4108a3e408b9fd9c1f2eba4a134de807cee05af9", func := "warmpath/warmpathlaw16.PredictorApart", spec := "predictorApart", recurses := true, apart := false }
def PredictorApartSaid : Prop := predictorApartRow.holds Try.pinned (OpenSpec.ofChange predictorApartSpec)

/-- ITS FALSE NEIGHBOUR: 'it returns false'. Refute it at one input. -/
def predictorApartWrong : ChangeSpec := { name := "predictorApart", fn := fun _ => fun
  | [d] => { results := [.lit (.bool false)], args := [d] }
  | _ => none }
def PredictorApartWrongFalsely : Prop := predictorApartRow.holds Try.pinned (OpenSpec.ofChange predictorApartWrong)

/- THE SECOND FORM. 'bulk': how many values and letters a reading holds, each counted each time it is reached (what is shared counts as often as it is met; a slice's spare places count too). A statement '..UptoSaid' is the law's where the arguments, and the package variables that the reading takes, are together of bulk at most 1048576: NARROWER than '..Said'. Prove '..Said' where nothing that the law and all that it calls make is longer than what came in: it says more and counts as full. Else prove '..UptoSaid'. A law counts once. -/
mutual
def uptoBulk {H : Type} : DataW H → Nat
  | .lit (.string bytes) => bytes.length + 1
  | .lit _ => 1
  | .nil => 1
  | .ptr d => uptoBulk d + 1
  | .slice elems spare => uptoBulkAll elems + uptoBulkAll spare + 1
  | .agg parts => uptoBulkAll parts + 1
  | .iface _ d => uptoBulk d + 1
  | .map entries => uptoBulkEntries entries + 1
  | .held _ => 1
def uptoBulkAll {H : Type} : List (DataW H) → Nat
  | [] => 0
  | d :: r => uptoBulk d + uptoBulkAll r
def uptoBulkEntries {H : Type} : List (Lit × DataW H) → Nat
  | [] => 0
  | x :: r => uptoBulkEntry x + uptoBulkEntries r
def uptoBulkEntry {H : Type} : Lit × DataW H → Nat
  | (.string bytes, d) => bytes.length + uptoBulk d + 1
  | (_, d) => uptoBulk d + 1
 end
def uptoSmall : (H : Type) → List (DataW H) → Bool := fun _ ds => decide (uptoBulkAll ds ≤ 1048576)
def OpenSpec.upto (s : _root_.Go.ChangeSpec) : _root_.Go.OpenSpec := { _root_.Go.OpenSpec.ofChange s with cond := some uptoSmall }

/-- 'warmpathlaw16.PredictorExact', WHERE WHAT IT READS IS OF BULK AT MOST 1048576: true; the input reads as it did. -/
def predictorExactUptoRow : OpenClaim := { program := "ytanjggfcahjkfaa", sum := "649826e7062e2d515042edfd4108a3e408b9fd9c1f2eba4a134de807cee05af9", func := "warmpath/warmpathlaw16.PredictorExact", spec := "predictorExact", recurses := true, apart := false, narrowed := true }
def PredictorExactUptoSaid : Prop := predictorExactUptoRow.holds Try.pinned (OpenSpec.upto predictorExactSpec)

/-- 'warmpathlaw16.PredictorSteps', WHERE WHAT IT READS IS OF BULK AT MOST 1048576: true; the input reads as it did. -/
def predictorStepsUptoRow : OpenClaim := { program := "ytanjggfcahjkfaa", sum := "649826e7062e2d515042edfd4108a3e408b9fd9c1f2eba4a134de807cee05af9", func := "warmpath/warmpathlaw16.PredictorSteps", spec := "predictorSteps", recurses := true, apart := false, narrowed := true }
def PredictorStepsUptoSaid : Prop := predictorStepsUptoRow.holds Try.pinned (OpenSpec.upto predictorStepsSpec)

/-- 'warmpathlaw16.PredictorSteady', WHERE WHAT IT READS IS OF BULK AT MOST 1048576: true; the input reads as it did. -/
def predictorSteadyUptoRow : OpenClaim := { program := "ytanjggfcahjkfaa", sum := "649826e7062e2d515042edfd4108a3e408b9fd9c1f2eba4a134de807cee05af9", func := "warmpath/warmpathlaw16.PredictorSteady", spec := "predictorSteady", recurses := true, apart := false, narrowed := true }
def PredictorSteadyUptoSaid : Prop := predictorSteadyUptoRow.holds Try.pinned (OpenSpec.upto predictorSteadySpec)

/-- 'warmpathlaw16.PredictorApart', WHERE WHAT IT READS IS OF BULK AT MOST 1048576: true; the input reads as it did. -/
def predictorApartUptoRow : OpenClaim := { program := "ytanjggfcahjkfaa", sum := "649826e7062e2d515042edfd4108a3e408b9fd9c1f2eba4a134de807cee05af9", func := "warmpath/warmpathlaw16.PredictorApart", spec := "predictorApart", recurses := true, apart := false, narrowed := true }
def PredictorApartUptoSaid : Prop := predictorApartUptoRow.holds Try.pinned (OpenSpec.upto predictorApartSpec)

end Rows
end Go.Proofs.Ytanjggfcahjkfaa
