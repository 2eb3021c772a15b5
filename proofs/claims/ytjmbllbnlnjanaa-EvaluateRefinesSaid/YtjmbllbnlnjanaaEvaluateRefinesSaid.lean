/-
  EvaluateRefines: when an outcome is what another one says, and when two are the same, is what the chapter defines, for any outcomes and drawn changes of them, for every input that can be read. No condition.
-/
import Derived.Test.YtjmbllbnlnjanaaLaw
import Derived.Test.YtjmbllbnlnjanaaEvRf
namespace Go.Proofs.Ytjmbllbnlnjanaa.evaluateRefines
open Go.ChangeShapes Go.WideShapes Go.ChangeAt Go.RowKit

theorem own : ownKnob Try.prog.godebug = none := by kernel_rfl
theorem cellsB : Try.prog.cellsOf 5 = 1 := by kernel_rfl
theorem laidOut : laidOutB Try.prog = true := by kernel_rfl
theorem params : ∀ t ∈ Try.f4.params.toList, Try.prog.readableRec t = true ∧ t < Try.prog.types.size := by
  have h : (Try.f4.params.toList.all fun t => Try.prog.readableRec t && decide (t < Try.prog.types.size)) = true := by kernel_rfl
  intro t ht
  have := List.all_eq_true.1 h t ht
  simpa using this

set_option maxRecDepth 100000 in
theorem contract (H : Type) (enc : TypeId × Value → H) (W : World) (base : Nat) (args : Array Value) (ds gs : List (DataW H)) (before : List MemPlace)
    (hval : ∀ (j : Nat) t v, Try.f4.params[j]? = some t → args[j]? = some v → Value.okWide Try.prog W .any base t v)
    (hW : DataW.Whole enc Try.prog Try.f4.params.toList Rows.evaluateRefinesSpec.vars false W args.toList ds gs before) :
    Calls Try.prog 4 args W fun e W' => ∃ v, e = .returned v ∧ Rows.evaluateRefinesSpec.post enc Try.prog Try.f4 false true false false W args v W' := by
  have hW' := hW
  obtain ⟨p, q, hA0, hV, rfl, hfz, hnd⟩ := hW
  have hA : DataW.TrodAll enc Try.prog W 0 (fun _ => true) true Try.f4.params.toList args.toList ds p := hA0
  rw [Try.params4] at hA hval
  obtain ⟨v0, vs0, d0, ds0, p0, q0, hargs, rfl, rfl, h0, r0'⟩ := trodAll_cons hA
  obtain ⟨v1, vs1, d1, ds1, p1, q1, rfl, rfl, rfl, h1, r1'⟩ := trodAll_cons r0'
  obtain ⟨v2, vs2, d2, ds2, p2, q2, rfl, rfl, rfl, h2, r2'⟩ := trodAll_cons r1'
  obtain ⟨rfl, rfl, rfl⟩ := trodAll_nil r2'
  obtain rfl : args = #[v0, v1, v2] := by cases args; simp_all
  obtain ⟨k0, u0, t0, A0, n0, c0, l0, rfl, e0, g0, r0⟩ := open_out (hval 0 29 _ rfl rfl) h0
  obtain ⟨k1, u1, t1, A1, n1, c1, l1, rfl, e1, g1, r1⟩ := open_out (hval 1 29 _ rfl rfl) h1
  obtain ⟨A2, l2, k2, c2, rfl, e2, r2, t2, g2, m2, n2⟩ := open_bytes Try.underlying30 Try.underlying5 cellsB (hval 2 30 _ rfl rfl) h2
  have walk : Calls Try.prog 4 #[.agg #[.int .i64 k0, .int .i64 u0, .int .i64 t0, .slice A0 n0 c0], .agg #[.int .i64 k1, .int .i64 u1, .int .i64 t1, .slice A1 n1 c1], .slice A2 k2 c2] W fun f w' => f = .returned (.bool true) ∧ Below W.heap.size W w' := by
    by_cases h : 100 < n0 ∨ 100 < n1
    · exact refines_long awake_7 k0 u0 t0 A0 n0 c0 k1 u1 t1 A1 n1 c1 A2 k2 c2 W h
    · exact refines_any awake_7 ⟨k0, u0, t0, A0, n0, c0, l0⟩ ⟨k1, u1, t1, A1, n1, c1, l1⟩ A2 l2 k2 c2 W e0 g0 r0 e1 g1 r1 e2 g2 r2 t2 (by show n0 ≤ 100; omega) (by show n1 ≤ 100; omega)
  refine walk.mono fun e W' ⟨he, hb⟩ => ?_
  subst he
  exact ⟨_, rfl, law_post laidOut params rfl Try.underlying4 rfl (fun gs hg => by subst hg; rfl) hW' hb⟩

set_option maxRecDepth 100000 in
theorem lifted (os : Os) (started : os.Started) (H : Type) (enc : TypeId × Value → H) :
    ReturnsInHanded {} Try.checked os 4 .any (Rows.evaluateRefinesSpec.pre6 enc Try.prog Try.f4 Rows.evaluateRefinesRow.domain false) (Rows.evaluateRefinesSpec.post enc Try.prog Try.f4 false true false false) := by
  refine returnsInHanded_of_change (C := Try.checked) own started (by kernel_rfl) Try.func4
    (ChangeSpec.witness6 (enc := enc) (C := Try.checked) false ⟨#[], #[Value.agg #[Value.int .i64 0, Value.int .i64 0, Value.int .i64 0, Value.slice none 0 0], Value.agg #[Value.int .i64 0, Value.int .i64 0, Value.int .i64 0, Value.slice none 0 0], Value.slice none 0 0], []⟩ 8 (by kernel_rfl) (by kernel_rfl) (by kernel_rfl) (by kernel_rfl)) ?_
  intro W base args ds gs before hval hW _ _
  exact contract H enc W base args ds gs before hval hW

theorem said : Rows.EvaluateRefinesSaid :=
  OpenClaim.holds_of_wide 4 Try.f4 rfl rfl rfl rfl rfl rfl rfl ⟨rfl, rfl, rfl, rfl, rfl⟩ rfl rfl rfl rfl rfl (by kernel_rfl) Try.func4 (by kernel_rfl)
    (of_decide_eq_true (by kernel_rfl)) (by unfold Func.isWrapper; first | (rw [if_pos (by decide +kernel)]; kernel_rfl) | (rw [if_neg (by decide +kernel)]; exact ⟨rfl, rfl⟩))
    (fun os started H enc _ => lifted os started H enc)
end Go.Proofs.Ytjmbllbnlnjanaa.evaluateRefines
namespace Go.Proofs.Ytjmbllbnlnjanaa
theorem evaluateRefines_holds : Rows.EvaluateRefinesSaid := evaluateRefines.said
end Go.Proofs.Ytjmbllbnlnjanaa
