/-
  FingerprintExact: all functions of the chapter, for any numbers, bytes, strings and lists, answer what its definitions answer, for every input that can be read. No condition.
-/
import Derived.Test.YtlcipcgeanipfaaLaw
import Derived.Test.YtlcipcgeanipfaaExact
namespace Go.Proofs.Ytlcipcgeanipfaa.fingerprintExact
open Go.ChangeShapes Go.WideShapes Go.ChangeAt Go.RowKit

theorem own : ownKnob Try.prog.godebug = none := by kernel_rfl
theorem cellsB : Try.prog.cellsOf 5 = 1 := by kernel_rfl
theorem cellsU : Try.prog.cellsOf 22 = 1 := by kernel_rfl
theorem laidOut : laidOutB Try.prog = true := by kernel_rfl
theorem params : ∀ t ∈ Try.f3.params.toList, Try.prog.readableRec t = true ∧ t < Try.prog.types.size := by
  have h : (Try.f3.params.toList.all fun t => Try.prog.readableRec t && decide (t < Try.prog.types.size)) = true := by kernel_rfl
  intro t ht
  have := List.all_eq_true.1 h t ht
  simpa using this

set_option maxRecDepth 100000 in
theorem contract (H : Type) (enc : TypeId × Value → H) (W : World) (base : Nat) (args : Array Value) (ds gs : List (DataW H)) (before : List MemPlace)
    (hval : ∀ (j : Nat) t v, Try.f3.params[j]? = some t → args[j]? = some v → Value.okWide Try.prog W .any base t v)
    (hW : DataW.Whole enc Try.prog Try.f3.params.toList Rows.fingerprintExactSpec.vars false W args.toList ds gs before) :
    Calls Try.prog 3 args W fun e W' => ∃ v, e = .returned v ∧ Rows.fingerprintExactSpec.post enc Try.prog Try.f3 false true false false W args v W' := by
  have hW' := hW
  obtain ⟨p, q, hA0, hV, rfl, hfz, hnd⟩ := hW
  have hA : DataW.TrodAll enc Try.prog W 0 (fun _ => true) true Try.f3.params.toList args.toList ds p := hA0
  rw [Try.params3] at hA hval
  obtain ⟨v0, vs0, d0, ds0, p0, q0, hargs, rfl, rfl, h0, r0'⟩ := trodAll_cons hA
  obtain ⟨v1, vs1, d1, ds1, p1, q1, rfl, rfl, rfl, h1, r1'⟩ := trodAll_cons r0'
  obtain ⟨v2, vs2, d2, ds2, p2, q2, rfl, rfl, rfl, h2, r2'⟩ := trodAll_cons r1'
  obtain ⟨v3, vs3, d3, ds3, p3, q3, rfl, rfl, rfl, h3, r3'⟩ := trodAll_cons r2'
  obtain ⟨v4, vs4, d4, ds4, p4, q4, rfl, rfl, rfl, h4, r4'⟩ := trodAll_cons r3'
  obtain ⟨rfl, rfl, rfl⟩ := trodAll_nil r4'
  obtain rfl : args = #[v0, v1, v2, v3, v4] := by cases args; simp_all
  obtain ⟨x0, rfl, rfl, rfl, w0⟩ := open_int Try.underlying22 (hval 0 22 _ rfl rfl) h0
  have b0 := bounds_u64 w0
  obtain ⟨x1, rfl, rfl, rfl, w1⟩ := open_int Try.underlying22 (hval 1 22 _ rfl rfl) h1
  have b1 := bounds_u64 w1
  obtain ⟨A2, l2, k2, c2, rfl, e2, r2, t2, g2, m2, n2⟩ := open_bytes Try.underlying23 Try.underlying5 cellsB (hval 2 23 _ rfl rfl) h2
  obtain ⟨s3, rfl, m3⟩ := open_text Try.underlying9 (hval 3 9 _ rfl rfl) h3
  obtain ⟨A4, l4, k4, c4, rfl, e4, r4, t4, g4, m4, n4⟩ := open_u64s Try.underlying24 Try.underlying22 cellsU (hval 4 24 _ rfl rfl) h4
  have walk : Calls Try.prog 3 #[.int .u64 x0, .int .u64 x1, .slice A2 k2 c2, .string s3, .slice A4 k4 c4] W fun f w' => f = .returned (.bool true) ∧ Below W.heap.size W w' := by
    obtain ⟨x, rfl⟩ := Int.eq_ofNat_of_zero_le b0.1
    obtain ⟨y, rfl⟩ := Int.eq_ofNat_of_zero_le b1.1
    by_cases h : 3000 < k2 ∨ 3000 < s3.size ∨ 300 < k4
    · refine (exact_long _ _ A2 k2 c2 s3 A4 k4 c4 W h).mono ?_
      rintro e w' ⟨rfl, rfl⟩
      exact ⟨rfl, Below.refl _ _⟩
    · exact exact_short x y A2 l2 k2 c2 s3 A4 l4 k4 c4 W (by omega) e2 r2 t2 e4 r4 t4 n4 (by omega) (by omega) (by omega)
  refine walk.mono fun e W' ⟨he, hb⟩ => ?_
  subst he
  exact ⟨_, rfl, law_post laidOut params rfl Try.underlying4 rfl (fun gs hg => by subst hg; rfl) hW' hb⟩

set_option maxRecDepth 100000 in
theorem lifted (os : Os) (started : os.Started) (H : Type) (enc : TypeId × Value → H) :
    ReturnsInHanded {} Try.checked os 3 .any (Rows.fingerprintExactSpec.pre6 enc Try.prog Try.f3 Rows.fingerprintExactRow.domain false) (Rows.fingerprintExactSpec.post enc Try.prog Try.f3 false true false false) := by
  refine returnsInHanded_of_change (C := Try.checked) own started (by kernel_rfl) Try.func3
    (ChangeSpec.witness6 (enc := enc) (C := Try.checked) false ⟨#[], #[Value.int .u64 0, Value.int .u64 0, Value.slice none 0 0, Value.string ⟨#[]⟩, Value.slice none 0 0], []⟩ 8 (by kernel_rfl) (by kernel_rfl) (by kernel_rfl) (by kernel_rfl)) ?_
  intro W base args ds gs before hval hW _ _
  exact contract H enc W base args ds gs before hval hW

theorem said : Rows.FingerprintExactSaid :=
  OpenClaim.holds_of_wide 3 Try.f3 rfl rfl rfl rfl rfl rfl rfl ⟨rfl, rfl, rfl, rfl, rfl⟩ rfl rfl rfl rfl rfl (by kernel_rfl) Try.func3 (by kernel_rfl)
    (of_decide_eq_true (by kernel_rfl)) (by unfold Func.isWrapper; first | (rw [if_pos (by decide +kernel)]; kernel_rfl) | (rw [if_neg (by decide +kernel)]; exact ⟨rfl, rfl⟩))
    (fun os started H enc _ => lifted os started H enc)
end Go.Proofs.Ytlcipcgeanipfaa.fingerprintExact
namespace Go.Proofs.Ytlcipcgeanipfaa
theorem fingerprintExact_holds : Rows.FingerprintExactSaid := fingerprintExact.said
end Go.Proofs.Ytlcipcgeanipfaa
