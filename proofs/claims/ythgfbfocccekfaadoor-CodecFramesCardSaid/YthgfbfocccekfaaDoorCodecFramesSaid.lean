/-
  CodecFrames: the frames of any payloads, and what any bytes mean as a frame, are as the chapter says, for every input that can be read. Condition: the checksum's table starts as the program's text lays it.
-/
import Derived.Test.YthgfbfocccekfaaDoorLaw
import Derived.Test.YthgfbfocccekfaaDoorFrames
namespace Go.Proofs.YthgfbfocccekfaaDoor.codecFrames
open Go.ChangeShapes Go.WideShapes Go.ChangeAt Go.RowKit

theorem own : ownKnob Tryd.prog.godebug = none := by kernel_rfl
theorem gTab : Tryd.prog.globalNamed "warmpath/codec.remainders" = some 0 := by kernel_rfl
theorem gTabType : (Tryd.prog.globals[0]?).map (·.type) = some 54 := by kernel_rfl
theorem cellsA : Tryd.prog.cellsOf 54 = 16 := by kernel_rfl
theorem cellsU : Tryd.prog.cellsOf 39 = 1 := by kernel_rfl
theorem cellsB : Tryd.prog.cellsOf 5 = 1 := by kernel_rfl
theorem laidOut : laidOutB Tryd.prog = true := by kernel_rfl
theorem table {W : World} (h : laidMetH Tryd.prog Rows.codecFramesRow.laid W) : Tab W := by
  have ht := Lib.tabIs_of_head (rest := []) (zs := crcTab.map Int.ofNat) gTab gTabType Tryd.underlying54 Tryd.underlying39 cellsU cellsA h
  intro j hj
  have := ht.cell gTab j (by simpa [crcTab] using hj)
  rw [this]
  congr 2
  simp only [List.getD_eq_getElem?_getD, List.getElem?_map]
  cases crcTab[j]? <;> rfl

theorem params : ∀ t ∈ Tryd.f5.params.toList, Tryd.prog.readableRec t = true ∧ t < Tryd.prog.types.size := by
  have h : (Tryd.f5.params.toList.all fun t => Tryd.prog.readableRec t && decide (t < Tryd.prog.types.size)) = true := by kernel_rfl
  intro t ht
  have := List.all_eq_true.1 h t ht
  simpa using this

set_option maxRecDepth 100000 in
theorem contract (H : Type) (enc : TypeId × Value → H) (W : World) (base : Nat) (args : Array Value) (ds gs : List (DataW H)) (before : List MemPlace)
    (hval : ∀ (j : Nat) t v, Tryd.f5.params[j]? = some t → args[j]? = some v → Value.okWide Tryd.prog W .any base t v)
    (hW : DataW.Whole enc Tryd.prog Tryd.f5.params.toList Rows.codecFramesSpec.vars false W args.toList ds gs before) (hL : laidMetH Tryd.prog Rows.codecFramesRow.laid W) :
    Calls Tryd.prog 5 args W fun e W' => ∃ v, e = .returned v ∧ Rows.codecFramesSpec.post enc Tryd.prog Tryd.f5 false true false false W args v W' := by
  have hW' := hW
  obtain ⟨p, q, hA0, hV, rfl, hfz, hnd⟩ := hW
  have hA : DataW.TrodAll enc Tryd.prog W 0 (fun _ => true) true Tryd.f5.params.toList args.toList ds p := hA0
  rw [Tryd.params5] at hA hval
  obtain ⟨v0, vs0, d0, ds0, p0, q0, hargs, rfl, rfl, h0, r0'⟩ := trodAll_cons hA
  obtain ⟨v1, vs1, d1, ds1, p1, q1, rfl, rfl, rfl, h1, r1'⟩ := trodAll_cons r0'
  obtain ⟨v2, vs2, d2, ds2, p2, q2, rfl, rfl, rfl, h2, r2'⟩ := trodAll_cons r1'
  obtain ⟨v3, vs3, d3, ds3, p3, q3, rfl, rfl, rfl, h3, r3'⟩ := trodAll_cons r2'
  obtain ⟨rfl, rfl, rfl⟩ := trodAll_nil r3'
  obtain rfl : args = #[v0, v1, v2, v3] := by cases args; simp_all
  obtain ⟨A0, l0, k0, c0, rfl, e0, r0, t0, g0, m0, n0⟩ := open_bytes Tryd.underlying22 Tryd.underlying5 cellsB (hval 0 22 _ rfl rfl) h0
  obtain ⟨A1, l1, k1, c1, rfl, e1, r1, t1, g1, m1, n1⟩ := open_bytes Tryd.underlying22 Tryd.underlying5 cellsB (hval 1 22 _ rfl rfl) h1
  obtain ⟨x2, rfl, rfl, rfl, w2⟩ := open_int Tryd.underlying39 (hval 2 39 _ rfl rfl) h2
  have b2 := bounds_u32 w2
  obtain ⟨A3, l3, k3, c3, rfl, e3, r3, t3, g3, m3, n3⟩ := open_bytes Tryd.underlying22 Tryd.underlying5 cellsB (hval 3 22 _ rfl rfl) h3
  have tab := table hL
  have walk : Calls Tryd.prog 5 #[.slice A0 k0 c0, .slice A1 k1 c1, .int .u32 x2, .slice A3 k3 c3] W fun f w' => f = .returned (.bool true) ∧ Below W.heap.size W w' := by
    obtain ⟨lg, rfl⟩ := Int.eq_ofNat_of_zero_le b2.1
    by_cases hk : 1000 < k0 ∨ 1000 < k1
    · exact frames_long lg A0 A1 A3 k0 c0 k1 c1 k3 c3 W tab hk
    · exact frames_short A0 A1 A3 l0 l1 l3 k0 c0 k1 c1 k3 c3 lg W tab e0 r0 t0 g0 n0 (by omega) e1 r1 t1 (by omega) e3 r3 t3 g3 (by omega)
  refine walk.mono fun e W' ⟨he, hb⟩ => ?_
  subst he
  exact ⟨_, rfl, law_post laidOut params rfl Tryd.underlying4 rfl (fun gs hg => by subst hg; rfl) hW' hb⟩

/-- A world for the witness: the settled one, the table holding what its initialiser lays. -/
noncomputable def laidWorld (os : Os) : World :=
  { World.holding Tryd.prog os ⟨#[], #[], []⟩ with heap := (World.holding Tryd.prog os ⟨#[], #[], []⟩).heap.modify 0 fun
      | .cells _ t frozen => .cells #[.int .u32 0, .int .u32 498536548, .int .u32 997073096, .int .u32 651767980, .int .u32 1994146192, .int .u32 1802195444, .int .u32 1303535960, .int .u32 1342533948, .int .u32 3988292384, .int .u32 4027552580, .int .u32 3604390888, .int .u32 3412177804, .int .u32 2607071920, .int .u32 2262029012, .int .u32 2685067896, .int .u32 3183342108] t frozen
      | o => o }
theorem laid_met (os : Os) : laidMet Tryd.prog Rows.codecFramesRow.laid ((laidWorld os).forCall (fun _ _ => 0) ⟨#[], #[Value.slice none 0 0, Value.slice none 0 0, Value.int .u32 0, Value.slice none 0 0], []⟩).memory :=
  laidMet_of_run' 8 (by kernel_rfl) (by kernel_rfl)
theorem reads (os : Os) {H : Type} (enc : TypeId × Value → H) : ∃ places, DataW.whole enc Tryd.prog ((laidWorld os).forCall (fun _ _ => 0) ⟨#[], #[Value.slice none 0 0, Value.slice none 0 0, Value.int .u32 0, Value.slice none 0 0], []⟩).memory Tryd.f5.params.toList Rows.codecFramesSpec.vars false #[Value.slice none 0 0, Value.slice none 0 0, Value.int .u32 0, Value.slice none 0 0].toList 8 = some ([.nil, .nil, .lit (.int .u32 0), .nil], [], places) :=
  ⟨[], by kernel_rfl⟩

set_option maxRecDepth 100000 in
theorem lifted (os : Os) (started : os.Started) (H : Type) (enc : TypeId × Value → H) (F : Stop.Interp) :
    ReturnsInHanded {} Tryd.checked os 5 .any ((OpenSpec.ofChange Rows.codecFramesSpec).preRow enc Tryd.prog Tryd.f5 Rows.codecFramesRow.domain false Rows.codecFramesRow.laid) (((OpenSpec.ofChange Rows.codecFramesSpec).at F).post enc Tryd.prog Tryd.f5 false true false false) := by
  obtain ⟨places, hx⟩ := reads os enc
  refine returnsInHanded_of_row (C := Tryd.checked) (s := OpenSpec.ofChange Rows.codecFramesSpec) own started (by kernel_rfl) Tryd.func5
    (witness_row_at (enc := enc) (C := Tryd.checked) false (laidWorld os) #[Value.slice none 0 0, Value.slice none 0 0, Value.int .u32 0, Value.slice none 0 0] rfl (by kernel_rfl) (by kernel_rfl) (by kernel_rfl)
      (OpenSpec.preRow_of_cond 8 hx (by kernel_rfl) (fun k hk => by cases hk) (by kernel_rfl) (laid_met os))) ?_
  intro W base args ds gs before hval hW _ _ _ hL _ _
  exact contract H enc W base args ds gs before hval hW hL

theorem said : Rows.CodecFramesSaid :=
  OpenClaim.holds_of_cond 5 Tryd.f5 rfl rfl rfl rfl rfl rfl rfl ⟨rfl, rfl, rfl, rfl, rfl⟩ rfl rfl rfl rfl rfl (by kernel_rfl) Tryd.func5 (by kernel_rfl)
    (of_decide_eq_true (by kernel_rfl)) (by unfold Func.isWrapper; first | (rw [if_pos (by decide +kernel)]; kernel_rfl) | (rw [if_neg (by decide +kernel)]; exact ⟨rfl, rfl⟩))
    (fun os started H enc _ F => by rw [OpenClaim.pre_eq_preRow]; exact lifted os started H enc F)

theorem plain (f : FuncId) (fn : Func) (hf : Tryd.pinned.checked.prog.funcNamed "warmpath/warmpathlaw01.CodecFrames" = some f) (hfn : Tryd.pinned.checked.prog.funcs[f]? = some fn) :
    false = Tryd.pinned.checked.prog.looks [] ∧ ∀ (j : Nat) t, fn.params[j]? = some t → Tryd.pinned.checked.prog.wantsStandIn t = false := by
  obtain rfl : f = 5 := Option.some.inj ((show Tryd.prog.funcNamed "warmpath/warmpathlaw01.CodecFrames" = some 5 by kernel_rfl).symm.trans hf) |>.symm
  obtain rfl : fn = Tryd.f5 := (Option.some.inj (Tryd.func5.symm.trans hfn)).symm
  refine ⟨by kernel_rfl, fun j t ht => ?_⟩
  have h : (Tryd.f5.params.toList.all fun t => !Tryd.prog.wantsStandIn t) = true := by kernel_rfl
  have hm : t ∈ Tryd.f5.params.toList := by simpa using Array.mem_of_getElem? ht
  have hx : Tryd.prog.wantsStandIn t = false := by simpa using List.all_eq_true.1 h t hm
  exact hx

theorem card : Rows.CodecFramesCardSaid :=
  Claim7.holds_tied_plain_at .later [] _ _ _ _ said (fun _ h => by cases h) (by kernel_rfl) (fun _ h => by cases h) codecFrames_row_tie rfl ⟨rfl, rfl⟩ (by kernel_rfl) rfl plain (by kernel_rfl)
end Go.Proofs.YthgfbfocccekfaaDoor.codecFrames
namespace Go.Proofs.YthgfbfocccekfaaDoor
theorem codecFrames_card : Rows.CodecFramesCardSaid := codecFrames.card
end Go.Proofs.YthgfbfocccekfaaDoor
