/-
  EvaluateRuns: the program runs every made source as the reference does, for every input and all limits. No condition.
-/
import Derived.Test.YtdflbhofmmlpgaaGreatKb
import Derived.Test.YtdflbhofmmlpgaaGreatNh
namespace Go.Proofs.YtdflbhofmmlpgaaGreat.evaluateRuns
open Go.ChangeShapes Go.WideShapes Go.ChangeAt Go.RowKit
theorem own:ownKnob Tryz.prog.godebug=none:=by kernel_rfl
theorem cellsB:Tryz.prog.cellsOf 5=1:=by kernel_rfl
theorem cellsI:Tryz.prog.cellsOf 3=1:=by kernel_rfl
theorem laidOut:laidOutB Tryz.prog=true:=by kernel_rfl
theorem params:∀ t∈Tryz.f3.params.toList,Tryz.prog.readableRec t=true∧t<Tryz.prog.types.size:=by
 have h:(Tryz.f3.params.toList.all fun t=>Tryz.prog.readableRec t&&decide (t<Tryz.prog.types.size))=true:=by kernel_rfl
 intro t ht
 have:=List.all_eq_true.1 h t ht
 simpa using this
set_option maxRecDepth 100000 in
theorem contract (H:Type) (enc:TypeId × Value→H) (W:World) (base:Nat) (args:Array Value) (ds gs:List (DataW H)) (before:List MemPlace)
  (hval:∀ (j:Nat) t v,Tryz.f3.params[j]?=some t→args[j]?=some v→Value.okWide Tryz.prog W .any base t v)
  (hW:DataW.Whole enc Tryz.prog Tryz.f3.params.toList Rows.evaluateRunsSpec.vars false W args.toList ds gs before) :
  Calls Tryz.prog 3 args W fun e W'=>∃ v,e=.returned v∧Rows.evaluateRunsSpec.post enc Tryz.prog Tryz.f3 false true false false W args v W':=by
 have hW':=hW
 obtain ⟨p,q,hA0,hV,rfl,hfz,hnd⟩:=hW
 have hA:DataW.TrodAll enc Tryz.prog W 0 (fun _=>true) true Tryz.f3.params.toList args.toList ds p:=hA0
 rw [Tryz.params3] at hA hval
 obtain ⟨v0,vs0,d0,ds0,p0,q0,hargs,rfl,rfl,h0,r0'⟩:=trodAll_cons hA
 obtain ⟨v1,vs1,d1,ds1,p1,q1,rfl,rfl,rfl,h1,r1'⟩:=trodAll_cons r0'
 obtain ⟨v2,vs2,d2,ds2,p2,q2,rfl,rfl,rfl,h2,r2'⟩:=trodAll_cons r1'
 obtain ⟨v3,vs3,d3,ds3,p3,q3,rfl,rfl,rfl,h3,r3'⟩:=trodAll_cons r2'
 obtain ⟨rfl,rfl,rfl⟩:=trodAll_nil r3'
 obtain rfl:args=#[v0,v1,v2,v3]:=by cases args; simp_all
 obtain ⟨A0,l0,k0,c0,rfl,e0,r0,t0,g0,m0,n0⟩:=open_bytes Tryz.underlying22 Tryz.underlying5 cellsB (hval 0 22 _ rfl rfl) h0
 obtain ⟨A1,l1,k1,c1,rfl,e1,r1,g1,m1,n1,o1⟩:=open_i64s Tryz.underlying23 Tryz.underlying3 cellsI (hval 1 23 _ rfl rfl) h1
 obtain ⟨x2,rfl,rfl,rfl,w2⟩:=open_int Tryz.underlying24 (hval 2 24 _ rfl rfl) h2
 have b2:=bounds_u16 w2
 obtain ⟨x3,rfl,rfl,rfl,w3⟩:=open_int Tryz.underlying24 (hval 3 24 _ rfl rfl) h3
 have b3:=bounds_u16 w3
 have walk:Calls Tryz.prog 3 #[.slice A0 k0 c0,.slice A1 k1 c1,.int .u16 x2,.int .u16 x3] W fun f w'=>f=.returned (.bool true)∧Below W.heap.size W w':=by
  exact runs_all A0 l0 k0 c0 A1 l1 k1 c1 x2 x3 W e0 g0 r0 t0 e1 g1 r1 (by omega) (by omega) (fun ad e=>by subst e; exact okw_block Tryz.underlying23 (hval 1 23 _ rfl rfl))
 refine walk.mono fun e W' ⟨he,hb⟩=>?_
 subst he
 exact ⟨_,rfl,law_post laidOut params rfl Tryz.underlying4 rfl (fun gs hg=>by subst hg; rfl) hW' hb⟩
set_option maxRecDepth 100000 in
theorem lifted (os:Os) (started:os.Started) (H:Type) (enc:TypeId × Value→H) :
  ReturnsInHanded {} Tryz.checked os 3 .any (Rows.evaluateRunsSpec.pre6 enc Tryz.prog Tryz.f3 Rows.evaluateRunsRow.domain false) (Rows.evaluateRunsSpec.post enc Tryz.prog Tryz.f3 false true false false):=by
 refine returnsInHanded_of_change (C:=Tryz.checked) own started (by kernel_rfl) Tryz.func3
  (ChangeSpec.witness6 (enc:=enc) (C:=Tryz.checked) false ⟨#[],#[Value.slice none 0 0,Value.slice none 0 0,Value.int .u16 0,Value.int .u16 0],[]⟩ 8 (by kernel_rfl) (by kernel_rfl) (by kernel_rfl) (by kernel_rfl)) ?_
 intro W base args ds gs before hval hW _ _
 exact contract H enc W base args ds gs before hval hW
theorem said:Rows.EvaluateRunsSaid :=
 OpenClaim.holds_of_wide 3 Tryz.f3 rfl rfl rfl rfl rfl rfl rfl ⟨rfl,rfl,rfl,rfl,rfl⟩ rfl rfl rfl rfl rfl (by kernel_rfl) Tryz.func3 (by kernel_rfl)
  (of_decide_eq_true (by kernel_rfl)) (by unfold Func.isWrapper; first | (rw [if_pos (by decide +kernel)]; kernel_rfl) | (rw [if_neg (by decide +kernel)]; exact ⟨rfl,rfl⟩))
  (fun os started H enc _=>lifted os started H enc)
end Go.Proofs.YtdflbhofmmlpgaaGreat.evaluateRuns
namespace Go.Proofs.YtdflbhofmmlpgaaGreat
theorem evaluateRuns_holds:Rows.EvaluateRunsSaid:=evaluateRuns.said
end Go.Proofs.YtdflbhofmmlpgaaGreat
