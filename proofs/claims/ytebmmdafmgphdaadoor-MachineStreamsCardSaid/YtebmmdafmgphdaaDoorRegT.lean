/-
  A region that draws its order and stores into a cell that it loads: a condition S behind every operation, and a condition T behind those that come ahead of that store (operation z). No condition.
-/
import Derived.Test.YtebmmdafmgphdaaDoorRows
import Derived.OrdersHeld
import Derived.RegionTactic
import Derived.Deep.RegionHeld
namespace Go.Proofs.YtebmmdafmgphdaaDoor

section
variable {P : Program} {ops : Array Oper} {Q : Exit → Act → World → Prop} {md : Region.Mode} {S T S' : World → Prop} {z : Nat}
/-- S holds, and T as long as operation z has not come up. -/
def InvT (S T : World → Prop) (z : Nat) (L : Array Bool) (w : World) : Prop := S w ∧ (L.getD z true = true ∨ T w)
/-- Whichever operation comes up: behind it the two conditions hold. -/
def GoT (P : Program) (md : Region.Mode) (ops : Array Oper) (Q : Exit → Act → World → Prop) (S T : World → Prop) (z : Nat) : Nat → Array Bool → Act → World → Prop
  | 0, L, a, w => Region.ready md ops L = [] ∧ Q .normal a w
  | n + 1, L, a, w => (Region.ready md ops L = [] → Q .normal a w) ∧ ∀ i ∈ Region.ready md ops L, wpOp P ops Q i (fun a' w' => InvT S T z (L.setIfInBounds i true) w' ∧ GoT P md ops Q S T z n (L.setIfInBounds i true) a' w') a w
theorem GoT.plain : ∀ (n : Nat) (L : Array Bool) (a : Act) (w : World), GoT P md ops Q S T z n L a w → wpAny P md ops Q n L a w
  | 0, _, _, _, h => h
  | _ + 1, _, _, _, h => ⟨h.1, fun i hi => wpOp_mono (fun a' w' h' => GoT.plain _ _ a' w' h'.2) (h.2 i hi)⟩
/-- The conditions may be sharpened on the way. -/
theorem GoT.sharp (hs : ∀ w, S' w → S w) : ∀ (n : Nat) (L : Array Bool) (a : Act) (w : World), GoT P md ops Q S' T z n L a w → GoT P md ops Q S T z n L a w
  | 0, _, _, _, h => h
  | _ + 1, _, _, _, h => ⟨h.1, fun i hi => wpOp_mono (fun a' w' h' => ⟨⟨hs _ h'.1.1, h'.1.2⟩, GoT.sharp hs _ _ a' w' h'.2⟩) (h.2 i hi)⟩
/-- Operation z waits for operation i. -/
def waitsB (md : Region.Mode) (ops : Array Oper) (z i : Nat) : Bool := match ops[z]? with
  | some o => o.after.any fun e => Region.binds md e && e.on == i
  | none => false
theorem not_listed {i : Nat} {L : Array Bool} (hun : L.getD i true = false) (h1 : L.getD i false = true) : False := by
  rcases Nat.lt_or_ge i L.size with h' | h'
  · simp [h'] at hun h1
    rw [hun] at h1
    cases h1
  · simp [Array.getElem?_eq_none h'] at h1
theorem waits_not {i : Nat} {L : Array Bool} (h : waitsB md ops z i = true) (hi : i ∈ Region.ready md ops L) (hz : z ∈ Region.ready md ops L) : False := by
  unfold waitsB at h
  obtain ⟨hun, _⟩ := mem_ready.1 hi
  obtain ⟨_, o, ho, hall⟩ := mem_ready.1 hz
  rw [ho] at h
  obtain ⟨k, hk, he⟩ := Array.any_eq_true.1 h
  simp only [Bool.and_eq_true, beq_iff_eq] at he
  have h1 := hall _ (Array.getElem_mem hk) he.1
  rw [he.2] at h1
  exact not_listed hun h1
theorem InvT.set {i : Nat} {L : Array Bool} {w : World} (hi : i ≠ z) (h : InvT S T z L w) : InvT S T z (L.setIfInBounds i true) w := ⟨h.1, by
  rw [getD_set_ne true hi]
  exact h.2⟩
theorem InvT.unset {i : Nat} {L : Array Bool} {w : World} (hi : i ≠ z) (h : InvT S T z (L.setIfInBounds i true) w) : InvT S T z L w := ⟨h.1, by
  have := h.2
  rw [getD_set_ne true hi] at this
  exact this⟩
/-- An operation that yields its value wherever U holds comes first, if U follows from the conditions as long as it has not come up. -/
theorem GoT.first {U : World → Prop} {i : Nat} {oi : Oper} {v : Value} (hi : ops[i]? = some oi) (hiz : i ≠ z) (hU : ∀ L w, i ∈ Region.ready md ops L → (L.getD z true = true → ¬ waitsB md ops z i = true) → InvT S T z L w → U w) (hsel : ∀ (j : Nat) (o : Oper) cs b, ops[j]? = some o → o.op ≠ .select cs b) (hQ : ∀ c a w, Q (.panic c) (a.put oi.dst v) w → Q (.panic c) a w) :
    ∀ (n : Nat) (L : Array Bool) (a : Act) (w : World), (∀ j oj, ops[j]? = some oj → j ≠ i → L.getD j true = false → (∀ e ∈ oj.after, Region.binds md e = true → e.on ≠ i) → oi.apart ops oj = true) → i ∈ Region.ready md ops L → (L.getD z true = true → ¬ waitsB md ops z i = true) → YieldsIf P ops U oi v a → InvT S T z L w →
      GoT P md ops Q S T z n (L.setIfInBounds i true) (a.put oi.dst v) w → GoT P md ops Q S T z (n + 1) L a w := by
  intro n
  induction n with
  | zero =>
    intro L a w _ hr hzl hy hS H
    refine ⟨fun h => (by rw [h] at hr; cases hr), fun j hj => ?_⟩
    by_cases hji : j = i
    · subst hji
      exact hy.wpOp hi (hU L w hr hzl hS) ⟨hS.set hiz, H⟩
    · have := ready_mono hj hji
      rw [H.1] at this
      cases this
  | succ n ih =>
    intro L a w hfree hr hzl hy hS H
    refine ⟨fun h => (by rw [h] at hr; cases hr), fun j hj => ?_⟩
    by_cases hji : j = i
    · subst hji
      exact hy.wpOp hi (hU L w hr hzl hS) ⟨hS.set hiz, H⟩
    · obtain ⟨hjun, oj, hoj, hall⟩ := mem_ready.1 hj
      have hnot : ∀ e ∈ oj.after, Region.binds md e = true → e.on ≠ i := fun e he hb heq => by
        have h1 := hall e he hb
        rw [heq] at h1
        exact not_listed (mem_ready.1 hr).1 h1
      have h2 := wpOp_putIf hoj (hfree j oj hoj hji hjun hnot) (fun cs b => hsel i oi cs b hi) (fun cs b => hsel j oj cs b hoj) hQ hy (H.2 j (ready_mono hj hji))
      refine wpOp_mono (fun a' w' h3 => ?_) h2
      have hcm : (L.setIfInBounds i true).setIfInBounds j true = (L.setIfInBounds j true).setIfInBounds i true := Array.setIfInBounds_comm _ _ (Ne.symm hji)
      have hS' : InvT S T z (L.setIfInBounds j true) w' := by
        have := h3.2.1
        rw [hcm] at this
        exact this.unset hiz
      refine ⟨hS', ih (L.setIfInBounds j true) a' w' (fun k ok hk hki hun hno => ?_) (ready_mono hr (Ne.symm hji)) (fun h => ?_) h3.1 hS' ?_⟩
      · refine hfree k ok hk hki ?_ hno
        by_cases hjk : j = k
        · subst hjk
          exact hjun
        · rw [getD_set_ne true hjk] at hun
          exact hun
      · by_cases hjz : j = z
        · subst hjz
          exact fun hw => waits_not hw hr hj
        · rw [getD_set_ne true hjz] at h
          exact hzl h
      · rw [← hcm]
        exact h3.2.2
/-- Operation i is taken first: what it yields hangs on S alone. -/
theorem GoT.take {i : Nat} {oi : Oper} {v : Value} {n : Nat} {L : Array Bool} {a : Act} {w : World} (hi : ops[i]? = some oi) (hiz : (i == z) = false) (hzl : (!(L.getD z true) || !(waitsB md ops z i)) = true) (hs : Region.noSelect ops = true) (hf : Region.free md ops L i = true) (hr : (Region.ready md ops L).contains i = true)
    (hQ : ∀ c a w, Q (.panic c) (a.put oi.dst v) w → Q (.panic c) a w) (hy : YieldsIf P ops S oi v a) (hS : InvT S T z L w) (h : GoT P md ops Q S T z n (L.setIfInBounds i true) (a.put oi.dst v) w) : GoT P md ops Q S T z (n + 1) L a w :=
  GoT.first (U := S) hi (by simpa using hiz) (fun _ _ _ _ h => h.1) (Region.noSelect_spec hs) hQ n L a w (Region.free_spec hi hf) (by simpa using hr) (fun h hw => by rw [h, hw] at hzl; cases hzl) hy hS h
/-- Operation i is taken first: it reads what operation z writes, which waits for it. -/
theorem GoT.takeT {i : Nat} {oi : Oper} {v : Value} {n : Nat} {L : Array Bool} {a : Act} {w : World} (hi : ops[i]? = some oi) (hiz : (i == z) = false) (hzl : (!(L.getD z true) && waitsB md ops z i) = true) (hs : Region.noSelect ops = true) (hf : Region.free md ops L i = true) (hr : (Region.ready md ops L).contains i = true)
    (hQ : ∀ c a w, Q (.panic c) (a.put oi.dst v) w → Q (.panic c) a w) (hy : YieldsIf P ops (fun w => S w ∧ T w) oi v a) (hS : InvT S T z L w) (h : GoT P md ops Q S T z n (L.setIfInBounds i true) (a.put oi.dst v) w) : GoT P md ops Q S T z (n + 1) L a w := by
  simp only [Bool.and_eq_true, Bool.not_eq_true'] at hzl
  exact GoT.first (U := fun w => S w ∧ T w) hi (by simpa using hiz) (fun L' w' _ h1 h => ⟨h.1, h.2.resolve_left (fun e => h1 e hzl.2)⟩) (Region.noSelect_spec hs) hQ n L a w (Region.free_spec hi hf) (by simpa using hr) (fun h => by rw [h] at hzl; cases hzl.1) hy hS h
/-- Each of rs comes up next. -/
def AllT (P : Program) (md : Region.Mode) (ops : Array Oper) (Q : Exit → Act → World → Prop) (S T : World → Prop) (z n : Nat) (L : Array Bool) (a : Act) (w : World) (rs : List Nat) : Prop :=
  ∀ i ∈ rs, wpOp P ops Q i (fun a' w' => InvT S T z (L.setIfInBounds i true) w' ∧ GoT P md ops Q S T z n (L.setIfInBounds i true) a' w') a w
theorem AllT.nil {n : Nat} {L : Array Bool} {a : Act} {w : World} : AllT P md ops Q S T z n L a w [] := fun _ h => by cases h
theorem AllT.cons {n : Nat} {L : Array Bool} {a : Act} {w : World} {i : Nat} {o : Oper} {rs : List Nat} (ho : ops[i]? = some o)
    (h : ∀ K' : Act → World → Prop, Shut (∀ a w, InvT S T z (L.setIfInBounds i true) w → (InvT S T z (L.setIfInBounds i true) w → GoT P md ops Q S T z n (L.setIfInBounds i true) a w) → K' a w) → if Region.wanted o (yielded ops a.tmps) = true then Oper.wp P o a w K' Q else K' (a.put o.dst undef) w)
    (hs : AllT P md ops Q S T z n L a w rs) : AllT P md ops Q S T z n L a w (i :: rs) := fun j hj => by
  rcases List.mem_cons.1 hj with rfl | hj
  · exact wpOp_step ho (fun K' hK => h K' (fun a w hS hW => hK a w ⟨hS, hW hS⟩))
  · exact hs j hj
theorem GoT.next {rs : List Nat} {n : Nat} {L : Array Bool} {a : Act} {w : World} (hr : Region.ready md ops L = rs) (hne : rs ≠ []) (h : AllT P md ops Q S T z n L a w rs) : GoT P md ops Q S T z (n + 1) L a w :=
  ⟨fun h0 => absurd (hr ▸ h0) hne, hr ▸ h⟩
theorem GoT.done {L : Array Bool} {a : Act} {w : World} (hr : Region.ready md ops L = []) (h : Q .normal a w) : ∀ n, GoT P md ops Q S T z n L a w
  | 0 => ⟨hr, h⟩
  | _ + 1 => ⟨fun _ => h, by rw [hr]; simp⟩
theorem GoT.region {id : Nat} {a : Act} {w : World} (hm : P.follows .mixedOrders = true) (hS : S w.drew) (hT : T w.drew) (h : InvT S T z (Array.replicate ops.size false) w.drew → GoT P .any ops Q S T z ops.size (Array.replicate ops.size false) a w.drew) : (Code.region id ops true).wp P Q a w :=
  wp_region_any hm (GoT.plain _ _ _ _ (h ⟨hS, .inr hT⟩))
end
end Go.Proofs.YtebmmdafmgphdaaDoor
