/-
  From a walk of a law to its statement: the arguments opened, and what the form asks of the world behind the call, for any law that answers true and leaves its arguments alone. No condition.
-/
import Derived.Test.YtanjggfcahjkfaaRows
import Derived.Test.YtanjggfcahjkfaaBase
import Derived.Test.YtanjggfcahjkfaaWords
import Derived.ProofKit
import Derived.OpenShut
import Derived.ChangeMaps5
import Derived.Deep.DeepHandedRow
import Derived.Lib.LaidTab
namespace Go.Proofs.Ytanjggfcahjkfaa
open Go.ChangeShapes Go.WideShapes Go.ChangeAt Go.RowKit

section
variable {H : Type} {enc : TypeId × Value → H} {P : Program}
theorem trodAll_below {W W' : World} (hl : laidOutB P = true) (hb : Below W.heap.size W W') : ∀ {ts : List TypeId} {vs : List Value} {ds : List (DataW H)} {ps : List MemPlace}, (∀ t ∈ ts, P.readableRec t = true ∧ t < P.types.size) →
    DataW.TrodAll enc P W 0 (fun _ => true) true ts vs ds ps → (∀ x ∈ ps, x.block < W.heap.size) → DataW.TrodAll enc P W' 0 (fun b => decide (b < W.heap.size)) true ts vs ds ps
  | [], vs, ds, ps, _, h, _ => by
    obtain ⟨rfl, rfl, rfl⟩ := trodAll_nil h
    exact trodAll_mk0
  | t :: ts, vs, ds, ps, ht, h, hp => by
    obtain ⟨v, vs', d, ds', p, q, rfl, rfl, rfl, h0, r0⟩ := trodAll_cons h
    have ht0 := ht t (by simp)
    exact trodAll_cons_mk (Below.trod hl ht0.1 ht0.2 h0 hb (fun x hx => hp x (by simp [hx]))) (trodAll_below hl hb (fun t' h' => ht t' (by simp [h'])) r0 (fun x hx => hp x (by simp [hx])))

/-- A law's last step: it has answered true, and below the heap's old size nothing has changed. -/
theorem law_post {f : Func} {s : ChangeSpec} {W W' : World} {args : Array Value} {ds gs : List (DataW H)} {before : List MemPlace} {T : TypeId} (hl : laidOutB P = true) (hts : ∀ t ∈ f.params.toList, P.readableRec t = true ∧ t < P.types.size)
    (hrt : f.resultTypes = #[T]) (hT : P.underlying T = some .bool) (hv : s.vars = []) (hfn : ∀ gs, gs = [] → s.fn H (ds ++ gs) = { results := [.lit (.bool true)], args := ds })
    (hW : DataW.Whole enc P f.params.toList s.vars false W args.toList ds gs before) (hb : Below W.heap.size W W') : s.post enc P f false true false false W args (.bool true) W' := by
  have hlt : ∀ x ∈ before, x.block < W.heap.size := fun x hx => by simpa using hW.lt x hx
  obtain ⟨p, q, hA, hV, hbe, hz, hn⟩ := id hW
  obtain ⟨rfl, rfl⟩ : gs = [] ∧ q = [] := by rw [hv] at hV; exact trodVars_none hV
  have e := hfn [] rfl
  have hbef : before = p := by simpa using hbe
  refine ⟨ds, [], before, [], p, [], hW, ?_, ?_, ?_, hb.frame _, fun h => by cases h⟩
  · rw [e, hrt]
    exact trodAll_cons_mk (shut_bool hT true) trodAll_mk0
  · rw [e]
    exact trodAll_below hl hb hts hA (by rw [← hbef]; exact hlt)
  · rw [hv]
    rw [e]
    exact rfl

/-- A slice of bytes opened: what it reads as. -/
theorem open_bytes {W : World} {base : Nat} {T E : TypeId} {v : Value} {d : DataW H} {p : List MemPlace} (hT : P.underlying T = some (.slice E)) (hE : P.underlying E = some (.int .u8)) (hc : P.cellsOf E = 1) (hv : Value.okWide P W .any base T v)
    (h : DataW.Trod enc P W 0 (fun _ => true) true T v d p) : ∃ (A : Option Addr) (l : List Nat) (k c : Nat), v = .slice A k c ∧ l.length = k ∧ Rd W A (l.map bv) ∧ (∀ x ∈ l, x < 256) ∧ k ≤ c ∧ c ≤ maxLen ∧ (A = none → l = []) := by
  obtain ⟨a0, len, cap, rfl⟩ := okWide_slice hT hv
  obtain ⟨fuel, hf⟩ := h
  rcases open_ints hT hE hc hf with ⟨hcs, _⟩ | ⟨a, len', cap', zs, hcs, _, hl, hm, hz, _, hcell, hwz⟩
  · simp [Value.cells] at hcs
    obtain ⟨rfl, rfl, rfl⟩ := hcs
    exact ⟨none, [], 0, 0, rfl, rfl, Rd.nil, by simp, Nat.le_refl _, by simp, fun _ => rfl⟩
  · simp [Value.cells] at hcs
    obtain ⟨rfl, rfl, rfl⟩ := hcs
    simp only [if_true] at hz
    have hb : ∀ n ∈ zs, 0 ≤ n ∧ n < 256 := fun n hn => by
      have := bounds_u8 (hwz n hn)
      omega
    refine ⟨some a, (zs.take len).map Int.toNat, len, cap, rfl, by simp; omega, ?_, ?_, hl, hm, fun h => by cases h⟩
    · refine Rd.of_cells fun j u hu => ?_
      simp only [List.map_map, List.getElem?_map, Option.map_eq_some_iff] at hu
      obtain ⟨z, hz1, rfl⟩ := hu
      have hj : j < len := by
        rcases Nat.lt_or_ge j len with hlt | hge
        · exact hlt
        · rw [List.getElem?_eq_none (by simp; omega)] at hz1; cases hz1
      rw [List.getElem?_take_of_lt hj] at hz1
      rw [hcell j (by omega)]
      have hmem : z ∈ zs := List.mem_of_getElem? hz1
      have hzb := hb z hmem
      simp only [Function.comp, bv, List.getD_eq_getElem?_getD, hz1, Option.getD_some]
      congr 2
      omega
    · intro x hx
      obtain ⟨z, hz1, rfl⟩ := List.mem_map.1 hx
      have := hb z (List.mem_of_mem_take hz1)
      omega
/-- A slice of numbers of 64 bits opened: what it reads as. -/
theorem open_u64s {W : World} {base : Nat} {T E : TypeId} {v : Value} {d : DataW H} {p : List MemPlace} (hT : P.underlying T = some (.slice E)) (hE : P.underlying E = some (.int .u64)) (hc : P.cellsOf E = 1) (hv : Value.okWide P W .any base T v)
    (h : DataW.Trod enc P W 0 (fun _ => true) true T v d p) : ∃ (A : Option Addr) (l : List Nat) (k c : Nat), v = .slice A k c ∧ l.length = k ∧ Rd W A (l.map uv) ∧ (∀ x ∈ l, x < 18446744073709551616) ∧ k ≤ c ∧ c ≤ maxLen ∧ (A = none → l = []) := by
  obtain ⟨a0, len, cap, rfl⟩ := okWide_slice hT hv
  obtain ⟨fuel, hf⟩ := h
  rcases open_ints hT hE hc hf with ⟨hcs, _⟩ | ⟨a, len', cap', zs, hcs, _, hl, hm, hz, _, hcell, hwz⟩
  · simp [Value.cells] at hcs
    obtain ⟨rfl, rfl, rfl⟩ := hcs
    exact ⟨none, [], 0, 0, rfl, rfl, Rd.nil, by simp, Nat.le_refl _, by simp, fun _ => rfl⟩
  · simp [Value.cells] at hcs
    obtain ⟨rfl, rfl, rfl⟩ := hcs
    simp only [if_true] at hz
    have hb : ∀ n ∈ zs, 0 ≤ n ∧ n < 18446744073709551616 := fun n hn => by
      have := bounds_u64 (hwz n hn)
      omega
    refine ⟨some a, (zs.take len).map Int.toNat, len, cap, rfl, by simp; omega, ?_, ?_, hl, hm, fun h => by cases h⟩
    · refine Rd.of_cells fun j u hu => ?_
      simp only [List.map_map, List.getElem?_map, Option.map_eq_some_iff] at hu
      obtain ⟨z, hz1, rfl⟩ := hu
      have hj : j < len := by
        rcases Nat.lt_or_ge j len with hlt | hge
        · exact hlt
        · rw [List.getElem?_eq_none (by simp; omega)] at hz1; cases hz1
      rw [List.getElem?_take_of_lt hj] at hz1
      rw [hcell j (by omega)]
      have hmem : z ∈ zs := List.mem_of_getElem? hz1
      have hzb := hb z hmem
      simp only [Function.comp, uv, List.getD_eq_getElem?_getD, hz1, Option.getD_some]
      congr 2
      omega
    · intro x hx
      obtain ⟨z, hz1, rfl⟩ := List.mem_map.1 hx
      have := hb z (List.mem_of_mem_take hz1)
      omega
/-- A string opened. -/
theorem open_text {W : World} {base : Nat} {T : TypeId} {v : Value} {d : DataW H} {p : List MemPlace} (hT : P.underlying T = some .string) (hv : Value.okWide P W .any base T v)
    (h : DataW.Trod enc P W 0 (fun _ => true) true T v d p) : ∃ s : ByteArray, v = .string s ∧ s.size ≤ maxLen := by
  obtain ⟨s, rfl, _, _, hs⟩ := Go.ChangeMaps.open_string hT hv h
  exact ⟨s, rfl, hs⟩
end
end Go.Proofs.Ytanjggfcahjkfaa
