/-
  The walk of machine.Check. Condition: the table reads as the program's text lays it; the operands can be read.
-/
import Derived.Test.YtebmmdafmgphdaaDoorMacT
import Derived.Lib.OthersKept
import Derived.Laws.RangeAny
namespace Go.Proofs.YtebmmdafmgphdaaDoor
open Go.RowKit

theorem lets_small (n : Nat) : ∀ x ∈ lets n, x < 128 := by
  intro x hx
  obtain ⟨f, _, rfl⟩ := List.mem_map.1 hx
  cases f <;> decide
theorem strL_size (l : List Nat) : (strL l).size = l.length := by simp [strL, ByteArray.size]
theorem strL_at (l : List Nat) (k : Nat) (h : k < (strL l).size) (hk : k < l.length) (hl : ∀ x ∈ l, x < 128) : ((strL l)[k]'h).toNat = l[k] := by
  have : ((strL l)[k]'h) = UInt8.ofNat l[k] := by
    show (strL l).data[k] = _
    simp [strL]
  rw [this]
  have := hl l[k] (List.getElem_mem hk)
  simp
  omega
theorem it_next {P : Program} (w : World) (b k c : Nat) (l : List Nat) (h : w.heap[b]? = some (.stringIter (strL l) k)) (hc : l[k]? = some c) (hl : ∀ x ∈ l, x < 128) (ty : TypeId) :
    (Instr.next (.pointer (some ⟨b, 0, none⟩)) true ty).run P w = .ok (.tuple #[.bool true, .int .i64 (k : Int), .int .i32 (c : Int)]) (w.iterAt b (strL l) (k + 1)) := by
  obtain ⟨hk, rfl⟩ := List.getElem?_eq_some_iff.1 hc
  have hs : k < (strL l).size := by rw [strL_size]; exact hk
  have e := strL_at l k hs hk hl
  rw [Lib.run_next_ascii_at w b (strL l) k ty h hs (by rw [e]; exact hl _ (List.getElem_mem hk)), e]
theorem it_end {P : Program} (w : World) (b k : Nat) (l : List Nat) (h : w.heap[b]? = some (.stringIter (strL l) k)) (hk : ¬ k < l.length) (ty : TypeId) :
    (Instr.next (.pointer (some ⟨b, 0, none⟩)) true ty).run P w = .ok (.tuple #[.bool false]) w :=
  Lib.run_next_end_at w b (strL l) k ty h (by rw [strL_size]; exact hk)
theorem it_pos {w : World} {b k : Nat} {l : List Nat} (h : w.heap[b]? = some (.stringIter (strL l) k)) : w.iterPos b = k := by simp [World.iterPos, h]
/-- A block of an instruction and an iterator behind a world. -/
structure BI (w0 : World) (p it : Nat) (row : Array Value) (l : List Nat) (k : Nat) (w : World) : Prop where
  row : w.heap[p]? = some (.cells row 26 (0, 0))
  iter : w.heap[it]? = some (.stringIter (strL l) k)
  ne : p ≠ it
  bel : Below w0.heap.size w0 w
  lo : w0.heap.size ≤ p ∧ w0.heap.size ≤ it
section
variable {w0 w w' : World} {p it k : Nat} {row : Array Value} {l : List Nat}
theorem BI.low (h : BI w0 p it row l k w) (hb : Below w.heap.size w w') : BI w0 p it row l k w' :=
  ⟨(hb.block _ (Array.getElem?_eq_some_iff.1 h.row).1).trans h.row, (hb.block _ (Array.getElem?_eq_some_iff.1 h.iter).1).trans h.iter, h.ne, below_next h.bel hb, h.lo⟩
theorem BI.next (h : BI w0 p it row l k w) : BI w0 p it row l (k + 1) (w.iterAt it (strL l) (k + 1)) :=
  ⟨(Lib.iterAt_other w it p _ _ h.ne).trans h.row, Lib.iterAt_heap w it _ _ _ h.iter, h.ne, Lib.below_iterAt h.bel h.lo.2 _ _, h.lo⟩
theorem BI.first {w1 : World} (h : w1.heap[p]? = some (.cells row 26 (0, 0))) (hb : Below w0.heap.size w0 w1) (hp : w0.heap.size ≤ p) : BI w0 p w1.heap.size row l 0 (w1.iter (strL l) 0) := by
  have hlt := (Array.getElem?_eq_some_iff.1 h).1
  have hb1 : Below w1.heap.size w1 (w1.iter (strL l) 0) := (Below.refl _ _).alloc (Nat.le_refl _) _
  exact ⟨(hb1.block _ hlt).trans h, World.iter_heap w1 _ 0, by omega, below_next hb hb1, hp, hb.size⟩
end
def nsV : Value := .func (.func 28) #[] #[]
theorem idxF_any (A : Option Addr) (l : List Int) (n c : Nat) (w : World) (hn : l.length = n) (hc : n ≤ c) (h1 : n ≤ 1000) (hr : Rd w A (l.map iz)) :
    Calls Tryd.prog 31 #[.slice A n c, .func (.func 28) #[] #[]] w fun e w' => ∃ i : Int, e = .returned (.int .i64 i) ∧ w = w' ∧ -1 ≤ i ∧ i ≤ 1000 ∧ (decide (0 ≤ i) = !(l.all slotC)) := by
  have Hr := Lib.hid hr; clear hr
  have Hn := Lib.hid hn; clear hn
  go_enter Tryd.func31, Tryd.ntmps31
  go_wp2_with fail
  go_loop [8] (fun i => ∃ k : Nat, k ≤ n ∧ i = .int .i64 (k : Int) ∧ Hid (∀ x ∈ l.take k, slotC x = true)) (fun i => n - (intOf i).toNat)
  case atStart => exact ⟨0, Nat.zero_le _, rfl, Lib.hid (fun x hx => by simp at hx)⟩
  case round =>
    obtain ⟨k, hk, rfl, H⟩ := hrel
    by_cases hlt : k < n
    · have hkl : k < l.length := by rw [Hn.out]; exact hlt
      obtain ⟨ad, rfl, hc0⟩ := Hr.out.at_ (k := k) (by simpa using hkl)
      simp only [List.getElem_map] at hc0
      have hx : Hid (l[k] ∈ l) := Lib.hid (List.getElem_mem hkl)
      have H2 : Hid (slotC l[k] = true → ∀ x ∈ l.take (k + 1), slotC x = true) := Lib.hid (fun h x hx => by
        rw [take_step hkl, List.mem_append, List.mem_singleton] at hx
        rcases hx with hx | rfl
        · exact H.out x hx
        · exact h)
      generalize l[k] = x at *
      unfold iz at hc0
      have HS := Lib.hid (noSlot_any x)
      clear H hkl
      go_wp2_with fail
      refine (HS.out _).mono ?_
      rintro e w' ⟨rfl, rfl⟩
      cases hs : slotC x with
      | true =>
        have H3 := Lib.hid (H2.out hs)
        have Hs := Lib.hid hs; clear hs
        go_wp2_with fail
        exact ⟨⟨k + 1, by omega, by go_num, H3⟩, by simp [intOf]; omega⟩
      | false =>
        have Hs := Lib.hid hs; clear hs
        go_wp2_with fail
        go_ret
        refine ⟨_, rfl, rfl, by omega, by omega, ?_⟩
        have : l.all slotC = false := by
          rw [Bool.eq_false_iff]
          intro h
          rw [List.all_eq_true] at h
          rw [h x hx.out] at Hs
          cases Hs.out
        rw [this]
        simp
    · obtain rfl : k = n := by omega
      go_wp2_with fail
      go_ret
      refine ⟨-1, rfl, rfl, by omega, by omega, ?_⟩
      have : l.all slotC = true := by
        rw [List.all_eq_true]
        intro x hx
        refine H.out x ?_
        rw [List.take_of_length_le (by rw [Hn.out]; exact Nat.le_refl _)]
        exact hx
      rw [this]
      rfl
theorem contF_any (b : Bool) (A : Option Addr) (l : List Int) (n c : Nat) (w : World) (hn : l.length = n) (hc : n ≤ c) (h1 : n ≤ 1000) (hr : Rd w A (l.map iz)) (hb : l.all slotC = b) :
    Calls Tryd.prog 29 #[.slice A n c, .func (.func 28) #[] #[]] w fun e w' => e = .returned (.bool (!b)) ∧ w = w' := by
  have HI := Lib.hid (idxF_any A l n c w hn hc h1 hr)
  go_enter Tryd.func29, Tryd.ntmps29
  clear hr hn
  go_wp2_with fail
  refine HI.out.mono ?_
  rintro e w' ⟨i, rfl, rfl, h1, h2, h3⟩
  rw [hb] at h3
  have H3 := Lib.hid h3; clear h3 hb
  by_cases h0 : 0 ≤ i
  · go_wp2_with fail
    go_ret
    exact ⟨by rw [← H3.out]; simp [h0], rfl⟩
  · go_wp2_with fail
    go_ret
    exact ⟨by rw [← H3.out]; simp, rfl⟩
theorem op_in {x : Int} (h : (decide (1 ≤ x) && decide (x ≤ 18)) = true) : ∃ n : Nat, x = n ∧ 1 ≤ n ∧ n < 19 := by
  simp only [Bool.and_eq_true, decide_eq_true_eq] at h
  exact ⟨x.toNat, by omega, by omega, by omega⟩
theorem row_none {x : Int} (h : (decide (1 ≤ x) && decide (x ≤ 18)) = false) : rowC x = [] := by
  rcases Classical.em (rowC x = []) with h1 | h1
  · exact h1
  · obtain ⟨n, h2, h3, h4⟩ := row_in h1
    have : (decide (1 ≤ x) && decide (x ≤ 18)) = true := by simp only [Bool.and_eq_true, decide_eq_true_eq]; omega
    rw [this] at h
    cases h
theorem row_some : ∀ n : Fin 19, 1 ≤ n.val → rowC ((n.val : Nat) : Int) ≠ [] := by decide +kernel
/-- What the walk's test of the operation says. -/
def opOk (op ari : Int) (wide : Bool) : Bool := (decide (1 ≤ op) && decide (op ≤ 18)) && !(wide && !isJ op) && (if op == 3 then decide (1 ≤ ari) && decide (ari ≤ 2) else if op == 4 then decide (3 ≤ ari) && decide (ari ≤ 11) else true)
theorem opOk_is (op ari dst a b val : Int) (wide : Bool) (l : List Int) : (opOk op ari wide = true) ↔ ¬ (rowC op = [] ∨ ariC ⟨op, ari, dst, a, b, val, wide, l⟩ = false ∨ (wide = true ∧ isJ op = false)) := by
  have e1 : (rowC op = []) ↔ ((decide (1 ≤ op) && decide (op ≤ 18)) = false) := by
    constructor
    · intro h
      rw [Bool.eq_false_iff]
      intro h1
      obtain ⟨n, rfl, h2, h3⟩ := op_in h1
      exact row_some ⟨n, h3⟩ h2 h
    · exact row_none
  rw [e1]
  have e2 : ariC ⟨op, ari, dst, a, b, val, wide, l⟩ = (if op == 3 then decide (1 ≤ ari) && decide (ari ≤ 2) else if op == 4 then decide (3 ≤ ari) && decide (ari ≤ 11) else true) := by
    unfold ariC
    dsimp only
    split
    · rw [Bool.eq_iff_iff]
      simp
      omega
    · rfl
  rw [e2]
  clear e1 e2
  unfold opOk
  generalize (decide (1 ≤ op) && decide (op ≤ 18)) = x
  generalize (if op == 3 then decide (1 ≤ ari) && decide (ari ≤ 2) else if op == 4 then decide (3 ≤ ari) && decide (ari ≤ 11) else true) = y
  generalize isJ op = z
  revert x y z wide
  decide
theorem isJ_op {x : Int} (h : isJ x = true) : (decide (1 ≤ x) && decide (x ≤ 18)) = true := by
  unfold isJ at h
  simp only [Bool.or_eq_true, beq_iff_eq] at h
  simp only [Bool.and_eq_true, decide_eq_true_eq]
  omega
theorem opB_is (x : Int) (wide : Bool) : opB x wide = ((decide (1 ≤ x) && decide (x ≤ 18)) && !(wide && !isJ x)) := by
  unfold opB
  cases wide with
  | false => simp
  | true =>
    cases h : isJ x with
    | false => simp
    | true => rw [isJ_op h]; rfl
theorem opOk_x (op ari : Int) (wide : Bool) : opOk op ari wide = (opB op wide && (if op == 3 then decide (1 ≤ ari) && decide (ari ≤ 2) else if op == 4 then decide (3 ≤ ari) && decide (ari ≤ 11) else true)) := by
  rw [opB_is]
  rfl
theorem opOk_wide {op ari : Int} {wide : Bool} (h : opOk op ari wide = true) : wide = true → isJ op = true := by
  rintro rfl
  unfold opOk at h
  simp only [Bool.and_eq_true] at h
  simpa using h.1.2
theorem rop_any (op ari dst a b val : Int) (wide : Bool) (v : Value) (w : World) :
    Calls Tryd.prog 22 #[.agg (kRow op ari dst a b val wide v)] w fun e w' => e = .returned (.bool (opOk op ari wide)) ∧ Below w.heap.size w w' := by
  go_enter Tryd.func22, Tryd.ntmps22
  unfold kRow
  go_upto_region 1 with fail
  obtain ⟨w1, hw1⟩ : ∃ w1, w.alloc (.cells (kRow op ari dst a b val wide v) 26) = w1 := ⟨_, rfl⟩
  have hrow : w1.heap[w.heap.size]? = some (.cells (kRow op ari dst a b val wide v) 26 (0, 0)) := by rw [← hw1]; exact heap_alloc_new w _
  have hb : Below w.heap.size w w1 := by rw [← hw1]; exact (Below.refl _ _).alloc (Nat.le_refl _) _
  unfold kRow at hw1
  rw [hw1]
  obtain ⟨q0, q1, q2, q3, q4, q5, q6, q7⟩ := kRow_cells hrow
  have Hb := Lib.hid hb
  obtain ⟨x, hx⟩ : ∃ x, opB op wide = x := ⟨_, rfl⟩
  have HO : Hid (∀ w, Calls Tryd.prog 20 #[.int .i64 op, .bool wide] w fun e w' => e = .returned (.bool x) ∧ w = w') := Lib.hid (fun w => by rw [← hx]; exact isOp_any op wide w)
  have HW := Lib.hid (within_any ari)
  have HE : Hid (opOk op ari wide = (x && (if op == 3 then decide (1 ≤ ari) && decide (ari ≤ 2) else if op == 4 then decide (3 ≤ ari) && decide (ari ≤ 11) else true))) := Lib.hid (by rw [opOk_x, hx])
  clear hrow hb hw1 hx
  go_wp2_with fail
  refine (HO.out _).mono ?_
  rintro e w' ⟨rfl, rfl⟩
  cases x with
    | false =>
      have HF : Hid (opOk op ari wide = false) := Lib.hid (by rw [HE.out, Bool.false_and])
      clear HE
      go_wp2_with fail
      go_ret
      exact ⟨by rw [HF.out]; rfl, Hb.out⟩
    | true =>
      rw [Bool.true_and] at HE
      by_cases h3 : op = 3
      · subst h3
        have HE3 : Hid (opOk 3 ari wide = (decide (1 ≤ ari) && decide (ari ≤ 2))) := Lib.hid (by rw [HE.out]; rfl)
        clear HE
        go_wp2_with fail
        refine (HW.out _ _ _).mono ?_
        rintro e w' ⟨rfl, rfl⟩
        rw [← HE3.out]
        go_wp2_with fail
        go_ret
        exact ⟨rfl, Hb.out⟩
      · by_cases h4 : op = 4
        · subst h4
          have HE3 : Hid (opOk 4 ari wide = (decide (3 ≤ ari) && decide (ari ≤ 11))) := Lib.hid (by rw [HE.out]; rfl)
          clear HE
          go_wp2_with fail
          refine (HW.out _ _ _).mono ?_
          rintro e w' ⟨rfl, rfl⟩
          rw [← HE3.out]
          go_wp2_with fail
          go_ret
          exact ⟨rfl, Hb.out⟩
        · have e3 : (op == 3) = false := by simpa using h3
          have e4 : (op == 4) = false := by simpa using h4
          have HE3 : Hid (opOk op ari wide = true) := Lib.hid (by rw [HE.out, e3, e4]; rfl)
          have H3 := Lib.hid h3; clear h3
          have H4 := Lib.hid h4; clear h4 HE
          go_wp2_with fail
          go_ret
          exact ⟨by rw [HE3.out]; rfl, Hb.out⟩
end Go.Proofs.YtebmmdafmgphdaaDoor
