/-
  The walk of machine.Check. Condition: the table reads as the program's text lays it; the operands can be read; the Value fits 64 bits.
-/
import Derived.Test.YtebmmdafmgphdaaDoorMacK2
namespace Go.Proofs.YtebmmdafmgphdaaDoor
open Go.RowKit

/-- What the walk's test of the Value says. -/
def vNs (n : Nat) (wide : Bool) (val : Int) : Bool := if ∃ f ∈ rowC (n : Int), fdN f = 118 then decide (lowN n wide ≤ val) && decide (val ≤ topN n wide) else true
theorem vNs_is (n : Nat) (ari dst a b val : Int) (wide : Bool) (l : List Int) (hn : n < 19) (h1 : 1 ≤ n) (hv : i64C val) : vNs n wide val = valC ⟨n, ari, dst, a, b, val, wide, l⟩ := by
  unfold i64C at hv
  unfold vNs
  rcases in_18 hn h1 with rfl | rfl | rfl | rfl | rfl | rfl | rfl | rfl | rfl | rfl | rfl | rfl | rfl | rfl | rfl | rfl | rfl | rfl <;> cases wide <;> simp [rowC, rowsC, fdN, valC, isJ, hiC, lowN, topN, grtN, sizeN, wdN] <;> omega
set_option maxRecDepth 10000 in
theorem rvalue_any (n : Nat) (ari dst a b val : Int) (wide : Bool) (v : Value) (w : World) (hT : RowsT w) (hn : n < 19) (hj : wide = true → isJ (n : Int) = true) :
    Calls Tryd.prog 24 #[.agg (kRow (n : Int) ari dst a b val wide v)] w fun e w' => e = .returned (.bool (vNs n wide val)) ∧ Below w.heap.size w w' := by
  have HT := Lib.hid hT; clear hT
  have Hj := Lib.hid hj; clear hj
  go_enter Tryd.func24, Tryd.ntmps24
  unfold kRow
  go_upto_region 1 with fail
  obtain ⟨w1, hw1⟩ : ∃ w1, w.alloc (.cells (kRow n ari dst a b val wide v) 26) = w1 := ⟨_, rfl⟩
  have hrow : w1.heap[w.heap.size]? = some (.cells (kRow n ari dst a b val wide v) 26 (0, 0)) := by rw [← hw1]; exact heap_alloc_new w _
  have hb : Below w.heap.size w w1 := by rw [← hw1]; exact (Below.refl _ _).alloc (Nat.le_refl _) _
  unfold kRow at hw1
  rw [hw1]
  obtain ⟨p, hp⟩ : ∃ p, w.heap.size = p := ⟨_, rfl⟩
  have hwp : w.heap.size ≤ p := by omega
  have HT1 := (HT.out.below hb).s n hn
  obtain ⟨q0, q1, q2, q3, q4, q5, q6, q7⟩ := kRow_cells hrow
  have HB0 : Hid (BI w p w1.heap.size (kRow n ari dst a b val wide v) (lets n) 0 (w1.iter (strL (lets n)) 0)) := Lib.hid (BI.first (by rw [← hp]; exact hrow) hb hwp)
  have hll := lets_len n
  have hlsm := lets_small n
  have hlat : ∀ k f, (rowC (n : Int))[k]? = some f → (lets n)[k]? = some (fdN f) := fun k f h => lets_at hn h
  obtain ⟨it, hit⟩ : ∃ it, w1.heap.size = it := ⟨_, rfl⟩
  obtain ⟨l, hl⟩ : ∃ l, lets n = l := ⟨_, rfl⟩
  rw [hl] at HT1 HB0 hll hlsm hlat
  rw [hp] at q0 ⊢
  have Hll := Lib.hid hll
  have Hlsm := Lib.hid hlsm
  have Hlat := Lib.hid hlat
  clear hll hlsm hlat hl hrow hb hw1 q1 q2 q3 q4 q5 q6 q7 hp
  go_wp2_with fail
  rw [hit] at HB0
  generalize w1.iter (strL l) 0 = w2 at HB0
  clear hit q0 HT1
  go_loopw [4] (fun _ wr => ∃ k, k ≤ l.length ∧ BI w p it (kRow n ari dst a b val wide v) l k wr ∧ Hid (∀ f ∈ (rowC (n : Int)).take k, fdN f ≠ 118)) (fun _ wr => l.length - wr.iterPos it)
  case atStart => exact ⟨0, Nat.zero_le _, HB0.out, Lib.hid (fun f hf => by simp at hf)⟩
  case round =>
    obtain ⟨k, hk, HBr, H⟩ := hrel
    have Hpos := Lib.hid (it_pos HBr.iter)
    have HBr := Lib.hid HBr
    clear HB0
    by_cases hkl : k < l.length
    · obtain ⟨f, hf⟩ : ∃ f, (rowC (n : Int))[k]? = some f := ⟨_, List.getElem?_eq_getElem (by rw [← Hll.out]; exact hkl)⟩
      have hnx : ∀ ty, (Instr.next (.pointer (some ⟨it, 0, none⟩)) true ty).run Tryd.prog wr = _ := fun ty => it_next wr it k (fdN f) l HBr.out.iter (Hlat.out k f hf) Hlsm.out ty
      have HB1 := Lib.hid HBr.out.next
      have HF : Hid (fdN f ≠ 118 → ∀ g ∈ (rowC (n : Int)).take (k + 1), fdN g ≠ 118) := Lib.hid (fun h g hg => by
        rw [List.take_add_one, hf, List.mem_append] at hg
        rcases hg with hg | hg
        · exact H.out g hg
        · simp only [Option.toList_some, List.mem_singleton] at hg
          rw [hg]
          exact h)
      have HG : Hid (fdN f = 118 → vNs n wide val = (decide (lowN n wide ≤ val) && decide (val ≤ topN n wide))) := Lib.hid (fun h => by
        unfold vNs
        rw [if_pos ⟨f, List.mem_of_getElem? hf, h⟩])
      obtain ⟨W1, hW1⟩ : ∃ W1, wr.iterAt it (strL l) (k + 1) = W1 := ⟨_, rfl⟩
      rw [hW1] at hnx HB1
      clear hW1 hf H HBr
      obtain ⟨q0, q1, q2, q3, q4, q5, q6, q7⟩ := kRow_cells HB1.out.row
      by_cases hc : fdN f = 118
      · have HE := Lib.hid (HG.out hc)
        rw [hc] at hnx
        have HV := Lib.hid (values_any n ari dst a b val wide v W1 (HT.out.below HB1.out.bel) hn Hj.out)
        have HW := Lib.hid (within_any val (lowN n wide) (topN n wide))
        unfold kRow at HV
        clear HF HG hc
        go_wp2_with fail
        refine HV.out.mono ?_
        rintro e w3 ⟨rfl, hb3⟩
        have HB3 := Lib.hid (HB1.out.low hb3)
        clear hb3 q0 q1 q2 q3 q4 q5 q6 q7 HB1
        obtain ⟨q0, q1, q2, q3, q4, q5, q6, q7⟩ := kRow_cells HB3.out.row
        go_wp2_with fail
        refine (HW.out _).mono ?_
        rintro e w' ⟨rfl, rfl⟩
        rw [← HE.out]
        go_wp2_with fail
        go_ret
        exact ⟨rfl, HB3.out.bel⟩
      · have HH := Lib.hid (HF.out hc)
        have hne : ((fdN f : Int) == 118) = false := by simp; omega
        have Hc := Lib.hid hc; clear hc
        go_wp2_with fail
        go_roundw
        case rel => exact ⟨k + 1, by omega, HB1.out, HH⟩
        case measure => rw [it_pos HB1.out.iter, Hpos.out]; omega
    · have hend : ∀ ty, (Instr.next (.pointer (some ⟨it, 0, none⟩)) true ty).run Tryd.prog wr = _ := fun ty => it_end wr it k l HBr.out.iter hkl ty
      have hall : vNs n wide val = true := by
        unfold vNs
        rw [if_neg]
        rintro ⟨f, hf, h⟩
        refine H.out f ?_ h
        rw [List.take_of_length_le (by rw [← Hll.out]; omega)]
        exact hf
      have HA := Lib.hid hall
      clear hall H
      go_wp2_with fail
      go_ret
      exact ⟨by rw [HA.out]; rfl, HBr.out.bel⟩
set_option maxRecDepth 10000 in
theorem mcheck_any (x : Cd) (A : Option Addr) (n c : Nat) (w : World) (hT : RowsT w) (hn : x.args.length = n) (hc : n ≤ c) (hr : Rd w A (x.args.map iz)) (h1 : n ≤ 1000) (hv : i64C x.val) :
    Calls Tryd.prog 14 #[cdv x (.slice A n c)] w (NumP (chkC x : Nat) w) := by
  obtain ⟨op, ari, dst, a, b, val, wide, args⟩ := x
  dsimp only at hn hr hv
  have HT := Lib.hid hT; clear hT
  have Hr := Lib.hid hr; clear hr
  have Hn := Lib.hid hn; clear hn
  have Hv := Lib.hid hv; clear hv
  dsimp only [cdv]
  go_enter Tryd.func14, Tryd.ntmps14
  go_upto_region 1 with fail
  obtain ⟨w1, hw1⟩ : ∃ w1, w.alloc (.cells (kRow op ari dst a b val wide (.slice A n c)) 26) = w1 := ⟨_, rfl⟩
  have hrow : w1.heap[w.heap.size]? = some (.cells (kRow op ari dst a b val wide (.slice A n c)) 26 (0, 0)) := by rw [← hw1]; exact heap_alloc_new w _
  have hb : Below w.heap.size w w1 := by rw [← hw1]; exact (Below.refl _ _).alloc (Nat.le_refl _) _
  unfold kRow at hw1
  rw [hw1]
  obtain ⟨q0, q1, q2, q3, q4, q5, q6, q7⟩ := kRow_cells hrow
  have Hrow := Lib.hid hrow
  have Hb := Lib.hid hb
  have HO := Lib.hid (rop_any op ari dst a b val wide (.slice A n c) w1)
  unfold kRow at HO
  have HI := Lib.hid (opOk_is op ari dst a b val wide args)
  obtain ⟨x, hx⟩ : ∃ x, opOk op ari wide = x := ⟨_, rfl⟩
  rw [hx] at HO HI
  clear hrow hb hw1
  go_wp2_with fail
  refine HO.out.mono ?_
  rintro e w2 ⟨rfl, hb2⟩
  have Hb2 := Lib.hid (below_next Hb.out hb2)
  have Hrow2 := Lib.hid ((hb2.block _ (Array.getElem?_eq_some_iff.1 Hrow.out).1).trans Hrow.out)
  clear hb2 q0 q1 q2 q3 q4 q5 q6 q7 HO Hrow Hb
  obtain ⟨q0, q1, q2, q3, q4, q5, q6, q7⟩ := kRow_cells Hrow2.out
  cases x with
  | false =>
    have HE : Hid (chkC ⟨op, ari, dst, a, b, val, wide, args⟩ = 17) := Lib.hid (by
      unfold chkC
      rw [if_pos]
      rcases Classical.em (rowC op = [] ∨ ariC ⟨op, ari, dst, a, b, val, wide, args⟩ = false ∨ (wide = true ∧ isJ op = false)) with h | h
      · exact h
      · have := HI.out.2 h
        cases this)
    clear hx
    go_wp2_with fail
    go_ret
    exact ⟨by rw [HE.out]; rfl, Hb2.out⟩
  | true =>
    have hop := HI.out.1 rfl
    have Hj := Lib.hid (opOk_wide hx)
    have hin : (decide (1 ≤ op) && decide (op ≤ 18)) = true := by
      unfold opOk at hx
      simp only [Bool.and_eq_true] at hx ⊢
      exact hx.1.1
    obtain ⟨k, rfl, hk1, hk⟩ := op_in hin
    have Hop := Lib.hid hop
    clear hop hin hx HI
    obtain ⟨y, hy⟩ : ∃ y, (rowC (k : Int)).all (slotF ⟨k, ari, dst, a, b, val, wide, args⟩) = y := ⟨_, rfl⟩
    obtain ⟨z, hz⟩ : ∃ z, vNs k wide val = z := ⟨_, rfl⟩
    have HS := Lib.hid (rslots_any k ari dst a b val wide args A n c w2 (HT.out.below Hb2.out) hk Hn.out hc (Hr.out.below Hb2.out) h1)
    unfold kRow at HS
    rw [hy] at HS
    have Hz := Lib.hid (vNs_is k ari dst a b val wide args hk hk1 Hv.out)
    have Hy := Lib.hid hy
    rw [hz] at Hz
    have HE : Hid (chkC ⟨k, ari, dst, a, b, val, wide, args⟩ = if y = false then 14 else if z = false then 1 else 0) := Lib.hid (by
      unfold chkC
      rw [if_neg Hop.out]
      dsimp only
      rw [hy, ← Hz.out])
    clear hy
    go_wp2_with fail
    refine HS.out.mono ?_
    rintro e w3 ⟨rfl, hb3⟩
    have Hb3 := Lib.hid (below_next Hb2.out hb3)
    have Hrow3 := Lib.hid ((hb3.block _ (Array.getElem?_eq_some_iff.1 Hrow2.out).1).trans Hrow2.out)
    clear hb3 q0 q1 q2 q3 q4 q5 q6 q7 HS Hrow2 Hb2
    obtain ⟨q0, q1, q2, q3, q4, q5, q6, q7⟩ := kRow_cells Hrow3.out
    cases y with
    | false =>
      clear hz
      go_wp2_with fail
      go_ret
      exact ⟨by rw [HE.out]; rfl, Hb3.out⟩
    | true =>
      have HV := Lib.hid (rvalue_any k ari dst a b val wide (.slice A n c) w3 (HT.out.below Hb3.out) hk Hj.out)
      unfold kRow at HV
      rw [hz] at HV
      clear hz
      go_wp2_with fail
      refine HV.out.mono ?_
      rintro e w4 ⟨rfl, hb4⟩
      have Hb4 := Lib.hid (below_next Hb3.out hb4)
      clear hb4
      cases z with
      | false =>
        go_wp2_with fail
        go_ret
        exact ⟨by rw [HE.out]; rfl, Hb4.out⟩
      | true =>
        go_wp2_with fail
        go_ret
        exact ⟨by rw [HE.out]; rfl, Hb4.out⟩
end Go.Proofs.YtebmmdafmgphdaaDoor
