/-
  The walk of machine.Size. Condition: the table reads as the program's text lays it; the operands can be read; the Value fits 64 bits.
-/
import Derived.Test.YtebmmdafmgphdaaDoorMacE
namespace Go.Proofs.YtebmmdafmgphdaaDoor
open Go.RowKit

/-- How long a field's bytes are, as the walk reckons it. -/
theorem enc_wd (n : Nat) (ari dst a b val : Int) (wide : Bool) (l : List Int) (hn : n < 19) (h1 : 1 ≤ n) : ∀ f ∈ rowC (n : Int), ((encF ⟨n, ari, dst, a, b, val, wide, l⟩ f).length : Int) = wdN n wide (fdN f) + (if fdN f = 108 then (l.length : Int) else 0) := by
  rcases in_18 hn h1 with rfl | rfl | rfl | rfl | rfl | rfl | rfl | rfl | rfl | rfl | rfl | rfl | rfl | rfl | rfl | rfl | rfl | rfl <;> cases wide <;> simp [rowC, rowsC, fdN, encF, leB_len, flat_len, widC, wdN, isJ, sizeN, -List.length_flatMap]
theorem wd_most (n : Nat) (hn : n < 19) (wide : Bool) (c : Nat) : 0 ≤ wdN n wide c ∧ wdN n wide c ≤ 8 := by
  unfold wdN
  split
  · split
    · exact ⟨by decide, by decide⟩
    · have : ∀ m : Fin 19, 0 ≤ sizeN m.val ∧ sizeN m.val ≤ 8 := by decide +kernel
      exact this ⟨n, hn⟩
  · exact ⟨by decide, by decide⟩
theorem flat_step (x : Cd) (fs : List Fd) (k : Nat) (f : Fd) (h : fs[k]? = some f) : ((fs.take (k + 1)).flatMap (encF x)).length = ((fs.take k).flatMap (encF x)).length + (encF x f).length := by
  rw [List.take_add_one, h, List.flatMap_append, List.length_append]
  simp
theorem flat_most (x : Cd) (fs : List Fd) (k : Nat) : ((fs.take k).flatMap (encF x)).length ≤ (fs.flatMap (encF x)).length := by
  conv => rhs; rw [← List.take_append_drop k fs]
  rw [List.flatMap_append, List.length_append]
  omega
set_option maxRecDepth 10000 in
theorem msize_any (x : Cd) (A : Option Addr) (n c : Nat) (w : World) (hT : RowsT w) (hn : x.args.length = n) (hc : n ≤ c) (hr : Rd w A (x.args.map iz)) (h1 : n ≤ 1000) (hv : i64C x.val) :
    Calls Tryd.prog 10 #[cdv x (.slice A n c)] w (NumP ((encO x).length : Nat) w) := by
  have HC := Lib.hid (fun w1 (hb : Below w.heap.size w w1) => mcheck_any x A n c w1 (hT.below hb) hn hc (hr.below hb) h1 hv)
  have HT := Lib.hid hT; clear hT
  have Hop := Lib.hid (fun h : chkC x = 0 => row_in (chk_parts h).1)
  have Hmost := Lib.hid (fun h : chkC x = 0 => enc_most h)
  obtain ⟨op, ari, dst, a, b, val, wide, args⟩ := x
  dsimp only at hn hr hv Hop Hmost
  have Hr := Lib.hid hr; clear hr
  have Hn := Lib.hid hn; clear hn hv
  obtain ⟨E, hE⟩ : ∃ E, chkC ⟨op, ari, dst, a, b, val, wide, args⟩ = E := ⟨_, rfl⟩
  rw [hE] at HC Hop Hmost
  have HE := Lib.hid hE
  clear hE
  dsimp only [cdv] at HC ⊢
  go_enter Tryd.func10, Tryd.ntmps10
  go_upto_region 1 with fail
  obtain ⟨w1, hw1⟩ : ∃ w1, w.alloc (.cells (kRow op ari dst a b val wide (.slice A n c)) 26) = w1 := ⟨_, rfl⟩
  have hrow : w1.heap[w.heap.size]? = some (.cells (kRow op ari dst a b val wide (.slice A n c)) 26 (0, 0)) := by rw [← hw1]; exact heap_alloc_new w _
  have hb : Below w.heap.size w w1 := by rw [← hw1]; exact (Below.refl _ _).alloc (Nat.le_refl _) _
  unfold kRow at hw1
  rw [hw1]
  obtain ⟨q0, q1, q2, q3, q4, q5, q6, q7⟩ := kRow_cells hrow
  have Hrow := Lib.hid hrow
  have Hb := Lib.hid hb
  have HC1 := Lib.hid (HC.out w1 hb)
  clear hrow hb hw1 HC
  go_wp2_with fail
  refine HC1.out.mono ?_
  rintro e w2 ⟨rfl, hb2⟩
  have Hb2 := Lib.hid (below_next Hb.out hb2)
  have Hrow2 := Lib.hid ((hb2.block _ (Array.getElem?_eq_some_iff.1 Hrow.out).1).trans Hrow.out)
  clear hb2 q0 q1 q2 q3 q4 q5 q6 q7 HC1 Hrow Hb
  by_cases h0 : E = 0
  · subst h0
    obtain ⟨k, hk, hk1, rfl⟩ := Hop.out rfl
    have HL : Hid (encO ⟨k, ari, dst, a, b, val, wide, args⟩ = encC ⟨k, ari, dst, a, b, val, wide, args⟩) := Lib.hid (by
      unfold encO
      rw [if_pos HE.out])
    have Hj : Hid (wide = true → isJ (k : Int) = true) := Lib.hid (by
      have h := HE.out
      unfold chkC at h
      split at h
      · cases h
      · rename_i h2
        intro h3
        cases h4 : isJ (k : Int) with
        | true => rfl
        | false => exact (h2 (.inr (.inr ⟨h3, h4⟩))).elim)
    have hmost := Hmost.out rfl
    clear Hmost Hop
    have hEl : (encC ⟨k, ari, dst, a, b, val, wide, args⟩).length = 1 + ((rowC (k : Int)).flatMap (encF ⟨k, ari, dst, a, b, val, wide, args⟩)).length := by
      unfold encC
      rw [List.length_cons]
      exact Nat.add_comm _ _
    rw [hEl, Hn.out] at hmost
    have HEl := Lib.hid hEl
    have Hmost := Lib.hid hmost
    clear hEl hmost
    obtain ⟨p, hp⟩ : ∃ p, w.heap.size = p := ⟨_, rfl⟩
    have hwp : w.heap.size ≤ p := by omega
    have HT1 := (HT.out.below Hb2.out).s k hk
    have hrow2 := Hrow2.out
    rw [hp] at hrow2
    obtain ⟨q0, q1, q2, q3, q4, q5, q6, q7⟩ := kRow_cells hrow2
    have HB0 : Hid (BI w p w2.heap.size (kRow k ari dst a b val wide (.slice A n c)) (lets k) 0 (w2.iter (strL (lets k)) 0)) := Lib.hid (BI.first hrow2 Hb2.out hwp)
    have hll := lets_len k
    have hlsm := lets_small k
    have hlat : ∀ j f, (rowC (k : Int))[j]? = some f → (lets k)[j]? = some (fdN f) := fun j f h => lets_at hk h
    obtain ⟨it, hit⟩ : ∃ it, w2.heap.size = it := ⟨_, rfl⟩
    obtain ⟨l, hl⟩ : ∃ l, lets k = l := ⟨_, rfl⟩
    rw [hl] at HT1 HB0 hll hlsm hlat
    rw [hp] at ⊢
    have Hll := Lib.hid hll
    have Hlsm := Lib.hid hlsm
    have Hlat := Lib.hid hlat
    clear hll hlsm hlat hl q1 q2 q3 q4 q5 q6 q7 hp hrow2 Hrow2
    go_wp2_with fail
    rw [hit] at HB0
    generalize w2.iter (strL l) 0 = w3 at HB0
    clear hit q0 HT1
    go_loopw [3, 5] (fun s _ wr => ∃ j, j ≤ l.length ∧ s = .int .i64 ((1 + (((rowC (k : Int)).take j).flatMap (encF ⟨k, ari, dst, a, b, val, wide, args⟩)).length : Nat) : Int) ∧ BI w p it (kRow k ari dst a b val wide (.slice A n c)) l j wr) (fun _ _ wr => l.length - wr.iterPos it)
    case atStart => exact ⟨0, Nat.zero_le _, rfl, HB0.out⟩
    case round =>
      obtain ⟨j, hj, rfl, HBr⟩ := hrel
      have Hpos := Lib.hid (it_pos HBr.iter)
      have HBr := Lib.hid HBr
      clear HB0
      by_cases hkl : j < l.length
      · obtain ⟨f, hf⟩ : ∃ f, (rowC (k : Int))[j]? = some f := ⟨_, List.getElem?_eq_getElem (by rw [← Hll.out]; exact hkl)⟩
        have hnx : ∀ ty, (Instr.next (.pointer (some ⟨it, 0, none⟩)) true ty).run Tryd.prog wr = _ := fun ty => it_next wr it j (fdN f) l HBr.out.iter (Hlat.out j f hf) Hlsm.out ty
        have HB1 := Lib.hid HBr.out.next
        have h5 := flat_step ⟨k, ari, dst, a, b, val, wide, args⟩ _ j f hf
        have h6 := enc_wd k ari dst a b val wide args hk hk1 f (List.mem_of_getElem? hf)
        have h7 := flat_most ⟨k, ari, dst, a, b, val, wide, args⟩ (rowC (k : Int)) j
        have h8 := Hmost.out
        rw [Hn.out] at h6
        generalize (((rowC (k : Int)).take j).flatMap (encF ⟨k, ari, dst, a, b, val, wide, args⟩)).length = s at *
        generalize ((rowC (k : Int)).flatMap (encF ⟨k, ari, dst, a, b, val, wide, args⟩)).length = s2 at *
        generalize (encF ⟨k, ari, dst, a, b, val, wide, args⟩ f).length = s3 at *
        have H5 := Lib.hid h5; clear h5
        have hy1 := wd_most k hk wide (fdN f)
        have HW := Lib.hid (fun W1 (hb : Below w.heap.size w W1) => width_any k ari dst a b val wide (.slice A n c) (fdN f) W1 (HT.out.below hb) hk Hj.out)
        unfold kRow at HW
        obtain ⟨W1, hW1⟩ : ∃ W1, wr.iterAt it (strL l) (j + 1) = W1 := ⟨_, rfl⟩
        rw [hW1] at hnx HB1
        have HW1 := Lib.hid (HW.out W1 HB1.out.bel)
        clear hW1 hf HBr HW
        obtain ⟨y, hy⟩ : ∃ y, wdN k wide (fdN f) = y := ⟨_, rfl⟩
        rw [hy] at h6 HW1 hy1
        clear hy
        obtain ⟨q0, q1, q2, q3, q4, q5, q6, q7⟩ := kRow_cells HB1.out.row
        by_cases hfn : fdN f = 108
        · rw [if_pos hfn] at h6
          rw [hfn] at hnx HW1
          have h6a : 0 ≤ y ∧ y ≤ 2000 := by omega
          clear hfn
          have H6 := Lib.hid h6; clear h6
          go_wp2_with fail
          refine HW1.out.mono ?_
          rintro e w4 ⟨rfl, hb4⟩
          have HB4 := Lib.hid (HB1.out.low hb4)
          clear hb4 q0 q1 q2 q3 q4 q5 q6 q7 HB1 HW1
          obtain ⟨q0, q1, q2, q3, q4, q5, q6, q7⟩ := kRow_cells HB4.out.row
          go_wp2_with fail
          go_roundw
          case rel => exact ⟨j + 1, by omega, by rw [H5.out]; have := H6.out; congr 1; omega, HB4.out⟩
          case measure => rw [it_pos HB4.out.iter, Hpos.out]; omega
        · rw [if_neg hfn] at h6
          have hne : ((fdN f : Int) == 108) = false := by simp; omega
          have h6a : 0 ≤ y ∧ y ≤ 2000 := by omega
          have Hfn := Lib.hid hfn; clear hfn
          have H6 := Lib.hid h6; clear h6
          go_wp2_with fail
          refine HW1.out.mono ?_
          rintro e w4 ⟨rfl, hb4⟩
          have HB4 := Lib.hid (HB1.out.low hb4)
          clear hb4 q0 q1 q2 q3 q4 q5 q6 q7 HB1 HW1
          go_wp2_with fail
          go_roundw
          case rel => exact ⟨j + 1, by omega, by rw [H5.out]; have := H6.out; congr 1; omega, HB4.out⟩
          case measure => rw [it_pos HB4.out.iter, Hpos.out]; omega
      · have hend : ∀ ty, (Instr.next (.pointer (some ⟨it, 0, none⟩)) true ty).run Tryd.prog wr = _ := fun ty => it_end wr it j l HBr.out.iter hkl ty
        have e1 : (rowC (k : Int)).take j = rowC (k : Int) := List.take_of_length_le (by rw [← Hll.out]; omega)
        rw [e1, ← HEl.out]
        clear e1
        go_wp2_with fail
        go_ret
        exact ⟨by rw [HL.out]; rfl, HBr.out.bel⟩
  · have HL : Hid ((encO ⟨op, ari, dst, a, b, val, wide, args⟩).length = 0) := Lib.hid (by
      unfold encO
      rw [HE.out, if_neg h0]
      rfl)
    have hne : ((E : Int) != 0) = true := by simp; omega
    have H0 := Lib.hid h0; clear h0
    go_wp2_with fail
    go_ret
    exact ⟨by rw [HL.out]; rfl, Hb2.out⟩
end Go.Proofs.YtebmmdafmgphdaaDoor
