/-
  The walk of machine.Check. Condition: the table reads as the program's text lays it; the operands can be read.
-/
import Derived.Test.YtebmmdafmgphdaaDoorMacK
namespace Go.Proofs.YtebmmdafmgphdaaDoor
open Go.RowKit

theorem lets_at {n k : Nat} {f : Fd} (hn : n < 19) (h : (rowC (n : Int))[k]? = some f) : (lets n)[k]? = some (fdN f) := by
  unfold lets
  have e : rowC (n : Int) = rowsC.getD n [] := by
    unfold rowC
    rw [if_neg (by omega), Int.toNat_natCast]
  rw [← e, List.getElem?_map, h]
  rfl
theorem lets_len (n : Nat) : (lets n).length = (rowC (n : Int)).length := by
  unfold lets rowC
  rw [if_neg (by omega), Int.toNat_natCast, List.length_map]
set_option maxRecDepth 10000 in
theorem rslots_any (n : Nat) (ari dst a b val : Int) (wide : Bool) (args : List Int) (A : Option Addr) (m c : Nat) (w : World) (hT : RowsT w) (hn : n < 19) (hm : args.length = m) (hc : m ≤ c) (hr : Rd w A (args.map iz)) (h1 : m ≤ 1000) :
    Calls Tryd.prog 23 #[.agg (kRow (n : Int) ari dst a b val wide (.slice A m c))] w fun e w' => e = .returned (.bool ((rowC (n : Int)).all (slotF ⟨n, ari, dst, a, b, val, wide, args⟩))) ∧ Below w.heap.size w w' := by
  have HT := Lib.hid hT; clear hT
  have Hr := Lib.hid hr; clear hr
  have Hm := Lib.hid hm; clear hm
  go_enter Tryd.func23, Tryd.ntmps23
  unfold kRow
  go_upto_region 1 with fail
  obtain ⟨w1, hw1⟩ : ∃ w1, w.alloc (.cells (kRow n ari dst a b val wide (.slice A m c)) 26) = w1 := ⟨_, rfl⟩
  have hrow : w1.heap[w.heap.size]? = some (.cells (kRow n ari dst a b val wide (.slice A m c)) 26 (0, 0)) := by rw [← hw1]; exact heap_alloc_new w _
  have hb : Below w.heap.size w w1 := by rw [← hw1]; exact (Below.refl _ _).alloc (Nat.le_refl _) _
  unfold kRow at hw1
  rw [hw1]
  obtain ⟨p, hp⟩ : ∃ p, w.heap.size = p := ⟨_, rfl⟩
  have hwp : w.heap.size ≤ p := by omega
  have HT1 := (HT.out.below hb).s n hn
  obtain ⟨q0, q1, q2, q3, q4, q5, q6, q7⟩ := kRow_cells hrow
  have HB0 : Hid (BI w p w1.heap.size (kRow n ari dst a b val wide (.slice A m c)) (lets n) 0 (w1.iter (strL (lets n)) 0)) := Lib.hid (BI.first (by rw [← hp]; exact hrow) hb hwp)
  have hll := lets_len n
  have hlsm := lets_small n
  have hlat : ∀ k f, (rowC (n : Int))[k]? = some f → (lets n)[k]? = some (fdN f) := fun k f h => lets_at hn h
  obtain ⟨it, hit⟩ : ∃ it, w1.heap.size = it := ⟨_, rfl⟩
  obtain ⟨l, hl⟩ : ∃ l, lets n = l := ⟨_, rfl⟩
  rw [hl] at HT1 HB0 hll hlsm hlat
  rw [hp] at q0 ⊢
  have Hll := Lib.hid hll
  have Hlsm := Lib.hid hlsm
  have Hlat := Lib.hid hlat
  clear hll hlsm hlat hl hrow hb hw1 q1 q2 q3 q4 q5 q6 q7 hp
  go_wp2_with fail
  rw [hit] at HB0
  generalize w1.iter (strL l) 0 = w2 at HB0
  clear hit q0 HT1
  go_loopw [4] (fun _ wr => ∃ k, k ≤ l.length ∧ BI w p it (kRow n ari dst a b val wide (.slice A m c)) l k wr ∧ Hid (∀ f ∈ (rowC (n : Int)).take k, slotF ⟨n, ari, dst, a, b, val, wide, args⟩ f = true)) (fun _ wr => l.length - wr.iterPos it)
  case atStart => exact ⟨0, Nat.zero_le _, HB0.out, Lib.hid (fun f hf => by simp at hf)⟩
  case round =>
    obtain ⟨k, hk, HBr, H⟩ := hrel
    have Hpos := Lib.hid (it_pos HBr.iter)
    have HBr := Lib.hid HBr
    clear HB0
    by_cases hkl : k < l.length
    · obtain ⟨f, hf⟩ : ∃ f, (rowC (n : Int))[k]? = some f := ⟨_, List.getElem?_eq_getElem (by rw [← Hll.out]; exact hkl)⟩
      have hnx : ∀ ty, (Instr.next (.pointer (some ⟨it, 0, none⟩)) true ty).run Tryd.prog wr = _ := fun ty => it_next wr it k (fdN f) l HBr.out.iter (Hlat.out k f hf) Hlsm.out ty
      have HB1 := Lib.hid HBr.out.next
      have HF : Hid (slotF ⟨n, ari, dst, a, b, val, wide, args⟩ f = true → ∀ g ∈ (rowC (n : Int)).take (k + 1), slotF ⟨n, ari, dst, a, b, val, wide, args⟩ g = true) := Lib.hid (fun h g hg => by
        rw [List.take_add_one, hf, List.mem_append] at hg
        rcases hg with hg | hg
        · exact H.out g hg
        · simp only [Option.toList_some, List.mem_singleton] at hg
          rw [hg]
          exact h)
      have HG : Hid (slotF ⟨n, ari, dst, a, b, val, wide, args⟩ f = false → (rowC (n : Int)).all (slotF ⟨n, ari, dst, a, b, val, wide, args⟩) = false) := Lib.hid (fun h => by
        rw [Bool.eq_false_iff]
        intro h2
        rw [List.all_eq_true] at h2
        rw [h2 f (List.mem_of_getElem? hf)] at h
        cases h)
      obtain ⟨W1, hW1⟩ : ∃ W1, wr.iterAt it (strL l) (k + 1) = W1 := ⟨_, rfl⟩
      rw [hW1] at hnx HB1
      clear hW1 hf H HBr
      obtain ⟨q0, q1, q2, q3, q4, q5, q6, q7⟩ := kRow_cells HB1.out.row
      cases f with
      | d =>
        have HN1 : Hid (∀ V, Calls Tryd.prog 18 #[.pointer (some ⟨p, 0, none⟩), .int .i32 100] V fun e w' => e = .returned (.pointer (some ⟨p, 2, none⟩)) ∧ V = w') := Lib.hid (fun V => number_any p 100 V)
        have HS := Lib.hid (noSlot_any dst)
        rw [show fdN .d = 100 from rfl] at hnx
        go_wp2_with fail
        refine (HN1.out _).mono ?_
        rintro e w' ⟨rfl, rfl⟩
        go_wp2_with fail
        refine (HS.out _).mono ?_
        rintro e w' ⟨rfl, rfl⟩
        cases hs : slotC dst with
        | true =>
          have HH := Lib.hid (HF.out (show slotF ⟨n, ari, dst, a, b, val, wide, args⟩ .d = true from hs))
          have Hs := Lib.hid hs; clear hs
          go_wp2_with fail
          go_roundw
          case rel => exact ⟨k + 1, by omega, HB1.out, HH⟩
          case measure => rw [it_pos HB1.out.iter, Hpos.out]; omega
        | false =>
          have HH := Lib.hid (HG.out (show slotF ⟨n, ari, dst, a, b, val, wide, args⟩ .d = false from hs))
          have Hs := Lib.hid hs; clear hs
          go_wp2_with fail
          go_ret
          exact ⟨by rw [HH.out]; rfl, HB1.out.bel⟩
      | a =>
        have HN1 : Hid (∀ V, Calls Tryd.prog 18 #[.pointer (some ⟨p, 0, none⟩), .int .i32 97] V fun e w' => e = .returned (.pointer (some ⟨p, 3, none⟩)) ∧ V = w') := Lib.hid (fun V => number_any p 97 V)
        have HS := Lib.hid (noSlot_any a)
        rw [show fdN .a = 97 from rfl] at hnx
        go_wp2_with fail
        refine (HN1.out _).mono ?_
        rintro e w' ⟨rfl, rfl⟩
        go_wp2_with fail
        refine (HS.out _).mono ?_
        rintro e w' ⟨rfl, rfl⟩
        cases hs : slotC a with
        | true =>
          have HH := Lib.hid (HF.out (show slotF ⟨n, ari, dst, a, b, val, wide, args⟩ .a = true from hs))
          have Hs := Lib.hid hs; clear hs
          go_wp2_with fail
          go_roundw
          case rel => exact ⟨k + 1, by omega, HB1.out, HH⟩
          case measure => rw [it_pos HB1.out.iter, Hpos.out]; omega
        | false =>
          have HH := Lib.hid (HG.out (show slotF ⟨n, ari, dst, a, b, val, wide, args⟩ .a = false from hs))
          have Hs := Lib.hid hs; clear hs
          go_wp2_with fail
          go_ret
          exact ⟨by rw [HH.out]; rfl, HB1.out.bel⟩
      | b =>
        have HN1 : Hid (∀ V, Calls Tryd.prog 18 #[.pointer (some ⟨p, 0, none⟩), .int .i32 98] V fun e w' => e = .returned (.pointer (some ⟨p, 4, none⟩)) ∧ V = w') := Lib.hid (fun V => number_any p 98 V)
        have HS := Lib.hid (noSlot_any b)
        rw [show fdN .b = 98 from rfl] at hnx
        go_wp2_with fail
        refine (HN1.out _).mono ?_
        rintro e w' ⟨rfl, rfl⟩
        go_wp2_with fail
        refine (HS.out _).mono ?_
        rintro e w' ⟨rfl, rfl⟩
        cases hs : slotC b with
        | true =>
          have HH := Lib.hid (HF.out (show slotF ⟨n, ari, dst, a, b, val, wide, args⟩ .b = true from hs))
          have Hs := Lib.hid hs; clear hs
          go_wp2_with fail
          go_roundw
          case rel => exact ⟨k + 1, by omega, HB1.out, HH⟩
          case measure => rw [it_pos HB1.out.iter, Hpos.out]; omega
        | false =>
          have HH := Lib.hid (HG.out (show slotF ⟨n, ari, dst, a, b, val, wide, args⟩ .b = false from hs))
          have Hs := Lib.hid hs; clear hs
          go_wp2_with fail
          go_ret
          exact ⟨by rw [HH.out]; rfl, HB1.out.bel⟩
      | o =>
        have HH := Lib.hid (HF.out (show slotF ⟨n, ari, dst, a, b, val, wide, args⟩ .o = true from rfl))
        rw [show fdN .o = 111 from rfl] at hnx
        go_wp2_with fail
        go_roundw
        case rel => exact ⟨k + 1, by omega, HB1.out, HH⟩
        case measure => rw [it_pos HB1.out.iter, Hpos.out]; omega
      | v =>
        have HH := Lib.hid (HF.out (show slotF ⟨n, ari, dst, a, b, val, wide, args⟩ .v = true from rfl))
        rw [show fdN .v = 118 from rfl] at hnx
        go_wp2_with fail
        go_roundw
        case rel => exact ⟨k + 1, by omega, HB1.out, HH⟩
        case measure => rw [it_pos HB1.out.iter, Hpos.out]; omega
      | w =>
        have HH := Lib.hid (HF.out (show slotF ⟨n, ari, dst, a, b, val, wide, args⟩ .w = true from rfl))
        rw [show fdN .w = 118 from rfl] at hnx
        go_wp2_with fail
        go_roundw
        case rel => exact ⟨k + 1, by omega, HB1.out, HH⟩
        case measure => rw [it_pos HB1.out.iter, Hpos.out]; omega
      | c =>
        have HH := Lib.hid (HF.out (show slotF ⟨n, ari, dst, a, b, val, wide, args⟩ .c = true from rfl))
        rw [show fdN .c = 118 from rfl] at hnx
        go_wp2_with fail
        go_roundw
        case rel => exact ⟨k + 1, by omega, HB1.out, HH⟩
        case measure => rw [it_pos HB1.out.iter, Hpos.out]; omega
      | k =>
        have HH := Lib.hid (HF.out (show slotF ⟨n, ari, dst, a, b, val, wide, args⟩ .k = true from rfl))
        rw [show fdN .k = 118 from rfl] at hnx
        go_wp2_with fail
        go_roundw
        case rel => exact ⟨k + 1, by omega, HB1.out, HH⟩
        case measure => rw [it_pos HB1.out.iter, Hpos.out]; omega
      | j =>
        have HH := Lib.hid (HF.out (show slotF ⟨n, ari, dst, a, b, val, wide, args⟩ .j = true from rfl))
        rw [show fdN .j = 118 from rfl] at hnx
        go_wp2_with fail
        go_roundw
        case rel => exact ⟨k + 1, by omega, HB1.out, HH⟩
        case measure => rw [it_pos HB1.out.iter, Hpos.out]; omega
      | n =>
        rw [show fdN .n = 108 from rfl] at hnx
        by_cases hm2 : m ≤ 250
        · obtain ⟨bb, hbb⟩ : ∃ bb, args.all slotC = bb := ⟨_, rfl⟩
          have HC := Lib.hid (contF_any bb A args m c W1 Hm.out hc h1 (Hr.out.below HB1.out.bel) hbb)
          have hsl : slotF ⟨n, ari, dst, a, b, val, wide, args⟩ .n = bb := by
            show (args.all slotC && decide (args.length ≤ 250)) = bb
            rw [hbb, Hm.out, decide_eq_true hm2, Bool.and_true]
          have Hsl := Lib.hid hsl
          clear hsl hbb
          go_wp2_with fail
          refine HC.out.mono ?_
          rintro e w' ⟨rfl, rfl⟩
          cases bb with
          | true =>
            have HH := Lib.hid (HF.out Hsl.out)
            go_wp2_with fail
            go_roundw
            case rel => exact ⟨k + 1, by omega, HB1.out, HH⟩
            case measure => rw [it_pos HB1.out.iter, Hpos.out]; omega
          | false =>
            have HH := Lib.hid (HG.out Hsl.out)
            go_wp2_with fail
            go_ret
            exact ⟨by rw [HH.out]; rfl, HB1.out.bel⟩
        · have hsl : slotF ⟨n, ari, dst, a, b, val, wide, args⟩ .n = false := by
            show (args.all slotC && decide (args.length ≤ 250)) = false
            rw [Hm.out, decide_eq_false hm2, Bool.and_false]
          have HH := Lib.hid (HG.out hsl)
          clear hsl
          go_wp2_with fail
          go_ret
          exact ⟨by rw [HH.out]; rfl, HB1.out.bel⟩
    · have hend : ∀ ty, (Instr.next (.pointer (some ⟨it, 0, none⟩)) true ty).run Tryd.prog wr = _ := fun ty => it_end wr it k l HBr.out.iter hkl ty
      have hall : (rowC (n : Int)).all (slotF ⟨n, ari, dst, a, b, val, wide, args⟩) = true := by
        rw [List.all_eq_true]
        intro f hf
        refine H.out f ?_
        rw [List.take_of_length_le (by rw [← Hll.out]; omega)]
        exact hf
      have HA := Lib.hid hall
      clear hall H
      go_wp2_with fail
      go_ret
      exact ⟨by rw [HA.out]; rfl, HBr.out.bel⟩
end Go.Proofs.YtebmmdafmgphdaaDoor
