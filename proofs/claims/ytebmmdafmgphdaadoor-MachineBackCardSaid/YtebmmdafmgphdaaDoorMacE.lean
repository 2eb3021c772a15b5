/-
  The walks of machine.put, putArgs, Size and Encode. Condition: the table reads as the program's text lays it; the operands can be read; the Value fits 64 bits.
-/
import Derived.Test.YtebmmdafmgphdaaDoorMacK3
import Derived.Test.YtebmmdafmgphdaaDoorApp
namespace Go.Proofs.YtebmmdafmgphdaaDoor
open Go.RowKit

theorem leB_snoc : ∀ (k : Nat) (x : Int), leB (k + 1) x = leB k x ++ [(x / 256 ^ k % 256).toNat]
  | 0, x => by simp [leB]
  | k + 1, x => by
    rw [leB, leB_snoc k (x / 256), leB]
    simp only [List.cons_append]
    rw [Int.ediv_ediv_of_nonneg (by omega), Int.pow_succ, Int.mul_comm 256]
def PutR (base : Nat) (xs : List Value) (n : Int) (size : Nat) (w : World) (v z i : Value) (wr : World) : Prop :=
  ∃ k : Nat, k ≤ size ∧ i = .int .i64 (k : Int) ∧ z = .int .i64 (n / 256 ^ k) ∧ Sl wr base 5 v (xs ++ (leB k n).map bv) ∧ Below base w wr
set_option maxRecDepth 10000 in
theorem put_any (v : Value) (xs : List Value) (base size : Nat) (n : Int) (w : World) (hs : Sl w base 5 v xs) (hbase : base ≤ w.heap.size) (hlen : xs.length ≤ 70368744177664) (hz : size ≤ 8) :
    Calls Tryd.prog 17 #[v, .int .i64 n, .int .i64 (size : Int)] w fun e w' => ∃ v', e = .returned v' ∧ Sl w' base 5 v' (xs ++ (leB size n).map bv) ∧ Below base w w' := by
  have Hs := Lib.hid hs; clear hs
  go_enter Tryd.func17, Tryd.ntmps17
  go_wp2_with fail
  go_loopw [0, 1, 8] (fun v z i wr => PutR base xs n size w v z i wr) (fun _ _ i _ => size - (intOf i).toNat)
  case atStart => exact ⟨0, by omega, rfl, by simp, by simpa [leB] using Hs.out, Below.refl _ _⟩
  case round =>
    obtain ⟨k, hk, rfl, rfl, hs', hb⟩ := hrel
    have hbs : base ≤ wr.heap.size := Nat.le_trans hbase hb.size
    have Hs' := Lib.hid hs'; clear hs'
    have Hb := Lib.hid hb; clear hb
    by_cases hk4 : k < size
    · have h4 : (xs ++ (leB k n).map bv).length ≤ 70368744177672 := by simp [leB_len]; omega
      have h5 : Hid (n / 256 ^ (k + 1) = n / 256 ^ k / 256) := Lib.hid (by rw [Int.ediv_ediv_of_nonneg (Int.pow_nonneg (by decide)), Int.pow_succ])
      have h6 : Hid ((leB (k + 1) n).map bv = (leB k n).map bv ++ [.int .u8 (n / 256 ^ k % 256)]) := Lib.hid (by
        rw [leB_snoc, List.map_append]
        congr 1
        show [bv _] = _
        unfold bv
        rw [Int.toNat_of_nonneg (Int.emod_nonneg _ (by decide))])
      generalize n / 256 ^ k = y at *
      go_wp2_with (at_builtin; refine Pause.out ?_)
      refine Pause.of (wpList_appendB _ rfl _ _ rfl base _ _ rfl (Hs'.out.alloc _) (some ⟨wr.heap.size, 0, none⟩) 1 1 [.int .u8 (y % 256)] rfl rfl (Rd.of_cells (cell_one_new _ _ _)) (one_cell_u8 _) (by omega) (by simp; omega) ?_)
      intro v1 w1 hs1 hb1
      have Hs1 := Lib.hid hs1; clear hs1
      have Hb1 := Lib.hid ((Hb.out.alloc hbs _).trans hb1); clear hb1
      go_wp2_with fail
      exact ⟨⟨k + 1, by omega, by go_num, by rw [h5.out], by rw [h6.out, ← List.append_assoc]; exact Hs1.out, Hb1.out⟩, by simp [intOf]; omega⟩
    · obtain rfl : k = size := by omega
      go_wp2_with fail
      go_ret
      exact ⟨_, rfl, Hs'.out, Hb.out⟩
def PaR (base : Nat) (xs : List Value) (args : List Int) (m : Nat) (w : World) (v i : Value) (wr : World) : Prop :=
  ∃ k : Nat, k ≤ m ∧ i = .int .i64 (k : Int) ∧ Sl wr base 5 v (xs ++ (leB 1 (m : Int) ++ (args.take k).flatMap (leB 1)).map bv) ∧ Below base w wr
theorem leB_one (x : Int) : (leB 1 x).map bv = [.int .u8 (x % 256)] := by
  simp only [leB, List.map_cons, List.map_nil, bv]
  rw [Int.toNat_of_nonneg (Int.emod_nonneg _ (by decide))]
set_option maxRecDepth 10000 in
theorem putArgs_any (v : Value) (xs : List Value) (base : Nat) (A : Option Addr) (args : List Int) (m c : Nat) (w : World) (hs : Sl w base 5 v xs) (hbase : base ≤ w.heap.size) (hlen : xs.length ≤ 1000000) (hm : args.length = m) (hc : m ≤ c) (hr : Rd w A (args.map iz)) (h1 : m ≤ 1000)
    (hlow : ∀ ad, A = some ad → args ≠ [] → ad.block < base) :
    Calls Tryd.prog 16 #[v, .slice A m c] w fun e w' => ∃ v', e = .returned v' ∧ Sl w' base 5 v' (xs ++ (leB 1 (m : Int) ++ args.flatMap (leB 1)).map bv) ∧ Below base w w' := by
  have Hs := Lib.hid hs; clear hs
  have Hr := Lib.hid hr; clear hr
  have Hm := Lib.hid hm; clear hm
  have Hlow := Lib.hid hlow; clear hlow
  go_enter Tryd.func16, Tryd.ntmps16
  go_wp2_with (at_builtin; refine Pause.out ?_)
  refine Pause.of (wpList_appendB _ rfl _ _ rfl base _ _ rfl (Hs.out.alloc _) (some ⟨w.heap.size, 0, none⟩) 1 1 [.int .u8 ((m : Int) % 256)] rfl rfl (Rd.of_cells (cell_one_new _ _ _)) (one_cell_u8 _) (by omega) (by simp; omega) ?_)
  intro v1 w1 hs1 hb1
  have Hs1 := Lib.hid hs1; clear hs1
  have Hb1 := Lib.hid (((Below.refl base w).alloc hbase _).trans hb1); clear hb1
  go_wp2_with fail
  go_loopw [0, 6, 15] (fun v _ i wr => PaR base xs args m w v i wr) (fun _ _ i _ => m - (intOf i).toNat)
  case atStart => exact ⟨0, by omega, rfl, by simpa [leB_one] using Hs1.out, Hb1.out⟩
  case round =>
    obtain ⟨k, hk, rfl, hs', hb⟩ := hrel
    have hbs : base ≤ wr.heap.size := Nat.le_trans hbase hb.size
    have Hs' := Lib.hid hs'; clear hs'
    have Hb := Lib.hid hb; clear hb
    clear Hs1 Hb1 Hs
    by_cases hkm : k < m
    · have hkl : k < args.length := by rw [Hm.out]; exact hkm
      obtain ⟨ad, rfl, hc0⟩ := Hr.out.at_ (k := k) (by simpa using hkl)
      have hc1 : wr.cell? (ad.add k) = some (iz args[k]) := by
        rw [Hb.out.cell (by rw [block_add]; exact Hlow.out ad rfl (by intro h; rw [h] at hkl; simp at hkl))]
        simpa using hc0
      have h6 : Hid ((leB 1 (m : Int) ++ (args.take (k + 1)).flatMap (leB 1)).map bv = (leB 1 (m : Int) ++ (args.take k).flatMap (leB 1)).map bv ++ [.int .u8 (args[k] % 256)]) := Lib.hid (by
        rw [take_step hkl, List.flatMap_append, ← List.append_assoc, List.map_append, List.flatMap_cons, List.flatMap_nil, List.append_nil, leB_one])
      have h4 : (xs ++ (leB 1 (m : Int) ++ (args.take k).flatMap (leB 1)).map bv).length ≤ 1010000 := by
        rw [List.length_append, List.length_map, List.length_append, leB_len, flat_len, List.length_take]
        omega
      generalize (leB 1 (m : Int) ++ (args.take k).flatMap (leB 1)).map bv = Z at *
      generalize args[k] = y at *
      unfold iz at hc1
      clear hc0
      go_wp2_with (at_builtin; refine Pause.out ?_)
      refine Pause.of (wpList_appendB _ rfl _ _ rfl base _ _ rfl (Hs'.out.alloc _) (some ⟨wr.heap.size, 0, none⟩) 1 1 [.int .u8 (y % 256)] rfl rfl (Rd.of_cells (cell_one_new _ _ _)) (one_cell_u8 _) (by omega) (by simp; omega) ?_)
      intro v2 w2 hs2 hb2
      have Hs2 := Lib.hid hs2; clear hs2
      have Hb2 := Lib.hid ((Hb.out.alloc hbs _).trans hb2); clear hb2
      go_wp2_with fail
      exact ⟨⟨k + 1, by omega, by go_num, by rw [h6.out, ← List.append_assoc]; exact Hs2.out, Hb2.out⟩, by simp [intOf]; omega⟩
    · obtain rfl : k = m := by omega
      go_wp2_with fail
      go_ret
      refine ⟨_, rfl, ?_, Hb.out⟩
      have := Hs'.out
      rwa [List.take_of_length_le (by rw [Hm.out]; exact Nat.le_refl _)] at this
end Go.Proofs.YtebmmdafmgphdaaDoor
