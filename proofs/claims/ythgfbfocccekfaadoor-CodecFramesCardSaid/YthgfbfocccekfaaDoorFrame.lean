/-
  The walks of codec.putSum, codec.sumAt, codec.PutFrame and codec.Frame: what a frame is, and what any bytes mean as one. Conditions: the table reads as the program's text lays it; the slices are not longer than 2 to the 46.
-/
import Derived.Test.YthgfbfocccekfaaDoorBytes
import Derived.Test.YthgfbfocccekfaaDoorFrameMath
namespace Go.Proofs.YthgfbfocccekfaaDoor
open Go.RowKit

def PsRel (base : Nat) (xs : List Value) (s : Nat) (w : World) (v i : Value) (wr : World) : Prop :=
  ∃ k : Nat, k ≤ 4 ∧ i = .int .i64 (k : Int) ∧ Sl wr base 5 v (xs ++ ((sum4 s).take k).map bv) ∧ Below base w wr
theorem psRel_step {base : Nat} {xs : List Value} {s k : Nat} {w wr w1 : World} {v : Value} {q : Int} {o : Obj} (hk : k < 4) (hq : (s : Int) / 2 ^ (8 * k) % 256 = q) (hb : Below base w wr) (hbase : base ≤ wr.heap.size)
    (hs : Sl w1 base 5 v (xs ++ ((sum4 s).take k).map bv ++ [.int .u8 q])) (hb1 : Below base (wr.alloc o) w1) : PsRel base xs s w v (.int .i64 ((k : Int) + 1)) w1 := by
  obtain ⟨b, e1, e2⟩ := sum4_step (s := s) hk
  refine ⟨k + 1, by omega, by simp, ?_, (hb.alloc hbase o).trans hb1⟩
  rw [e1]
  rw [← hq, e2] at hs
  simpa [bv] using hs
set_option maxRecDepth 10000 in
theorem putSum_any (v : Value) (xs : List Value) (base s : Nat) (w : World) (hs : Sl w base 5 v xs) (hbase : base ≤ w.heap.size) (hlen : xs.length ≤ 70368744177664) :
    Calls Tryd.prog 28 #[v, .int .u32 (s : Int)] w fun e w' => ∃ v', e = .returned v' ∧ Sl w' base 5 v' (xs ++ (sum4 s).map bv) ∧ Below base w w' := by
  have Hs := Lib.hid hs; clear hs
  go_enter Tryd.func28, Tryd.ntmps28
  go_wp2_with fail
  go_loopw [0, 6] (fun v i wr => PsRel base xs s w v i wr) (fun _ i _ => 4 - (intOf i).toNat)
  case atStart => exact ⟨0, by omega, rfl, by simpa using Hs.out, Below.refl _ _⟩
  case round =>
    obtain ⟨k, hk, rfl, hs', hb⟩ := hrel
    have hbs : base ≤ wr.heap.size := Nat.le_trans hbase hb.size
    have Hs' := Lib.hid hs'; clear hs'
    have Hb := Lib.hid hb; clear hb
    by_cases hk4 : k < 4
    · have h4 : ((sum4 s).take k).length ≤ 4 := by simp [sum4]; omega
      go_wp2_with (at_builtin; refine Pause.out ?_)
      refine Pause.of (wpList_appendB _ rfl _ _ rfl base _ _ rfl (Hs'.out.alloc _) (some ⟨wr.heap.size, 0, none⟩) 1 1 [.int .u8 ((s : Int) / 2 ^ (8 * k) % 256)] rfl rfl (Rd.of_cells (cell_one_new _ _ _)) (one_cell_u8 _) (by simp; omega) (by simp; omega) ?_)
      intro v1 w1 hs1 hb1
      have Hs1 := Lib.hid hs1; clear hs1
      have Hb1 := Lib.hid hb1; clear hb1
      go_wp2_with fail
      exact ⟨psRel_step hk4 rfl Hb.out hbs Hs1.out Hb1.out, by simp [intOf]; omega⟩
    · go_wp2_with fail
      go_ret
      have e : (sum4 s).take k = sum4 s := List.take_of_length_le (by simp [sum4]; omega)
      exact ⟨_, rfl, by have := Hs'.out; rwa [e] at this, Hb.out⟩

def SaRel (l : List Nat) (u i : Value) : Prop :=
  ∃ k : Nat, k ≤ 4 ∧ i = .int .i64 (k : Int) ∧ u = .int .u32 ((leOf (l.take k) : Nat) : Int)
set_option maxRecDepth 10000 in
theorem sumAt_any (A : Option Addr) (l : List Nat) (m c : Nat) (w : World) (hm : l.length = m) (h : m ≤ c) (h4 : 4 ≤ m) (hr : Rd w A (l.map bv)) (hl : ∀ x ∈ l, x < 256) :
    Calls Tryd.prog 29 #[.slice A m c] w fun e w' => e = .returned (.int .u32 ((leOf (l.take 4) : Nat) : Int)) ∧ w = w' := by
  subst hm
  go_enter Tryd.func29, Tryd.ntmps29
  go_wp2_with fail
  go_loop [3, 9] (fun v i => SaRel l v i) (fun _ i => 4 - (intOf i).toNat)
  case atStart => exact ⟨0, by omega, rfl, by simp [leOf]⟩
  case round =>
    obtain ⟨k, hk, rfl, rfl⟩ := hrel
    by_cases hk4 : k < 4
    · have hkl : k < l.length := by omega
      have hsn := leOf_snoc (l.take k) l[k]
      rw [← List.take_succ_eq_append_getElem hkl, List.length_take, Nat.min_eq_left (by omega)] at hsn
      have hlt := leOf_lt (l.take k) (fun x hx => hl x (List.mem_of_mem_take hx))
      rw [List.length_take, Nat.min_eq_left (by omega)] at hlt
      have Hsn := Lib.hid hsn; clear hsn
      have Hlt := Lib.hid hlt; clear hlt
      obtain ⟨ad, rfl, hc⟩ := hr.at_ (k := k) (by simp; omega)
      simp only [List.getElem_map] at hc
      have hx : l[k] < 256 := hl _ (List.getElem_mem _)
      generalize l[k] = x at *
      generalize leOf (l.take k) = q at *
      unfold bv at hc
      have Hr := Lib.hid hr; clear hr
      have Hl := Lib.hid hl; clear hl
      go_wp2_with fail
      exact ⟨⟨k + 1, by omega, by simp, by rw [Hsn.out, orByte32 Hlt.out hx hk4]⟩, by simp [intOf]; omega⟩
    · obtain rfl : k = 4 := by omega
      go_wp2_with fail
      go_ret
      exact ⟨rfl, rfl⟩

set_option maxRecDepth 10000 in
theorem putFrame_long (A : Option Addr) (k c : Nat) (B : Option Addr) (m d : Nat) (w : World) (hn : 65535 < m) :
    Calls Tryd.prog 20 #[.slice A k c, .slice B m d] w fun f w' => f = .returned (.tuple #[.slice none 0 0, .int .i64 5]) ∧ w = w' := by
  go_enter Tryd.func20, Tryd.ntmps20
  go_wp2_with fail
  go_ret2
  exact ⟨rfl, rfl⟩
set_option maxRecDepth 10000 in
theorem putFrame_any (A : Option Addr) (xs : List Value) (k c : Nat) (B : Option Addr) (l : List Nat) (m d : Nat) (w : World) (hk : xs.length = k) (h : k ≤ c) (hr : Rd w A xs) (hnil : A = none → xs = []) (hreach : k ≤ 35184372088832)
    (hm : l.length = m) (hrl : Rd w B (l.map bv)) (hl : ∀ x ∈ l, x < 256) (hn : m ≤ 65535) (ht : Tab w) :
    Calls Tryd.prog 20 #[.slice A k c, .slice B m d] w fun f w' => ∃ v, f = .returned (.tuple #[v, .int .i64 0]) ∧ Sl w' w.heap.size 5 v (xs ++ (frame l).map bv) ∧ Below w.heap.size w w' := by
  have Hnil := Lib.hid hnil; clear hnil
  have Hr := Lib.hid hr; clear hr
  have Hrl := Lib.hid hrl; clear hrl
  have Hl := Lib.hid hl; clear hl
  have Ht := Lib.hid ht; clear ht
  have Hk := Lib.hid hk; clear hk
  have Hm := Lib.hid hm; clear hm
  have hlen := Lib.hid (encF_len 10 m)
  go_enter Tryd.func20, Tryd.ntmps20
  go_wp2_with fail
  refine (putUint_any A xs k c m _ Hk.out h Hr.out Hnil.out (by omega) (by omega)).mono ?_
  rintro e w1 ⟨v1, rfl, hs1, hb1⟩
  have Hs1 := Lib.hid hs1; clear hs1
  have Hb1 := Lib.hid hb1; clear hb1
  have b1 : Hid ((xs ++ (enc m).map bv).length ≤ 35184372088842) := Lib.hid (by have := hlen.out; have := Hk.out; unfold enc; simp; omega)
  go_wp2_with (at_builtin; refine Pause.out ?_)
  refine Pause.of (wpList_appendB _ rfl _ _ rfl w.heap.size _ _ rfl Hs1.out B _ d _ rfl (by rw [List.length_map]; exact Hm.out) (Hrl.out.below Hb1.out) (bv_one _) (by have := b1.out; omega) Hb1.out.size ?_)
  intro v2 w2 hs2 hb2
  have Hs2 := Lib.hid hs2; clear hs2
  have Hb2 := Lib.hid (Hb1.out.trans hb2); clear hb2 Hs1 Hb1
  go_wp2_with fail
  refine (checksum_any B l m d _ Hm.out (Hrl.out.below Hb2.out) Hl.out (by omega) (Ht.out.later Hb2.out)).mono ?_
  rintro e w3 ⟨rfl, rfl⟩
  go_wp2_with fail
  refine (putSum_any v2 _ w.heap.size (crc l) _ Hs2.out Hb2.out.size (by have := b1.out; have := Hm.out; simp at *; omega)).mono ?_
  rintro e w4 ⟨v4, rfl, hs4, hb4⟩
  have Hs4 := Lib.hid hs4; clear hs4
  have Hb4 := Lib.hid (Hb2.out.trans hb4); clear hb4 Hs2 Hb2
  go_wp2_with fail
  go_ret2
  refine ⟨_, rfl, ?_, Hb4.out⟩
  have := Hs4.out
  unfold frame
  rw [Hm.out]
  simpa [List.append_assoc] using this
end Go.Proofs.YthgfbfocccekfaaDoor
