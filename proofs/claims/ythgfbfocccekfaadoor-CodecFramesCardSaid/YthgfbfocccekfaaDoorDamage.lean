/-
  The walk of the law CodecDamage: one byte of a payload, or of its checksum, that is changed is noticed. Conditions: the table reads as the program's text lays it; the arguments are of their kinds.
-/
import Derived.Test.YthgfbfocccekfaaDoorUnframe
import Derived.Test.YthgfbfocccekfaaDoorBack
namespace Go.Proofs.YthgfbfocccekfaaDoor
open Go.RowKit

set_option maxRecDepth 10000 in
theorem damage_long (A : Option Addr) (k c : Nat) (a b : Int) (w : World) (ht : Tab w) (hk : 1000 < k) :
    Calls Tryd.prog 6 #[.slice A k c, .int .u16 a, .int .u8 b] w fun f w' => f = .returned (.bool true) ∧ Below w.heap.size w w' := by
  have Ht := Lib.hid ht; clear ht
  go_enter Tryd.func6, Tryd.ntmps6
  go_wp2_with fail
  refine (awake_any _ Ht.out).mono ?_
  rintro e w1 ⟨rfl, hb1⟩
  have Hb1 := Lib.hid hb1; clear hb1
  go_wp2_with fail
  go_ret
  exact ⟨rfl, Hb1.out⟩
set_option maxRecDepth 10000 in
theorem damage_zero (A : Option Addr) (k c : Nat) (a : Int) (w : World) (ht : Tab w) (hk : k ≤ 1000) :
    Calls Tryd.prog 6 #[.slice A k c, .int .u16 a, .int .u8 0] w fun f w' => f = .returned (.bool true) ∧ Below w.heap.size w w' := by
  have Ht := Lib.hid ht; clear ht
  go_enter Tryd.func6, Tryd.ntmps6
  go_wp2_with fail
  refine (awake_any _ Ht.out).mono ?_
  rintro e w1 ⟨rfl, hb1⟩
  have Hb1 := Lib.hid hb1; clear hb1
  go_wp2_with fail
  go_ret
  exact ⟨rfl, Hb1.out⟩
theorem frame_len (l : List Nat) : (frame l).length = (enc l.length).length + l.length + 4 := by simp [frame, sum4, Nat.add_assoc]
theorem frame_lt {l : List Nat} (hl : ∀ x ∈ l, x < 256) : ∀ x ∈ frame l, x < 256 := both_lt (both_lt (enc_lt _) hl) (sum4_lt _)
set_option maxRecDepth 10000 in
set_option maxHeartbeats 1000000 in
theorem damage_short (A : Option Addr) (l : List Nat) (m c : Nat) (a b : Nat) (w : World) (hm : l.length = m) (hr : Rd w A (l.map bv)) (hl : ∀ x ∈ l, x < 256) (ht : Tab w) (hk : m ≤ 1000) (ha : a < 65536) (hb : b < 256) (hb0 : b ≠ 0) :
    Calls Tryd.prog 6 #[.slice A m c, .int .u16 (a : Int), .int .u8 (b : Int)] w fun f w' => f = .returned (.bool true) ∧ Below w.heap.size w w' := by
  have Ht := Lib.hid ht; clear ht
  have Hr := Lib.hid hr; clear hr
  have Hl := Lib.hid hl; clear hl
  have Hm := Lib.hid hm; clear hm
  have hbz : ((b : Int) == 0) = false := by rw [beq_eq_false_iff_ne]; omega
  have h10 := enc_len10 m
  have h1p := enc_pos m
  have hfl := frame_len l
  rw [Hm.out] at hfl
  have Hfl := Lib.hid hfl; clear hfl
  generalize hh : (enc m).length = hd at *
  have Hh := Lib.hid hh; clear hh
  go_enter Tryd.func6, Tryd.ntmps6
  go_wp2_with fail
  refine (awake_any _ Ht.out).mono ?_
  rintro e w1 ⟨rfl, hb1⟩
  have Hb1 := Lib.hid hb1; clear hb1
  go_wp2_with fail
  refine (putFrame_any none [] 0 0 A l m c _ rfl (by simp) Rd.nil (fun _ => rfl) (by decide) Hm.out (Hr.out.below Hb1.out) Hl.out (by omega) (Ht.out.later Hb1.out)).mono ?_
  rintro e w2 ⟨v2, rfl, hs2, hb2⟩
  obtain ⟨A2, c2, rfl, hr2, hc2⟩ := hs2.bytes (l := frame l) (by simp)
  rw [Hfl.out] at hc2 ⊢
  have Hb2 := Lib.hid (below_next Hb1.out hb2); clear Hb1
  have Hr2 := Lib.hid hr2; clear hr2 hs2 hb2
  go_wp2_with fail
  refine (putUint_any none [] 0 0 m _ rfl (by simp) Rd.nil (fun _ => rfl) (by omega) (by decide)).mono ?_
  rintro e w3 ⟨v3, rfl, hs3, hb3⟩
  obtain ⟨A3, c3, rfl, _, hc3⟩ := hs3.bytes (l := enc m) (by simp)
  rw [Hh.out] at hc3 ⊢
  have Hb3 := Lib.hid (below_next Hb2.out hb3); clear Hb2
  have Hr3 := Lib.hid (Hr2.out.below hb3); clear Hr2 hb3 hs3
  go_wp2_with (at_builtin; refine Pause.out ?_)
  refine Pause.of (wpList_appendNew _ rfl _ _ rfl rfl A2 _ c2 _ rfl (by rw [List.length_map]; exact Hfl.out) Hr3.out (bv_one _) (by omega) (fun h0 => by have h1 := congrArg List.length h0; rw [List.length_map, Hfl.out] at h1; simp at h1) ?_)
  intro g c4 cur w4 hc4 hg4 hcur4 hr4 hb4 _ _ _
  have hfz : ∀ i, w4.frozen? ⟨g, i, none⟩ = false := fun i => by simp [World.frozen?, hcur4]
  have Hcur := Lib.hid hcur4; clear hcur4
  have hq : a % (m + 4) < m + 4 := Nat.mod_lt a (by omega)
  have hmod : ((a : Int) % ((hd : Int) + (m : Int) + 4 - (hd : Int))) = ((a % (m + 4) : Nat) : Int) := by
    rw [show ((hd : Int) + (m : Int) + 4 - (hd : Int)) = ((m + 4 : Nat) : Int) from by omega]
    rfl
  generalize a % (m + 4) = q at *
  have hcell : ∃ y, y < 256 ∧ (frame l)[hd + q]? = some y ∧ w4.cell? ⟨g, hd + q, none⟩ = some (.int .u8 (y : Int)) := by
    have hi : hd + q < (frame l).length := by rw [Hfl.out]; omega
    refine ⟨(frame l)[hd + q], frame_lt Hl.out _ (List.getElem_mem _), List.getElem?_eq_getElem hi, ?_⟩
    have := hr4.cells (hd + q) (bv (frame l)[hd + q]) (by rw [List.getElem?_map, List.getElem?_eq_getElem hi]; rfl)
    rw [Addr.add_lit, Nat.zero_add] at this
    exact this
  obtain ⟨y, hy, hfy, hcy⟩ := hcell
  have Hfy := Lib.hid hfy; clear hfy
  have Hr4 := Lib.hid hr4; clear hr4 Hr3
  have Hb3s := Lib.hid Hb3.out.size
  have Hb4 := Lib.hid (below_next Hb3.out hb4); clear Hb3 hb4
  have hx : bits .xor .u8 (y : Int) (b : Int) = ((y ^^^ b : Nat) : Int) := u8_xor_nat y b hy hb
  have hne : y ^^^ b ≠ y := fun h0 => hb0 (xor_cancel (n := y) (by rw [h0, Nat.xor_zero]))
  have hyb : y ^^^ b < 256 := Nat.xor_lt_two_pow (n := 8) hy hb
  go_wp2_with fail
  have Hb5 := Lib.hid (Hb4.out.setCell (p := ⟨g, hd + q, none⟩) (Nat.le_trans Hb3s.out hg4) (.int .u8 ((y ^^^ b : Nat) : Int)))
  have hr5 := Hr4.out.set_ (hd + q) (by rw [List.length_map, Hfl.out]; omega) (.int .u8 ((y ^^^ b : Nat) : Int))
  have hr6 : Rd (w4.setCell ⟨g, hd + q, none⟩ (.int .u8 ((y ^^^ b : Nat) : Int))) (some ⟨g, 0, none⟩) (((frame l).set (hd + q) (y ^^^ b)).map bv) := by rw [List.map_set]; exact hr5
  have hlt6 : ∀ x ∈ (frame l).set (hd + q) (y ^^^ b), x < 256 := fun x hx => (List.mem_or_eq_of_mem_set hx).elim (frame_lt Hl.out x) (fun h => by rw [h]; exact hyb)
  have hun : unframe ((frame l).set (hd + q) (y ^^^ b)) = ([], 0, 4) := by
    have hmm := Hm.out
    have hhh := Hh.out
    rw [← hmm] at hhh
    rw [← hhh]
    refine unframe_damaged Hl.out (by omega) (by omega) hyb ?_
    rw [hhh, Hfy.out]
    intro h0
    injection h0 with h0
    exact hne h0.symm
  refine (frame_any (some ⟨g, 0, none⟩) ((frame l).set (hd + q) (y ^^^ b)) (hd + m + 4) c4 [] 0 4 _ (by rw [List.length_set]; exact Hfl.out) hc4 hr6 hlt6 (by omega) (Ht.out.later Hb5.out) hun).mono ?_
  rintro e w6 ⟨v6, rfl, _, hb6⟩
  have Hb6 := Lib.hid (below_next Hb5.out hb6)
  clear hb6 hr5 hr6 hlt6 hun
  go_wp2_with fail
  go_ret
  exact ⟨rfl, Hb6.out⟩
end Go.Proofs.YthgfbfocccekfaaDoor
