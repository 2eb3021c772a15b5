/-
  slices.Sort at numbers of 64 bits: the walks of order2Ordered, medianOrdered, medianAdjacentOrdered and choosePivotOrdered. Conditions: the row lies in old memory; the bounds lie in the row; more than 7 places.
-/
import Derived.Test.YtlcipcgeanipfaaSortPart2
import Derived.Sort.WalkD1
import Derived.Sort.LotD4
namespace Go.Proofs.Ytlcipcgeanipfaa
open Go.RowKit Go.Sort

/-- Beside the row a counter, in a block of the call's own. -/
def Cn (w0 : World) (blk off len : Nat) (d : Array Int) (c s : Nat) (W : World) : Prop :=
  St w0 blk off len d W ∧ W.cell? ⟨c, 0, none⟩ = some (.int .i64 (s : Int)) ∧ W.frozen? ⟨c, 0, none⟩ = false ∧ w0.heap.size ≤ c
section
variable {w0 W : World} {blk off len c s : Nat} {d : Array Int}
theorem Cn.drewN (h : Cn w0 blk off len d c s W) (q : Nat) : Cn w0 blk off len d c s (W.drewN q) := ⟨h.1.drewN q, h.2.1, h.2.2.1, h.2.2.2⟩
theorem Cn.bump (h : Cn w0 blk off len d c s W) {t : Nat} {v : Int} (hv : v = (t : Int)) : Cn w0 blk off len d c t (W.setCell ⟨c, 0, none⟩ (.int .i64 v)) := by
  subst hv
  exact ⟨h.1.fresh c 0 _ h.2.2.2, World.cell?_setCell_same _ _ _ h.2.1, by rw [World.frozen?_setCell]; exact h.2.2.1, h.2.2.2⟩
theorem Cn.start (h : St w0 blk off len d W) (T : TypeId) : Cn w0 blk off len d W.heap.size 0 (W.alloc (.cells #[.int .i64 0] T)) :=
  ⟨h.alloc _, by simp, by simp, h.low⟩
end
theorem less_val (x y : Int) (v : Bool) (W : World) (h : ltInt x y = v) : Calls Try.prog 34 #[.int .u64 x, .int .u64 y] W fun e w' => e = .returned (.bool v) ∧ w' = W := by
  rw [← h]
  exact less_any x y W
theorem order2_yes {d : Array Int} {a b s : Nat} (h : ltInt d[b]! d[a]! = true) : order2 ltInt d a b s = (b, a, s + 1) := by unfold order2; rw [if_pos h]
theorem order2_no {d : Array Int} {a b s : Nat} (h : ltInt d[b]! d[a]! = false) : order2 ltInt d a b s = (a, b, s) := by unfold order2; rw [if_neg (by rw [h]; decide)]
set_option maxHeartbeats 1600000 in
set_option maxRecDepth 100000 in
theorem order2_any (w0 : World) (blk off len cap a b c s : Nat) (R : Row64 w0 blk off len) (d : Array Int) (W : World) (hC : Cn w0 blk off len d c s W) (ha : a < len) (hb : b < len) (hs : s ≤ 1000) (x y : Int) (hx : x = (a : Int)) (hy : y = (b : Int)) :
    Calls Try.prog 45 #[.slice (some ⟨blk, off, none⟩) len cap, .int .i64 x, .int .i64 y, .pointer (some ⟨c, 0, none⟩)] W fun e w' =>
      e = .returned (.tuple #[.int .i64 ((order2 ltInt d a b s).1 : Nat), .int .i64 ((order2 ltInt d a b s).2.1 : Nat)]) ∧ Cn w0 blk off len d c (order2 ltInt d a b s).2.2 w' := by
  subst hx hy
  have hsm := R.small
  have HC := Lib.hid hC
  obtain ⟨G, HG, hcw, hfw⟩ := hC.1.names R
  obtain ⟨_, hc0, hf0, _⟩ := hC
  cases hl : ltInt (G b) (G a)
  · have HO := Lib.hid (order2_no (s := s) (show ltInt d[b]! d[a]! = false by rw [← HG.out, ← HG.out]; exact hl))
    have HL := Lib.hid hl; clear hl
    go_enter Try.func45, Try.ntmps45
    go_wp2_with fail
    go_quiet ((go_at_call 34; exact quietHere (less_val _ _ _ _ HL.out) ⟨_, rfl⟩))
    go_wp2_with fail
    go_ret2
    rw [HO.out]
    exact ⟨rfl, HC.out.drewN _⟩
  · have HO := Lib.hid (order2_yes (s := s) (show ltInt d[b]! d[a]! = true by rw [← HG.out, ← HG.out]; exact hl))
    have HL := Lib.hid hl; clear hl
    go_enter Try.func45, Try.ntmps45
    go_wp2_with fail
    go_quiet ((go_at_call 34; exact quietHere (less_val _ _ _ _ HL.out) ⟨_, rfl⟩))
    go_wp2_with fail
    go_ret2
    rw [HO.out]
    exact ⟨rfl, (HC.out.drewN _).bump (t := s + 1) (by omega)⟩
set_option maxHeartbeats 1600000 in
set_option maxRecDepth 100000 in
theorem median_any (w0 : World) (blk off len cap a b m c s : Nat) (R : Row64 w0 blk off len) (d : Array Int) (W : World) (hC : Cn w0 blk off len d c s W) (ha : a < len) (hb : b < len) (hm : m < len) (hs : s ≤ 900) (x y z : Int) (hx : x = (a : Int)) (hy : y = (b : Int)) (hz : z = (m : Int)) :
    Calls Try.prog 43 #[.slice (some ⟨blk, off, none⟩) len cap, .int .i64 x, .int .i64 y, .int .i64 z, .pointer (some ⟨c, 0, none⟩)] W fun e w' =>
      e = .returned (.int .i64 ((median ltInt d a b m s).1 : Nat)) ∧ Cn w0 blk off len d c (median ltInt d a b m s).2 w' := by
  subst hx hy hz
  have HR := Lib.hid R; clear R
  have HC := Lib.hid hC; clear hC
  have l1 := order2_lt d s ha hb
  have s1 := order2_swaps d a b s
  have l2 := order2_lt d (order2 ltInt d a b s).2.2 l1.2 hm
  have s2 := order2_swaps d (order2 ltInt d a b s).2.1 m (order2 ltInt d a b s).2.2
  have HM := Lib.hid (show median ltInt d a b m s = ((order2 ltInt d (order2 ltInt d a b s).1 (order2 ltInt d (order2 ltInt d a b s).2.1 m (order2 ltInt d a b s).2.2).1 (order2 ltInt d (order2 ltInt d a b s).2.1 m (order2 ltInt d a b s).2.2).2.2).2.1, (order2 ltInt d (order2 ltInt d a b s).1 (order2 ltInt d (order2 ltInt d a b s).2.1 m (order2 ltInt d a b s).2.2).1 (order2 ltInt d (order2 ltInt d a b s).2.1 m (order2 ltInt d a b s).2.2).2.2).2.2) from rfl)
  have H1 := Lib.hid (order2_any w0 blk off len cap a b c s HR.out d W HC.out ha hb (by omega) _ _ rfl rfl)
  generalize order2 ltInt d a b s = r1 at *
  generalize hr2 : order2 ltInt d r1.2.1 m r1.2.2 = r2 at *
  have HR2 := Lib.hid hr2; clear hr2
  go_enter Try.func43, Try.ntmps43
  go_wp2_with fail
  refine H1.out.mono ?_
  rintro e w1 ⟨rfl, hc1⟩
  have HC1 := Lib.hid hc1; clear hc1
  go_wp2_with fail
  refine (order2_any w0 blk off len cap r1.2.1 m c r1.2.2 HR.out d _ HC1.out l1.2 hm (by omega) _ _ rfl rfl).mono ?_
  rw [HR2.out]
  rintro e w2 ⟨rfl, hc2⟩
  have HC2 := Lib.hid hc2; clear hc2
  go_wp2_with fail
  refine (order2_any w0 blk off len cap r1.1 r2.1 c r2.2.2 HR.out d _ HC2.out l1.1 l2.1 (by omega) _ _ rfl rfl).mono ?_
  rintro e w3 ⟨rfl, hc3⟩
  have HC3 := Lib.hid hc3; clear hc3
  go_wp2_with fail
  go_ret
  rw [HM.out]
  exact ⟨rfl, HC3.out⟩
set_option maxHeartbeats 1600000 in
set_option maxRecDepth 100000 in
theorem medianAdjacent_any (w0 : World) (blk off len cap a c s : Nat) (R : Row64 w0 blk off len) (d : Array Int) (W : World) (hC : Cn w0 blk off len d c s W) (ha : 1 ≤ a) (hb : a + 1 < len) (hs : s ≤ 900) (x : Int) (hx : x = (a : Int)) :
    Calls Try.prog 42 #[.slice (some ⟨blk, off, none⟩) len cap, .int .i64 x, .pointer (some ⟨c, 0, none⟩)] W fun e w' =>
      e = .returned (.int .i64 ((medianAdjacent ltInt d a s).1 : Nat)) ∧ Cn w0 blk off len d c (medianAdjacent ltInt d a s).2 w' := by
  subst hx
  have hsm := R.small
  have HR := Lib.hid R; clear R
  have HC := Lib.hid hC; clear hC
  go_enter Try.func42, Try.ntmps42
  go_wp2_with fail
  refine (median_any w0 blk off len cap (a - 1) a (a + 1) c s HR.out d _ HC.out (by omega) (by omega) (by omega) hs _ _ _ (by omega) rfl (by omega)).mono ?_
  rintro e w1 ⟨rfl, hc1⟩
  have HC1 := Lib.hid hc1; clear hc1
  go_wp2_with fail
  go_ret
  exact ⟨rfl, HC1.out⟩
theorem median_lt (d : Array Int) {a b c n : Nat} (s : Nat) (ha : a < n) (hb : b < n) (hc : c < n) : (median ltInt d a b c s).1 < n := by
  unfold median
  simp only []
  exact (order2_lt d _ (order2_lt d s ha hb).1 (order2_lt d _ (order2_lt d s ha hb).2 hc).1).2
theorem medianAdjacent_lt (d : Array Int) {a n : Nat} (s : Nat) (ha : a + 1 < n) : (medianAdjacent ltInt d a s).1 < n := median_lt d s (by omega) (by omega) ha
theorem code_inc {s : Nat} (h : s = 0) : hintCode (hintOf s) = 1 := by subst h; rfl
theorem code_dec {s : Nat} (h : s = 12) : hintCode (hintOf s) = 2 := by subst h; rfl
theorem code_unk {s : Nat} (h : s ≠ 0) (h2 : s ≠ 12) : hintCode (hintOf s) = 0 := by unfold hintOf; rw [if_neg h, if_neg h2]; rfl
theorem ret_pair {x y u v : Int} (h : x = u) (k : y = v) : Ending.returned (.tuple #[.int .i64 x, .int .i64 y]) = .returned (.tuple #[.int .i64 u, .int .i64 v]) := by rw [h, k]
set_option maxHeartbeats 1600000 in
set_option maxRecDepth 100000 in
theorem choosePivot_any (w0 : World) (blk off len cap a b : Nat) (R : Row64 w0 blk off len) (d : Array Int) (W : World) (hS : St w0 blk off len d W) (hab : a + 8 ≤ b) (hb : b ≤ len) :
    Calls Try.prog 31 #[.slice (some ⟨blk, off, none⟩) len cap, .int .i64 (a : Int), .int .i64 (b : Int)] W fun e w' =>
      e = .returned (.tuple #[.int .i64 ((choosePivot ltInt d a b).1 : Nat), .int .i64 (hintCode (choosePivot ltInt d a b).2)]) ∧ St w0 blk off len d w' := by
  have hsm := R.small
  have HR := Lib.hid R; clear R
  have HC0 := Lib.hid (Cn.start hS 3)
  clear hS
  obtain ⟨n, hn⟩ : ∃ n, n = b - a := ⟨_, rfl⟩
  obtain ⟨m, hm⟩ : ∃ m, m = n / 4 := ⟨_, rfl⟩
  have m1 : 2 ≤ m := by omega
  have m2 : a + m * 3 + 1 < b := by omega
  have n1 : a + n ≤ b := by omega
  have n2 : b ≤ a + n := by omega
  have n3 : 4 * m ≤ n := by omega
  have n4 : n < 4 * m + 4 := by omega
  have HE := Lib.hid (choosePivot_eq ltInt d a b)
  by_cases h50 : 50 ≤ n
  · have HP := Lib.hid (show rawPivot ltInt d a b = median ltInt d (medianAdjacent ltInt d (a + m * 1) 0).1 (medianAdjacent ltInt d (a + m * 2) (medianAdjacent ltInt d (a + m * 1) 0).2).1 (medianAdjacent ltInt d (a + m * 3) (medianAdjacent ltInt d (a + m * 2) (medianAdjacent ltInt d (a + m * 1) 0).2).2).1 (medianAdjacent ltInt d (a + m * 3) (medianAdjacent ltInt d (a + m * 2) (medianAdjacent ltInt d (a + m * 1) 0).2).2).2 by
      unfold rawPivot; subst hm hn; simp only [show 8 ≤ b - a by omega, h50, if_true])
    clear hn hm
    have q1 := medianAdjacent_count ltInt d (a + m * 1) 0
    have p1 := medianAdjacent_lt d (a := a + m * 1) (n := len) 0 (by omega)
    have q2 := medianAdjacent_count ltInt d (a + m * 2) (medianAdjacent ltInt d (a + m * 1) 0).2
    have p2 := medianAdjacent_lt d (a := a + m * 2) (n := len) (medianAdjacent ltInt d (a + m * 1) 0).2 (by omega)
    have q3 := medianAdjacent_count ltInt d (a + m * 3) (medianAdjacent ltInt d (a + m * 2) (medianAdjacent ltInt d (a + m * 1) 0).2).2
    have p3 := medianAdjacent_lt d (a := a + m * 3) (n := len) (medianAdjacent ltInt d (a + m * 2) (medianAdjacent ltInt d (a + m * 1) 0).2).2 (by omega)
    generalize hr1 : medianAdjacent ltInt d (a + m * 1) 0 = r1 at *
    have HM1 := Lib.hid hr1; clear hr1
    generalize hr2 : medianAdjacent ltInt d (a + m * 2) r1.2 = r2 at *
    have HM2 := Lib.hid hr2; clear hr2
    generalize hr3 : medianAdjacent ltInt d (a + m * 3) r2.2 = r3 at *
    have HM3 := Lib.hid hr3; clear hr3
    go_enter Try.func31, Try.ntmps31
    go_wp2_with fail
    refine (medianAdjacent_any w0 blk off len cap (a + m * 1) W.heap.size 0 HR.out d _ HC0.out (by omega) (by omega) (by omega) _ (by omega)).mono ?_
    rw [HM1.out]
    rintro e w1 ⟨rfl, hc1⟩
    have HC1 := Lib.hid hc1; clear hc1
    go_wp2_with fail
    refine (medianAdjacent_any w0 blk off len cap (a + m * 2) W.heap.size r1.2 HR.out d _ HC1.out (by omega) (by omega) (by omega) _ (by omega)).mono ?_
    rw [HM2.out]
    rintro e w2 ⟨rfl, hc2⟩
    have HC2 := Lib.hid hc2; clear hc2
    go_wp2_with fail
    refine (medianAdjacent_any w0 blk off len cap (a + m * 3) W.heap.size r2.2 HR.out d _ HC2.out (by omega) (by omega) (by omega) _ (by omega)).mono ?_
    rw [HM3.out]
    rintro e w3 ⟨rfl, hc3⟩
    have HC3 := Lib.hid hc3; clear hc3
    go_wp2_with fail
    refine (median_any w0 blk off len cap r1.1 r2.1 r3.1 W.heap.size r3.2 HR.out d _ HC3.out p1 p2 p3 (by omega) _ _ _ rfl rfl rfl).mono ?_
    generalize hrz : median ltInt d r1.1 r2.1 r3.1 r3.2 = rz at *
    clear hrz
    obtain ⟨I, S⟩ := rz
    rintro e w4 ⟨rfl, hc4⟩
    have HCz := Lib.hid hc4
    obtain ⟨_, hcell, _, _⟩ := hc4
    by_cases h0 : S = 0
    · have hz0 : ((S : Int) == 0) = true := by rw [beq_iff_eq]; omega
      have HH := Lib.hid (code_inc h0)
      clear h0
      go_wp2_with fail
      go_ret2
      rw [HE.out, HP.out]
      exact ⟨ret_pair rfl HH.out.symm, HCz.out.1⟩
    · have hz0 : ((S : Int) == 0) = false := by rw [beq_eq_false_iff_ne]; omega
      by_cases h12 : S = 12
      · have hz12 : ((S : Int) == 12) = true := by rw [beq_iff_eq]; omega
        have HH := Lib.hid (code_dec h12)
        clear h0 h12
        go_wp2_with fail
        go_ret2
        rw [HE.out, HP.out]
        exact ⟨ret_pair rfl HH.out.symm, HCz.out.1⟩
      · have hz12 : ((S : Int) == 12) = false := by rw [beq_eq_false_iff_ne]; omega
        have HH := Lib.hid (code_unk h0 h12)
        clear h0 h12
        go_wp2_with fail
        go_ret2
        rw [HE.out, HP.out]
        exact ⟨ret_pair rfl HH.out.symm, HCz.out.1⟩
  · have HP := Lib.hid (show rawPivot ltInt d a b = median ltInt d (a + m * 1) (a + m * 2) (a + m * 3) 0 by
      unfold rawPivot; subst hm hn; simp only [show 8 ≤ b - a by omega, h50, if_true, if_false])
    clear hn hm
    go_enter Try.func31, Try.ntmps31
    go_wp2_with fail
    refine (median_any w0 blk off len cap (a + m * 1) (a + m * 2) (a + m * 3) W.heap.size 0 HR.out d _ HC0.out (by omega) (by omega) (by omega) (by omega) _ _ _ (by omega) (by omega) (by omega)).mono ?_
    generalize hrz : median ltInt d (a + m * 1) (a + m * 2) (a + m * 3) 0 = rz at *
    clear hrz
    obtain ⟨I, S⟩ := rz
    rintro e w4 ⟨rfl, hc4⟩
    have HCz := Lib.hid hc4
    obtain ⟨_, hcell, _, _⟩ := hc4
    by_cases h0 : S = 0
    · have hz0 : ((S : Int) == 0) = true := by rw [beq_iff_eq]; omega
      have HH := Lib.hid (code_inc h0)
      clear h0
      go_wp2_with fail
      go_ret2
      rw [HE.out, HP.out]
      exact ⟨ret_pair rfl HH.out.symm, HCz.out.1⟩
    · have hz0 : ((S : Int) == 0) = false := by rw [beq_eq_false_iff_ne]; omega
      by_cases h12 : S = 12
      · have hz12 : ((S : Int) == 12) = true := by rw [beq_iff_eq]; omega
        have HH := Lib.hid (code_dec h12)
        clear h0 h12
        go_wp2_with fail
        go_ret2
        rw [HE.out, HP.out]
        exact ⟨ret_pair rfl HH.out.symm, HCz.out.1⟩
      · have hz12 : ((S : Int) == 12) = false := by rw [beq_eq_false_iff_ne]; omega
        have HH := Lib.hid (code_unk h0 h12)
        clear h0 h12
        go_wp2_with fail
        go_ret2
        rw [HE.out, HP.out]
        exact ⟨ret_pair rfl HH.out.symm, HCz.out.1⟩
end Go.Proofs.Ytlcipcgeanipfaa
