/-
  slices.Sort at numbers of 64 bits: the walk of breakPatternsOrdered. Conditions: the row lies in old memory; the bounds lie in the row; more than 7 places.
-/
import Derived.Test.YtlcipcgeanipfaaSortPivot
import Derived.Test.YtlcipcgeanipfaaShelf
import Derived.Sort.Walk7
import Derived.Laws.BitsAllLaws
namespace Go.Proofs.Ytlcipcgeanipfaa
open Go.RowKit Go.Sort

theorem xor_call (c X : Nat) (W : World) (hX : X < 18446744073709551616) (hc : W.cell? ⟨c, 0, none⟩ = some (.int .u64 (X : Int))) (hf : W.frozen? ⟨c, 0, none⟩ = false) :
    Calls Try.prog 41 #[.pointer (some ⟨c, 0, none⟩)] W fun e w' => e = .returned (.int .u64 (xorNextN X : Nat)) ∧ w' = (W.setCell ⟨c, 0, none⟩ (.int .u64 (xorNextN X : Nat))).drewN 3 := by
  have h := AnyF.xorshift_Next Try.laysXor48 c 0 X hX W hc hf
  change Calls Try.prog 41 _ _ _ at h
  exact h
theorem pow_call (x : Int) (n : Nat) (hx : x = (n : Int)) (hn : n < 4611686018427387904) (W : World) :
    Calls Try.prog 40 #[.int .i64 x] W fun e w' => e = .returned (.int .u64 ((1 <<< bitsLen n : Nat) : Int)) ∧ w' = W := by
  subst hx
  have h := AnyF.nextPowerOfTwo Try.laysPow47 n hn W
  change Calls Try.prog 40 _ _ _ at h
  exact h
theorem pow_le {n : Nat} (h : 1 ≤ n) : 1 ≤ 1 <<< bitsLen n ∧ 1 <<< bitsLen n ≤ 2 * n := by
  unfold bitsLen
  rw [if_neg (by omega), Nat.shiftLeft_eq, Nat.one_mul, Nat.pow_succ]
  have h1 := Nat.log2_self_le (n := n) (by omega)
  have h2 := Nat.two_pow_pos n.log2
  omega
/-- Beside the row the generator, in a block of the call's own. -/
def Rn (w0 : World) (blk off len : Nat) (d : Array Int) (c : Nat) (r : UInt64) (W : World) : Prop :=
  St w0 blk off len d W ∧ W.cell? ⟨c, 0, none⟩ = some (.int .u64 (r.toNat : Int)) ∧ W.frozen? ⟨c, 0, none⟩ = false ∧ w0.heap.size ≤ c
section
variable {w0 W : World} {blk off len c : Nat} {d : Array Int} {r : UInt64}
theorem Rn.bump (h : Rn w0 blk off len d c r W) (q : Nat) : Rn w0 blk off len d c (xorNext r) ((W.setCell ⟨c, 0, none⟩ (.int .u64 (xorNextN r.toNat : Nat))).drewN q) :=
  ⟨(h.1.fresh c 0 _ h.2.2.2).drewN q, by rw [xorNext_toNat]; exact World.cell?_setCell_same _ _ _ h.2.1, by
    show (W.setCell _ _).frozen? _ = false
    rw [World.frozen?_setCell]; exact h.2.2.1, h.2.2.2⟩
theorem Rn.swap (h : Rn w0 blk off len d c r W) (R : Row64 w0 blk off len) {i j : Nat} (hi : i < len) (hj : j < len) {x y : Int} (hx : x = d[j]!) (hy : y = d[i]!) (q : Nat) :
    Rn w0 blk off len (swp d i j) c r (((W.setCell ⟨blk, off + i, none⟩ (.int .u64 x)).setCell ⟨blk, off + j, none⟩ (.int .u64 y)).drewN q) := by
  have hne : blk ≠ c := fun he => by have := R.old; have := h.2.2.2; omega
  refine ⟨(h.1.swap R hi hj hx hy).drewN q, ?_, ?_, h.2.2.2⟩
  · show (World.setCell _ _ _).cell? _ = _
    rw [World.cell?_setCell_other _ _ _ _ (fun he => hne (by simp only [Addr.mk.injEq] at he; exact he.1)), World.cell?_setCell_other _ _ _ _ (fun he => hne (by simp only [Addr.mk.injEq] at he; exact he.1))]
    exact h.2.1
  · show (World.setCell _ _ _).frozen? _ = false
    rw [World.frozen?_setCell, World.frozen?_setCell]
    exact h.2.2.1
theorem Rn.start (h : St w0 blk off len d W) (T : TypeId) {v : Int} (hv : v = (r.toNat : Int)) : Rn w0 blk off len d W.heap.size r (W.alloc (.cells #[.int .u64 v] T)) := by
  subst hv
  exact ⟨h.alloc _, by simp, by simp, h.low⟩
end
def BpRel (w0 : World) (blk off len a L M i0 c : Nat) (res : Array Int) (g : Nat) (v : Value) (wr : World) : Prop :=
  ∃ (t : Nat) (r : UInt64) (dk : Array Int), v = .int .i64 ((i0 : Int) + (t : Int)) ∧ t ≤ 3 ∧ 3 - t ≤ g ∧ Rn w0 blk off len dk c r wr ∧ bpRest a L M i0 (3 - t) t (r, dk) = res
theorem other_eq {r : UInt64} {M L o : Nat} (ho : (xorNext r).toNat &&& (M - 1) = o) : (if (xorNext r).toNat &&& (M - 1) ≥ L then ((xorNext r).toNat &&& (M - 1)) - L else (xorNext r).toNat &&& (M - 1)) = if o ≥ L then o - L else o := by rw [ho]
theorem andI (X M : Nat) (hX : X < 18446744073709551616) (hM : 1 ≤ M) (hM2 : M < 18446744073709551616) : bits .and .u64 (X : Int) ((M : Int) - 1) = ((X &&& (M - 1) : Nat) : Int) := by
  rw [show ((M : Int) - 1) = ((M - 1 : Nat) : Int) by omega]
  exact bits_and_u64_nat X (M - 1) hX (by omega)
theorem seed_eq (L : Nat) (h : L < 4611686018427387904) : (L : Int) = ((UInt64.ofNat L).toNat : Int) := by
  rw [UInt64.toNat_ofNat']
  omega
set_option maxHeartbeats 1600000 in
set_option maxRecDepth 100000 in
theorem break_any (w0 : World) (blk off len cap a b : Nat) (R : Row64 w0 blk off len) (d : Array Int) (W : World) (hS : St w0 blk off len d W) (hab : a + 8 ≤ b) (hb : b ≤ len) :
    Calls Try.prog 30 #[.slice (some ⟨blk, off, none⟩) len cap, .int .i64 (a : Int), .int .i64 (b : Int)] W fun e w' =>
      e = .returned (.tuple #[]) ∧ St w0 blk off len (breakPatterns d a b) w' := by
  have hsm := R.small
  have HR := Lib.hid R; clear R
  obtain ⟨L, hL⟩ : ∃ L, b = a + L := ⟨b - a, by omega⟩
  have n1 : a + L ≤ b := by omega
  have n2 : b ≤ a + L := by omega
  have hL8 : 8 ≤ L := by omega
  have HB := Lib.hid (show breakPatterns d a b = bpRest a L (1 <<< bitsLen L) (a + L / 4 * 2 - 1) 3 0 (UInt64.ofNat L, d) by rw [hL]; exact breakPatterns_eq d a L hL8)
  clear hL
  have hM := pow_le (n := L) (by omega)
  have HC0 := Lib.hid (Rn.start (r := UInt64.ofNat L) (v := (b : Int) - (a : Int)) hS 56 (by have := seed_eq L (by omega); omega))
  clear hS
  obtain ⟨i0, hi0⟩ : ∃ i0, i0 = a + L / 4 * 2 - 1 := ⟨_, rfl⟩
  have hi1 : i0 + 1 ≤ a + L / 4 * 2 := by omega
  have hi2 : a + L / 4 * 2 ≤ i0 + 1 := by omega
  rw [← hi0] at HB
  clear hi0
  go_enter Try.func30, Try.ntmps30
  go_wp2_with fail
  refine (pow_call _ L (by omega) (by omega) _).mono ?_
  generalize 1 <<< bitsLen L = M at *
  rintro e w1 ⟨rfl, rfl⟩
  go_wp2_with fail
  generalize W.heap.size = c at *
  go_loopg [9] 3 (fun g v wr => BpRel w0 blk off len a L M i0 c (breakPatterns d a b) g v wr)
  case atStart => exact ⟨0, UInt64.ofNat L, d, by congr 1; omega, by omega, Nat.le_refl _, HC0.out, HB.out.symm⟩
  case round =>
    clear HC0
    obtain ⟨t, r, dk, rfl, ht, hg, hr, ho⟩ := hrel
    have Ho := Lib.hid ho; clear ho
    have HRn := Lib.hid hr
    obtain ⟨_, hcell, hfree, _⟩ := hr
    have hr64 : r.toNat < 18446744073709551616 := r.toNat_lt
    by_cases ht3 : t < 3
    · have htz : decide ((i0 : Int) + (t : Int) ≤ (a : Int) + ((b : Int) - (a : Int)) / 4 * 2 + 1) = true := by simp; omega
      have HX := Lib.hid (xorNext_toNat r)
      have hx64 := xorNextN_lt r.toNat hr64
      have HN := Lib.hid (HRn.out.bump 3)
      go_wp2_with fail
      refine (xor_call c r.toNat _ hr64 hcell hfree).mono ?_
      rintro e w1 ⟨rfl, rfl⟩
      clear hcell hfree
      generalize hX : xorNextN r.toNat = X at *
      have HXX := Lib.hid hX; clear hX
      have ha := andI X M hx64 (by omega) (by omega)
      have hal : X &&& (M - 1) ≤ M - 1 := Nat.and_le_right
      have HO := Lib.hid (show (xorNext r).toNat &&& (M - 1) = X &&& (M - 1) by rw [HX.out])
      generalize X &&& (M - 1) = o at *
      generalize hW : ((wr.setCell ⟨c, 0, none⟩ (.int .u64 (X : Nat))).drewN 3) = W1 at *
      clear hW
      obtain ⟨G, HG, hcw, hfw⟩ := HN.out.1.names HR.out
      by_cases hoL : L ≤ o
      · have hoz : decide ((b : Int) - (a : Int) ≤ (o : Int)) = true := by simp; omega
        obtain ⟨u2, hu2⟩ := HN.out.1.second HR.out (i := i0 + t) (j := a + (o - (b - a))) (by omega) (by omega) (.int .u64 (G (a + (o - (b - a)))))
        have HE := Lib.hid (fun q => HN.out.swap HR.out (i := i0 + t) (j := a + (o - (b - a))) (by omega) (by omega) (HG.out _) (HG.out _) q)
        have HT := Lib.hid (bp_step (α := Int) a L M i0 t r dk (o - (b - a)) ht3 (by rw [other_eq HO.out, if_pos hoL]; omega))
        clear HG
        go_wp2_with fail
        go_region
        all_goals go_wp2_with fail
        go_roundg (3 - (t + 1))
        case measure => omega
        case rel => exact ⟨t + 1, xorNext r, _, by go_num, by omega, Nat.le_refl _, HE.out 1, by rw [← HT.out]; exact Ho.out⟩
      · have hoz : decide ((b : Int) - (a : Int) ≤ (o : Int)) = false := by simp; omega
        obtain ⟨u2, hu2⟩ := HN.out.1.second HR.out (i := i0 + t) (j := a + o) (by omega) (by omega) (.int .u64 (G (a + o)))
        have HE := Lib.hid (fun q => HN.out.swap HR.out (i := i0 + t) (j := a + o) (by omega) (by omega) (HG.out _) (HG.out _) q)
        have HT := Lib.hid (bp_step (α := Int) a L M i0 t r dk o ht3 (by rw [other_eq HO.out, if_neg hoL]))
        clear HG
        go_wp2_with fail
        go_region
        all_goals go_wp2_with fail
        go_roundg (3 - (t + 1))
        case measure => omega
        case rel => exact ⟨t + 1, xorNext r, _, by go_num, by omega, Nat.le_refl _, HE.out 1, by rw [← HT.out]; exact Ho.out⟩
    · have htz : decide ((i0 : Int) + (t : Int) ≤ (a : Int) + ((b : Int) - (a : Int)) / 4 * 2 + 1) = false := by simp; omega
      obtain rfl : t = 3 := by omega
      go_wp2_with fail
      go_end0
      exact ⟨rfl, by rw [← Ho.out]; exact HRn.out.1⟩
end Go.Proofs.Ytlcipcgeanipfaa
