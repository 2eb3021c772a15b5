/-
  Outcomes compared: slices.Equal, the reference's Ints and begins, Same and Refines of both sides; the walk of EvaluateRefines; an outcome as a law's argument. No condition.
-/
import Derived.Test.YtjmbllbnlnjanaaBase
import Derived.Test.YtjmbllbnlnjanaaRows
import Derived.Test.YtjmbllbnlnjanaaWords
import Derived.Deep.QuietTactic
import Derived.BigQuiet
import Derived.Test.YtjmbllbnlnjanaaRpNow
import Derived.Test.YtjmbllbnlnjanaaPsNext
import Derived.Deep.RegionHeld3
import Derived.Lib.MinMax
import Derived.Test.YtjmbllbnlnjanaaEvLaw
import Derived.Test.YtjmbllbnlnjanaaRTokA
import Derived.Test.YtjmbllbnlnjanaaEvAwk
import Derived.Test.YtjmbllbnlnjanaaLaw
import Derived.Deep.CutRange
import Derived.Deep.CutBlock
namespace Go.Proofs.Ytjmbllbnlnjanaa
open Go.RowKit

def iv (x : Int) : Value := .int .i64 x
def BoolD (b : Bool) (w : World) (e : Ending) (w' : World) : Prop := e = .returned (.bool b) ∧ ∃ q, w' = w.drewN q
theorem drewN_two (w : World) (p q : Nat) : (w.drewN p).drewN q = w.drewN (p + q) := by simp [World.drewN, Nat.add_assoc]
theorem boolD_at {b c : Bool} {w w' : World} {q : Nat} (h : b = c) (hw : w' = w.drewN q) : BoolD b w (.returned (.bool c)) w' := ⟨by rw [h], q, hw⟩
/-- So far the lists are the same. -/
def EqR (xs ys : List Int) (n : Nat) (w : World) (i : Value) (wr : World) : Prop := ∃ k : Nat, k ≤ n ∧ i = .int .i64 (k : Int) ∧ Hid (xs.take k = ys.take k) ∧ ∃ q, wr = w.drewN q
theorem beq_len {xs ys : List Int} (h : xs.length ≠ ys.length) : (xs == ys) = false := by
  rw [beq_eq_false_iff_ne]
  intro e
  exact h (by rw [e])
theorem beq_at {xs ys : List Int} {k : Nat} (hx : k < xs.length) (hy : k < ys.length) (h : ¬ xs[k] = ys[k]) : (xs == ys) = false := by
  rw [beq_eq_false_iff_ne]
  intro e
  subst e
  exact h rfl
theorem take_at {xs ys : List Int} {k : Nat} (hx : k < xs.length) (hy : k < ys.length) (h : xs.take k = ys.take k) (he : xs[k] = ys[k]) : xs.take (k + 1) = ys.take (k + 1) := by
  rw [List.take_succ_eq_append_getElem hx, List.take_succ_eq_append_getElem hy, h, he]
theorem beq_all {xs ys : List Int} {n : Nat} (hx : xs.length = n) (hy : ys.length = n) (h : xs.take n = ys.take n) : (xs == ys) = true := by
  rw [List.take_of_length_le (by omega), List.take_of_length_le (by omega)] at h
  rw [h]
  simp
set_option maxRecDepth 10000 in
set_option maxHeartbeats 1000000 in
theorem equal_i {b : Bool} (xs ys : List Int) (A B : Option Addr) (n m c d : Nat) (w : World) (hn : xs.length = n) (hm : ys.length = m) (hx : Rd w A (xs.map iv)) (hy : Rd w B (ys.map iv)) (h1 : n ≤ 1000000) (h2 : m ≤ 1000000) (hb : b = (xs == ys)) :
    Calls Try.prog 21 #[.slice A n c, .slice B m d] w (BoolD b w) := by
  have Hn := Lib.hid hn
  have Hm := Lib.hid hm
  have Hx := Lib.hid hx
  have Hy := Lib.hid hy
  have Hb := Lib.hid hb
  by_cases hnm : n = m
  · subst hnm
    clear hn hm hx hy hb
    go_enter Try.func21, Try.ntmps21
    go_wp2_with fail
    go_loopw [13] (fun i wr => EqR xs ys n w i wr) (fun i _ => n - (intOf i).toNat)
    case atStart => exact ⟨0, Nat.zero_le _, rfl, Lib.hid rfl, 0, rfl⟩
    case round =>
      obtain ⟨k, hk, rfl, HK, q, rfl⟩ := hrel
      by_cases hlt : k < n
      · have hkx : k < xs.length := by rw [Hn.out]; exact hlt
        have hky : k < ys.length := by rw [Hm.out]; exact hlt
        obtain ⟨ad, rfl, hc⟩ := Hx.out.at_ (k := k) (by simp; exact hkx)
        obtain ⟨ae, rfl, he⟩ := Hy.out.at_ (k := k) (by simp; exact hky)
        simp only [List.getElem_map, iv] at hc he
        by_cases heq : xs[k] = ys[k]
        · have HK2 := Lib.hid (take_at hkx hky HK.out heq)
          rw [← heq] at he
          have hne : (xs[k] != xs[k]) = false := by simp
          generalize xs[k] = x at hc he hne
          clear heq hkx hky
          go_wp2_with fail
          go_quiet (fail)
          go_wp2_with fail
          exact ⟨⟨k + 1, by omega, by simp, HK2, _, rfl⟩, by simp [intOf]; omega⟩
        · have HB : Hid (b = false) := Lib.hid (by rw [Hb.out]; exact beq_at hkx hky heq)
          have hne : (xs[k] != ys[k]) = true := by simp [heq]
          generalize xs[k] = x at hc hne
          generalize ys[k] = y at he hne
          clear heq hkx hky
          go_wp2_with fail
          go_quiet (fail)
          go_wp2_with fail
          go_ret
          exact boolD_at HB.out (drewN_two w q nq)
      · have hkn : k = n := by omega
        subst hkn
        have HB : Hid (b = true) := Lib.hid (by rw [Hb.out]; exact beq_all Hn.out Hm.out HK.out)
        go_wp2_with fail
        go_ret
        exact boolD_at HB.out rfl
  · have HB : Hid (b = false) := Lib.hid (by rw [hb]; exact beq_len (by rw [hn, hm]; exact hnm))
    have hne : ((n : Int) != (m : Int)) = true := by simp; omega
    clear hn hm hx hy hb
    go_enter Try.func21, Try.ntmps21
    go_wp2_with fail
    go_ret
    exact boolD_at (q := 0) HB.out rfl
set_option maxRecDepth 10000 in
set_option maxHeartbeats 1000000 in
theorem ints_i {b : Bool} (xs ys : List Int) (A B : Option Addr) (n m c d : Nat) (w : World) (hn : xs.length = n) (hm : ys.length = m) (hx : Rd w A (xs.map iv)) (hy : Rd w B (ys.map iv)) (h1 : n ≤ 1000000) (h2 : m ≤ 1000000) (hb : b = (xs == ys)) :
    Calls Try.prog 22 #[.slice A n c, .slice B m d] w (BoolD b w) := by
  have Hn := Lib.hid hn
  have Hm := Lib.hid hm
  have Hx := Lib.hid hx
  have Hy := Lib.hid hy
  have Hb := Lib.hid hb
  by_cases hnm : n = m
  · subst hnm
    clear hn hm hx hy hb
    go_enter Try.func22, Try.ntmps22
    go_wp2_with fail
    go_loopw [5] (fun i wr => EqR xs ys n w i wr) (fun i _ => n - (intOf i).toNat)
    case atStart => exact ⟨0, Nat.zero_le _, rfl, Lib.hid rfl, 0, rfl⟩
    case round =>
      obtain ⟨k, hk, rfl, HK, q, rfl⟩ := hrel
      by_cases hlt : k < n
      · have hkx : k < xs.length := by rw [Hn.out]; exact hlt
        have hky : k < ys.length := by rw [Hm.out]; exact hlt
        obtain ⟨ad, rfl, hc⟩ := Hx.out.at_ (k := k) (by simp; exact hkx)
        obtain ⟨ae, rfl, he⟩ := Hy.out.at_ (k := k) (by simp; exact hky)
        simp only [List.getElem_map, iv] at hc he
        by_cases heq : xs[k] = ys[k]
        · have HK2 := Lib.hid (take_at hkx hky HK.out heq)
          rw [← heq] at he
          have hne : (xs[k] != xs[k]) = false := by simp
          generalize xs[k] = x at hc he hne
          clear heq hkx hky
          go_wp2_with fail
          go_quiet (fail)
          go_wp2_with fail
          exact ⟨⟨k + 1, by omega, by simp, HK2, _, rfl⟩, by simp [intOf]; omega⟩
        · have HB : Hid (b = false) := Lib.hid (by rw [Hb.out]; exact beq_at hkx hky heq)
          have hne : (xs[k] != ys[k]) = true := by simp [heq]
          generalize xs[k] = x at hc hne
          generalize ys[k] = y at he hne
          clear heq hkx hky
          go_wp2_with fail
          go_quiet (fail)
          go_wp2_with fail
          go_ret
          exact boolD_at HB.out (drewN_two w q nq)
      · have hkn : k = n := by omega
        subst hkn
        have HB : Hid (b = true) := Lib.hid (by rw [Hb.out]; exact beq_all Hn.out Hm.out HK.out)
        go_wp2_with fail
        go_ret
        exact boolD_at HB.out rfl
  · have HB : Hid (b = false) := Lib.hid (by rw [hb]; exact beq_len (by rw [hn, hm]; exact hnm))
    have hne : ((n : Int) != (m : Int)) = true := by simp; omega
    clear hn hm hx hy hb
    go_enter Try.func22, Try.ntmps22
    go_wp2_with fail
    go_ret
    exact boolD_at (q := 0) HB.out rfl
theorem take_n (xs : List Int) {n : Nat} (h : xs.length = n) : xs.take n = xs := List.take_of_length_le (by omega)
theorem Rd.takes {w : World} {A : Option Addr} {ys : List Int} (h : Rd w A (ys.map iv)) (n : Nat) : Rd w A ((ys.take n).map iv) := by
  rw [List.map_take]
  exact h.take n
set_option maxRecDepth 10000 in
set_option maxHeartbeats 1000000 in
theorem begins_i {b : Bool} (xs ys : List Int) (A B : Option Addr) (n m c d : Nat) (w : World) (hn : xs.length = n) (hm : ys.length = m) (hx : Rd w A (xs.map iv)) (hy : Rd w B (ys.map iv)) (h1 : n ≤ 1000000) (hmd : m ≤ d) (hb : b = (decide (n ≤ m) && (xs == ys.take n))) :
    Calls Try.prog 23 #[.slice A n c, .slice B m d] w (BoolD b w) := by
  by_cases hnm : n ≤ m
  · have HI : Hid (Calls Try.prog 22 #[.slice A n c, .slice B n d] w (BoolD b w)) := Lib.hid (ints_i xs (ys.take n) A B n n c d w hn (by simp; omega) hx (hy.takes n) h1 h1 (by rw [hb]; simp [hnm]))
    have hle : decide ((n : Int) ≤ (m : Int)) = true := by simp; omega
    clear hx hy hb hn hm
    go_enter Try.func23, Try.ntmps23
    go_wp2_with fail
    refine HI.out.mono ?_
    rintro e w1 ⟨rfl, q, rfl⟩
    go_wp2_with fail
    go_ret
    exact ⟨rfl, q, rfl⟩
  · have HB : Hid (b = false) := Lib.hid (by rw [hb]; simp; omega)
    have hle : decide ((n : Int) ≤ (m : Int)) = false := by simp; omega
    clear hx hy hb hn hm
    go_enter Try.func23, Try.ntmps23
    go_wp2_with fail
    go_ret
    exact boolD_at (q := 0) HB.out rfl
end Go.Proofs.Ytjmbllbnlnjanaa
namespace Go.Proofs.Ytjmbllbnlnjanaa
open Go.RowKit

def BoolW (b : Bool) (w : World) (e : Ending) (w' : World) : Prop := e = .returned (.bool b) ∧ Below w.heap.size w w'
theorem below_q {B : Nat} {a w : World} (h : Below B a w) (q : Nat) : Below B a (w.drewN q) := ⟨h.os, h.tape, h.output, h.size, h.block⟩
theorem BoolD.wide {b : Bool} {w w' : World} {e : Ending} (h : BoolD b w e w') : BoolW b w e w' := by
  obtain ⟨h1, q, rfl⟩ := h
  exact ⟨h1, below_q (Below.refl _ w) q⟩
theorem boolW_at {b c : Bool} {w w' : World} (h : b = c) (hw : Below w.heap.size w w') : BoolW b w (.returned (.bool c)) w' := ⟨by rw [h], hw⟩
def sameP (k v t : Int) (xs : List Int) (k' v' t' : Int) (ys : List Int) : Bool := k == k' && v == v' && t == t' && xs == ys
def refP (k v t : Int) (xs : List Int) (k' v' t' : Int) (ys : List Int) : Bool :=
  if k = 3 then xs.take (min xs.length ys.length) == ys.take (min xs.length ys.length) else sameP k v t xs k' v' t' ys
theorem neb {a b : Int} (h : ¬ a = b) : (a == b) = false := by simp [h]
section
variable {b : Bool} {w : World} {xs ys : List Int} {A B : Option Addr} {n m c d : Nat}
set_option maxRecDepth 10000 in
set_option maxHeartbeats 1000000 in
theorem same_e (k v t k' v' t' : Int) (w : World) (hn : xs.length = n) (hm : ys.length = m) (hx : Rd w A (xs.map iv)) (hy : Rd w B (ys.map iv)) (h1 : n ≤ 1000000) (h2 : m ≤ 1000000) (hb : b = sameP k v t xs k' v' t' ys) :
    Calls Try.prog 12 #[.agg #[.int .i64 k, .int .i64 v, .int .i64 t, .slice A n c], .agg #[.int .i64 k', .int .i64 v', .int .i64 t', .slice B m d]] w (BoolW b w) := by
  have HE : Hid (∀ b, b = (xs == ys) → ∀ o1 o2, Calls Try.prog 21 #[.slice A n c, .slice B m d] ((w.alloc o1).alloc o2) (BoolD b ((w.alloc o1).alloc o2))) := Lib.hid (fun b hb o1 o2 => equal_i xs ys A B n m c d _ hn hm ((hx.alloc o1).alloc o2) ((hy.alloc o1).alloc o2) h1 h2 hb)
  have HB : Hid (∀ o1 o2 q, Below w.heap.size w (((w.alloc o1).alloc o2).drewN q)) := Lib.hid (fun o1 o2 q => below_q (((Below.refl _ w).alloc (Nat.le_refl _) o1).alloc (by simp) o2) q)
  unfold sameP at hb
  clear hn hm hx hy
  by_cases e1 : k = k'
  · subst e1
    by_cases e2 : v = v'
    · subst e2
      by_cases e3 : t = t'
      · subst e3
        have HE2 := Lib.hid (HE.out b (by rw [hb]; simp))
        clear hb
        go_enter Try.func12, Try.ntmps12
        go_wp2_with fail
        refine (HE2.out _ _).mono ?_
        rintro e w1 ⟨rfl, q, rfl⟩
        go_wp2_with fail
        go_ret
        exact ⟨rfl, HB.out _ _ _⟩
      · have e3 := neb e3
        have Hb : Hid (b = false) := Lib.hid (by rw [hb]; simp [e3])
        clear hb
        go_enter Try.func12, Try.ntmps12
        go_wp2_with fail
        go_ret
        exact boolW_at Hb.out (HB.out _ _ 0)
    · have e2 := neb e2
      have Hb : Hid (b = false) := Lib.hid (by rw [hb]; simp [e2])
      clear hb
      go_enter Try.func12, Try.ntmps12
      go_wp2_with fail
      go_ret
      exact boolW_at Hb.out (HB.out _ _ 0)
  · have e1 := neb e1
    have Hb : Hid (b = false) := Lib.hid (by rw [hb]; simp [e1])
    clear hb
    go_enter Try.func12, Try.ntmps12
    go_wp2_with fail
    go_ret
    exact boolW_at Hb.out (HB.out _ _ 0)
set_option maxRecDepth 10000 in
set_option maxHeartbeats 1000000 in
theorem same_7 (k v t k' v' t' : Int) (w : World) (hn : xs.length = n) (hm : ys.length = m) (hx : Rd w A (xs.map iv)) (hy : Rd w B (ys.map iv)) (h1 : n ≤ 1000000) (h2 : m ≤ 1000000) (hb : b = sameP k v t xs k' v' t' ys) :
    Calls Try.prog 13 #[.agg #[.int .i64 k, .int .i64 v, .int .i64 t, .slice A n c], .agg #[.int .i64 k', .int .i64 v', .int .i64 t', .slice B m d]] w (BoolW b w) := by
  have HE : Hid (∀ b, b = (xs == ys) → ∀ o1 o2, Calls Try.prog 22 #[.slice A n c, .slice B m d] ((w.alloc o1).alloc o2) (BoolD b ((w.alloc o1).alloc o2))) := Lib.hid (fun b hb o1 o2 => ints_i xs ys A B n m c d _ hn hm ((hx.alloc o1).alloc o2) ((hy.alloc o1).alloc o2) h1 h2 hb)
  have HB : Hid (∀ o1 o2 q, Below w.heap.size w (((w.alloc o1).alloc o2).drewN q)) := Lib.hid (fun o1 o2 q => below_q (((Below.refl _ w).alloc (Nat.le_refl _) o1).alloc (by simp) o2) q)
  unfold sameP at hb
  clear hn hm hx hy
  by_cases e1 : k = k'
  · subst e1
    by_cases e2 : v = v'
    · subst e2
      by_cases e3 : t = t'
      · subst e3
        have HE2 := Lib.hid (HE.out b (by rw [hb]; simp))
        clear hb
        go_enter Try.func13, Try.ntmps13
        go_wp2_with fail
        refine (HE2.out _ _).mono ?_
        rintro e w1 ⟨rfl, q, rfl⟩
        go_wp2_with fail
        go_ret
        exact ⟨rfl, HB.out _ _ _⟩
      · have e3 := neb e3
        have Hb : Hid (b = false) := Lib.hid (by rw [hb]; simp [e3])
        clear hb
        go_enter Try.func13, Try.ntmps13
        go_wp2_with fail
        go_ret
        exact boolW_at Hb.out (HB.out _ _ 0)
    · have e2 := neb e2
      have Hb : Hid (b = false) := Lib.hid (by rw [hb]; simp [e2])
      clear hb
      go_enter Try.func13, Try.ntmps13
      go_wp2_with fail
      go_ret
      exact boolW_at Hb.out (HB.out _ _ 0)
  · have e1 := neb e1
    have Hb : Hid (b = false) := Lib.hid (by rw [hb]; simp [e1])
    clear hb
    go_enter Try.func13, Try.ntmps13
    go_wp2_with fail
    go_ret
    exact boolW_at Hb.out (HB.out _ _ 0)
theorem beq_turn (a b : List Int) : (a == b) = (b == a) := by
  by_cases h : a = b
  · rw [h]
  · have h1 : (a == b) = false := by simp [h]
    have h2 : (b == a) = false := by
      rw [beq_eq_false_iff_ne]
      exact fun e => h e.symm
    rw [h1, h2]
theorem refP_begins {k v t k' v' t' : Int} (hk : k = 3) : refP k v t xs k' v' t' ys = ((decide (xs.length ≤ ys.length) && xs == ys.take xs.length) || (decide (ys.length ≤ xs.length) && ys == xs.take ys.length)) := by
  unfold refP
  rw [if_pos hk]
  rcases Nat.lt_trichotomy xs.length ys.length with h | h | h
  · rw [Nat.min_eq_left (by omega), take_n xs rfl]
    simp [show xs.length ≤ ys.length by omega, show ¬ ys.length ≤ xs.length by omega]
  · rw [h, Nat.min_self, take_n xs h, take_n ys rfl, beq_turn ys xs]
    simp
  · rw [Nat.min_eq_right (by omega), take_n ys rfl]
    rw [beq_turn ys]
    simp [show ys.length ≤ xs.length by omega, show ¬ xs.length ≤ ys.length by omega]
set_option maxRecDepth 10000 in
set_option maxHeartbeats 1000000 in
theorem refines_7 (k v t k' v' t' : Int) (w : World) (hn : xs.length = n) (hm : ys.length = m) (hx : Rd w A (xs.map iv)) (hy : Rd w B (ys.map iv)) (h1 : n ≤ 1000000) (h2 : m ≤ 1000000) (hc : n ≤ c) (hd : m ≤ d) (hb : b = refP k v t xs k' v' t' ys) :
    Calls Try.prog 15 #[.agg #[.int .i64 k, .int .i64 v, .int .i64 t, .slice A n c], .agg #[.int .i64 k', .int .i64 v', .int .i64 t', .slice B m d]] w (BoolW b w) := by
  by_cases e1 : k = 3
  · rw [refP_begins e1, hn, hm] at hb
    subst e1
    obtain ⟨b1, hb1⟩ : ∃ b1, b1 = (decide (n ≤ m) && xs == ys.take n) := ⟨_, rfl⟩
    obtain ⟨b2, hb2⟩ : ∃ b2, b2 = (decide (m ≤ n) && ys == xs.take m) := ⟨_, rfl⟩
    rw [← hb1, ← hb2] at hb
    have H1 : Hid (∀ o1 o2, Calls Try.prog 23 #[.slice A n c, .slice B m d] ((w.alloc o1).alloc o2) (BoolD b1 ((w.alloc o1).alloc o2))) := Lib.hid (fun o1 o2 => begins_i xs ys A B n m c d _ hn hm ((hx.alloc o1).alloc o2) ((hy.alloc o1).alloc o2) h1 hd hb1)
    have H2 : Hid (∀ o1 o2 q, Calls Try.prog 23 #[.slice B m d, .slice A n c] (((w.alloc o1).alloc o2).drewN q) (BoolD b2 (((w.alloc o1).alloc o2).drewN q))) := Lib.hid (fun o1 o2 q => begins_i ys xs B A m n d c _ hm hn (((hy.alloc o1).alloc o2).drewN q) (((hx.alloc o1).alloc o2).drewN q) h2 hc hb2)
    have HB : Hid (∀ o1 o2 q, Below w.heap.size w (((w.alloc o1).alloc o2).drewN q)) := Lib.hid (fun o1 o2 q => below_q (((Below.refl _ w).alloc (Nat.le_refl _) o1).alloc (by simp) o2) q)
    have Hb := Lib.hid hb
    clear hb hb1 hb2 hx hy hn hm
    go_enter Try.func15, Try.ntmps15
    go_wp2_with fail
    refine (H1.out _ _).mono ?_
    rintro e w1 ⟨rfl, q, rfl⟩
    cases b1 with
    | true =>
      go_wp2_with fail
      go_ret
      exact boolW_at (by rw [Hb.out]; rfl) (HB.out _ _ _)
    | false =>
      go_wp2_with fail
      refine (H2.out _ _ _).mono ?_
      rintro e w1 ⟨rfl, q2, rfl⟩
      go_wp2_with fail
      go_ret
      exact boolW_at (by rw [Hb.out]; rfl) (by first | exact HB.out _ _ _ | exact below_q (HB.out _ _ _) _)
  · have HS : Hid (∀ o1 o2, Calls Try.prog 13 #[.agg #[.int .i64 k, .int .i64 v, .int .i64 t, .slice A n c], .agg #[.int .i64 k', .int .i64 v', .int .i64 t', .slice B m d]] ((w.alloc o1).alloc o2) (BoolW b ((w.alloc o1).alloc o2))) := Lib.hid (fun o1 o2 => same_7 k v t k' v' t' _ hn hm ((hx.alloc o1).alloc o2) ((hy.alloc o1).alloc o2) h1 h2 (by rw [hb]; unfold refP; rw [if_neg e1]))
    have e1 := neb e1
    clear hb hx hy hn hm
    go_enter Try.func15, Try.ntmps15
    go_wp2_with fail
    refine (HS.out _ _).mono ?_
    rintro e w1 ⟨rfl, hb1⟩
    have HB := Lib.hid (below_next (((Below.refl _ w).alloc (Nat.le_refl _) _).alloc (by simp) _) hb1)
    clear hb1
    go_wp2_with fail
    go_ret
    exact ⟨rfl, HB.out⟩
set_option maxRecDepth 10000 in
set_option maxHeartbeats 1000000 in
theorem refines_e (k v t k' v' t' : Int) (w : World) (hn : xs.length = n) (hm : ys.length = m) (hx : Rd w A (xs.map iv)) (hy : Rd w B (ys.map iv)) (h1 : n ≤ 1000000) (h2 : m ≤ 1000000) (hc : n ≤ c) (hd : m ≤ d) (hb : b = refP k v t xs k' v' t' ys) :
    Calls Try.prog 14 #[.agg #[.int .i64 k, .int .i64 v, .int .i64 t, .slice A n c], .agg #[.int .i64 k', .int .i64 v', .int .i64 t', .slice B m d]] w (BoolW b w) := by
  by_cases e1 : k = 3
  · subst e1
    obtain ⟨j, hj⟩ : ∃ j, j = min n m := ⟨_, rfl⟩
    have hmin : min (n : Int) (m : Int) = (j : Int) := by omega
    have hjn : j ≤ n := by omega
    have hjm : j ≤ m := by omega
    have g1 : (0 : Int) ≤ (j : Int) := by omega
    have g2 : (j : Int) ≤ (c : Int) := by omega
    have g3 : (j : Int) ≤ (d : Int) := by omega
    have HE : Hid (∀ W, Below w.heap.size w W → Calls Try.prog 21 #[.slice A j c, .slice B j d] W (BoolW b W)) := Lib.hid (fun W hW => (equal_i (xs.take j) (ys.take j) A B j j c d W (by simp; omega) (by simp; omega) ((hx.below hW).takes j) ((hy.below hW).takes j) (by omega) (by omega) (by rw [hb]; unfold refP; rw [if_pos rfl, hn, hm, ← hj])).mono (fun _ _ h => h.wide))
    have hb2 := ((Below.refl _ w).alloc (Nat.le_refl _) (.cells #[.int .i64 3, .int .i64 v, .int .i64 t, .slice A n c] 29)).alloc (by simp) (.cells #[.int .i64 k', .int .i64 v', .int .i64 t', .slice B m d] 29)
    have r2 := alloc2_old w (.cells #[.int .i64 3, .int .i64 v, .int .i64 t, .slice A n c] 29) (.cells #[.int .i64 k', .int .i64 v', .int .i64 t', .slice B m d] 29)
    have r3 := alloc2_new w (.cells #[.int .i64 3, .int .i64 v, .int .i64 t, .slice A n c] 29) (.cells #[.int .i64 k', .int .i64 v', .int .i64 t', .slice B m d] 29)
    have hS0 : ((w.alloc (.cells #[.int .i64 3, .int .i64 v, .int .i64 t, .slice A n c] 29)).alloc (.cells #[.int .i64 k', .int .i64 v', .int .i64 t', .slice B m d] 29)).drew.cell? ⟨w.heap.size, 3, none⟩ = some (.slice A n c) ∧ ((w.alloc (.cells #[.int .i64 3, .int .i64 v, .int .i64 t, .slice A n c] 29)).alloc (.cells #[.int .i64 k', .int .i64 v', .int .i64 t', .slice B m d] 29)).drew.cell? ⟨w.heap.size + 1, 3, none⟩ = some (.slice B m d) ∧ Below w.heap.size w ((w.alloc (.cells #[.int .i64 3, .int .i64 v, .int .i64 t, .slice A n c] 29)).alloc (.cells #[.int .i64 k', .int .i64 v', .int .i64 t', .slice B m d] 29)).drew :=
      ⟨cell_of_row _ _ 3 _ _ _ r2, cell_of_row _ _ 3 _ _ _ r3, hb2.os, hb2.tape, hb2.output, hb2.size, hb2.block⟩
    clear hb hx hy hn hm hj hb2 r2 r3
    go_enter Try.func14, Try.ntmps14
    go_wp2_with fail
    go_region_held3 (fun w' => w'.cell? ⟨w.heap.size, 3, none⟩ = some (.slice A n c) ∧ w'.cell? ⟨w.heap.size + 1, 3, none⟩ = some (.slice B m d) ∧ Below w.heap.size w w')
      (first | exact hS0 | (go_split_ands; exact ⟨hold hb (by assumption), hold hb (by assumption), below_next (by assumption) hb⟩))
      (first | (go_at_call 21; (with_reducible refine (HE.out _ ?_).mono ?_); (go_split_ands; assumption); rintro e w' ⟨rfl, hb⟩))
    rename_i hH
    have HBe := Lib.hid hH.2.2
    clear hH hS0
    go_wp2_with fail
    go_ret
    exact ⟨rfl, HBe.out⟩
  · have HS : Hid (∀ o1 o2, Calls Try.prog 12 #[.agg #[.int .i64 k, .int .i64 v, .int .i64 t, .slice A n c], .agg #[.int .i64 k', .int .i64 v', .int .i64 t', .slice B m d]] ((w.alloc o1).alloc o2) (BoolW b ((w.alloc o1).alloc o2))) := Lib.hid (fun o1 o2 => same_e k v t k' v' t' _ hn hm ((hx.alloc o1).alloc o2) ((hy.alloc o1).alloc o2) h1 h2 (by rw [hb]; unfold refP; rw [if_neg e1]))
    have e1 := neb e1
    clear hb hx hy hn hm
    go_enter Try.func14, Try.ntmps14
    go_wp2_with fail
    refine (HS.out _ _).mono ?_
    rintro e w1 ⟨rfl, hb1⟩
    have HB := Lib.hid (below_next (((Below.refl _ w).alloc (Nat.le_refl _) _).alloc (by simp) _) hb1)
    clear hb1
    go_wp2_with fail
    go_ret
    exact ⟨rfl, HB.out⟩
end
end Go.Proofs.Ytjmbllbnlnjanaa
namespace Go.Proofs.Ytjmbllbnlnjanaa
open Go.RowKit

/-- An outcome: kind, value, trap, and what was printed, in memory. -/
structure Oc where
  k : Int
  v : Int
  t : Int
  A : Option Addr
  n : Nat
  c : Nat
  xs : List Int
structure Oc.Ok (o : Oc) (w : World) : Prop where
  len : o.xs.length = o.n
  cap : o.n ≤ o.c
  big : o.n ≤ 1000
  rd : Rd w o.A (o.xs.map iv)
theorem Oc.Ok.below {o : Oc} {w w' : World} (h : o.Ok w) (hb : Below w.heap.size w w') : o.Ok w' := ⟨h.len, h.cap, h.big, h.rd.below hb⟩
def Oc.row (o : Oc) : Array Value := #[.int .i64 o.k, .int .i64 o.v, .int .i64 o.t, .slice o.A o.n o.c]
/-- The law's outcomes and its source of codes, in memory. -/
structure Ds (w : World) (a b : Oc) (l : List Nat) (g q : Nat) (row : Array Value) (wr : World) : Prop where
  pa : wr.heap[w.heap.size]? = some (.cells a.row 29 (0, 0))
  pb : wr.heap[w.heap.size + 1]? = some (.cells b.row 29 (0, 0))
  pd : wr.heap[q]? = some (.cells row 29 (0, 0))
  cd : ∃ k, Codes wr g l k
  lo : Below w.heap.size w wr
  hg : w.heap.size + 2 ≤ g
  hq : g < q
section
variable {w wr wd : World} {a b : Oc} {l : List Nat} {g q : Nat} {row : Array Value}
theorem Ds.lt (h : Ds w a b l g q row wr) : q < wr.heap.size := (Array.getElem?_eq_some_iff.1 h.pd).1
theorem Ds.below {B : Nat} (h : Ds w a b l g q row wr) (hB : q < B) (hb : Below B wr wd) : Ds w a b l g q row wd := by
  have h1 := h.hg
  have h2 := h.hq
  obtain ⟨k, hk⟩ := h.cd
  exact ⟨(hb.block _ (by omega)).trans h.pa, (hb.block _ (by omega)).trans h.pb, (hb.block _ hB).trans h.pd, ⟨k, codes_low hk hb (by omega)⟩, h.lo.trans (hb.mono (by omega)), h1, h2⟩
theorem Ds.next (h : Ds w a b l g q row wr) {k : Nat} (hk : Codes wd g l k) (hg : wr.grownBy wd (some g)) : Ds w a b l g q row wd := by
  have h1 := h.hg
  have h2 := h.hq
  exact ⟨blk_keep hg (by omega) h.pa, blk_keep hg (by omega) h.pb, blk_keep hg (by omega) h.pd, ⟨k, hk⟩, h.lo.trans (grown_any hg (fun k hk => by injection hk with hk; omega) h.lo.size), h1, h2⟩
theorem Ds.put {i : Nat} (v : Value) (h : Ds w a b l g q row wr) : Ds w a b l g q (row.setIfInBounds i v) (wr.setCell ⟨q, i, none⟩ v) := by
  have h1 := h.hg
  have h2 := h.hq
  have hg : wr.grownBy (wr.setCell ⟨q, i, none⟩ v) (some q) := set_grown wr ⟨q, i, none⟩ v
  obtain ⟨k, hk⟩ := h.cd
  exact ⟨blk_keep hg (by omega) h.pa, blk_keep hg (by omega) h.pb, row_set (i := i) v h.pd, ⟨k, codes_other hk hg h2⟩, h.lo.trans (grown_any hg (fun k hk => by injection hk with hk; omega) h.lo.size), h1, h2⟩
theorem Ds.nx (h : Ds w a b l g q row wr) (n : Nat) (hn : n ≤ 256) (hlen : l.length ≤ 1000000) (hl : ∀ x ∈ l, x < 256) :
    Calls Try.prog 11 #[.pointer (some ⟨g, 0, none⟩), .int .i64 (n : Int)] wr (fun e w' => ∃ r : Nat, e = .returned (.int .i64 (r : Int)) ∧ (1 ≤ n → r < n) ∧ Ds w a b l g q row w' ∧ wr.grownBy w' (some g)) := by
  obtain ⟨k, hk⟩ := h.cd
  refine (next_byte g l k n wr hk hn hlen hl).mono ?_
  rintro e w' ⟨r, k', rfl, h1, _, hc, hg⟩
  exact ⟨r, rfl, fun hn => by have := h1 (by omega); omega, h.next hc hg, hg⟩
end
theorem below_keep2 {w w' : World} {o' : Obj} {q : Nat} (hb : Below w.heap.size w w') (h : w.heap[q]? = some o') : w'.heap[q]? = some o' := (hb.block q (Array.getElem?_eq_some_iff.1 h).1).trans h
theorem infoI2R : (Try.prog.info? 3).map (fun i => (i.zero, i.size, i.bytes)) = some (some (.int .i64 0), 1, 8) := by kernel_rfl
theorem iv_one (l : List Int) : ∀ u ∈ l.map iv, u.oneCell' = true := by
  intro u hu
  obtain ⟨x, _, rfl⟩ := List.mem_map.1 hu
  rfl
/-- A row of numbers is copied onto nil. -/
theorem wpList_copy_i {ops : Array Oper} {rest : List Oper} {o : Oper} {a : Act} {Q : Exit → Act → World → Prop} (w : World) (hgd : o.guard = none) (s x : Operand)
    (ho : o.op = .call { callee := .builtin .append, args := #[s, x], argTypes := #[23, 23] }) (xs : List Int) (A : Option Addr) (n c : Nat) (hs : a.eval s = .slice none 0 0) (hx : a.eval x = .slice A n c) (hn : xs.length = n) (hr : Rd w A (xs.map iv)) (hn2 : n ≤ 1000)
    (hk : ∀ v' w', w'.ownsRow w.heap.size 3 1 v' n (xs.map iv) → Below w.heap.size w w' → wpList Try.prog ops Q rest (a.put o.dst v') w') : wpList Try.prog ops Q (o :: rest) a w := by
  obtain ⟨ii, hii, hiz, his, hib⟩ := info_parts infoI2R
  cases xs with
  | nil =>
    have hn0 : n = 0 := by simpa using hn.symm
    subst hn0
    exact wpList_append_0 ii Try.underlying23 hii hgd s x ho A c hs hx (hk _ _ (World.ownsRow_nil w _ _ 1) (Below.refl _ _))
  | cons y ys =>
    obtain ⟨ad, rfl⟩ := hr.some_ (by simp)
    refine wpList_append_own w hgd s x 23 ho w.heap.size 3 ii (.int .i64 0) 1 8 Try.underlying23 hii hiz his hib rfl Nat.one_pos (.slice none 0 0) 0 [] hs (World.ownsRow_nil w _ _ 1) ad n c _ hx (by simp; simpa using hn) hr.cells (iv_one _) (by unfold maxLen; omega) (by omega) (Nat.le_refl _) ?_
    intro v' w' h1 h2 _
    exact hk v' w' (by simpa using h1) (grown_any h2 (fun k hk => by simp [Value.ownBlock] at hk) (Nat.le_refl _))
/-- A number is appended to a row of numbers. -/
theorem wpList_push_i {ops : Array Oper} {rest : List Oper} {o : Oper} {a : Act} {Q : Exit → Act → World → Prop} (w : World) (hgd : o.guard = none) (s x : Operand)
    (ho : o.op = .call { callee := .builtin .append, args := #[s, x], argTypes := #[23, 23] }) (base : Nat) (v : Value) (n : Nat) (L : List Int) (r : Int) (hs : a.eval s = v) (hx : a.eval x = .slice (some ⟨w.heap.size, 0, none⟩) 1 1) (hown : w.ownsRow base 3 1 v n (L.map iv)) (hn2 : n ≤ 1000) (hbase : base ≤ w.heap.size)
    (hk : ∀ v' w', w'.ownsRow base 3 1 v' (n + 1) ((L ++ [r]).map iv) → Below base w w' → wpList Try.prog ops Q rest (a.put o.dst v') w') : wpList Try.prog ops Q (o :: rest) a (w.alloc (.cells #[.int .i64 r] 3)) := by
  obtain ⟨ii, hii, hiz, his, hib⟩ := info_parts infoI2R
  have hb := (Below.refl base w).alloc hbase (.cells #[.int .i64 r] 3)
  refine wpList_append_own _ hgd s x 23 ho base 3 ii (.int .i64 0) 1 8 Try.underlying23 hii hiz his hib rfl Nat.one_pos v n _ hs (hown.alloc _) ⟨w.heap.size, 0, none⟩ 1 1 [.int .i64 r] hx rfl (Rd.new w #[.int .i64 r] _ _).cells (iv_one [r]) (by unfold maxLen; omega) (by omega) (by simp; omega) ?_
  intro v' w' h1 h2 _
  exact hk v' w' (by simpa [iv] using h1) (hb.trans (grown_any h2 (fun k hk => (hown.lt k hk).1) (by simp; omega)))
def DsE (w : World) (a b : Oc) (l : List Nat) (g q : Nat) (wr : World) : Prop := ∃ row, Ds w a b l g q row wr
theorem oc_any {k v t k' v' t' : Int} {A : Option Addr} {n c : Nat} {xs : List Int} {w : World} (h : Oc.Ok ⟨k, v, t, A, n, c, xs⟩ w) : Oc.Ok ⟨k', v', t', A, n, c, xs⟩ w := ⟨h.len, h.cap, h.big, h.rd⟩
theorem oc_take {k v t : Int} {A : Option Addr} {n c m : Nat} {xs : List Int} {w : World} (h : Oc.Ok ⟨k, v, t, A, n, c, xs⟩ w) (hm : m ≤ n) : Oc.Ok ⟨k, v, t, A, m, c, xs.take m⟩ w := by
  obtain ⟨h1, h2, h3, h4⟩ := h
  dsimp only at h1 h2 h3 h4
  exact ⟨by simp; omega, by show m ≤ c; omega, by show m ≤ 1000; omega, h4.takes m⟩
theorem own_form {w : World} {base n : Nat} {v : Value} {xs : List Value} (h : w.ownsRow base 3 1 v n xs) : ∃ A c, v = .slice A n c ∧ n ≤ c := by
  rcases h.2 with ⟨rfl, h0⟩ | ⟨g, cap, cur, rfl, _, _, hnc, _⟩
  · subst h0
    exact ⟨none, 0, rfl, Nat.le_refl _⟩
  · exact ⟨_, _, rfl, hnc⟩
theorem oc_same_e {x y : Oc} {W : World} (hx : x.Ok W) (hy : y.Ok W) : Calls Try.prog 12 #[.agg x.row, .agg y.row] W (BoolW (sameP x.k x.v x.t x.xs y.k y.v y.t y.xs) W) :=
  same_e x.k x.v x.t y.k y.v y.t W hx.len hy.len hx.rd hy.rd (by have := hx.big; omega) (by have := hy.big; omega) rfl
theorem oc_same_7 {x y : Oc} {W : World} (hx : x.Ok W) (hy : y.Ok W) : Calls Try.prog 13 #[.agg x.row, .agg y.row] W (BoolW (sameP x.k x.v x.t x.xs y.k y.v y.t y.xs) W) :=
  same_7 x.k x.v x.t y.k y.v y.t W hx.len hy.len hx.rd hy.rd (by have := hx.big; omega) (by have := hy.big; omega) rfl
theorem oc_ref_e {x y : Oc} {W : World} (hx : x.Ok W) (hy : y.Ok W) : Calls Try.prog 14 #[.agg x.row, .agg y.row] W (BoolW (refP x.k x.v x.t x.xs y.k y.v y.t y.xs) W) :=
  refines_e x.k x.v x.t y.k y.v y.t W hx.len hy.len hx.rd hy.rd (by have := hx.big; omega) (by have := hy.big; omega) hx.cap hy.cap rfl
theorem oc_ref_7 {x y : Oc} {W : World} (hx : x.Ok W) (hy : y.Ok W) : Calls Try.prog 15 #[.agg x.row, .agg y.row] W (BoolW (refP x.k x.v x.t x.xs y.k y.v y.t y.xs) W) :=
  refines_7 x.k x.v x.t y.k y.v y.t W hx.len hy.len hx.rd hy.rd (by have := hx.big; omega) (by have := hy.big; omega) hx.cap hy.cap rfl
/-- An outcome's four cells from q on. -/
def Oc.At (o : Oc) (W : World) (b q : Nat) : Prop := W.cell? ⟨b, q, none⟩ = some (.int .i64 o.k) ∧ W.cell? ⟨b, q + 1, none⟩ = some (.int .i64 o.v) ∧ W.cell? ⟨b, q + 2, none⟩ = some (.int .i64 o.t) ∧ W.cell? ⟨b, q + 3, none⟩ = some (.slice o.A o.n o.c)
theorem Oc.At.below {o : Oc} {w w' : World} {b q : Nat} (h : o.At w b q) (hb : Below w.heap.size w w') : o.At w' b q := ⟨hold hb h.1, hold hb h.2.1, hold hb h.2.2.1, hold hb h.2.2.2⟩
theorem oc_four {W : World} {g i : Nat} {a b d e : Oc} {T : TypeId} (h : W.heap[g]? = some (.cells #[.int .i64 a.k, .int .i64 a.v, .int .i64 a.t, .slice a.A a.n a.c, .int .i64 b.k, .int .i64 b.v, .int .i64 b.t, .slice b.A b.n b.c, .int .i64 d.k, .int .i64 d.v, .int .i64 d.t, .slice d.A d.n d.c, .int .i64 e.k, .int .i64 e.v, .int .i64 e.t, .slice e.A e.n e.c] T (0, 0)))
    (ha : a.Ok W) (hb : b.Ok W) (hd : d.Ok W) (he : e.Ok W) (hi : i < 4) : ∃ x : Oc, x.Ok W ∧ x.At W g (i * 4) := by
  rcases (show i = 0 ∨ i = 1 ∨ i = 2 ∨ i = 3 by omega) with rfl | rfl | rfl | rfl
  · exact ⟨a, ha, cell_of_row _ _ 0 _ _ _ h, cell_of_row _ _ 1 _ _ _ h, cell_of_row _ _ 2 _ _ _ h, cell_of_row _ _ 3 _ _ _ h⟩
  · exact ⟨b, hb, cell_of_row _ _ 4 _ _ _ h, cell_of_row _ _ 5 _ _ _ h, cell_of_row _ _ 6 _ _ _ h, cell_of_row _ _ 7 _ _ _ h⟩
  · exact ⟨d, hd, cell_of_row _ _ 8 _ _ _ h, cell_of_row _ _ 9 _ _ _ h, cell_of_row _ _ 10 _ _ _ h, cell_of_row _ _ 11 _ _ _ h⟩
  · exact ⟨e, he, cell_of_row _ _ 12 _ _ _ h, cell_of_row _ _ 13 _ _ _ h, cell_of_row _ _ 14 _ _ _ h, cell_of_row _ _ 15 _ _ _ h⟩
theorem oc_three {W : World} {g i : Nat} {a b d : Oc} {T : TypeId} (h : W.heap[g]? = some (.cells #[.int .i64 a.k, .int .i64 a.v, .int .i64 a.t, .slice a.A a.n a.c, .int .i64 b.k, .int .i64 b.v, .int .i64 b.t, .slice b.A b.n b.c, .int .i64 d.k, .int .i64 d.v, .int .i64 d.t, .slice d.A d.n d.c] T (0, 0)))
    (ha : a.Ok W) (hb : b.Ok W) (hd : d.Ok W) (hi : i < 3) : ∃ x : Oc, x.Ok W ∧ x.At W g (i * 4) := by
  rcases (show i = 0 ∨ i = 1 ∨ i = 2 by omega) with rfl | rfl | rfl
  · exact ⟨a, ha, cell_of_row _ _ 0 _ _ _ h, cell_of_row _ _ 1 _ _ _ h, cell_of_row _ _ 2 _ _ _ h, cell_of_row _ _ 3 _ _ _ h⟩
  · exact ⟨b, hb, cell_of_row _ _ 4 _ _ _ h, cell_of_row _ _ 5 _ _ _ h, cell_of_row _ _ 6 _ _ _ h, cell_of_row _ _ 7 _ _ _ h⟩
  · exact ⟨d, hd, cell_of_row _ _ 8 _ _ _ h, cell_of_row _ _ 9 _ _ _ h, cell_of_row _ _ 10 _ _ _ h, cell_of_row _ _ 11 _ _ _ h⟩
theorem same_self (k v t : Int) (xs : List Int) : sameP k v t xs k v t xs = true := by simp [sameP]
theorem ref_self (k v t : Int) (xs : List Int) : refP k v t xs k v t xs = true := by
  unfold refP
  split
  · simp
  · exact same_self k v t xs
/-- Behind the switch: d is an outcome. -/
def Dn (w : World) (a b : Oc) (l : List Nat) (g q : Nat) (wd : World) : Prop := ∃ d : Oc, d.Ok wd ∧ Ds w a b l g q d.row wd
set_option maxRecDepth 100000 in
set_option maxHeartbeats 4000000 in
theorem refines_any (hA : AwakeC) (a b : Oc) (C : Option Addr) (lc : List Nat) (m c : Nat) (w : World) (ha : a.xs.length = a.n) (hac : a.n ≤ a.c) (har : Rd w a.A (a.xs.map iv)) (hb : b.xs.length = b.n) (hbc : b.n ≤ b.c) (hbr : Rd w b.A (b.xs.map iv))
    (hm : lc.length = m) (hmc : m ≤ c) (hcr : Rd w C (lc.map bv)) (hlc : ∀ x ∈ lc, x < 256) (hsa : a.n ≤ 100) (hsb : b.n ≤ 100) :
    Calls Try.prog 4 #[.agg a.row, .agg b.row, .slice C m c] w fun e w' => e = .returned (.bool true) ∧ Below w.heap.size w w' := by
  obtain ⟨ak, av, at', aA, an, ac, ax⟩ := a
  obtain ⟨bk, bv', bt, bA, bn, bc, bx⟩ := b
  unfold Oc.row
  dsimp only at ha hac har hb hbc hbr hsa hsb ⊢
  have HA := Lib.hid hA
  have HOa := Lib.hid (Oc.Ok.mk (o := ⟨ak, av, at', aA, an, ac, ax⟩) ha hac (by show an ≤ 1000; omega) har)
  have HOb := Lib.hid (Oc.Ok.mk (o := ⟨bk, bv', bt, bA, bn, bc, bx⟩) hb hbc (by show bn ≤ 1000; omega) hbr)
  have HC := Lib.hid hcr
  have Hm := Lib.hid hm
  have Hlc := Lib.hid hlc
  have pa0 := alloc2_old w (.cells #[.int .i64 ak, .int .i64 av, .int .i64 at', .slice aA an ac] 29) (.cells #[.int .i64 bk, .int .i64 bv', .int .i64 bt, .slice bA bn bc] 29)
  have pb0 := alloc2_new w (.cells #[.int .i64 ak, .int .i64 av, .int .i64 at', .slice aA an ac] 29) (.cells #[.int .i64 bk, .int .i64 bv', .int .i64 bt, .slice bA bn bc] 29)
  have hb0 := ((Below.refl _ w).alloc (Nat.le_refl _) (.cells #[.int .i64 ak, .int .i64 av, .int .i64 at', .slice aA an ac] 29)).alloc (by simp) (.cells #[.int .i64 bk, .int .i64 bv', .int .i64 bt, .slice bA bn bc] 29)
  clear hA har hbr hcr hm hlc ha hb
  go_enter Try.func4, Try.ntmps4
  go_upto_region 1 with fail
  obtain ⟨W0, hW0⟩ : ∃ W0, W0 = (w.alloc (.cells #[.int .i64 ak, .int .i64 av, .int .i64 at', .slice aA an ac] 29)).alloc (.cells #[.int .i64 bk, .int .i64 bv', .int .i64 bt, .slice bA bn bc] 29) := ⟨_, rfl⟩
  rw [← hW0] at pa0 pb0 hb0 ⊢
  clear hW0
  go_wp2_with fail
  refine (HA.out _).mono ?_
  rintro e w1 ⟨rfl, hb1⟩
  have pa1 := below_keep2 hb1 pa0
  have pb1 := below_keep2 hb1 pb0
  have hb01 := hb0.trans (hb1.mono hb0.size)
  have u3 := cell_of_row _ _ 3 _ _ _ pa1
  have v3 := cell_of_row _ _ 3 _ _ _ pb1
  have g1 : ((100 : Int) < (an : Int)) = False := eq_false (by omega)
  have g2 : ((100 : Int) < (bn : Int)) = False := eq_false (by omega)
  have HPA := Lib.hid pa1
  have HPB := Lib.hid pb1
  have HB1 := Lib.hid hb01
  have HN := Lib.hid (new_any C lc m c 20 w1 Hm.out hmc (HC.out.below hb01) (by omega))
  clear pa0 pb0 hb0 pa1 pb1 hb1 hb01 HA
  go_wp2_with fail
  refine HN.out.mono ?_
  rintro e w2 ⟨g, l, rfl, hg2, hl20, hl2, hcd2, hb2⟩
  have hl : ∀ x ∈ l, x < 256 := fun x hx => Hlc.out x (by rw [hl2] at hx; exact List.mem_of_mem_take hx)
  have hb3 := (Below.refl _ w2).alloc (Nat.le_refl _) (.cells #[.int .i64 ak, .int .i64 av, .int .i64 at', .slice aA an ac] 29)
  have hs2 := hb2.size
  have hlt1 := (Array.getElem?_eq_some_iff.1 HPB.out).1
  have hds : Ds w ⟨ak, av, at', aA, an, ac, ax⟩ ⟨bk, bv', bt, bA, bn, bc, bx⟩ l g w2.heap.size #[.int .i64 ak, .int .i64 av, .int .i64 at', .slice aA an ac] (w2.alloc (.cells #[.int .i64 ak, .int .i64 av, .int .i64 at', .slice aA an ac] 29)) :=
    ⟨(hb3.block _ (by omega)).trans ((hb2.block _ (by omega)).trans HPA.out), (hb3.block _ (by omega)).trans ((hb2.block _ hlt1).trans HPB.out), heap_alloc_new w2 _, ⟨0, codes_below hcd2 hb3⟩, (HB1.out.trans (hb2.mono HB1.out.size)).trans (hb3.mono (by omega)), by omega, codes_lt hcd2⟩
  have pa2 := (hb2.block _ (by omega)).trans HPA.out
  have y0 := cell_of_row _ _ 0 _ _ _ pa2
  have y1 := cell_of_row _ _ 1 _ _ _ pa2
  have y2 := cell_of_row _ _ 2 _ _ _ pa2
  have y3 := cell_of_row _ _ 3 _ _ _ pa2
  have HD := Lib.hid hds
  have HL := Lib.hid hl
  clear hl hb3 hds pa2 hl2 hcd2 hb2 HPA HPB HB1 HN Hlc HC Hm u3 v3 g1 g2
  go_upto_region 5 with fail
  obtain ⟨W3, hW3⟩ : ∃ W3, W3 = w2.alloc (.cells #[.int .i64 ak, .int .i64 av, .int .i64 at', .slice aA an ac] 29) := ⟨_, rfl⟩
  rw [← hW3] at HD ⊢
  clear hW3 y0 y1 y2 y3 hs2 hlt1 hmc
  have HX := Lib.hid (HD.out.nx 5 (by omega) (by omega) HL.out)
  go_wp2_with fail
  refine HX.out.mono ?_
  rintro e w4 ⟨r, rfl, hr5, hd4, _⟩
  have hr5 := hr5 (by omega)
  have HD4 := Lib.hid hd4
  clear HX hd4 HD
  go_upto_block 0 with fail
  go_cut [] from 42 (fun wd => Dn w ⟨ak, av, at', aA, an, ac, ax⟩ ⟨bk, bv', bt, bA, bn, bc, bx⟩ l g w2.heap.size wd)
  case first =>
    rcases (show r = 0 ∨ r = 1 ∨ r = 2 ∨ r = 3 ∨ r = 4 by omega) with rfl | rfl | rfl | rfl | rfl
    · have HX := Lib.hid (HD4.out.nx 3 (by omega) (by omega) HL.out)
      go_wp2_with fail
      refine HX.out.mono ?_
      rintro e w5 ⟨r2, rfl, _, hd5, _⟩
      have d0 := cell_of_row _ _ 0 _ _ _ hd5.pd
      have f0 := rp_fz hd5.pd 0
      have HD5 := Lib.hid (fun v => hd5.put (i := 0) v)
      clear HX hd5 HD4
      go_wp2_with fail
      go_meet
      case rel => exact ⟨⟨_, av, at', aA, an, ac, ax⟩, oc_any (HOa.out.below (HD5.out _).lo), HD5.out _⟩
    · have d1 := cell_of_row _ _ 1 _ _ _ HD4.out.pd
      have f1 := rp_fz HD4.out.pd 1
      have HD5 := Lib.hid (fun v => HD4.out.put (i := 1) v)
      clear HD4
      go_wp2_with fail
      go_meet
      case rel => exact ⟨⟨ak, _, at', aA, an, ac, ax⟩, oc_any (HOa.out.below (HD5.out _).lo), HD5.out _⟩
    · have hdd := HD4.out.below (B := w4.heap.size) HD4.out.lt (below_drew (Below.refl _ w4))
      have HX : Hid (Calls Try.prog 11 #[.pointer (some ⟨g, 0, none⟩), .int .i64 ((an : Int) + 1)] w4.drew (fun e w' => ∃ r : Nat, e = .returned (.int .i64 (r : Int)) ∧ (1 ≤ an + 1 → r < an + 1) ∧ Ds w ⟨ak, av, at', aA, an, ac, ax⟩ ⟨bk, bv', bt, bA, bn, bc, bx⟩ l g w2.heap.size #[.int .i64 ak, .int .i64 av, .int .i64 at', .slice aA an ac] w' ∧ w4.drew.grownBy w' (some g))) := Lib.hid (by
        rw [show ((an : Int) + 1) = ((an + 1 : Nat) : Int) by omega]
        exact hdd.nx (an + 1) (by omega) (by omega) HL.out)
      have hS0 : w4.drew.cell? ⟨w.heap.size, 3, none⟩ = some (.slice aA an ac) ∧ DsE w ⟨ak, av, at', aA, an, ac, ax⟩ ⟨bk, bv', bt, bA, bn, bc, bx⟩ l g w2.heap.size w4.drew := ⟨cell_of_row _ _ 3 _ _ _ hdd.pa, _, hdd⟩
      have hw : IntKind.i64.wrap ((an : Int) + 1) = (an : Int) + 1 := by
        rw [IntKind.wrap_i64]
        omega
      have z0 : (0 : Int) ≤ (an : Int) := by omega
      have z1 : (an : Int) ≤ (ac : Int) := by omega
      clear hdd HD4
      go_upto_region 11 with fail
      go_region_held3 (fun w' => w'.cell? ⟨w.heap.size, 3, none⟩ = some (.slice aA an ac) ∧ DsE w ⟨ak, av, at', aA, an, ac, ax⟩ ⟨bk, bv', bt, bA, bn, bc, bx⟩ l g w2.heap.size w')
        (first | (exact hS0) | (exact ⟨cell_of_row _ _ 3 _ _ _ hd5.pa, _, hd5⟩) | (exact ⟨cell_of_row _ _ 3 _ _ _ (hd5.put (i := 3) _).pa, _, hd5.put (i := 3) _⟩))
        (first | (go_at_call 11; (with_reducible refine HX.out.mono ?_); rintro e w5 ⟨r2, rfl, hr2, hd5, _⟩; have z2 : (0 : Int) ≤ (r2 : Int) := (by omega); have z3 : (r2 : Int) ≤ (ac : Int) := (by have := hr2 (by omega); omega); have d3 := cell_of_row _ _ 3 _ _ _ hd5.pd; have f3 := rp_fz hd5.pd 3))
      have HD6 := Lib.hid (fun v => hd5.put (i := 3) v)
      have hr2' := hr2 (by omega)
      clear hd5 hS0 hr2 HX d3 f3
      rename_i hH
      clear hH
      go_wp2_with fail
      go_meet
      case rel => exact ⟨⟨ak, av, at', aA, r2, ac, ax.take r2⟩, oc_take (HOa.out.below (HD6.out _).lo) (by show r2 ≤ an; omega), HD6.out _⟩
    · have q3 : w4.cell? ⟨w.heap.size, 3, none⟩ = some (.slice aA an ac) := cell_of_row _ _ 3 _ _ _ HD4.out.pa
      have hoa := HOa.out.below HD4.out.lo
      go_upto_region 13 with fail
      go_wp2_with (at_builtin; refine Pause.out ?_)
      refine Pause.of (wpList_copy_i w4 rfl _ _ rfl ax aA an ac rfl rfl hoa.len hoa.rd hoa.big ?_)
      intro v5 w5 hown5 hb5
      have hd5 := HD4.out.below HD4.out.lt hb5
      have hqs := HD4.out.lt
      have HX := Lib.hid (hd5.nx 4 (by omega) (by omega) HL.out)
      have HO5 := Lib.hid hown5
      have hs45 := hb5.size
      clear hoa hown5 hb5 hd5 HD4 q3
      go_wp2_with fail
      refine HX.out.mono ?_
      rintro e w6 ⟨r2, rfl, _, hd6, hg6⟩
      have hgq := hd6.hq
      have hown6 := HO5.out.kept hg6 (.inr fun e => by have := (HO5.out.lt _ e).1; omega)
      have hs6 := hg6.size
      have HD6 := Lib.hid hd6
      have HO6 := Lib.hid hown6
      clear hd6 hg6 hown6 HO5 HX
      go_wp2_with (at_builtin; refine Pause.out ?_)
      refine Pause.of (wpList_push_i w6 rfl _ _ rfl w4.heap.size v5 an ax (r2 : Int) rfl rfl HO6.out (by omega) (by omega) ?_)
      intro v7 w7 hown7 hb7
      obtain ⟨B7, c7, rfl, hc7⟩ := own_form hown7
      have hd7 := HD6.out.below hqs hb7
      have hrd7 := Rd.of_own hown7
      have d3 := cell_of_row _ _ 3 _ _ _ hd7.pd
      have f3 := rp_fz hd7.pd 3
      have HD7 := Lib.hid (fun v => hd7.put (i := 3) v)
      have HR7 : Hid (∀ v, Oc.Ok ⟨ak, av, at', B7, an + 1, c7, ax ++ [(r2 : Int)]⟩ (w7.setCell ⟨w2.heap.size, 3, none⟩ v)) := Lib.hid (fun v => by
        refine ⟨by have := HOa.out.len; simpa using this, hc7, by show an + 1 ≤ 1000; omega, ?_⟩
        refine fun j u hu => ?_
        obtain ⟨ad, hB, hc⟩ := hrd7 j u hu
        have hblk : w4.heap.size ≤ ad.block := (hown7.lt ad.block (by rw [hB]; simp [Value.ownBlock])).1
        exact ⟨ad, hB, (World.cell?_of_block (Below.heap_setCell w7 _ _ _ (by rw [block_add]; show ad.block ≠ w2.heap.size; omega))).trans hc⟩)
      clear hown7 hb7 hd7 hrd7 HD6 HO6
      go_wp2_with fail
      go_meet
      case rel => exact ⟨_, HR7.out _, HD7.out _⟩
    · go_wp2_with fail
      go_meet
      case rel => exact ⟨_, HOa.out.below HD4.out.lo, HD4.out⟩
  case rest =>
    clear HD4 hr5 HL
    obtain ⟨⟨dk, dv, dt, dA, dn, dc, dx⟩, hod, hdd⟩ := hcut
    have ca : Oc.At ⟨ak, av, at', aA, an, ac, ax⟩ wc w.heap.size 0 := ⟨cell_of_row _ _ 0 _ _ _ hdd.pa, cell_of_row _ _ 1 _ _ _ hdd.pa, cell_of_row _ _ 2 _ _ _ hdd.pa, cell_of_row _ _ 3 _ _ _ hdd.pa⟩
    have cb : Oc.At ⟨bk, bv', bt, bA, bn, bc, bx⟩ wc (w.heap.size + 1) 0 := ⟨cell_of_row _ _ 0 _ _ _ hdd.pb, cell_of_row _ _ 1 _ _ _ hdd.pb, cell_of_row _ _ 2 _ _ _ hdd.pb, cell_of_row _ _ 3 _ _ _ hdd.pb⟩
    have cd : Oc.At ⟨dk, dv, dt, dA, dn, dc, dx⟩ wc w2.heap.size 0 := ⟨cell_of_row _ _ 0 _ _ _ hdd.pd, cell_of_row _ _ 1 _ _ _ hdd.pd, cell_of_row _ _ 2 _ _ _ hdd.pd, cell_of_row _ _ 3 _ _ _ hdd.pd⟩
    have HLo := Lib.hid hdd.lo
    have HOd := Lib.hid hod
    have hoa := HOa.out.below hdd.lo
    have hob := HOb.out.below hdd.lo
    clear hdd hod
    obtain ⟨a0, a1, a2, a3⟩ := id ca
    obtain ⟨b0, b1, b2, b3⟩ := id cb
    obtain ⟨d0, d1, d2, d3⟩ := id cd
    have CA := Lib.hid ca
    have CB := Lib.hid cb
    have CD := Lib.hid cd
    dsimp only at a0 a1 a2 a3 b0 b1 b2 b3 d0 d1 d2 d3
    have HOA := Lib.hid hoa
    have HOB := Lib.hid hob
    clear ca cb cd hoa hob HOa HOb
    have hb14 := (Below.refl _ wc).alloc (Nat.le_refl _) (.cells #[.int .i64 ak, .int .i64 av, .int .i64 at', .slice aA an ac, .int .i64 bk, .int .i64 bv', .int .i64 bt, .slice bA bn bc, .int .i64 dk, .int .i64 dv, .int .i64 dt, .slice dA dn dc, .int .i64 3, .int .i64 0, .int .i64 0, .slice aA an ac] 29)
    have hrow14 := heap_alloc_new wc (.cells #[.int .i64 ak, .int .i64 av, .int .i64 at', .slice aA an ac, .int .i64 bk, .int .i64 bv', .int .i64 bt, .slice bA bn bc, .int .i64 dk, .int .i64 dv, .int .i64 dt, .slice dA dn dc, .int .i64 3, .int .i64 0, .int .i64 0, .slice aA an ac] 29)
    go_wp2_with fail
    obtain ⟨W, hW⟩ : ∃ W, W = wc.alloc (.cells #[.int .i64 ak, .int .i64 av, .int .i64 at', .slice aA an ac, .int .i64 bk, .int .i64 bv', .int .i64 bt, .slice bA bn bc, .int .i64 dk, .int .i64 dv, .int .i64 dt, .slice dA dn dc, .int .i64 3, .int .i64 0, .int .i64 0, .slice aA an ac] 29) := ⟨_, rfl⟩
    rw [← hW] at hb14 hrow14 ⊢
    clear hW a0 a1 a2 a3 b0 b1 b2 b3 d0 d1 d2 d3
    have HR14 := Lib.hid hrow14
    have HB14 := Lib.hid hb14
    clear hrow14 hb14
    go_loopw [84] (fun v wr => ∃ i : Nat, i ≤ 4 ∧ v = .int .i64 (i : Int) ∧ Hid (Below W.heap.size W wr)) (fun v _ => 4 - (intOf v).toNat)
    case atStart => exact ⟨0, Nat.zero_le _, rfl, Lib.hid (Below.refl _ _)⟩
    case round =>
      obtain ⟨wo, rfl⟩ : ∃ wo : World, wo = wr := ⟨_, rfl⟩
      obtain ⟨i, hi4, rfl, HBr⟩ := hrel
      by_cases hi : i < 4
      · have hid : ((i : Int) < 4) = True := eq_true (by omega)
        obtain ⟨x, hox, hax⟩ := oc_four (i := i) (a := ⟨ak, av, at', aA, an, ac, ax⟩) (b := ⟨bk, bv', bt, bA, bn, bc, bx⟩) (d := ⟨dk, dv, dt, dA, dn, dc, dx⟩) (e := ⟨3, 0, 0, aA, an, ac, ax⟩) HR14.out (HOA.out.below HB14.out) (HOB.out.below HB14.out) (HOd.out.below HB14.out) (oc_any (HOA.out.below HB14.out)) hi
        obtain ⟨xk, xv, xt, xA, xn, xc, xx⟩ := x
        obtain ⟨x0, x1, x2, x3⟩ := hax.below HBr.out
        dsimp only at x0 x1 x2 x3
        have hb16 := (Below.refl _ wo).alloc (Nat.le_refl _) (.cells #[.int .i64 xk, .int .i64 xv, .int .i64 xt, .slice xA xn xc] 29)
        have hx16 := heap_alloc_new wo (.cells #[.int .i64 xk, .int .i64 xv, .int .i64 xt, .slice xA xn xc] 29)
        have hbb := below_next (below_next HB14.out HBr.out) hb16
        obtain ⟨a0, a1, a2, a3⟩ := CA.out.below hbb
        obtain ⟨b0, b1, b2, b3⟩ := CB.out.below hbb
        obtain ⟨d0, d1, d2, d3⟩ := CD.out.below hbb
        dsimp only at a0 a1 a2 a3 b0 b1 b2 b3 d0 d1 d2 d3
        have y0 := hold hb16 x0
        have hb17 := hb16.alloc hb16.size (.cells #[.int .i64 ak, .int .i64 av, .int .i64 at', .slice aA an ac, .int .i64 bk, .int .i64 bv', .int .i64 bt, .slice bA bn bc, .int .i64 dk, .int .i64 dv, .int .i64 dt, .slice dA dn dc] 29)
        have hrow17 := heap_alloc_new (wo.alloc (.cells #[.int .i64 xk, .int .i64 xv, .int .i64 xt, .slice xA xn xc] 29)) (.cells #[.int .i64 ak, .int .i64 av, .int .i64 at', .slice aA an ac, .int .i64 bk, .int .i64 bv', .int .i64 bt, .slice bA bn bc, .int .i64 dk, .int .i64 dv, .int .i64 dt, .slice dA dn dc] 29)
        have hx17 := alloc2_old wo (.cells #[.int .i64 xk, .int .i64 xv, .int .i64 xt, .slice xA xn xc] 29) (.cells #[.int .i64 ak, .int .i64 av, .int .i64 at', .slice aA an ac, .int .i64 bk, .int .i64 bv', .int .i64 bt, .slice bA bn bc, .int .i64 dk, .int .i64 dv, .int .i64 dt, .slice dA dn dc] 29)
        have hsx : wo.heap.size + 1 = (wo.alloc (.cells #[.int .i64 xk, .int .i64 xv, .int .i64 xt, .slice xA xn xc] 29)).heap.size := by simp
        rw [← hsx] at hrow17
        clear hx16 y0 hsx hax
        go_wp2_with fail
        obtain ⟨W7, hW7⟩ : ∃ W7, W7 = (wo.alloc (.cells #[.int .i64 xk, .int .i64 xv, .int .i64 xt, .slice xA xn xc] 29)).alloc (.cells #[.int .i64 ak, .int .i64 av, .int .i64 at', .slice aA an ac, .int .i64 bk, .int .i64 bv', .int .i64 bt, .slice bA bn bc, .int .i64 dk, .int .i64 dv, .int .i64 dt, .slice dA dn dc] 29) := ⟨_, rfl⟩
        rw [← hW7] at hb17 hrow17 hx17 ⊢
        clear hW7 x0 x1 x2 x3 a0 a1 a2 a3 b0 b1 b2 b3 d0 d1 d2 d3 hb16 hbb
        have HR17 := Lib.hid hrow17
        have HX17 := Lib.hid hx17
        have HB17 := Lib.hid (HBr.out.trans (hb17.mono HBr.out.size))
        have HOX := Lib.hid (hox.below HB17.out)
        have hsz7 := hb17.size
        have hlt7 := (Array.getElem?_eq_some_iff.1 hx17).1
        clear hrow17 hx17 hb17 hox
        go_loopw [93] (fun v wr => ∃ j : Nat, j ≤ 3 ∧ v = .int .i64 (j : Int) ∧ Hid (Below W7.heap.size W7 wr)) (fun v _ => 3 - (intOf v).toNat)
        case atStart => exact ⟨0, Nat.zero_le _, rfl, Lib.hid (Below.refl _ _)⟩
        case round =>
          obtain ⟨wv, rfl⟩ : ∃ wv : World, wv = wr := ⟨_, rfl⟩
          obtain ⟨j, hj3, rfl, HBv⟩ := hrel
          by_cases hj : j < 3
          · have hw7 := below_next HB14.out HB17.out
            obtain ⟨y, hoy, hay⟩ := oc_three (i := j) (a := ⟨ak, av, at', aA, an, ac, ax⟩) (b := ⟨bk, bv', bt, bA, bn, bc, bx⟩) (d := ⟨dk, dv, dt, dA, dn, dc, dx⟩) HR17.out (HOA.out.below hw7) (HOB.out.below hw7) (HOd.out.below hw7) hj
            obtain ⟨yk, yv, yt, yA, yn, yc, yy⟩ := y
            obtain ⟨y0, y1, y2, y3⟩ := hay.below HBv.out
            dsimp only at y0 y1 y2 y3
            have hb19 := (Below.refl _ wv).alloc (Nat.le_refl _) (.cells #[.int .i64 yk, .int .i64 yv, .int .i64 yt, .slice yA yn yc] 29)
            have hy19 := heap_alloc_new wv (.cells #[.int .i64 yk, .int .i64 yv, .int .i64 yt, .slice yA yn yc] 29)
            have hx19 := (hb19.block _ (Nat.lt_of_lt_of_le hlt7 HBv.out.size)).trans ((HBv.out.block _ hlt7).trans HX17.out)
            have hox9 := (HOX.out.below HBv.out).below hb19
            have hoy9 := (hoy.below HBv.out).below hb19
            go_upto_region 20 with fail
            obtain ⟨W9, hW9⟩ : ∃ W9, W9 = wv.alloc (.cells #[.int .i64 yk, .int .i64 yv, .int .i64 yt, .slice yA yn yc] 29) := ⟨_, rfl⟩
            rw [← hW9] at hb19 hy19 hx19 hox9 hoy9 ⊢
            clear hW9 y0 y1 y2 y3 hw7 hoy hay
            obtain ⟨s1, hs1⟩ : ∃ s1, s1 = sameP xk xv xt xx yk yv yt yy := ⟨_, rfl⟩
            obtain ⟨s2, hs2⟩ : ∃ s2, s2 = refP xk xv xt xx yk yv yt yy := ⟨_, rfl⟩
            have H1 : Hid (∀ V, Below W9.heap.size W9 V → Calls Try.prog 12 #[.agg #[.int .i64 xk, .int .i64 xv, .int .i64 xt, .slice xA xn xc], .agg #[.int .i64 yk, .int .i64 yv, .int .i64 yt, .slice yA yn yc]] V (BoolW s1 V)) := Lib.hid (fun V hV => by rw [hs1]; exact oc_same_e (hox9.below hV) (hoy9.below hV))
            have H2 : Hid (∀ V, Below W9.heap.size W9 V → Calls Try.prog 13 #[.agg #[.int .i64 xk, .int .i64 xv, .int .i64 xt, .slice xA xn xc], .agg #[.int .i64 yk, .int .i64 yv, .int .i64 yt, .slice yA yn yc]] V (BoolW s1 V)) := Lib.hid (fun V hV => by rw [hs1]; exact oc_same_7 (hox9.below hV) (hoy9.below hV))
            have H3 : Hid (∀ V, Below W9.heap.size W9 V → Calls Try.prog 14 #[.agg #[.int .i64 xk, .int .i64 xv, .int .i64 xt, .slice xA xn xc], .agg #[.int .i64 yk, .int .i64 yv, .int .i64 yt, .slice yA yn yc]] V (BoolW s2 V)) := Lib.hid (fun V hV => by rw [hs2]; exact oc_ref_e (hox9.below hV) (hoy9.below hV))
            have H4 : Hid (∀ V, Below W9.heap.size W9 V → Calls Try.prog 15 #[.agg #[.int .i64 xk, .int .i64 xv, .int .i64 xt, .slice xA xn xc], .agg #[.int .i64 yk, .int .i64 yv, .int .i64 yt, .slice yA yn yc]] V (BoolW s2 V)) := Lib.hid (fun V hV => by rw [hs2]; exact oc_ref_7 (hox9.below hV) (hoy9.below hV))
            have n1 : (s1 != s1) = false := by simp
            have n2 : (s2 != s2) = false := by simp
            have hS0 : W9.drew.cell? ⟨wo.heap.size, 0, none⟩ = some (.int .i64 xk) ∧ W9.drew.cell? ⟨wo.heap.size, 1, none⟩ = some (.int .i64 xv) ∧ W9.drew.cell? ⟨wo.heap.size, 2, none⟩ = some (.int .i64 xt) ∧ W9.drew.cell? ⟨wo.heap.size, 3, none⟩ = some (.slice xA xn xc) ∧ W9.drew.cell? ⟨wv.heap.size, 0, none⟩ = some (.int .i64 yk) ∧ W9.drew.cell? ⟨wv.heap.size, 1, none⟩ = some (.int .i64 yv) ∧ W9.drew.cell? ⟨wv.heap.size, 2, none⟩ = some (.int .i64 yt) ∧ W9.drew.cell? ⟨wv.heap.size, 3, none⟩ = some (.slice yA yn yc) ∧ Below W9.heap.size W9 W9.drew :=
              ⟨cell_of_row _ _ 0 _ _ _ hx19, cell_of_row _ _ 1 _ _ _ hx19, cell_of_row _ _ 2 _ _ _ hx19, cell_of_row _ _ 3 _ _ _ hx19, cell_of_row _ _ 0 _ _ _ hy19, cell_of_row _ _ 1 _ _ _ hy19, cell_of_row _ _ 2 _ _ _ hy19, cell_of_row _ _ 3 _ _ _ hy19, below_drew (Below.refl _ _)⟩
            have HB19 := Lib.hid (HBv.out.trans (hb19.mono HBv.out.size))
            clear hs1 hs2 hb19 hy19 hx19 hox9 hoy9
            go_region_held3 (fun w' => w'.cell? ⟨wo.heap.size, 0, none⟩ = some (.int .i64 xk) ∧ w'.cell? ⟨wo.heap.size, 1, none⟩ = some (.int .i64 xv) ∧ w'.cell? ⟨wo.heap.size, 2, none⟩ = some (.int .i64 xt) ∧ w'.cell? ⟨wo.heap.size, 3, none⟩ = some (.slice xA xn xc) ∧ w'.cell? ⟨wv.heap.size, 0, none⟩ = some (.int .i64 yk) ∧ w'.cell? ⟨wv.heap.size, 1, none⟩ = some (.int .i64 yv) ∧ w'.cell? ⟨wv.heap.size, 2, none⟩ = some (.int .i64 yt) ∧ w'.cell? ⟨wv.heap.size, 3, none⟩ = some (.slice yA yn yc) ∧ Below W9.heap.size W9 w')
              (first | (with_reducible exact hS0) | (go_split_ands; exact ⟨hold hb (by assumption), hold hb (by assumption), hold hb (by assumption), hold hb (by assumption), hold hb (by assumption), hold hb (by assumption), hold hb (by assumption), hold hb (by assumption), below_next (by assumption) hb⟩))
              (first | (go_at_call 12; (with_reducible refine (H1.out _ ?_).mono ?_); (go_split_ands; assumption); rintro e w' ⟨rfl, hb⟩) | (go_at_call 13; (with_reducible refine (H2.out _ ?_).mono ?_); (go_split_ands; assumption); rintro e w' ⟨rfl, hb⟩) | (go_at_call 14; (with_reducible refine (H3.out _ ?_).mono ?_); (go_split_ands; assumption); rintro e w' ⟨rfl, hb⟩) | (go_at_call 15; (with_reducible refine (H4.out _ ?_).mono ?_); (go_split_ands; assumption); rintro e w' ⟨rfl, hb⟩))
            rename_i hH
            have HBe := Lib.hid (HB19.out.trans (hH.2.2.2.2.2.2.2.2.mono HB19.out.size))
            clear hH hS0 H1 H2 H3 H4 HBv HB19
            go_wp2_with fail
            exact ⟨⟨j + 1, by omega, by simp, HBe⟩, by simp [intOf]; omega⟩
          · have hj3' : j = 3 := by omega
            subst hj3'
            have HBe := Lib.hid (HB17.out.trans (HBv.out.mono HB17.out.size))
            clear HR17 HX17 HOX HBv
            go_wp2_with fail
            exact ⟨⟨i + 1, by omega, by simp, HBe⟩, by simp [intOf]; omega⟩
      · have hi4' : i = 4 := by omega
        subst hi4'
        have hbb := below_next HB14.out HBr.out
        obtain ⟨a0, a1, a2, a3⟩ := CA.out.below hbb
        dsimp only at a0 a1 a2 a3
        have hoa := HOA.out.below hbb
        have H1 : Hid (Calls Try.prog 12 #[.agg #[.int .i64 ak, .int .i64 av, .int .i64 at', .slice aA an ac], .agg #[.int .i64 ak, .int .i64 av, .int .i64 at', .slice aA an ac]] wo (BoolW true wo)) := Lib.hid (by
          have h := oc_same_e hoa hoa
          rw [same_self] at h
          exact h)
        have H2 : Hid (∀ V, Below wo.heap.size wo V → Calls Try.prog 14 #[.agg #[.int .i64 ak, .int .i64 av, .int .i64 at', .slice aA an ac], .agg #[.int .i64 ak, .int .i64 av, .int .i64 at', .slice aA an ac]] V (BoolW true V)) := Lib.hid (fun V hV => by
          have h := oc_ref_e (hoa.below hV) (hoa.below hV)
          rw [ref_self] at h
          exact h)
        have HBe := Lib.hid (HLo.out.trans (hbb.mono HLo.out.size))
        clear hoa hbb HR14
        go_wp2_with fail
        refine H1.out.mono ?_
        rintro e w5 ⟨rfl, hb5⟩
        have e0 := hold hb5 a0
        have e1 := hold hb5 a1
        have e2 := hold hb5 a2
        have e3 := hold hb5 a3
        have H3 := Lib.hid (H2.out w5 hb5)
        have HBf := Lib.hid (HBe.out.trans (hb5.mono HBe.out.size))
        clear hb5 a0 a1 a2 a3 H1 H2
        go_wp2_with fail
        refine H3.out.mono ?_
        rintro e w6 ⟨rfl, hb6⟩
        have HBg := Lib.hid (HBf.out.trans (hb6.mono HBf.out.size))
        clear hb6 H3
        go_wp2_with fail
        go_ret
        exact ⟨rfl, HBg.out⟩
set_option maxRecDepth 10000 in
set_option maxHeartbeats 1000000 in
theorem refines_long (hA : AwakeC) (ak av at' : Int) (aA : Option Addr) (an ac : Nat) (bk bv' bt : Int) (bA : Option Addr) (bn bc : Nat) (C : Option Addr) (m c : Nat) (w : World) (h : 100 < an ∨ 100 < bn) :
    Calls Try.prog 4 #[.agg #[.int .i64 ak, .int .i64 av, .int .i64 at', .slice aA an ac], .agg #[.int .i64 bk, .int .i64 bv', .int .i64 bt, .slice bA bn bc], .slice C m c] w fun e w' => e = .returned (.bool true) ∧ Below w.heap.size w w' := by
  have HA := Lib.hid hA
  have pa0 := alloc2_old w (.cells #[.int .i64 ak, .int .i64 av, .int .i64 at', .slice aA an ac] 29) (.cells #[.int .i64 bk, .int .i64 bv', .int .i64 bt, .slice bA bn bc] 29)
  have pb0 := alloc2_new w (.cells #[.int .i64 ak, .int .i64 av, .int .i64 at', .slice aA an ac] 29) (.cells #[.int .i64 bk, .int .i64 bv', .int .i64 bt, .slice bA bn bc] 29)
  have hb0 := ((Below.refl _ w).alloc (Nat.le_refl _) (.cells #[.int .i64 ak, .int .i64 av, .int .i64 at', .slice aA an ac] 29)).alloc (by simp) (.cells #[.int .i64 bk, .int .i64 bv', .int .i64 bt, .slice bA bn bc] 29)
  clear hA
  go_enter Try.func4, Try.ntmps4
  go_upto_region 1 with fail
  obtain ⟨W0, hW0⟩ : ∃ W0, W0 = (w.alloc (.cells #[.int .i64 ak, .int .i64 av, .int .i64 at', .slice aA an ac] 29)).alloc (.cells #[.int .i64 bk, .int .i64 bv', .int .i64 bt, .slice bA bn bc] 29) := ⟨_, rfl⟩
  rw [← hW0] at pa0 pb0 hb0 ⊢
  clear hW0
  go_wp2_with fail
  refine (HA.out _).mono ?_
  rintro e w1 ⟨rfl, hb1⟩
  have pa1 := below_keep2 hb1 pa0
  have pb1 := below_keep2 hb1 pb0
  have HB1 := Lib.hid (hb0.trans (hb1.mono hb0.size))
  have u3 := cell_of_row _ _ 3 _ _ _ pa1
  have v3 := cell_of_row _ _ 3 _ _ _ pb1
  clear pa0 pb0 hb0 pa1 pb1 hb1 HA
  by_cases h1 : 100 < an
  · have g1 : ((100 : Int) < (an : Int)) = True := eq_true (by omega)
    clear h
    go_wp2_with fail
    go_ret
    exact ⟨rfl, HB1.out⟩
  · have g1 : ((100 : Int) < (an : Int)) = False := eq_false (by omega)
    have g2 : ((100 : Int) < (bn : Int)) = True := eq_true (by omega)
    clear h
    go_wp2_with fail
    go_ret
    exact ⟨rfl, HB1.out⟩
end Go.Proofs.Ytjmbllbnlnjanaa
namespace Go.Proofs.Ytjmbllbnlnjanaa
open Go.ChangeShapes Go.WideShapes Go.ChangeAt Go.RowKit

theorem cellsI2 : Try.prog.cellsOf 3 = 1 := by kernel_rfl
theorem cellsS2 : Try.prog.cellsOf 23 = 1 := by kernel_rfl
theorem cellsO2 : Try.prog.cellsOf 29 = 4 := by kernel_rfl
set_option maxRecDepth 100000 in
/-- An outcome opened. -/
theorem open_out {H : Type} {enc : TypeId × Value → H} {W : World} {base : Nat} {v : Value} {d : DataW H} {p : List MemPlace} (hv : Value.okWide Try.prog W .any base 29 v) (h : DataW.Trod enc Try.prog W 0 (fun _ => true) true 29 v d p) :
    ∃ (k u t : Int) (A : Option Addr) (n c : Nat) (l : List Int), v = .agg #[.int .i64 k, .int .i64 u, .int .i64 t, .slice A n c] ∧ l.length = n ∧ n ≤ c ∧ Rd W A (l.map iv) := by
  obtain ⟨cs, rfl, hcs⟩ := Go.WideShapes.okWide_struct Try.underlying29 hv
  obtain ⟨fuel, hf⟩ := h
  obtain ⟨ys, n, _, _, hl, hlen, hfs⟩ := DataW.trod_struct Try.underlying29 hf
  have h0 := hfs 0 _ rfl
  have h1 := hfs 1 _ rfl
  have h2 := hfs 2 _ rfl
  have h3 := hfs 3 _ rfl
  have hy : ∀ i, i < 4 → ∃ y, ys[i]? = some y := fun i hi => ⟨_, List.getElem?_eq_getElem (by rw [hlen]; exact hi)⟩
  obtain ⟨y0, e0⟩ := hy 0 (by decide)
  obtain ⟨y1, e1⟩ := hy 1 (by decide)
  obtain ⟨y2, e2⟩ := hy 2 (by decide)
  obtain ⟨y3, e3⟩ := hy 3 (by decide)
  rw [e0] at h0
  rw [e1] at h1
  rw [e2] at h2
  rw [e3] at h3
  obtain ⟨k, ck, _, _⟩ := DataW.trod_int Try.underlying3 h0
  obtain ⟨u, cu, _, _⟩ := DataW.trod_int Try.underlying3 h1
  obtain ⟨t, ct, _, _⟩ := DataW.trod_int Try.underlying3 h2
  have h3' : List.take (Try.prog.cellsOf 23) (List.drop 3 (Value.agg cs).cells.toList) = [.slice none 0 0] ∨ ∃ (a : Addr) (len cap : Nat) (zs : List Int), List.take (Try.prog.cellsOf 23) (List.drop 3 (Value.agg cs).cells.toList) = [.slice (some a) len cap] ∧ len ≤ cap ∧ zs.length = cap ∧ ∀ i, i < zs.length → W.cell? (a.add i) = some (.int .i64 (zs.getD i 0)) := by
    rcases open_ints Try.underlying23 Try.underlying3 cellsI2 h3 with ⟨hc, _⟩ | ⟨a, len, cap, zs, hc, _, hlc, _, hz, _, hcell, _⟩
    · exact .inl hc
    · exact .inr ⟨a, len, cap, zs, hc, hlc, by simpa using hz, hcell⟩
  have ck' : List.take (Try.prog.cellsOf 3) (List.drop 0 (Value.agg cs).cells.toList) = [.int .i64 k] := ck
  have cu' : List.take (Try.prog.cellsOf 3) (List.drop 1 (Value.agg cs).cells.toList) = [.int .i64 u] := cu
  have ct' : List.take (Try.prog.cellsOf 3) (List.drop 2 (Value.agg cs).cells.toList) = [.int .i64 t] := ct
  clear ck cu ct h0 h1 h2 h3 hfs hf
  rw [cellsO2] at hl
  rw [cellsI2] at ck' cu' ct'
  rw [cellsS2] at h3'
  obtain ⟨L, hL⟩ : ∃ L, L = (Value.agg cs).cells.toList := ⟨_, rfl⟩
  rw [← hL] at hl ck' cu' ct' h3'
  have hcs2 : cs.toList = L := by rw [hL]; simp [Value.cells]
  rcases L with _ | ⟨x0, _ | ⟨x1, _ | ⟨x2, _ | ⟨x3, _ | ⟨x4, L⟩⟩⟩⟩⟩ <;> simp at hl
  simp at ck' cu' ct' h3'
  subst ck' cu' ct'
  have hcs3 : cs = #[.int .i64 k, .int .i64 u, .int .i64 t, x3] := by
    cases cs
    simp at hcs2
    rw [hcs2]
  rw [hcs3]
  rcases h3' with rfl | ⟨a, len, cap, rfl, hlc, zs, hz, hcell⟩
  · exact ⟨k, u, t, none, 0, 0, [], rfl, rfl, Nat.le_refl _, Rd.nil⟩
  · refine ⟨k, u, t, some a, len, cap, zs.take len, rfl, by simp; omega, hlc, Rd.of_cells fun j y hy => ?_⟩
    simp only [List.getElem?_map, Option.map_eq_some_iff] at hy
    obtain ⟨z, hz1, rfl⟩ := hy
    have hj : j < len := by
      rcases Nat.lt_or_ge j len with hlt | hge
      · exact hlt
      · rw [List.getElem?_eq_none (by simp; omega)] at hz1
        cases hz1
    rw [List.getElem?_take_of_lt hj] at hz1
    rw [hcell j (by omega)]
    simp [iv, hz1]
end Go.Proofs.Ytjmbllbnlnjanaa
