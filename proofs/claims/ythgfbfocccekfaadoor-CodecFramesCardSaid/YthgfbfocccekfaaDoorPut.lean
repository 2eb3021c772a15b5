/-
  The walks of codec.withoutRoom and codec.PutUint: what is appended, and that nothing that was there has changed. Condition: the slice takes no more memory than the form's reach.
-/
import Derived.Test.YthgfbfocccekfaaDoorRows
import Derived.Test.YthgfbfocccekfaaDoorWords
import Derived.Test.YthgfbfocccekfaaDoorMath
import Derived.WalkLawsBesides
namespace Go.Proofs.YthgfbfocccekfaaDoor
open Go.RowKit

theorem Tryd.infoU8 : (Tryd.prog.info? 5).map (fun i => (i.zero, i.size, i.bytes)) = some (some (.int .u8 0), 1, 1) := by kernel_rfl

/-- append onto a slice of bytes, where a new one lies in memory of the call's own. -/
theorem wpList_appendB (w : World) {ops : Array Oper} {rest : List Oper} {o : Oper} {a : Act} {Q : Exit → Act → World → Prop} (hgd : o.guard = none) (s x : Operand)
    (ho : o.op = .call { callee := .builtin .append, args := #[s, x], argTypes := #[22, 22] })
    (base : Nat) (v : Value) (xs : List Value) (hs : a.eval s = v) (hown : Sl w base 5 v xs) (A : Option Addr) (m c : Nat) (news : List Value) (hx : a.eval x = .slice A m c) (hm : news.length = m) (hr : Rd w A news) (h1 : ∀ u ∈ news, u.oneCell' = true)
    (h63 : xs.length + m ≤ 140737488355328) (hbase : base ≤ w.heap.size)
    (h : ∀ v' w', Sl w' base 5 v' (xs ++ news) → Below base w w' → wpList Tryd.prog ops Q rest (a.put o.dst v') w') : wpList Tryd.prog ops Q (o :: rest) a w := by
  obtain ⟨i5, hi, hz0, hz1, hz2⟩ := info_parts Tryd.infoU8
  exact wpList_append_sl w hgd s x 22 ho base 5 i5 (.int .u8 0) 1 Tryd.underlying22 hi hz0 hz1 hz2 rfl v xs hs hown A m c news hx hm hr h1 (by unfold maxLen; omega) (by omega) hbase h

/-- append onto nil, something: a new row of the call's own. -/
theorem wpList_appendNew (w : World) {ops : Array Oper} {rest : List Oper} {o : Oper} {a : Act} {Q : Exit → Act → World → Prop} (hgd : o.guard = none) (s x : Operand)
    (ho : o.op = .call { callee := .builtin .append, args := #[s, x], argTypes := #[22, 22] })
    (hs : a.eval s = .slice none 0 0) (A : Option Addr) (m c : Nat) (news : List Value) (hx : a.eval x = .slice A m c) (hm : news.length = m) (hr : Rd w A news) (h1 : ∀ u ∈ news, u.oneCell' = true)
    (h63 : m ≤ 140737488355328) (hne : news ≠ [])
    (h : ∀ g cap cur w', m ≤ cap → w.heap.size ≤ g → w'.heap[g]? = some (.cells cur 5 (0, 0)) → Rd w' (some ⟨g, 0, none⟩) news → Below w.heap.size w w' → cur.size = cap → cur.toList.take m = news → cap ≤ maxLen → wpList Tryd.prog ops Q rest (a.put o.dst (.slice (some ⟨g, 0, none⟩) m cap)) w') : wpList Tryd.prog ops Q (o :: rest) a w := by
  obtain ⟨i5, hi, hz0, hz1, hz2⟩ := info_parts Tryd.infoU8
  obtain ⟨ad, rfl⟩ := hr.some_ hne
  refine wpList_append_own w hgd s x 22 ho w.heap.size 5 i5 (.int .u8 0) 1 1 Tryd.underlying22 hi hz0 hz1 hz2 rfl Nat.one_pos (.slice none 0 0) 0 [] hs (World.ownsRow_nil w _ _ 1) ad m c news hx (by omega) hr.cells h1 (by unfold maxLen; omega) (by omega) (Nat.le_refl _) ?_
  intro v' w' hown hg _
  rcases hown.2 with ⟨_, h0⟩ | ⟨g, cap, cur, rfl, hbg, hcur, hnc, hcm, hsz, htk⟩
  · have := List.length_pos_iff.2 hne
    omega
  · have hr' := Rd.of_own (A := some ⟨g, 0, none⟩) hown
    simp only [Nat.zero_add, List.nil_append, Nat.mul_one] at hr' hnc htk hsz ⊢
    exact h g cap cur w' hnc hbg hcur hr' ((Below.refl _ w).grown hg (Nat.le_refl _) (fun k hk => by simp [Value.ownBlock] at hk)) hsz htk hcm

theorem withoutRoom_any (A : Option Addr) (n c : Nat) (w : World) (h : n ≤ c) :
    Calls Tryd.prog 26 #[.slice A n c] w fun e w' => e = .returned (.slice A n n) ∧ w = w' := by
  go_enter Tryd.func26, Tryd.ntmps26
  go_wp2
  go_ret
  exact ⟨rfl, rfl⟩

/-- The loop's relation: what has been written, and what is left. -/
def PuRel (base : Nat) (xs : List Value) (n : Nat) (w : World) (v u : Value) (wr : World) : Prop :=
  ∃ (f m : Nat) (ys : List Nat), u = .int .u64 (m : Int) ∧ m < 128 ^ f ∧ 1 ≤ f ∧ m < 18446744073709551616 ∧ ys ++ encF f m = enc n ∧ ys.length + f = 10 ∧ Sl wr base 5 v (xs ++ ys.map bv) ∧ Below base w wr

theorem putUint_step {base n : Nat} {xs : List Value} {w wr w1 : World} {v' : Value} {f m : Nat} {ys : List Nat} {o : Obj} {q : Int} (hm1 : m < 128 ^ f) (hm2 : m < 18446744073709551616) (hys : ys ++ encF f m = enc n) (hl : ys.length + f = 10)
    (hge : 128 ≤ m) (hb : Below base w wr) (hbase : base ≤ wr.heap.size) (hq : q = ((m % 128 + 128 : Nat) : Int)) (hs : Sl w1 base 5 v' (xs ++ ys.map bv ++ [.int .u8 q])) (hb1 : Below base (wr.alloc o) w1) :
    PuRel base xs n w v' (.int .u64 ((m : Int) / 128)) w1 := by
  obtain ⟨g, rfl, hg, hlt, he⟩ := encF_big hm1 hge
  refine ⟨g, m / 128, ys ++ [m % 128 + 128], by rw [Int.natCast_ediv]; rfl, hlt, hg, by omega, by rw [he] at hys; simpa using hys, by simp; omega, ?_, (hb.alloc hbase o).trans hb1⟩
  rw [hq] at hs
  simpa [bv] using hs
theorem putUint_last {base n : Nat} {xs : List Value} {w wr w1 : World} {v' : Value} {f m : Nat} {ys : List Nat} {o : Obj} (hf : 1 ≤ f) (hys : ys ++ encF f m = enc n)
    (hge : m < 128) (hb : Below base w wr) (hbase : base ≤ wr.heap.size) (hs : Sl w1 base 5 v' (xs ++ ys.map bv ++ [.int .u8 (m : Int)])) (hb1 : Below base (wr.alloc o) w1) :
    Sl w1 base 5 v' (xs ++ (enc n).map bv) ∧ Below base w w1 := by
  rw [encF_small hf hge] at hys
  refine ⟨?_, (hb.alloc hbase o).trans hb1⟩
  rw [← hys]
  simpa [bv] using hs

set_option maxRecDepth 10000 in
set_option maxHeartbeats 400000 in
theorem putUint_any (A : Option Addr) (xs : List Value) (k c : Nat) (n : Nat) (w : World) (hk : xs.length = k) (h : k ≤ c) (hr : Rd w A xs) (hnil : A = none → xs = []) (hn : n < 18446744073709551616) (hreach : k ≤ 140737488351232) :
    Calls Tryd.prog 10 #[.slice A k c, .int .u64 n] w fun e w' => ∃ v, e = .returned v ∧ Sl w' w.heap.size 5 v (xs ++ (enc n).map bv) ∧ Below w.heap.size w w' := by
  subst hk
  have Hn := Lib.hid hn; clear hn
  have Hnil := Lib.hid hnil; clear hnil
  have hx : xs.length ≤ 140737488351232 := hreach
  go_enter Tryd.func10, Tryd.ntmps10
  go_wp2_with fail
  refine (withoutRoom_any A xs.length c _ h).mono ?_
  rintro e w1 ⟨rfl, rfl⟩
  go_wp2_with fail
  go_loopw [0, 1] (fun v u wr => PuRel w.heap.size xs n w v u wr) (fun _ u _ => (intOf u).toNat)
  case atStart => exact ⟨10, n, [], rfl, by have := Hn.out; omega, by omega, Hn.out, rfl, rfl, .inr ⟨A, by simp, by simpa using hr, by simpa using Hnil.out⟩, Below.refl _ _⟩
  case round =>
    obtain ⟨f, m, ys, rfl, hm1, hf, hm2, hys, hl, hs, hb⟩ := hrel
    have hlen : ys.length ≤ 9 := by omega
    have H := Lib.hid hys; clear hys
    have Hl := Lib.hid hl; clear hl
    have Hm2 := Lib.hid hm2; clear hm2
    have Hm1 := Lib.hid hm1; clear hm1
    have hbs : w.heap.size ≤ wr.heap.size := hb.size
    have K3 : Hid ((xs ++ ys.map bv).length + 1 ≤ maxLen) := Lib.hid (by simp [maxLen]; omega)
    have K4 : Hid (((xs ++ ys.map bv).length + 1) * 1 ≤ 140737488355328) := Lib.hid (by simp; omega)
    obtain ⟨i5, hi, hz0, hz1, hz2⟩ := info_parts Tryd.infoU8
    by_cases hge : 128 ≤ m
    · go_wp2_with (at_builtin; refine wpList_append_sl _ rfl _ _ 22 rfl w.heap.size 5 i5 (.int .u8 0) 1 Tryd.underlying22 hi hz0 hz1 hz2 rfl _ _ rfl (hs.alloc _) (some ⟨wr.heap.size, 0, none⟩) 1 1 [.int .u8 (bits .or .u8 ((m : Int) % 256) 128)] rfl rfl (Rd.of_cells (cell_one_new _ _ _)) (one_cell_u8 _) K3.out K4.out (by simp; omega) ?_; intro v' w1 hs' hb')
      exact ⟨putUint_step Hm1.out Hm2.out H.out Hl.out hge hb hbs (orByte m) hs' hb', by simp [intOf]; omega⟩
    · have hlt : m < 128 := by omega
      go_wp2_with (at_builtin; refine wpList_append_sl _ rfl _ _ 22 rfl w.heap.size 5 i5 (.int .u8 0) 1 Tryd.underlying22 hi hz0 hz1 hz2 rfl _ _ rfl (hs.alloc _) (some ⟨wr.heap.size, 0, none⟩) 1 1 [.int .u8 (m : Int)] rfl rfl (Rd.of_cells (cell_one_new _ _ _)) (one_cell_u8 _) K3.out K4.out (by simp; omega) ?_; intro v' w1 hs' hb')
      go_ret
      exact ⟨_, rfl, putUint_last hf H.out hlt hb hbs hs' hb'⟩

set_option maxRecDepth 10000 in
theorem putInt_pos (A : Option Addr) (xs : List Value) (k c : Nat) (i : Nat) (w : World) (hi : i ≤ 9223372036854775807) (hk : xs.length = k) (h : k ≤ c) (hr : Rd w A xs) (hnil : A = none → xs = []) (hreach : k ≤ 140737488351232) :
    Calls Tryd.prog 12 #[.slice A k c, .int .i64 (i : Int)] w fun e w' => ∃ v, e = .returned v ∧ Sl w' w.heap.size 5 v (xs ++ (enc (zig i)).map bv) ∧ Below w.heap.size w w' := by
  have C := putUint_any A xs k c (zig i) w hk h hr hnil (zig_lt i (by omega) (by omega)) hreach
  rw [← zigXorPos i hi] at C
  have H := Lib.hid C; clear C hnil hk
  go_enter Tryd.func12, Tryd.ntmps12
  go_wp2_with fail
  refine H.out.mono ?_
  rintro e w1 ⟨v, rfl, h1, h2⟩
  go_wp2_with fail
  go_ret
  exact ⟨v, rfl, h1, h2⟩
set_option maxRecDepth 10000 in
theorem putInt_neg (A : Option Addr) (xs : List Value) (k c : Nat) (i : Int) (w : World) (hi : -9223372036854775808 ≤ i) (h0 : i < 0) (hk : xs.length = k) (h : k ≤ c) (hr : Rd w A xs) (hnil : A = none → xs = []) (hreach : k ≤ 140737488351232) :
    Calls Tryd.prog 12 #[.slice A k c, .int .i64 i] w fun e w' => ∃ v, e = .returned v ∧ Sl w' w.heap.size 5 v (xs ++ (enc (zig i)).map bv) ∧ Below w.heap.size w w' := by
  have C := putUint_any A xs k c (zig i) w hk h hr hnil (zig_lt i (by omega) (by omega)) hreach
  rw [← zigXorNeg i hi h0] at C
  have H := Lib.hid C; clear C hnil hk
  go_enter Tryd.func12, Tryd.ntmps12
  go_wp2_with fail
  refine H.out.mono ?_
  rintro e w1 ⟨v, rfl, h1, h2⟩
  go_wp2_with fail
  go_ret
  exact ⟨v, rfl, h1, h2⟩
theorem putInt_any (A : Option Addr) (xs : List Value) (k c : Nat) (i : Int) (w : World) (hi : -9223372036854775808 ≤ i) (hi' : i ≤ 9223372036854775807) (hk : xs.length = k) (h : k ≤ c) (hr : Rd w A xs) (hnil : A = none → xs = []) (hreach : k ≤ 140737488351232) :
    Calls Tryd.prog 12 #[.slice A k c, .int .i64 i] w fun e w' => ∃ v, e = .returned v ∧ Sl w' w.heap.size 5 v (xs ++ (enc (zig i)).map bv) ∧ Below w.heap.size w w' := by
  rcases Int.lt_or_le i 0 with h0 | h0
  · exact putInt_neg A xs k c i w hi h0 hk h hr hnil hreach
  · obtain ⟨q, rfl⟩ := Int.eq_ofNat_of_zero_le h0
    exact putInt_pos A xs k c q w (by omega) hk h hr hnil hreach
end Go.Proofs.YthgfbfocccekfaaDoor
