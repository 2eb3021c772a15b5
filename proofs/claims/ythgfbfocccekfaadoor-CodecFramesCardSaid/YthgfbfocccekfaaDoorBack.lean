/-
  The walk of the law CodecBack: numbers are read back, whatever follows, and a shorter encoding is a smaller number. Conditions: the table reads as the program's text lays it; the arguments are of their kinds.
-/
import Derived.Test.YthgfbfocccekfaaDoorBytes
namespace Go.Proofs.YthgfbfocccekfaaDoor
open Go.RowKit

set_option maxRecDepth 10000 in
theorem back_long (n m i : Int) (A : Option Addr) (k c : Nat) (w : World) (ht : Tab w) (hk : 200 < k) :
    Calls Tryd.prog 4 #[.int .u64 n, .int .u64 m, .int .i64 i, .slice A k c] w fun f w' => f = .returned (.bool true) ∧ Below w.heap.size w w' := by
  have Ht := Lib.hid ht; clear ht
  go_enter Tryd.func4, Tryd.ntmps4
  go_wp2_with fail
  refine (awake_any _ Ht.out).mono ?_
  rintro e w1 ⟨rfl, hb1⟩
  have Hb1 := Lib.hid hb1; clear hb1
  go_wp2_with fail
  go_ret
  exact ⟨rfl, Hb1.out⟩

theorem enc_len10 (n : Nat) : (enc n).length ≤ 10 := encF_len 10 n
theorem enc_pos (n : Nat) : 1 ≤ (enc n).length := encF_pos 10 n (by decide)
theorem enc_lt (n : Nat) : ∀ c ∈ enc n, c < 256 := encF_lt 10 n
theorem both_lt {a b : List Nat} (ha : ∀ x ∈ a, x < 256) (hb : ∀ x ∈ b, x < 256) : ∀ x ∈ a ++ b, x < 256 := fun x hx => (List.mem_append.1 hx).elim (ha x) (hb x)

set_option maxRecDepth 10000 in
set_option maxHeartbeats 1000000 in
theorem back_short (n m : Nat) (i : Int) (A : Option Addr) (l : List Nat) (c : Nat) (w : World) (ht : Tab w) (hr : Rd w A (l.map bv)) (hl : ∀ x ∈ l, x < 256) (hk : l.length ≤ 200) (hn : n < 18446744073709551616) (hm : m < 18446744073709551616)
    (hi : -9223372036854775808 ≤ i) (hi' : i ≤ 9223372036854775807) :
    Calls Tryd.prog 4 #[.int .u64 n, .int .u64 m, .int .i64 i, .slice A l.length c] w fun f w' => f = .returned (.bool true) ∧ Below w.heap.size w w' := by
  have Ht := Lib.hid ht; clear ht
  have Hr := Lib.hid hr; clear hr
  have Hl := Lib.hid hl; clear hl
  have Hn := Lib.hid hn; clear hn
  have Hm := Lib.hid hm; clear hm
  have Hi := Lib.hid hi; clear hi
  have Hi' := Lib.hid hi'; clear hi'
  have len1 := Lib.hid (enc_len10 n)
  have len3 := Lib.hid (enc_len10 (zig i))
  have pos3 := Lib.hid (enc_pos (zig i))
  have Hmono : Hid ((enc n).length < (enc m).length → n < m) := Lib.hid encF_mono
  go_enter Tryd.func4, Tryd.ntmps4
  go_wp2_with fail
  refine (awake_any _ Ht.out).mono ?_
  rintro e w1 ⟨rfl, hb1⟩
  have Hb1 := Lib.hid hb1; clear hb1
  go_wp2_with fail
  refine (putUint_any none [] 0 0 n _ rfl (by simp) Rd.nil (fun _ => rfl) Hn.out (by decide)).mono ?_
  rintro e w2 ⟨v2, rfl, hs2, hb2⟩
  obtain ⟨A2, c2, rfl, hr2, hc2⟩ := hs2.bytes (l := enc n) (by simp)
  have Hb2 := Lib.hid (below_next Hb1.out hb2); clear Hb1
  have Hr2 := Lib.hid hr2; clear hr2 hs2 hb2
  go_wp2_with fail
  refine (putUint_any none [] 0 0 m _ rfl (by simp) Rd.nil (fun _ => rfl) Hm.out (by decide)).mono ?_
  rintro e w3 ⟨v3, rfl, hs3, hb3⟩
  obtain ⟨A3, c3, rfl, _, hc3⟩ := hs3.bytes (l := enc m) (by simp)
  have Hb3 := Lib.hid (below_next Hb2.out hb3); clear Hb2
  have Hr3 := Lib.hid (Hr2.out.below hb3); clear Hr2 hb3 hs3
  go_wp2_with (at_builtin; refine Pause.out ?_)
  refine Pause.of (wpList_appendB _ rfl _ _ rfl w3.heap.size _ _ rfl Sl.nil_ A2 _ c2 _ rfl (by simp) Hr3.out (bv_one _) (by have := len1.out; simp; omega) (Nat.le_refl _) ?_)
  intro v4 w4 hs4 hb4
  have Hs4 := Lib.hid hs4; clear hs4
  have Hb4 := Lib.hid hb4; clear hb4
  go_wp2_with (at_builtin; refine Pause.out ?_)
  refine Pause.of (wpList_appendB _ rfl _ _ rfl w3.heap.size _ _ rfl Hs4.out A _ c _ rfl (by simp) (Hr.out.below (below_next Hb3.out Hb4.out)) (bv_one _) (by have := len1.out; simp; omega) Hb4.out.size ?_)
  intro v5 w5 hs5 hb5
  obtain ⟨A5, c5, rfl, hr5, hc5⟩ := hs5.bytes (l := enc n ++ l) (by simp)
  have Hb5 := Lib.hid (below_next Hb3.out (Hb4.out.trans hb5))
  have Hr5 := Lib.hid hr5
  clear Hb3 hb5 hr5 hs5 Hs4 Hb4
  go_wp2_with fail
  refine (uint_any A5 (enc n ++ l) _ c5 n (enc n).length 0 _ (by simp) (by simpa using hc5) Hr5.out (both_lt (enc_lt n) Hl.out) (by have := len1.out; omega) (dec_enc n l Hn.out)).mono ?_
  rintro e w6 ⟨rfl, rfl⟩
  clear hc5
  go_wp2_with fail
  refine (putInt_any none [] 0 0 i _ Hi.out Hi'.out rfl (by simp) Rd.nil (fun _ => rfl) (by decide)).mono ?_
  rintro e w7 ⟨v7, rfl, hs7, hb7⟩
  obtain ⟨A7, c7, rfl, hr7, hc7⟩ := hs7.bytes (l := enc (zig i)) (by simp)
  have Hb7 := Lib.hid (below_next Hb5.out hb7); clear Hb5
  have Hr7 := Lib.hid hr7; clear hr7 hs7 hb7
  go_wp2_with (at_builtin; refine Pause.out ?_)
  refine Pause.of (wpList_appendB _ rfl _ _ rfl w7.heap.size _ _ rfl Sl.nil_ A7 _ c7 _ rfl (by simp) Hr7.out (bv_one _) (by have := len3.out; simp; omega) (Nat.le_refl _) ?_)
  intro v8 w8 hs8 hb8
  have Hs8 := Lib.hid hs8; clear hs8
  have Hb8 := Lib.hid hb8; clear hb8
  go_wp2_with (at_builtin; refine Pause.out ?_)
  refine Pause.of (wpList_appendB _ rfl _ _ rfl w7.heap.size _ _ rfl Hs8.out A _ c _ rfl (by simp) (Hr.out.below (below_next Hb7.out Hb8.out)) (bv_one _) (by have := len3.out; simp; omega) Hb8.out.size ?_)
  intro v9 w9 hs9 hb9
  obtain ⟨A9, c9, rfl, hr9, hc9⟩ := hs9.bytes (l := enc (zig i) ++ l) (by simp)
  have Hb9 := Lib.hid (below_next Hb7.out (Hb8.out.trans hb9))
  have Hr9 := Lib.hid hr9
  clear Hb7 hb9 hr9 hs9 Hs8 Hb8
  go_wp2_with fail
  refine (int_any A9 (enc (zig i) ++ l) _ c9 (zig i) (enc (zig i)).length 0 i _ (by simp) (by simpa using hc9) Hr9.out (both_lt (enc_lt _) Hl.out) (by have := len3.out; omega) (dec_enc (zig i) l (zig_lt i Hi.out Hi'.out)) (zag_zig i)).mono ?_
  rintro e w10 ⟨rfl, rfl⟩
  clear hc9
  have hpos := pos3.out
  have hd : decide ((0 : Int) < ((enc (zig i)).length : Int)) = true := by simp; omega
  by_cases hlen : (enc n).length < (enc m).length
  · have hnm := Hmono.out hlen
    have hd2 : decide ((n : Int) < (m : Int)) = true := by simp; omega
    go_wp2_with fail
    go_ret
    exact ⟨rfl, Hb9.out⟩
  · go_wp2_with fail
    go_ret
    exact ⟨rfl, Hb9.out⟩
end Go.Proofs.YthgfbfocccekfaaDoor
