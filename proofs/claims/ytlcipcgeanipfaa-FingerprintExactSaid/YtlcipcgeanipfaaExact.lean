/-
  The walk of FingerprintExact: each function answers what the chapter's definition answers. No condition (longer arguments are let by, as the statement says).
-/
import Derived.Test.YtlcipcgeanipfaaFpAwake
import Derived.Test.YtlcipcgeanipfaaFpText
import Derived.Test.YtlcipcgeanipfaaFpDistinct
namespace Go.Proofs.Ytlcipcgeanipfaa
open Go.RowKit

set_option maxRecDepth 100000 in
set_option maxHeartbeats 1600000 in
theorem exact_short (x y : Nat) (A : Option Addr) (b : List Nat) (k c : Nat) (s : ByteArray) (C : Option Addr) (l : List Nat) (m d : Nat) (w : World) (hx : x < 18446744073709551616)
    (hk : b.length = k) (hb : Rd w A (b.map bv)) (hb2 : ∀ x ∈ b, x < 256) (hm : l.length = m) (hl : Rd w C (l.map uv)) (hl2 : ∀ x ∈ l, x < 18446744073709551616) (hC : C = none → l = []) (h1 : k ≤ 3000) (h2 : s.size ≤ 3000) (h3 : m ≤ 300) :
    Calls Try.prog 3 #[.int .u64 (x : Int), .int .u64 (y : Int), .slice A k c, .string s, .slice C m d] w fun e w' => e = .returned (.bool true) ∧ Below w.heap.size w w' := by
  have Hb := Lib.hid (bytes_any A b k c w hk hb hb2 (by omega))
  have Hbr := Lib.hid (refBytes_any A b k c w hk hb hb2 (by omega))
  have Hl := Lib.hid hl; clear hl
  have Hm := Lib.hid hm; clear hm
  have Hl2 := Lib.hid hl2; clear hl2
  have HC := Lib.hid hC; clear hC
  clear hk hb hb2
  have g1 : decide ((3000 : Int) < (k : Int)) = false := by simp; omega
  have g2 : decide ((3000 : Int) < (s.size : Int)) = false := by simp; omega
  have g3 : decide ((300 : Int) < (m : Int)) = false := by simp; omega
  go_enter Try.func3, Try.ntmps3
  go_wp2_with fail
  refine (awake_any _).mono ?_
  rintro e w1 ⟨rfl, rfl⟩
  go_wp2_with fail
  refine (scramble_any _ _ _ rfl hx).mono ?_
  rintro e w1 ⟨rfl, rfl⟩
  go_wp2_with fail
  refine (refScramble_any _ _ _ rfl hx).mono ?_
  rintro e w1 ⟨rfl, rfl⟩
  go_wp2_with fail
  refine (join_any _ _ _ _ _ rfl rfl).mono ?_
  rintro e w1 ⟨rfl, rfl⟩
  go_wp2_with fail
  refine (refJoin_any _ _ _ _ _ rfl rfl).mono ?_
  rintro e w1 ⟨rfl, rfl⟩
  go_wp2_with fail
  refine Hb.out.mono ?_
  rintro e w1 ⟨rfl, rfl⟩
  go_wp2_with fail
  refine Hbr.out.mono ?_
  rintro e w1 ⟨rfl, rfl⟩
  go_wp2_with fail
  refine (text_any s _ (by omega)).mono ?_
  rintro e w1 ⟨rfl, hb1⟩
  have HB1 := Lib.hid hb1; clear hb1
  go_wp2_with fail
  refine (refText_any s _ (by omega)).mono ?_
  rintro e w2 ⟨rfl, hb2⟩
  have HB2 := Lib.hid (below_next HB1.out hb2); clear hb2
  have HL2 := Lib.hid (Hl.out.below HB2.out)
  go_wp2_with fail
  refine (list_any C l m d _ Hm.out HL2.out Hl2.out (by omega)).mono ?_
  rintro e w3 ⟨rfl, rfl⟩
  go_wp2_with fail
  refine (refList_any C l m d _ Hm.out HL2.out Hl2.out (by omega)).mono ?_
  rintro e w3 ⟨rfl, rfl⟩
  go_wp2_with fail
  refine (set_any C l m d _ Hm.out HL2.out Hl2.out (by omega)).mono ?_
  rintro e w3 ⟨rfl, rfl⟩
  go_wp2_with fail
  refine (refSet_any C l m d _ Hm.out HL2.out Hl2.out (by omega)).mono ?_
  rintro e w3 ⟨rfl, rfl⟩
  go_wp2_with fail
  refine (distinct_any C l m d _ Hm.out HL2.out HC.out Hl2.out (by omega)).mono ?_
  rintro e w3 ⟨rfl, hb3⟩
  have HB3 := Lib.hid (below_next HB2.out hb3)
  have HL3 := Lib.hid (HL2.out.below hb3)
  clear hb3
  go_wp2_with fail
  refine (refDistinct_any C l m d _ Hm.out HL3.out Hl2.out (by omega)).mono ?_
  rintro e w4 ⟨rfl, hb4⟩
  have HB4 := Lib.hid (below_next HB3.out hb4)
  clear hb4
  go_wp2_with fail
  go_ret
  exact ⟨rfl, HB4.out⟩
set_option maxRecDepth 100000 in
theorem exact_long (x y : Int) (A : Option Addr) (k c : Nat) (s : ByteArray) (C : Option Addr) (m d : Nat) (w : World) (h : 3000 < k ∨ 3000 < s.size ∨ 300 < m) :
    Calls Try.prog 3 #[.int .u64 x, .int .u64 y, .slice A k c, .string s, .slice C m d] w fun e w' => e = .returned (.bool true) ∧ w = w' := by
  by_cases h1 : 3000 < k
  · have g1 : decide ((3000 : Int) < (k : Int)) = true := by simp; omega
    clear h
    go_enter Try.func3, Try.ntmps3
    go_wp2_with fail
    refine (awake_any _).mono ?_
    rintro e w1 ⟨rfl, rfl⟩
    go_wp2_with fail
    go_ret
    exact ⟨rfl, rfl⟩
  · have g1 : decide ((3000 : Int) < (k : Int)) = false := by simp; omega
    by_cases h2 : 3000 < s.size
    · have g2 : decide ((3000 : Int) < (s.size : Int)) = true := by simp; omega
      clear h
      go_enter Try.func3, Try.ntmps3
      go_wp2_with fail
      refine (awake_any _).mono ?_
      rintro e w1 ⟨rfl, rfl⟩
      go_wp2_with fail
      go_ret
      exact ⟨rfl, rfl⟩
    · have g2 : decide ((3000 : Int) < (s.size : Int)) = false := by simp; omega
      have g3 : decide ((300 : Int) < (m : Int)) = true := by simp; omega
      clear h
      go_enter Try.func3, Try.ntmps3
      go_wp2_with fail
      refine (awake_any _).mono ?_
      rintro e w1 ⟨rfl, rfl⟩
      go_wp2_with fail
      go_ret
      exact ⟨rfl, rfl⟩
end Go.Proofs.Ytlcipcgeanipfaa
