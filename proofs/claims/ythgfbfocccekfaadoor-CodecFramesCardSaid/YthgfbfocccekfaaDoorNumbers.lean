/-
  The walk of the law CodecNumbers: the encodings of any numbers, and what any bytes mean as a number. Conditions: the table reads as the program's text lays it; the arguments are of their kinds.
-/
import Derived.Test.YthgfbfocccekfaaDoorSpoilt
namespace Go.Proofs.YthgfbfocccekfaaDoor
open Go.RowKit

set_option maxRecDepth 10000 in
theorem numbers_long (n i : Int) (A B : Option Addr) (k c m d : Nat) (w : World) (ht : Tab w) (hk : 200 < k) :
    Calls Tryd.prog 3 #[.slice A k c, .int .u64 n, .int .i64 i, .slice B m d] w fun f w' => f = .returned (.bool true) ∧ Below w.heap.size w w' := by
  have Ht := Lib.hid ht; clear ht
  go_enter Tryd.func3, Tryd.ntmps3
  go_wp2_with fail
  refine (awake_any _ Ht.out).mono ?_
  rintro e w1 ⟨rfl, hb1⟩
  have Hb1 := Lib.hid hb1; clear hb1
  go_wp2_with fail
  go_ret
  exact ⟨rfl, Hb1.out⟩
/-- A slice of bytes among the law's inputs. -/
def Item (w : World) (v : Value) (l : List Nat) : Prop := ∃ A n c, v = .slice A n c ∧ l.length = n ∧ n ≤ c ∧ n ≤ 70000 ∧ Rd w A (l.map bv) ∧ ∀ x ∈ l, x < 256
theorem items_of {w : World} {t : TypeId} {v0 v1 v2 v3 : Value} {l0 l1 l2 l3 : List Nat} (h0 : Item w v0 l0) (h1 : Item w v1 l1) (h2 : Item w v2 l2) (h3 : Item w v3 l3) :
    ∀ q, q < 4 → ∃ v l, (w.alloc (.cells #[v0, v1, v2, v3] t)).cell? ⟨w.heap.size, q, none⟩ = some v ∧ Item (w.alloc (.cells #[v0, v1, v2, v3] t)) v l := by
  have up : ∀ {v l}, Item w v l → Item (w.alloc (.cells #[v0, v1, v2, v3] t)) v l := fun h => by
    obtain ⟨A, n, c, e, a, b, d, r, x⟩ := h
    exact ⟨A, n, c, e, a, b, d, r.alloc _, x⟩
  have cell : ∀ q, (w.alloc (.cells #[v0, v1, v2, v3] t)).cell? ⟨w.heap.size, q, none⟩ = (#[v0, v1, v2, v3] : Array Value)[q]? := fun q => cell_of_row _ _ q _ t (0, 0) (heap_alloc_new w _)
  intro q hq
  match q, hq with
  | 0, _ => exact ⟨v0, l0, by rw [cell]; rfl, up h0⟩
  | 1, _ => exact ⟨v1, l1, by rw [cell]; rfl, up h1⟩
  | 2, _ => exact ⟨v2, l2, by rw [cell]; rfl, up h2⟩
  | 3, _ => exact ⟨v3, l3, by rw [cell]; rfl, up h3⟩
def IxRel (n : Nat) (i : Value) : Prop := ∃ q : Nat, q ≤ n ∧ i = .int .i64 (q : Int)
set_option maxRecDepth 10000 in
set_option maxHeartbeats 1600000 in
theorem numbers_short (n : Nat) (i : Int) (A : Option Addr) (l : List Nat) (k c : Nat) (B : Option Addr) (lc : List Nat) (m d : Nat) (w : World) (ht : Tab w) (hlk : l.length = k) (hr : Rd w A (l.map bv)) (hl : ∀ x ∈ l, x < 256) (hkc : k ≤ c) (hnil : A = none → l = []) (hk : k ≤ 200)
    (hlm : lc.length = m) (hrc : Rd w B (lc.map bv)) (hlc : ∀ x ∈ lc, x < 256) (hmd : m ≤ d) (hn : n < 18446744073709551616) (hi : -9223372036854775808 ≤ i) (hi' : i ≤ 9223372036854775807) :
    Calls Tryd.prog 3 #[.slice A k c, .int .u64 n, .int .i64 i, .slice B m d] w fun f w' => f = .returned (.bool true) ∧ Below w.heap.size w w' := by
  have Ht := Lib.hid ht; clear ht
  have Hr := Lib.hid hr; clear hr
  have Hl := Lib.hid hl; clear hl
  have Hlk := Lib.hid hlk; clear hlk
  have Hnil : Hid (A = none → l.map bv = []) := Lib.hid (fun h => by rw [hnil h]; rfl)
  clear hnil
  have Hlm := Lib.hid hlm; clear hlm
  have Hrc := Lib.hid hrc; clear hrc
  have Hlc := Lib.hid hlc; clear hlc
  have Hn := Lib.hid hn; clear hn
  have Hi := Lib.hid hi; clear hi
  have Hi' := Lib.hid hi'; clear hi'
  have len1 := Lib.hid (enc_len10 n)
  have len3 := Lib.hid (enc_len10 (zig i))
  have Hlb : Hid ((l.map bv).length = k) := Lib.hid (by rw [List.length_map]; exact Hlk.out)
  go_enter Tryd.func3, Tryd.ntmps3
  go_wp2_with fail
  refine (awake_any _ Ht.out).mono ?_
  rintro e w1 ⟨rfl, hb1⟩
  have Hb1 := Lib.hid hb1; clear hb1
  have hsz1 := Hb1.out.size
  go_wp2_with fail
  refine (new_any B lc m d 60 _ Hlm.out hmd (Hrc.out.below Hb1.out) (by decide)).mono ?_
  rintro e w2 ⟨g, lc', rfl, hg, hlc', hlce, hcd, hb2⟩
  have Hlc2 : Hid (∀ x ∈ lc', x < 256) := Lib.hid (fun x hx => Hlc.out x (List.mem_of_mem_take (by rw [← hlce]; exact hx)))
  have Hcd := Lib.hid hcd; clear hcd
  have Hb2 := Lib.hid (below_next Hb1.out hb2); clear hb2 Hb1 hlce
  have Hr2 := Lib.hid (Hr.out.below Hb2.out)
  go_wp2_with fail
  refine (putUint_any A (l.map bv) k c n _ Hlb.out hkc Hr2.out Hnil.out Hn.out (by omega)).mono ?_
  rintro e w3 ⟨v3, rfl, hs3, hb3⟩
  obtain ⟨A3, c3, rfl, hr3, _⟩ := hs3.bytes (l := l ++ enc n) (by simp)
  have Hr3 := Lib.hid hr3
  have S3 := Lib.hid hb3
  clear hr3 hb3 hs3
  go_wp2_with fail
  refine (refPutUint_any A (l.map bv) k c n _ Hlb.out (Hr2.out.below S3.out) (bv_one _) Hn.out (by omega)).mono ?_
  rintro e w4 ⟨v4, rfl, hs4, hb4⟩
  obtain ⟨A4, c4, rfl, hr4, _⟩ := hs4.bytes (l := l ++ enc n) (by simp)
  have Hr3' := Lib.hid (Hr3.out.below hb4)
  have Hr4 := Lib.hid hr4
  have S4 := Lib.hid (below_next S3.out hb4)
  clear hr4 hb4 hs4 Hr3 S3
  go_wp2_with fail
  refine (equal_same A3 A4 (l ++ enc n) _ c3 c4 _ (by simp) Hr3'.out Hr4.out (by have := len1.out; have := Hlk.out; omega)).mono ?_
  rintro e w5 ⟨rfl, hb5⟩
  have S5 := Lib.hid (below_next S4.out hb5); clear hb5 S4 Hr3' Hr4
  go_wp2_with fail
  refine (putInt_any A (l.map bv) k c i _ Hi.out Hi'.out Hlb.out hkc (Hr2.out.below S5.out) Hnil.out (by omega)).mono ?_
  rintro e w6 ⟨v6, rfl, hs6, hb6⟩
  obtain ⟨A6, c6, rfl, hr6, _⟩ := hs6.bytes (l := l ++ enc (zig i)) (by simp)
  have Hr6 := Lib.hid hr6
  have S6 := Lib.hid (below_next S5.out hb6)
  clear hr6 hb6 hs6 S5
  go_wp2_with fail
  refine (refPutInt_any A (l.map bv) k c i _ Hi.out Hi'.out Hlb.out (Hr2.out.below S6.out) (bv_one _) (by omega)).mono ?_
  rintro e w7 ⟨v7, rfl, hs7, hb7⟩
  obtain ⟨A7, c7, rfl, hr7, _⟩ := hs7.bytes (l := l ++ enc (zig i)) (by simp)
  have Hr6' := Lib.hid (Hr6.out.below hb7)
  have Hr7 := Lib.hid hr7
  have S7 := Lib.hid (below_next S6.out hb7)
  clear hr7 hb7 hs7 S6 Hr6
  go_wp2_with fail
  refine (equal_same A6 A7 (l ++ enc (zig i)) _ c6 c7 _ (by simp) Hr6'.out Hr7.out (by have := len3.out; have := Hlk.out; omega)).mono ?_
  rintro e w8 ⟨rfl, hb8⟩
  have S8 := Lib.hid (below_next S7.out hb8); clear hb8 S7 Hr6' Hr7
  go_wp2_with fail
  refine (refPutUint_any none [] 0 0 n _ rfl Rd.nil (by simp) Hn.out (by omega)).mono ?_
  rintro e w9 ⟨v9, rfl, hs9, hb9⟩
  obtain ⟨A9, c9, rfl, hr9, hc9⟩ := hs9.bytes (l := enc n) (by simp)
  have Hr9 := Lib.hid hr9
  have S9 := Lib.hid (below_next S8.out hb9)
  clear hr9 hb9 hs9 S8
  go_wp2_with fail
  refine (refPutUint_any none [] 0 0 n _ rfl Rd.nil (by simp) Hn.out (by omega)).mono ?_
  rintro e w10 ⟨v10, rfl, hs10, hb10⟩
  obtain ⟨A10, c10, rfl, hr10, hc10⟩ := hs10.bytes (l := enc n) (by simp)
  have Hr9' := Lib.hid (Hr9.out.below hb10)
  have Hr10 := Lib.hid hr10
  have S10 := Lib.hid (below_next S9.out hb10)
  clear hr10 hb10 hs10 S9 Hr9
  go_wp2_with fail
  have Hcd10 := Lib.hid (codes_below Hcd.out S10.out)
  refine (spoilt_any g lc' 0 A10 (enc n) _ c10 _ Hcd10.out (by omega) Hlc2.out rfl hc10 Hr10.out (enc_lt n) (by have := len1.out; omega)).mono ?_
  rintro e w11 ⟨A11, b11, c11, k11, rfl, hr11, hb11, hc11, hl11, _, _, hg11⟩
  have Hr9'' := Lib.hid (codes_rd Hcd10.out Hr9'.out hg11)
  have Hr11 := Lib.hid hr11
  have Hbl11 := Lib.hid hb11
  have HrA := Lib.hid (codes_rd Hcd10.out (Hr2.out.below S10.out) hg11)
  have Hw11 := Lib.hid ((below_next Hb2.out S10.out).trans (grown_any (B := w.heap.size) hg11 (fun q hq => by injection hq with hq; omega) (Nat.le_trans Hb2.out.size S10.out.size)))
  clear hr11 hb11 hg11 Hr10
  go_wp2_with (at_builtin; refine Pause.out ?_)
  refine Pause.of (wpList_appendB _ rfl _ _ rfl w11.heap.size _ _ rfl (.inr ⟨some ⟨w11.heap.size, 0, none⟩, rfl, Rd.new w11 _ _ _, fun h => by cases h⟩) A k c (l.map bv) rfl Hlb.out (HrA.out.alloc _) (bv_one _) (by simp; omega) (by simp) ?_)
  intro v12 w12 hs12 hb12
  obtain ⟨A12, c12, rfl, hr12, hc12⟩ := hs12.bytes (l := [255, 255, 255, 255, 255, 255, 255, 255, 255] ++ l) (by simp [bv])
  have Hb12 := Lib.hid (((Below.refl w11.heap.size w11).alloc (Nat.le_refl _) _).trans hb12)
  have Hr12 := Lib.hid hr12
  have Hr9f := Lib.hid (Hr9''.out.below Hb12.out)
  have Hr11f := Lib.hid (Hr11.out.below Hb12.out)
  have HrAf := Lib.hid (HrA.out.below Hb12.out)
  have Hw12 := Lib.hid (below_next Hw11.out Hb12.out)
  clear hs12 hb12 hr12 Hr11 Hr9'' Hr9' HrA
  go_wp2_with fail
  have Hit := Lib.hid (items_of (t := 22) (w := w12) (v0 := .slice A k c) (v1 := .slice A9 (enc n).length c9) (v2 := .slice A11 b11.length c11) (v3 := .slice A12 (l.length + 1 + 1 + 1 + 1 + 1 + 1 + 1 + 1 + 1) c12)
    ⟨A, k, c, rfl, Hlk.out, hkc, by omega, HrAf.out, Hl.out⟩ ⟨A9, _, c9, rfl, rfl, hc9, by have := len1.out; omega, Hr9f.out, enc_lt n⟩ ⟨A11, _, c11, rfl, rfl, hc11, by have := len1.out; omega, Hr11f.out, Hbl11.out⟩
    ⟨A12, _, c12, rfl, by simp, by simpa using hc12, by have := Hlk.out; omega, Hr12.out, both_lt (by decide) Hl.out⟩)
  have Hw13 := Lib.hid (Hw12.out.alloc (o := .cells #[.slice A k c, .slice A9 (enc n).length c9, .slice A11 b11.length c11, .slice A12 (l.length + 1 + 1 + 1 + 1 + 1 + 1 + 1 + 1 + 1) c12] 22) Hw12.out.size)
  generalize w12.alloc (.cells #[.slice A k c, .slice A9 (enc n).length c9, .slice A11 b11.length c11, .slice A12 (l.length + 1 + 1 + 1 + 1 + 1 + 1 + 1 + 1 + 1) c12] 22) = w13 at *
  generalize w12.heap.size = bb at *
  clear Hw12 HrAf Hr9f Hr11f Hr12 Hb12 Hw11 Hcd10 Hbl11 S10 Hcd Hlc2
  go_loop [66] (fun i => IxRel 4 i) (fun i => 4 - (intOf i).toNat)
  case atStart => exact ⟨0, by omega, rfl⟩
  case round =>
    obtain ⟨q, hq, rfl⟩ := hrel
    by_cases hq4 : q < 4
    · obtain ⟨v, lq, hcell, Aq, nq, cq, rfl, hlq, hnc, hnb, hrq, hltq⟩ := Hit.out q hq4
      have Hrq := Lib.hid hrq; clear hrq
      have Hltq := Lib.hid hltq; clear hltq
      have Hlq := Lib.hid hlq; clear hlq
      obtain ⟨p, s, e0, hd⟩ : ∃ p s e0, dec lq = (p, s, e0) := ⟨_, _, _, rfl⟩
      have Hd := Lib.hid hd; clear hd
      generalize hz : zag p = z
      have Hz := Lib.hid hz; clear hz
      go_wp2_with fail
      refine (uint_any Aq lq nq cq p s e0 _ Hlq.out hnc Hrq.out Hltq.out (by omega) Hd.out).mono ?_
      rintro e w14 ⟨rfl, rfl⟩
      go_wp2_with fail
      refine (refUint_any Aq lq nq cq p s e0 _ Hlq.out Hrq.out Hltq.out (by omega) Hd.out).mono ?_
      rintro e w14 ⟨rfl, rfl⟩
      go_wp2_with fail
      refine (int_any Aq lq nq cq p s e0 z _ Hlq.out hnc Hrq.out Hltq.out (by omega) Hd.out Hz.out).mono ?_
      rintro e w14 ⟨rfl, rfl⟩
      go_wp2_with fail
      refine (refInt_any Aq lq nq cq p s e0 z _ Hlq.out Hrq.out Hltq.out (by omega) Hd.out Hz.out).mono ?_
      rintro e w14 ⟨rfl, rfl⟩
      go_wp2_with fail
      exact ⟨⟨q + 1, by omega, by simp⟩, by simp [intOf]; omega⟩
    · go_wp2_with fail
      go_ret
      exact ⟨rfl, Hw13.out⟩
end Go.Proofs.YthgfbfocccekfaaDoor
