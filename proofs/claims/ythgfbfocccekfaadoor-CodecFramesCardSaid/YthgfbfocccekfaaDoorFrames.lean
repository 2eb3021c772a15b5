/-
  The walk of the law CodecFrames: the frames of any payloads, and what any bytes mean as a frame. Conditions: the table reads as the program's text lays it; the arguments are of their kinds.
-/
import Derived.Test.YthgfbfocccekfaaDoorNumbers
import Derived.Test.YthgfbfocccekfaaDoorRefFrame
import Derived.Test.YthgfbfocccekfaaDoorDamage
namespace Go.Proofs.YthgfbfocccekfaaDoor
open Go.RowKit

set_option maxRecDepth 10000 in
theorem frames_long (q : Int) (A B C : Option Addr) (k c k' c' m d : Nat) (w : World) (ht : Tab w) (hk : 1000 < k ∨ 1000 < k') :
    Calls Tryd.prog 5 #[.slice A k c, .slice B k' c', .int .u32 q, .slice C m d] w fun f w' => f = .returned (.bool true) ∧ Below w.heap.size w w' := by
  have Ht := Lib.hid ht; clear ht
  by_cases h1 : 1000 < k
  · clear hk
    go_enter Tryd.func5, Tryd.ntmps5
    go_wp2_with fail
    refine (awake_any _ Ht.out).mono ?_
    rintro e w1 ⟨rfl, hb1⟩
    have Hb1 := Lib.hid hb1; clear hb1
    go_wp2_with fail
    go_ret
    exact ⟨rfl, Hb1.out⟩
  · have h2 : 1000 < k' := by omega
    have hd2 : decide (1000 < (k' : Int)) = true := by simp; omega
    clear hk
    go_enter Tryd.func5, Tryd.ntmps5
    go_wp2_with fail
    refine (awake_any _ Ht.out).mono ?_
    rintro e w1 ⟨rfl, hb1⟩
    have Hb1 := Lib.hid hb1; clear hb1
    go_wp2_with fail
    go_ret
    exact ⟨rfl, Hb1.out⟩
theorem items5 {w : World} {t : TypeId} {v0 v1 v2 v3 v4 : Value} {l0 l1 l2 l3 l4 : List Nat} (h0 : Item w v0 l0) (h1 : Item w v1 l1) (h2 : Item w v2 l2) (h3 : Item w v3 l3) (h4 : Item w v4 l4) :
    ∀ q, q < 5 → ∃ v l, (w.alloc (.cells #[v0, v1, v2, v3, v4] t)).cell? ⟨w.heap.size, q, none⟩ = some v ∧ Item (w.alloc (.cells #[v0, v1, v2, v3, v4] t)) v l := by
  have up : ∀ {v l}, Item w v l → Item (w.alloc (.cells #[v0, v1, v2, v3, v4] t)) v l := fun h => by
    obtain ⟨A, n, c, e, a, b, d, r, x⟩ := h
    exact ⟨A, n, c, e, a, b, d, r.alloc _, x⟩
  have cell : ∀ q, (w.alloc (.cells #[v0, v1, v2, v3, v4] t)).cell? ⟨w.heap.size, q, none⟩ = (#[v0, v1, v2, v3, v4] : Array Value)[q]? := fun q => cell_of_row _ _ q _ t (0, 0) (heap_alloc_new w _)
  intro q hq
  match q, hq with
  | 0, _ => exact ⟨v0, l0, by rw [cell]; rfl, up h0⟩
  | 1, _ => exact ⟨v1, l1, by rw [cell]; rfl, up h1⟩
  | 2, _ => exact ⟨v2, l2, by rw [cell]; rfl, up h2⟩
  | 3, _ => exact ⟨v3, l3, by rw [cell]; rfl, up h3⟩
  | 4, _ => exact ⟨v4, l4, by rw [cell]; rfl, up h4⟩
def FxRel (w : World) (i : Value) (wr : World) : Prop := ∃ q : Nat, q ≤ 5 ∧ i = .int .i64 (q : Int) ∧ Below w.heap.size w wr
theorem unframe_len (l : List Nat) : (unframe l).1.length ≤ l.length := by
  unfold unframe
  split
  · simp
  · split
    · simp
    · split
      · simp
      · split
        · simp
        · simp only [List.length_take, List.length_drop]
          omega
theorem frame_len2 (l : List Nat) (h : l.length ≤ 65535) : (frame l).length ≤ 65549 := by
  rw [frame_len]
  have := enc_len10 l.length
  omega
theorem madeCells_list (v : Value) (n : Nat) : (madeCells #[v] n).toList = List.replicate n v := by
  refine List.ext_getElem (by simp [madeCells]) fun i h1 h2 => ?_
  simp [madeCells, Nat.mod_one]
set_option maxRecDepth 10000 in
set_option maxHeartbeats 4000000 in
theorem frames_short (A B C : Option Addr) (l lp0 lc : List Nat) (k c k' c' m d lg : Nat) (w : World) (ht : Tab w) (hlk : l.length = k) (hr : Rd w A (l.map bv)) (hl : ∀ x ∈ l, x < 256) (hkc : k ≤ c) (hnil : A = none → l = []) (hk : k ≤ 1000)
    (hlp : lp0.length = k') (hrp : Rd w B (lp0.map bv)) (hltp : ∀ x ∈ lp0, x < 256) (hk' : k' ≤ 1000)
    (hlm : lc.length = m) (hrc : Rd w C (lc.map bv)) (hlc : ∀ x ∈ lc, x < 256) (hmd : m ≤ d) (hlg : lg < 4294967296) :
    Calls Tryd.prog 5 #[.slice A k c, .slice B k' c', .int .u32 (lg : Int), .slice C m d] w fun f w' => f = .returned (.bool true) ∧ Below w.heap.size w w' := by
  have Ht := Lib.hid ht; clear ht
  have Hr := Lib.hid hr; clear hr
  have Hl := Lib.hid hl; clear hl
  have Hlk := Lib.hid hlk; clear hlk
  have Hnil : Hid (A = none → l.map bv = []) := Lib.hid (fun h => by rw [hnil h]; rfl)
  clear hnil
  have Hlp := Lib.hid hlp; clear hlp
  have Hrp := Lib.hid hrp; clear hrp
  have Hltp := Lib.hid hltp; clear hltp
  have Hlm := Lib.hid hlm; clear hlm
  have Hrc := Lib.hid hrc; clear hrc
  have Hlc := Lib.hid hlc; clear hlc
  have Hlb : Hid ((l.map bv).length = k) := Lib.hid (by rw [List.length_map]; exact Hlk.out)
  go_enter Tryd.func5, Tryd.ntmps5
  go_wp2_with fail
  refine (awake_any _ Ht.out).mono ?_
  rintro e w1 ⟨rfl, hb1⟩
  have Hb1 := Lib.hid hb1; clear hb1
  have hsz1 := Hb1.out.size
  go_wp2_with fail
  refine (new_any C lc m d 60 _ Hlm.out hmd (Hrc.out.below Hb1.out) (by decide)).mono ?_
  rintro e w2 ⟨g, lc', rfl, hg, hlc', hlce, hcd, hb2⟩
  have Hlc2 : Hid (∀ x ∈ lc', x < 256) := Lib.hid (fun x hx => Hlc.out x (List.mem_of_mem_take (by rw [← hlce]; exact hx)))
  have Hcd := Lib.hid hcd; clear hcd
  have Hb2 := Lib.hid (below_next Hb1.out hb2); clear hb2 Hb1 hlce
  go_wp2_with fail
  refine (next_any g lc' 0 12 _ Hcd.out (by decide) (by omega) Hlc2.out).mono ?_
  rintro e w3 ⟨r, k3, rfl, _, _, hc3, hg3⟩
  have Hc3 := Lib.hid hc3
  have Hb3 := Lib.hid (Hb2.out.trans (grown_any (B := w.heap.size) hg3 (fun q hq => by injection hq with hq; omega) Hb2.out.size))
  clear hc3 hg3 Hb2 Hcd
  by_cases h11 : r = 11
  · have e11 : ((r : Int) == 11) = true := by rw [beq_iff_eq]; omega
    clear h11
    obtain ⟨i5, hi0, hz0, hz1, hz2⟩ := info_parts Tryd.infoU8
    have Hi := Lib.hid (And.intro hi0 (And.intro hz0 (And.intro hz1 hz2)))
    clear hi0 hz0 hz1 hz2
    go_wp2_with (at_make; refine Pause.out ?_)
    refine Pause.of (wpList_make_full _ rfl _ _ 22 rfl w3.heap.size 5 i5 (.int .u8 0) 1 Tryd.underlying22 Hi.out.1 Hi.out.2.1 Hi.out.2.2.1 .i64 .i64 _ _ (65530 + lg % 10) rfl rfl (by omega) (by omega) (by rw [Hi.out.2.2.2]; omega) (by unfold maxLen; omega) (Nat.le_refl _) ?_)
    intro w4 hown4 hg4
    have hb34 : Below w3.heap.size w3 w4 := (Below.refl _ _).grown hg4 (Nat.le_refl _) (fun q hq => by cases hq)
    have hrl : Rd w4 (some ⟨w3.heap.size, 0, none⟩) ((List.replicate (65530 + lg % 10) 0).map bv) := by
      have h0 := Rd.of_own (A := some ⟨w3.heap.size, 0, none⟩) hown4
      rw [Nat.mul_one, show (Value.int .u8 0).cells = #[Value.int .u8 0] from rfl, madeCells_list] at h0
      rw [List.map_replicate]
      exact h0
    have Hc4 := Lib.hid (codes_below Hc3.out hb34)
    have Hb4 := Lib.hid (below_next Hb3.out hb34)
    have hlen0 : (List.replicate (65530 + lg % 10) 0 : List Nat).length = 65530 + lg % 10 := List.length_replicate
    have hlt0 : ∀ x ∈ (List.replicate (65530 + lg % 10) 0 : List Nat), x < 256 := fun x hx => by rw [(List.mem_replicate.1 hx).2]; decide
    generalize (List.replicate (65530 + lg % 10) 0 : List Nat) = lp at *
    have hmp : 65530 + lg % 10 ≤ 65539 := by omega
    generalize 65530 + lg % 10 = mp at *
    generalize (some ⟨w3.heap.size, 0, none⟩ : Option Addr) = Bp at *
    have Hrp := Lib.hid hrl
    have Hlp := Lib.hid hlen0
    have Hltp := Lib.hid hlt0
    clear hown4 hg4 hb34 hrl hlen0 hlt0 Hc3 Hb3 Hi e11
    go_wp2_with fail
    have Hr4 := Lib.hid (Hr.out.below Hb4.out)
    by_cases hbig : 65535 < mp
    · refine (putFrame_long A k c Bp mp _ _ hbig).mono ?_
      rintro e w5 ⟨rfl, rfl⟩
      go_wp2_with fail
      refine (refPutFrame_long A k c Bp mp _ _ hbig).mono ?_
      rintro e w5 ⟨rfl, rfl⟩
      go_wp2_with fail
      refine (equal_same none none [] 0 0 0 _ rfl Rd.nil Rd.nil (by decide)).mono ?_
      rintro e w6 ⟨rfl, hb6⟩
      have Hw9 := Lib.hid (below_next Hb4.out hb6)
      have Hrp9 := Lib.hid (Hrp.out.below hb6)
      have Hc9 := Lib.hid (codes_below Hc4.out hb6)
      clear hb6
      go_wp2_with fail
      refine (checksum_any Bp lp mp _ _ Hlp.out Hrp9.out Hltp.out (by omega) (Ht.out.later Hw9.out)).mono ?_
      rintro e w7 ⟨rfl, rfl⟩
      go_wp2_with fail
      refine (refChecksum_any Bp lp mp _ _ Hlp.out Hrp9.out Hltp.out (by omega)).mono ?_
      rintro e w7 ⟨rfl, rfl⟩
      go_wp2_with fail
      refine (refPutFrame_long none 0 0 Bp mp _ _ hbig).mono ?_
      rintro e w7 ⟨rfl, rfl⟩
      obtain ⟨lz, hlz⟩ : ∃ lz : List Nat, lz = [] := ⟨_, rfl⟩
      have HlZ : Hid (lz.length = 0) := Lib.hid (by rw [hlz]; rfl)
      have HrZ : Hid (Rd w6 none (lz.map bv)) := Lib.hid (by rw [hlz]; exact Rd.nil)
      have HtZ : Hid (∀ x ∈ lz, x < 256) := Lib.hid (by rw [hlz]; simp)
      have hncZ : (0 : Nat) ≤ 0 := Nat.le_refl _
      clear hlz Hc4 Hb4 Hr4 Hrp Hrp9

      go_wp2_with fail
      refine (spoilt_any g lc' k3 none lz 0 0 _ Hc9.out (by omega) Hlc2.out HlZ.out hncZ HrZ.out HtZ.out (by omega)).mono ?_
      rintro e w10 ⟨A10, b10, c10, k10, rfl, hr10, hb10, hc10, hl10, _, _, hg10⟩
      have HrZ10 := Lib.hid (codes_rd Hc9.out HrZ.out hg10)
      have Hr10 := Lib.hid hr10
      have Hbl10 := Lib.hid hb10
      have HrA := Lib.hid (codes_rd Hc9.out (Hr.out.below Hw9.out) hg10)
      have Hw10 := Lib.hid (Hw9.out.trans (grown_any (B := w.heap.size) hg10 (fun q hq => by injection hq with hq; omega) Hw9.out.size))
      clear hr10 hb10 hg10 HrZ Hc9 Hw9
      go_wp2_with (at_builtin; refine Pause.out ?_)
      refine Pause.of (wpList_appendB _ rfl _ _ rfl w10.heap.size _ _ rfl Sl.nil_ none 0 0 (List.map bv lz) rfl (by rw [List.length_map]; exact HlZ.out) HrZ10.out (bv_one _) (by simp only [List.length_nil]; omega) (Nat.le_refl _) ?_)
      intro v11 w11 hs11 hb11
      have Hs11 := Lib.hid hs11
      have Hb11 := Lib.hid hb11
      clear hs11 hb11
      go_wp2_with (at_builtin; refine Pause.out ?_)
      refine Pause.of (wpList_appendB _ rfl _ _ rfl w10.heap.size _ _ rfl Hs11.out A k c (l.map bv) rfl Hlb.out (HrA.out.below Hb11.out) (bv_one _) (by have := HlZ.out; rw [List.nil_append, List.length_map]; omega) Hb11.out.size ?_)
      intro v12 w12 hs12 hb12
      obtain ⟨A12, c12, rfl, hr12, hc12⟩ := hs12.bytesN (l := lz ++ l) (n := 0 + k) (by simp) (by rw [List.length_append, HlZ.out, Hlk.out])
      have Hr12 := Lib.hid hr12
      have Hb12 := Lib.hid (Hb11.out.trans hb12)
      clear hs12 hb12 hr12 Hs11 Hb11
      go_wp2_with fail
      refine (refPutUint_any none [] 0 0 lg _ rfl Rd.nil (by simp) (by omega) (by omega)).mono ?_
      rintro e w13 ⟨v13, rfl, hs13, hb13⟩
      have hlen13 := enc_len10 lg
      obtain ⟨A13, c13, rfl, hr13, hc13⟩ := hs13.bytes (l := enc lg) (by simp)
      have Hr13 := Lib.hid hr13
      have Hw13 := Lib.hid (below_next (below_next Hw10.out Hb12.out) hb13)
      have HrZf := Lib.hid ((HrZ10.out.below Hb12.out).below hb13)
      have Hr10f := Lib.hid ((Hr10.out.below Hb12.out).below hb13)
      have HrAf := Lib.hid ((HrA.out.below Hb12.out).below hb13)
      have Hr12f := Lib.hid (Hr12.out.below hb13)
      clear hs13 hb13 hr13 Hr12 Hr10 HrZ10 HrA Hb12 Hw10
      go_wp2_with fail
      have Hit := Lib.hid (items5 (t := 22) (w := w13) (v0 := .slice A k c) (v1 := .slice none 0 0) (v2 := .slice A10 b10.length c10) (v3 := .slice A12 (k) c12) (v4 := .slice A13 (enc lg).length c13)
        ⟨A, k, c, rfl, Hlk.out, hkc, by omega, HrAf.out, Hl.out⟩ ⟨none, 0, 0, rfl, HlZ.out, hncZ, by omega, HrZf.out, HtZ.out⟩ ⟨A10, _, c10, rfl, rfl, hc10, by omega, Hr10f.out, Hbl10.out⟩
        ⟨A12, _, c12, rfl, by rw [List.length_append, HlZ.out, Hlk.out]; omega, by omega, by omega, Hr12f.out, both_lt HtZ.out Hl.out⟩ ⟨A13, _, c13, rfl, rfl, hc13, by omega, Hr13.out, enc_lt lg⟩)
      have Hw14 := Lib.hid (Hw13.out.alloc (o := .cells #[.slice A k c, .slice none 0 0, .slice A10 b10.length c10, .slice A12 (k) c12, .slice A13 (enc lg).length c13] 22) Hw13.out.size)
      generalize w13.alloc (.cells #[.slice A k c, .slice none 0 0, .slice A10 b10.length c10, .slice A12 (k) c12, .slice A13 (enc lg).length c13] 22) = w14 at *
      generalize w13.heap.size = bb at *
      clear Hw13 HrZf Hr10f HrAf Hr12f Hr13 Hbl10
      go_loopw [101] (fun i wr => FxRel w14 i wr) (fun i _ => 5 - (intOf i).toNat)
      case atStart => exact ⟨0, by omega, rfl, Below.refl _ _⟩
      case round =>
        obtain ⟨q, hq, rfl, hbq⟩ := hrel
        have Hbq := Lib.hid hbq
        by_cases hq5 : q < 5
        · obtain ⟨v, lq, hcell0, Aq, nq, cq, rfl, hlq, hnc, hnb, hrq, hltq⟩ := Hit.out q hq5
          have hcell := (hbq.cell (World.block_lt_of_cell? w14 _ hcell0)).trans hcell0
          have Hrq := Lib.hid (hrq.below hbq)
          have Hltq := Lib.hid hltq
          have Hlq := Lib.hid hlq
          have Htq := Lib.hid (Ht.out.later (below_next Hw14.out hbq))
          clear hbq hcell0 hrq hltq hlq
          obtain ⟨p, s0, e0, hd⟩ : ∃ p s0 e0, unframe lq = (p, s0, e0) := ⟨_, _, _, rfl⟩
          have hplen := unframe_len lq
          rw [hd] at hplen
          have Hd := Lib.hid hd; clear hd
          have hplen2 : p.length ≤ 70000 := by have := Hlq.out; simp only at hplen; omega
          clear hplen
          go_wp2_with fail
          refine (frame_any Aq lq nq cq p s0 e0 _ Hlq.out hnc Hrq.out Hltq.out (by omega) Htq.out Hd.out).mono ?_
          rintro e w15 ⟨v15, rfl, hs15, hb15⟩
          obtain ⟨A15, c15, rfl, hr15, _⟩ := hs15.bytes rfl
          have Hr15 := Lib.hid hr15
          have Hb15 := Lib.hid hb15
          clear hs15 hb15 hr15
          go_wp2_with fail
          refine (refFrame_any Aq lq nq cq p s0 e0 _ Hlq.out hnc (Hrq.out.below Hb15.out) Hltq.out (by omega) Hd.out).mono ?_
          rintro e w16 ⟨v16, rfl, hs16, hb16⟩
          obtain ⟨A16, c16, rfl, hr16, _⟩ := hs16.bytes rfl
          have Hr16 := Lib.hid hr16
          have Hr15' := Lib.hid (Hr15.out.below hb16)
          have Hb16 := Lib.hid (below_next Hb15.out hb16)
          clear hs16 hb16 hr16 Hr15 Hb15
          go_wp2_with fail
          refine (equal_same A15 A16 p _ c15 c16 _ rfl Hr15'.out Hr16.out (by omega)).mono ?_
          rintro e w17 ⟨rfl, hb17⟩
          have Hb17 := Lib.hid (below_next Hb16.out hb17)
          clear hb17 Hr15' Hr16 Hb16
          go_wp2_with fail
          exact ⟨⟨q + 1, by omega, by simp, below_next Hbq.out Hb17.out⟩, by simp [intOf]; omega⟩
        · clear hbq
          go_wp2_with fail
          go_ret
          exact ⟨rfl, below_next Hw14.out Hbq.out⟩
    · have hsmall : mp ≤ 65535 := by omega
      clear hbig
      refine (putFrame_any A (l.map bv) k c Bp lp mp _ _ Hlb.out hkc Hr4.out Hnil.out (by omega) Hlp.out Hrp.out Hltp.out hsmall (Ht.out.later Hb4.out)).mono ?_
      rintro e w5 ⟨v5, rfl, hs5, hb5⟩
      obtain ⟨A5, c5, rfl, hr5, _⟩ := hs5.bytes (l := l ++ frame lp) (by simp)
      have Hr5 := Lib.hid hr5
      have S5 := Lib.hid hb5
      have hfl := frame_len2 lp (by have := Hlp.out; omega)
      clear hr5 hb5 hs5
      go_wp2_with fail
      refine (refPutFrame_any A (l.map bv) k c Bp lp mp _ _ Hlb.out (Hr4.out.below S5.out) (bv_one _) (by omega) Hlp.out (Hrp.out.below S5.out) Hltp.out hsmall).mono ?_
      rintro e w6 ⟨v6, rfl, hs6, hb6⟩
      obtain ⟨A6, c6, rfl, hr6, _⟩ := hs6.bytes (l := l ++ frame lp) (by simp)
      have Hr5' := Lib.hid (Hr5.out.below hb6)
      have Hr6 := Lib.hid hr6
      have S6 := Lib.hid (below_next S5.out hb6)
      clear hr6 hb6 hs6 Hr5 S5
      go_wp2_with fail
      refine (equal_same A5 A6 (l ++ frame lp) _ c5 c6 _ (by simp) Hr5'.out Hr6.out (by have := Hlk.out; omega)).mono ?_
      rintro e w7 ⟨rfl, hb7⟩
      have S7 := Lib.hid (below_next S6.out hb7)
      clear hb7 S6 Hr5' Hr6
      go_wp2_with fail
      refine (checksum_any Bp lp mp _ _ Hlp.out (Hrp.out.below S7.out) Hltp.out (by omega) (Ht.out.later (below_next Hb4.out S7.out))).mono ?_
      rintro e w8 ⟨rfl, rfl⟩
      go_wp2_with fail
      refine (refChecksum_any Bp lp mp _ _ Hlp.out (Hrp.out.below S7.out) Hltp.out (by omega)).mono ?_
      rintro e w8 ⟨rfl, rfl⟩
      go_wp2_with fail
      refine (refPutFrame_any none [] 0 0 Bp lp mp _ _ rfl Rd.nil (by simp) (by decide) Hlp.out (Hrp.out.below S7.out) Hltp.out hsmall).mono ?_
      rintro e w9 ⟨v9, rfl, hs9, hb9⟩
      obtain ⟨lz, hlz⟩ : ∃ lz : List Nat, lz = frame lp := ⟨_, rfl⟩
      obtain ⟨nz, hnz⟩ : ∃ nz : Nat, nz = (frame lp).length := ⟨_, rfl⟩
      obtain ⟨Az, cz, rfl, hrz, hncZ⟩ := hs9.bytesN (l := lz) (n := nz) (by rw [hlz]; simp) (by rw [hlz, hnz])
      have HlZ : Hid (lz.length = nz) := Lib.hid (by rw [hlz, hnz])
      have HrZ := Lib.hid hrz
      have HtZ : Hid (∀ x ∈ lz, x < 256) := Lib.hid (by rw [hlz]; exact frame_lt Hltp.out)
      have Hw9 := Lib.hid (below_next Hb4.out (below_next S7.out hb9))
      have Hc9 := Lib.hid (codes_below Hc4.out (below_next S7.out hb9))
      rw [← hnz] at hfl
      clear hlz hnz Hc4 Hb4 Hr4 Hrp hs9 hb9 hrz S7

      go_wp2_with fail
      refine (spoilt_any g lc' k3 Az lz nz cz _ Hc9.out (by omega) Hlc2.out HlZ.out hncZ HrZ.out HtZ.out (by omega)).mono ?_
      rintro e w10 ⟨A10, b10, c10, k10, rfl, hr10, hb10, hc10, hl10, _, _, hg10⟩
      have HrZ10 := Lib.hid (codes_rd Hc9.out HrZ.out hg10)
      have Hr10 := Lib.hid hr10
      have Hbl10 := Lib.hid hb10
      have HrA := Lib.hid (codes_rd Hc9.out (Hr.out.below Hw9.out) hg10)
      have Hw10 := Lib.hid (Hw9.out.trans (grown_any (B := w.heap.size) hg10 (fun q hq => by injection hq with hq; omega) Hw9.out.size))
      clear hr10 hb10 hg10 HrZ Hc9 Hw9
      go_wp2_with (at_builtin; refine Pause.out ?_)
      refine Pause.of (wpList_appendB _ rfl _ _ rfl w10.heap.size _ _ rfl Sl.nil_ Az nz cz (List.map bv lz) rfl (by rw [List.length_map]; exact HlZ.out) HrZ10.out (bv_one _) (by simp only [List.length_nil]; omega) (Nat.le_refl _) ?_)
      intro v11 w11 hs11 hb11
      have Hs11 := Lib.hid hs11
      have Hb11 := Lib.hid hb11
      clear hs11 hb11
      go_wp2_with (at_builtin; refine Pause.out ?_)
      refine Pause.of (wpList_appendB _ rfl _ _ rfl w10.heap.size _ _ rfl Hs11.out A k c (l.map bv) rfl Hlb.out (HrA.out.below Hb11.out) (bv_one _) (by have := HlZ.out; rw [List.nil_append, List.length_map]; omega) Hb11.out.size ?_)
      intro v12 w12 hs12 hb12
      obtain ⟨A12, c12, rfl, hr12, hc12⟩ := hs12.bytesN (l := lz ++ l) (n := nz + k) (by simp) (by rw [List.length_append, HlZ.out, Hlk.out])
      have Hr12 := Lib.hid hr12
      have Hb12 := Lib.hid (Hb11.out.trans hb12)
      clear hs12 hb12 hr12 Hs11 Hb11
      go_wp2_with fail
      refine (refPutUint_any none [] 0 0 lg _ rfl Rd.nil (by simp) (by omega) (by omega)).mono ?_
      rintro e w13 ⟨v13, rfl, hs13, hb13⟩
      have hlen13 := enc_len10 lg
      obtain ⟨A13, c13, rfl, hr13, hc13⟩ := hs13.bytes (l := enc lg) (by simp)
      have Hr13 := Lib.hid hr13
      have Hw13 := Lib.hid (below_next (below_next Hw10.out Hb12.out) hb13)
      have HrZf := Lib.hid ((HrZ10.out.below Hb12.out).below hb13)
      have Hr10f := Lib.hid ((Hr10.out.below Hb12.out).below hb13)
      have HrAf := Lib.hid ((HrA.out.below Hb12.out).below hb13)
      have Hr12f := Lib.hid (Hr12.out.below hb13)
      clear hs13 hb13 hr13 Hr12 Hr10 HrZ10 HrA Hb12 Hw10
      go_wp2_with fail
      have Hit := Lib.hid (items5 (t := 22) (w := w13) (v0 := .slice A k c) (v1 := .slice Az nz cz) (v2 := .slice A10 b10.length c10) (v3 := .slice A12 (nz + k) c12) (v4 := .slice A13 (enc lg).length c13)
        ⟨A, k, c, rfl, Hlk.out, hkc, by omega, HrAf.out, Hl.out⟩ ⟨Az, nz, cz, rfl, HlZ.out, hncZ, by omega, HrZf.out, HtZ.out⟩ ⟨A10, _, c10, rfl, rfl, hc10, by omega, Hr10f.out, Hbl10.out⟩
        ⟨A12, _, c12, rfl, by rw [List.length_append, HlZ.out, Hlk.out], by omega, by omega, Hr12f.out, both_lt HtZ.out Hl.out⟩ ⟨A13, _, c13, rfl, rfl, hc13, by omega, Hr13.out, enc_lt lg⟩)
      have Hw14 := Lib.hid (Hw13.out.alloc (o := .cells #[.slice A k c, .slice Az nz cz, .slice A10 b10.length c10, .slice A12 (nz + k) c12, .slice A13 (enc lg).length c13] 22) Hw13.out.size)
      generalize w13.alloc (.cells #[.slice A k c, .slice Az nz cz, .slice A10 b10.length c10, .slice A12 (nz + k) c12, .slice A13 (enc lg).length c13] 22) = w14 at *
      generalize w13.heap.size = bb at *
      clear Hw13 HrZf Hr10f HrAf Hr12f Hr13 Hbl10
      go_loopw [101] (fun i wr => FxRel w14 i wr) (fun i _ => 5 - (intOf i).toNat)
      case atStart => exact ⟨0, by omega, rfl, Below.refl _ _⟩
      case round =>
        obtain ⟨q, hq, rfl, hbq⟩ := hrel
        have Hbq := Lib.hid hbq
        by_cases hq5 : q < 5
        · obtain ⟨v, lq, hcell0, Aq, nq, cq, rfl, hlq, hnc, hnb, hrq, hltq⟩ := Hit.out q hq5
          have hcell := (hbq.cell (World.block_lt_of_cell? w14 _ hcell0)).trans hcell0
          have Hrq := Lib.hid (hrq.below hbq)
          have Hltq := Lib.hid hltq
          have Hlq := Lib.hid hlq
          have Htq := Lib.hid (Ht.out.later (below_next Hw14.out hbq))
          clear hbq hcell0 hrq hltq hlq
          obtain ⟨p, s0, e0, hd⟩ : ∃ p s0 e0, unframe lq = (p, s0, e0) := ⟨_, _, _, rfl⟩
          have hplen := unframe_len lq
          rw [hd] at hplen
          have Hd := Lib.hid hd; clear hd
          have hplen2 : p.length ≤ 70000 := by have := Hlq.out; simp only at hplen; omega
          clear hplen
          go_wp2_with fail
          refine (frame_any Aq lq nq cq p s0 e0 _ Hlq.out hnc Hrq.out Hltq.out (by omega) Htq.out Hd.out).mono ?_
          rintro e w15 ⟨v15, rfl, hs15, hb15⟩
          obtain ⟨A15, c15, rfl, hr15, _⟩ := hs15.bytes rfl
          have Hr15 := Lib.hid hr15
          have Hb15 := Lib.hid hb15
          clear hs15 hb15 hr15
          go_wp2_with fail
          refine (refFrame_any Aq lq nq cq p s0 e0 _ Hlq.out hnc (Hrq.out.below Hb15.out) Hltq.out (by omega) Hd.out).mono ?_
          rintro e w16 ⟨v16, rfl, hs16, hb16⟩
          obtain ⟨A16, c16, rfl, hr16, _⟩ := hs16.bytes rfl
          have Hr16 := Lib.hid hr16
          have Hr15' := Lib.hid (Hr15.out.below hb16)
          have Hb16 := Lib.hid (below_next Hb15.out hb16)
          clear hs16 hb16 hr16 Hr15 Hb15
          go_wp2_with fail
          refine (equal_same A15 A16 p _ c15 c16 _ rfl Hr15'.out Hr16.out (by omega)).mono ?_
          rintro e w17 ⟨rfl, hb17⟩
          have Hb17 := Lib.hid (below_next Hb16.out hb17)
          clear hb17 Hr15' Hr16 Hb16
          go_wp2_with fail
          exact ⟨⟨q + 1, by omega, by simp, below_next Hbq.out Hb17.out⟩, by simp [intOf]; omega⟩
        · clear hbq
          go_wp2_with fail
          go_ret
          exact ⟨rfl, below_next Hw14.out Hbq.out⟩
  · have e11 : ((r : Int) == 11) = false := by rw [beq_eq_false_iff_ne]; omega
    clear h11
    have Hrp := Lib.hid (Hrp.out.below Hb3.out)
    have Hc4 := Hc3
    have Hb4 := Hb3
    have hmp : k' ≤ 65539 := by omega
    clear Hc3 Hb3
    obtain ⟨mp, rfl⟩ : ∃ mp : Nat, mp = k' := ⟨_, rfl⟩
    obtain ⟨lp, rfl⟩ : ∃ lp : List Nat, lp = lp0 := ⟨_, rfl⟩
    obtain ⟨Bp, rfl⟩ : ∃ Bp : Option Addr, Bp = B := ⟨_, rfl⟩
    obtain ⟨w4, rfl⟩ : ∃ w4 : World, w4 = w3 := ⟨_, rfl⟩
    go_wp2_with fail
    have Hr4 := Lib.hid (Hr.out.below Hb4.out)
    by_cases hbig : 65535 < mp
    · exfalso
      omega
    · have hsmall : mp ≤ 65535 := by omega
      clear hbig
      refine (putFrame_any A (l.map bv) k c Bp lp mp _ _ Hlb.out hkc Hr4.out Hnil.out (by omega) Hlp.out Hrp.out Hltp.out hsmall (Ht.out.later Hb4.out)).mono ?_
      rintro e w5 ⟨v5, rfl, hs5, hb5⟩
      obtain ⟨A5, c5, rfl, hr5, _⟩ := hs5.bytes (l := l ++ frame lp) (by simp)
      have Hr5 := Lib.hid hr5
      have S5 := Lib.hid hb5
      have hfl := frame_len2 lp (by have := Hlp.out; omega)
      clear hr5 hb5 hs5
      go_wp2_with fail
      refine (refPutFrame_any A (l.map bv) k c Bp lp mp _ _ Hlb.out (Hr4.out.below S5.out) (bv_one _) (by omega) Hlp.out (Hrp.out.below S5.out) Hltp.out hsmall).mono ?_
      rintro e w6 ⟨v6, rfl, hs6, hb6⟩
      obtain ⟨A6, c6, rfl, hr6, _⟩ := hs6.bytes (l := l ++ frame lp) (by simp)
      have Hr5' := Lib.hid (Hr5.out.below hb6)
      have Hr6 := Lib.hid hr6
      have S6 := Lib.hid (below_next S5.out hb6)
      clear hr6 hb6 hs6 Hr5 S5
      go_wp2_with fail
      refine (equal_same A5 A6 (l ++ frame lp) _ c5 c6 _ (by simp) Hr5'.out Hr6.out (by have := Hlk.out; omega)).mono ?_
      rintro e w7 ⟨rfl, hb7⟩
      have S7 := Lib.hid (below_next S6.out hb7)
      clear hb7 S6 Hr5' Hr6
      go_wp2_with fail
      refine (checksum_any Bp lp mp _ _ Hlp.out (Hrp.out.below S7.out) Hltp.out (by omega) (Ht.out.later (below_next Hb4.out S7.out))).mono ?_
      rintro e w8 ⟨rfl, rfl⟩
      go_wp2_with fail
      refine (refChecksum_any Bp lp mp _ _ Hlp.out (Hrp.out.below S7.out) Hltp.out (by omega)).mono ?_
      rintro e w8 ⟨rfl, rfl⟩
      go_wp2_with fail
      refine (refPutFrame_any none [] 0 0 Bp lp mp _ _ rfl Rd.nil (by simp) (by decide) Hlp.out (Hrp.out.below S7.out) Hltp.out hsmall).mono ?_
      rintro e w9 ⟨v9, rfl, hs9, hb9⟩
      obtain ⟨lz, hlz⟩ : ∃ lz : List Nat, lz = frame lp := ⟨_, rfl⟩
      obtain ⟨nz, hnz⟩ : ∃ nz : Nat, nz = (frame lp).length := ⟨_, rfl⟩
      obtain ⟨Az, cz, rfl, hrz, hncZ⟩ := hs9.bytesN (l := lz) (n := nz) (by rw [hlz]; simp) (by rw [hlz, hnz])
      have HlZ : Hid (lz.length = nz) := Lib.hid (by rw [hlz, hnz])
      have HrZ := Lib.hid hrz
      have HtZ : Hid (∀ x ∈ lz, x < 256) := Lib.hid (by rw [hlz]; exact frame_lt Hltp.out)
      have Hw9 := Lib.hid (below_next Hb4.out (below_next S7.out hb9))
      have Hc9 := Lib.hid (codes_below Hc4.out (below_next S7.out hb9))
      rw [← hnz] at hfl
      clear hlz hnz Hc4 Hb4 Hr4 Hrp hs9 hb9 hrz S7

      go_wp2_with fail
      refine (spoilt_any g lc' k3 Az lz nz cz _ Hc9.out (by omega) Hlc2.out HlZ.out hncZ HrZ.out HtZ.out (by omega)).mono ?_
      rintro e w10 ⟨A10, b10, c10, k10, rfl, hr10, hb10, hc10, hl10, _, _, hg10⟩
      have HrZ10 := Lib.hid (codes_rd Hc9.out HrZ.out hg10)
      have Hr10 := Lib.hid hr10
      have Hbl10 := Lib.hid hb10
      have HrA := Lib.hid (codes_rd Hc9.out (Hr.out.below Hw9.out) hg10)
      have Hw10 := Lib.hid (Hw9.out.trans (grown_any (B := w.heap.size) hg10 (fun q hq => by injection hq with hq; omega) Hw9.out.size))
      clear hr10 hb10 hg10 HrZ Hc9 Hw9
      go_wp2_with (at_builtin; refine Pause.out ?_)
      refine Pause.of (wpList_appendB _ rfl _ _ rfl w10.heap.size _ _ rfl Sl.nil_ Az nz cz (List.map bv lz) rfl (by rw [List.length_map]; exact HlZ.out) HrZ10.out (bv_one _) (by simp only [List.length_nil]; omega) (Nat.le_refl _) ?_)
      intro v11 w11 hs11 hb11
      have Hs11 := Lib.hid hs11
      have Hb11 := Lib.hid hb11
      clear hs11 hb11
      go_wp2_with (at_builtin; refine Pause.out ?_)
      refine Pause.of (wpList_appendB _ rfl _ _ rfl w10.heap.size _ _ rfl Hs11.out A k c (l.map bv) rfl Hlb.out (HrA.out.below Hb11.out) (bv_one _) (by have := HlZ.out; rw [List.nil_append, List.length_map]; omega) Hb11.out.size ?_)
      intro v12 w12 hs12 hb12
      obtain ⟨A12, c12, rfl, hr12, hc12⟩ := hs12.bytesN (l := lz ++ l) (n := nz + k) (by simp) (by rw [List.length_append, HlZ.out, Hlk.out])
      have Hr12 := Lib.hid hr12
      have Hb12 := Lib.hid (Hb11.out.trans hb12)
      clear hs12 hb12 hr12 Hs11 Hb11
      go_wp2_with fail
      refine (refPutUint_any none [] 0 0 lg _ rfl Rd.nil (by simp) (by omega) (by omega)).mono ?_
      rintro e w13 ⟨v13, rfl, hs13, hb13⟩
      have hlen13 := enc_len10 lg
      obtain ⟨A13, c13, rfl, hr13, hc13⟩ := hs13.bytes (l := enc lg) (by simp)
      have Hr13 := Lib.hid hr13
      have Hw13 := Lib.hid (below_next (below_next Hw10.out Hb12.out) hb13)
      have HrZf := Lib.hid ((HrZ10.out.below Hb12.out).below hb13)
      have Hr10f := Lib.hid ((Hr10.out.below Hb12.out).below hb13)
      have HrAf := Lib.hid ((HrA.out.below Hb12.out).below hb13)
      have Hr12f := Lib.hid (Hr12.out.below hb13)
      clear hs13 hb13 hr13 Hr12 Hr10 HrZ10 HrA Hb12 Hw10
      go_wp2_with fail
      have Hit := Lib.hid (items5 (t := 22) (w := w13) (v0 := .slice A k c) (v1 := .slice Az nz cz) (v2 := .slice A10 b10.length c10) (v3 := .slice A12 (nz + k) c12) (v4 := .slice A13 (enc lg).length c13)
        ⟨A, k, c, rfl, Hlk.out, hkc, by omega, HrAf.out, Hl.out⟩ ⟨Az, nz, cz, rfl, HlZ.out, hncZ, by omega, HrZf.out, HtZ.out⟩ ⟨A10, _, c10, rfl, rfl, hc10, by omega, Hr10f.out, Hbl10.out⟩
        ⟨A12, _, c12, rfl, by rw [List.length_append, HlZ.out, Hlk.out], by omega, by omega, Hr12f.out, both_lt HtZ.out Hl.out⟩ ⟨A13, _, c13, rfl, rfl, hc13, by omega, Hr13.out, enc_lt lg⟩)
      have Hw14 := Lib.hid (Hw13.out.alloc (o := .cells #[.slice A k c, .slice Az nz cz, .slice A10 b10.length c10, .slice A12 (nz + k) c12, .slice A13 (enc lg).length c13] 22) Hw13.out.size)
      generalize w13.alloc (.cells #[.slice A k c, .slice Az nz cz, .slice A10 b10.length c10, .slice A12 (nz + k) c12, .slice A13 (enc lg).length c13] 22) = w14 at *
      generalize w13.heap.size = bb at *
      clear Hw13 HrZf Hr10f HrAf Hr12f Hr13 Hbl10
      go_loopw [101] (fun i wr => FxRel w14 i wr) (fun i _ => 5 - (intOf i).toNat)
      case atStart => exact ⟨0, by omega, rfl, Below.refl _ _⟩
      case round =>
        obtain ⟨q, hq, rfl, hbq⟩ := hrel
        have Hbq := Lib.hid hbq
        by_cases hq5 : q < 5
        · obtain ⟨v, lq, hcell0, Aq, nq, cq, rfl, hlq, hnc, hnb, hrq, hltq⟩ := Hit.out q hq5
          have hcell := (hbq.cell (World.block_lt_of_cell? w14 _ hcell0)).trans hcell0
          have Hrq := Lib.hid (hrq.below hbq)
          have Hltq := Lib.hid hltq
          have Hlq := Lib.hid hlq
          have Htq := Lib.hid (Ht.out.later (below_next Hw14.out hbq))
          clear hbq hcell0 hrq hltq hlq
          obtain ⟨p, s0, e0, hd⟩ : ∃ p s0 e0, unframe lq = (p, s0, e0) := ⟨_, _, _, rfl⟩
          have hplen := unframe_len lq
          rw [hd] at hplen
          have Hd := Lib.hid hd; clear hd
          have hplen2 : p.length ≤ 70000 := by have := Hlq.out; simp only at hplen; omega
          clear hplen
          go_wp2_with fail
          refine (frame_any Aq lq nq cq p s0 e0 _ Hlq.out hnc Hrq.out Hltq.out (by omega) Htq.out Hd.out).mono ?_
          rintro e w15 ⟨v15, rfl, hs15, hb15⟩
          obtain ⟨A15, c15, rfl, hr15, _⟩ := hs15.bytes rfl
          have Hr15 := Lib.hid hr15
          have Hb15 := Lib.hid hb15
          clear hs15 hb15 hr15
          go_wp2_with fail
          refine (refFrame_any Aq lq nq cq p s0 e0 _ Hlq.out hnc (Hrq.out.below Hb15.out) Hltq.out (by omega) Hd.out).mono ?_
          rintro e w16 ⟨v16, rfl, hs16, hb16⟩
          obtain ⟨A16, c16, rfl, hr16, _⟩ := hs16.bytes rfl
          have Hr16 := Lib.hid hr16
          have Hr15' := Lib.hid (Hr15.out.below hb16)
          have Hb16 := Lib.hid (below_next Hb15.out hb16)
          clear hs16 hb16 hr16 Hr15 Hb15
          go_wp2_with fail
          refine (equal_same A15 A16 p _ c15 c16 _ rfl Hr15'.out Hr16.out (by omega)).mono ?_
          rintro e w17 ⟨rfl, hb17⟩
          have Hb17 := Lib.hid (below_next Hb16.out hb17)
          clear hb17 Hr15' Hr16 Hb16
          go_wp2_with fail
          exact ⟨⟨q + 1, by omega, by simp, below_next Hbq.out Hb17.out⟩, by simp [intOf]; omega⟩
        · clear hbq
          go_wp2_with fail
          go_ret
          exact ⟨rfl, below_next Hw14.out Hbq.out⟩
end Go.Proofs.YthgfbfocccekfaaDoor
