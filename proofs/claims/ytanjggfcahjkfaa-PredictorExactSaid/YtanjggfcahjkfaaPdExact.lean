/-
  The walk of PredictorExact. Condition: arguments that can be read.
-/
import Derived.Test.YtanjggfcahjkfaaPdApart
import Derived.Test.YtanjggfcahjkfaaRefPd
import Derived.Test.YtanjggfcahjkfaaIntsS
namespace Go.Proofs.Ytanjggfcahjkfaa
open Go.RowKit

def BeR (n : Nat) (w : World) (v : Value) (wr : World) : Prop := ∃ k q : Nat, k ≤ n ∧ v = .int .i64 (k : Int) ∧ wr = w.drewN q
def ExR (w : World) (v : Value) (wr : World) : Prop := ∃ k : Nat, k ≤ 4 ∧ v = .int .i64 (k : Int) ∧ Below w.heap.size w wr
theorem sizes_at (r k : Nat) (hr : r < 20) (hk : k < 4) : ∃ n : Nat, n ≤ 4096 ∧ (#[Value.int .i64 0, .int .i64 1, .int .i64 (1 + (r : Int)), .int .i64 4096] : Array Value)[k]? = some (.int .i64 (n : Int)) := by
  match k, hk with
  | 0, _ => exact ⟨0, by omega, rfl⟩
  | 1, _ => exact ⟨1, by omega, rfl⟩
  | 2, _ => exact ⟨1 + r, by omega, by simp⟩
  | 3, _ => exact ⟨4096, by omega, rfl⟩
set_option maxRecDepth 10000 in
set_option maxHeartbeats 1000000 in
theorem exact16_any (A : Option Addr) (l : List Nat) (m c : Nat) (size : Int) (a : Nat) (b : Bool) (W : World) (hm : l.length = m) (hmc : m ≤ c) (hr : Rd W A (l.map bv)) (hl : ∀ x ∈ l, x < 256) (ha : a < 4294967296) :
    Calls Try.prog 3 #[.slice A m c, .int .i64 size, .int .u32 (a : Int), .bool b] W (TrueP W) := by
  have Hm := Lib.hid hm; clear hm
  have Hr := Lib.hid hr; clear hr
  have Hl := Lib.hid hl; clear hl
  go_enter Try.func3, Try.ntmps3
  go_wp2_with fail
  refine (awake_16 _).mono ?_
  rintro e w1 ⟨rfl, hb1⟩
  have Hb1 := Lib.hid hb1; clear hb1
  go_wp2_with fail
  refine (new_any A l m c 300 w1 Hm.out hmc (Hr.out.below Hb1.out) (by decide)).mono ?_
  rintro e w2 ⟨g, l2, rfl, hg, hl2, hl2e, hc2, hb2⟩
  have Hb2 := Lib.hid (below_next Hb1.out hb2)
  have hgW : W.heap.size ≤ g := Nat.le_trans Hb1.out.size hg
  have Hl2 : Hid (∀ x ∈ l2, x < 256) := Lib.hid (by rw [hl2e]; exact fun x hx => Hl.out x (List.mem_of_mem_take hx))
  have Hc2 := Lib.hid hc2
  clear hb2 hl2e hc2 hg Hm Hr Hl
  go_wp2_with fail
  refine (table_any g l2 0 w2 Hc2.out (by omega) Hl2.out).mono ?_
  rintro e w3 ⟨t, v, rfl, ht1, ht8, hct, hd⟩
  have Hb3 := Lib.hid (dr_below hd Hb2.out hgW)
  obtain ⟨At, ct, rfl, hcn, hrt⟩ := own_form hd.own
  obtain ⟨k3, hc3⟩ := hd.cod
  have Hc3 := Lib.hid hc3
  obtain ⟨q, hq⟩ : ∃ q, t.length = q := ⟨_, rfl⟩
  rw [hq] at hcn ht1 ht8
  have Hq := Lib.hid hq
  have Hct := Lib.hid hct
  have Hrt := Lib.hid hrt
  simp only [hq]
  clear hd hct hrt hq hc3
  go_wp2_with fail
  refine (pnew_any size w3).mono ?_
  rintro e w4 ⟨v4, rfl, hr4, hb4⟩
  obtain ⟨A4, c4, rfl, _, hr4⟩ := hr4
  have Hb4 := Lib.hid hb4
  have Hr4 := Lib.hid hr4
  clear hb4 hr4
  go_wp2_with fail
  refine (rnew16_any size w4).mono ?_
  rintro e w5 ⟨v5, rfl, hr5, hb5⟩
  obtain ⟨A5, c5, rfl, _, hr5⟩ := hr5
  have Hb5 := Lib.hid (below_next Hb4.out hb5)
  have HI := Lib.hid (ints_same (newP size) (newP size) A4 A5 _ _ c4 c5 w5 rfl rfl rfl (Hr4.out.below hb5) hr5 (by unfold newP; split <;> simp; omega))
  clear hb5 hr5 Hr4 Hb4
  go_wp2_with fail
  refine HI.out.mono ?_
  rintro e w6 ⟨rfl, q6, rfl⟩
  obtain ⟨pb, hpb⟩ : ∃ pb, prN t a = pb := ⟨_, rfl⟩
  have Hrt5 := Lib.hid (Hrt.out.below Hb5.out)
  have HP := Lib.hid (predict_any pb t At q ct a (w5.drewN q6) hpb Hq.out hcn (Hrt5.out.drewN q6) ht1 (by omega) Hct.out (by omega))
  have HPr := Lib.hid (fun W hW => rpredict_any pb t At q ct a W hpb Hq.out hW ht1 (by omega) (by omega))
  have HU := Lib.hid (fun W hW => update_any t At q ct a b W Hq.out hcn hW ht1 (by omega) Hct.out (by omega))
  have HUr := Lib.hid (fun W hW => rupdate_any t At q ct a b W Hq.out hW ht1 (by omega) Hct.out (by omega))
  have hab : (a : Int) ≤ 4294967295 := by omega
  clear HI hpb
  go_wp2_with fail
  refine HP.out.mono ?_
  rintro e w7 ⟨rfl, q7, rfl⟩
  rw [drewN_add]
  clear HP
  go_wp2_with fail
  refine (HPr.out _ (Hrt5.out.drewN _)).mono ?_
  rintro e w8 ⟨rfl, q8, rfl⟩
  rw [drewN_add]
  have hpp : (pb == pb) = true := by simp
  clear HPr
  go_wp2_with fail
  refine (HU.out _ (Hrt5.out.drewN _)).mono ?_
  rintro e w9 ⟨v9, rfl, hr9, hb9⟩
  obtain ⟨A9, c9, rfl, _, hr9⟩ := hr9
  have Hb9 := Lib.hid (below_next Hb5.out (below_next (bel_q (Below.refl _ w5) _) hb9))
  have Hr9 := Lib.hid hr9
  clear hr9 hb9 HU
  go_wp2_with fail
  refine (HUr.out _ (Hrt.out.below Hb9.out)).mono ?_
  rintro e w10 ⟨v10, rfl, hr10, hb10⟩
  obtain ⟨A10, c10, rfl, _, hr10⟩ := hr10
  have Hb10 := Lib.hid (below_next Hb9.out hb10)
  have HI := Lib.hid (ints_same (upT t a b) (upT t a b) A9 A10 _ _ c9 c10 w10 rfl rfl rfl (Hr9.out.below hb10) hr10 (by rw [upT_len, Hq.out]; omega))
  clear hb10 hr10 Hr9 Hb9 HUr
  go_wp2_with fail
  refine HI.out.mono ?_
  rintro e w11 ⟨rfl, q11, rfl⟩
  have Hb11 := Lib.hid (below_next Hb3.out (bel_q Hb10.out q11))
  have Hc11 := Lib.hid (codes_below Hc3.out (bel_q Hb10.out q11))
  clear HI Hb10 Hrt5 Hrt Hct Hq Hb3 hpp
  generalize w10.drewN q11 = w11 at *
  go_wp2_with fail
  refine (trace_any g l2 k3 40 w11 Hc11.out (by omega) Hl2.out (by decide)).mono ?_
  rintro e w12 ⟨fs, v, rfl, hfn, hok, hd⟩
  have Hb12 := Lib.hid (dr_below hd Hb11.out hgW)
  obtain ⟨Af, cf, rfl, hcf, hrf⟩ := own_form hd.own
  obtain ⟨k12, hc12⟩ := hd.cod
  have Hc12 := Lib.hid hc12
  obtain ⟨n, hn⟩ : ∃ n, fs.length = n := ⟨_, rfl⟩
  rw [hn] at hcf hfn
  have Hn := Lib.hid hn
  have Hsm : Hid (smallF fs) := Lib.hid (fun f hf => okF_small (hok f hf))
  have Hrf := Lib.hid hrf
  have hlo := hd.gro
  simp only [hn]
  have Hown := Lib.hid hd.own
  clear hd hok hrf hn hc12
  go_wp2_with fail
  refine (drawn_any g l2 k12 20 w12 Hc12.out (by decide) (by omega) Hl2.out).mono ?_
  rintro e w13 ⟨r, k13, rfl, hr13, _, hc13, hg13⟩
  have hr20 : r < 20 := by have := hr13 (by omega); omega
  have Hb13 := Lib.hid (Hb12.out.trans (grown_any hg13 (fun k hk => by injection hk with hk; omega) Hb12.out.size))
  have Hrf13 : Hid (Rd w13 Af (fcs fs)) := Lib.hid (by
    have := Hown.out.kept hg13 (.inr (fun e => by have := own_lo Hown.out g e; have := codes_lt Hc11.out; omega))
    obtain ⟨A', c', hv, _, hr'⟩ := own_form this
    injection hv with hv1 hv2 hv3
    rw [hv1]
    exact hr')
  clear hr13 hc13 hg13 Hown Hrf hlo
  go_wp2_with fail
  have hb14 : Below W.heap.size W (w13.alloc (.cells #[.int .i64 0, .int .i64 1, .int .i64 (1 + (r : Int)), .int .i64 4096] 3)) := Hb13.out.alloc Hb13.out.size _
  have Hb14 := Lib.hid hb14
  have Hrf14 := Lib.hid (Hrf13.out.alloc (.cells #[.int .i64 0, .int .i64 1, .int .i64 (1 + (r : Int)), .int .i64 4096] 3))
  have Hrow := Lib.hid (heap_alloc_new w13 (.cells #[.int .i64 0, .int .i64 1, .int .i64 (1 + (r : Int)), .int .i64 4096] 3))
  have hz14 : w13.heap.size < (w13.alloc (.cells #[.int .i64 0, .int .i64 1, .int .i64 (1 + (r : Int)), .int .i64 4096] 3)).heap.size := by simp
  clear hb14 Hrf13
  obtain ⟨p, hp⟩ : ∃ p, w13.heap.size = p := ⟨_, rfl⟩
  rw [hp] at Hrow hz14 ⊢
  generalize w13.alloc (.cells #[.int .i64 0, .int .i64 1, .int .i64 (1 + (r : Int)), .int .i64 4096] 3) = w14 at *
  clear hp
  go_loopw [64] (fun i wr => ExR w14 i wr) (fun i _ => 4 - (intOf i).toNat)
  case atStart => exact ⟨0, by omega, rfl, Below.refl _ _⟩
  case round =>
    obtain ⟨k, hk, rfl, hb⟩ := hrel
    have Hb := Lib.hid hb
    by_cases hlt : k < 4
    · obtain ⟨size, hsz, hcell⟩ := sizes_at r k hr20 hlt
      have d0 : wr.cell? ⟨p, k, none⟩ = some (.int .i64 (size : Int)) := (hb.cell (p := ⟨p, k, none⟩) hz14).trans ((cell_of_row _ _ k _ _ _ Hrow.out).trans hcell)
      have HC := Lib.hid (fun W hW => count_any size fs Af n cf W Hn.out hcf hW hsz (by omega) Hsm.out)
      have HCr := Lib.hid (fun W hW => rcount16_any size fs Af n cf W Hn.out hW hsz (by omega) Hsm.out)
      have HE := Lib.hid (fun W hW => each_any size fs Af n cf W Hn.out hcf hW hsz (by omega) Hsm.out)
      have HEr := Lib.hid (fun W hW => reach16_any size fs Af n cf W Hn.out hW hsz (by omega) Hsm.out)
      have HL : Hid ((eachS size (fs.map ft)).length = n) := Lib.hid (by rw [eachS_len, List.length_map, Hn.out])
      generalize eachS size (fs.map ft) = es at *
      generalize nBr (fs.map ft) = B at *
      generalize wrongS size (fs.map ft) = X at *
      clear hcell hb
      go_wp2_with fail
      refine (HC.out _ (Hrf14.out.below Hb.out)).mono ?_
      rintro e w15 ⟨rfl, hb15⟩
      have Hb15 := Lib.hid (below_next Hb.out hb15)
      clear hb15 HC d0
      go_wp2_with fail
      refine (HCr.out _ (Hrf14.out.below Hb15.out)).mono ?_
      rintro e w16 ⟨rfl, hb16⟩
      have Hb16 := Lib.hid (below_next Hb15.out hb16)
      clear hb16 HCr
      go_wp2_with fail
      refine (HE.out _ (Hrf14.out.below Hb16.out)).mono ?_
      rintro e w17 ⟨v17, rfl, hr17, hb17⟩
      rw [HL.out] at hr17
      obtain ⟨A17, c17, rfl, hc17, hr17⟩ := hr17
      have Hb17 := Lib.hid (below_next Hb16.out hb17)
      have Hr17 := Lib.hid hr17
      clear hb17 HE hr17
      go_wp2_with fail
      refine (HEr.out _ (Hrf14.out.below Hb17.out)).mono ?_
      rintro e w18 ⟨v18, rfl, hr18, hb18⟩
      rw [HL.out] at hr18
      obtain ⟨A18, c18, rfl, hc18, hr18⟩ := hr18
      have Hb18 := Lib.hid (below_next Hb17.out hb18)
      have Hr18 := Lib.hid hr18
      have Hr17 := Lib.hid (Hr17.out.below hb18)
      clear hb18 HEr hr18
      have n1 : ((B : Int) != (B : Int)) = false := by simp
      have n2 : ((X : Int) != (X : Int)) = false := by simp
      have n3 : ((n : Int) != (n : Int)) = false := by simp
      go_wp2_with fail
      go_loopw [21] (fun i wr => BeR n w18 i wr) (fun i _ => n - (intOf i).toNat)
      case atStart => exact ⟨0, 0, Nat.zero_le _, rfl, rfl⟩
      case round =>
        obtain ⟨j, q, hj, rfl, rfl⟩ := hrel
        by_cases hlt2 : j < n
        · obtain ⟨x, hx⟩ : ∃ x, es[j]? = some x := ⟨es[j]'(by rw [HL.out]; exact hlt2), List.getElem?_eq_getElem _⟩
          obtain ⟨a1, rfl, e1⟩ := Hr17.out j (bov x) (by rw [List.getElem?_map, hx]; rfl)
          obtain ⟨a2, rfl, e2⟩ := Hr18.out j (bov x) (by rw [List.getElem?_map, hx]; rfl)
          unfold bov at e1 e2
          have hxx : (x == x) = true := by simp
          clear hx
          go_wp2_with fail
          go_quiet (fail)
          go_wp2_with fail
          exact ⟨⟨j + 1, _, by omega, by simp, rfl⟩, by simp [intOf]; omega⟩
        · obtain rfl : j = n := by omega
          go_wp2_with fail
          exact ⟨⟨k + 1, by omega, by go_num, bel_q Hb18.out q⟩, by simp [intOf]; omega⟩
    · obtain rfl : k = 4 := by omega
      go_wp2_with fail
      go_ret
      exact ⟨rfl, Hb14.out.trans (Hb.out.mono Hb14.out.size)⟩
end Go.Proofs.Ytanjggfcahjkfaa
