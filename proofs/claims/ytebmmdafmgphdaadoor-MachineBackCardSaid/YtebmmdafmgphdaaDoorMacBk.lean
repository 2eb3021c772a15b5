/-
  The walk of MachineBack. Condition: arguments that can be read.
-/
import Derived.Test.YtebmmdafmgphdaaDoorMacEq
namespace Go.Proofs.YtebmmdafmgphdaaDoor
open Go.RowKit

set_option maxRecDepth 100000 in
set_option maxHeartbeats 4000000 in
theorem back_any (A B C : Option Addr) (l lh lt : List Nat) (m mh mt c ch ct : Nat) (W : World) (hm : l.length = m) (hmc : m ≤ c) (hr : Rd W A (l.map bv)) (hl : ∀ x ∈ l, x < 256)
    (hmh : lh.length = mh) (hrh : Rd W B (lh.map bv)) (hlh : ∀ x ∈ lh, x < 256) (hmt : lt.length = mt) (hrt : Rd W C (lt.map bv)) (hlt : ∀ x ∈ lt, x < 256) (hT : RowsT W) :
    Calls Tryd.prog 3 #[.slice A m c, .slice B mh ch, .slice C mt ct] W (TrueM W) := by
  have Hm := Lib.hid hm; clear hm
  have Hr := Lib.hid hr; clear hr
  have Hl := Lib.hid hl; clear hl
  have Hmh := Lib.hid hmh; clear hmh
  have Hrh := Lib.hid hrh; clear hrh
  have Hlh := Lib.hid hlh; clear hlh
  have Hmt := Lib.hid hmt; clear hmt
  have Hrt := Lib.hid hrt; clear hrt
  have Hlt := Lib.hid hlt; clear hlt
  have HT := Lib.hid hT; clear hT
  by_cases h1 : 300 < mh ∨ 300 < mt
  · by_cases h2 : 300 < mh
    · clear h1
      have d2 : decide ((300 : Int) < (mh : Int)) = true := by simp; omega
      go_enter Tryd.func3, Tryd.ntmps3
      go_wp2_with fail
      refine (awake_12 _ HT.out).mono ?_
      rintro e w1 ⟨rfl, hb1⟩
      have Hb1 := Lib.hid hb1; clear hb1
      go_wp2_with fail
      go_ret
      exact ⟨rfl, Hb1.out⟩
    · have d2 : decide ((300 : Int) < (mh : Int)) = false := by simp; omega
      have d3 : decide ((300 : Int) < (mt : Int)) = true := by simp; omega
      clear h1 h2
      go_enter Tryd.func3, Tryd.ntmps3
      go_wp2_with fail
      refine (awake_12 _ HT.out).mono ?_
      rintro e w1 ⟨rfl, hb1⟩
      have Hb1 := Lib.hid hb1; clear hb1
      go_wp2_with fail
      go_ret
      exact ⟨rfl, Hb1.out⟩
  · have hh3 : mh ≤ 300 := by omega
    have ht3 : mt ≤ 300 := by omega
    have d2 : decide ((300 : Int) < (mh : Int)) = false := by simp; omega
    have d3 : decide ((300 : Int) < (mt : Int)) = false := by simp; omega
    clear h1
    go_enter Tryd.func3, Tryd.ntmps3
    go_wp2_with fail
    refine (awake_12 _ HT.out).mono ?_
    rintro e w1 ⟨rfl, hb1⟩
    have Hb1 := Lib.hid hb1; clear hb1
    go_wp2_with fail
    refine (new_any A l m c 120 w1 Hm.out hmc (Hr.out.below Hb1.out) (by decide)).mono ?_
    rintro e w2 ⟨g, l2, rfl, hg, hl2, hl2e, hc2, hb2⟩
    have Hb2 := Lib.hid (below_next Hb1.out hb2)
    have hgW : W.heap.size ≤ g := Nat.le_trans Hb1.out.size hg
    have Hl2 : Hid (∀ x ∈ l2, x < 256) := Lib.hid (by rw [hl2e]; exact fun x hx => Hl.out x (List.mem_of_mem_take hx))
    have Hc2 := Lib.hid hc2
    clear hb2 hl2e hc2 hg Hm Hr Hl d2 d3
    go_wp2_with fail
    refine (code_any g l2 0 w2 Hc2.out (by omega) Hl2.out).mono ?_
    intro e w3 hcd
    obtain ⟨⟨op, ari, dst, a, b, val, wide, args⟩, Ax, n, cx, rfl, ho, _, hg3⟩ := hcd.open_
    have Hb3 := Lib.hid (Hb2.out.trans (grown_any hg3 (fun k hk => by injection hk with hk; omega) Hb2.out.size))
    dsimp only [cdv]
    have Ho := Lib.hid ho
    clear hcd ho hg3 Hb2 Hb1 Hc2 Hl2 hgW
    go_wp2_with fail
    obtain ⟨w4, hw4⟩ : ∃ w4, w3.alloc (.cells (kRow op ari dst a b val wide (.slice Ax n cx)) 26) = w4 := ⟨_, rfl⟩
    have hrow4 : w4.heap[w3.heap.size]? = some (.cells (kRow op ari dst a b val wide (.slice Ax n cx)) 26 (0, 0)) := by rw [← hw4]; exact heap_alloc_new w3 _
    have hb4 : Below w3.heap.size w3 w4 := by rw [← hw4]; exact (Below.refl _ _).alloc (Nat.le_refl _) _
    have Ho4 := Lib.hid (Ho.out.below hb4)
    have Hb4 := Lib.hid (below_next Hb3.out hb4)
    unfold kRow at hw4
    rw [hw4]
    obtain ⟨px, hpxe⟩ : ∃ px, w3.heap.size = px := ⟨_, rfl⟩
    rw [hpxe] at hrow4 ⊢
    have Hrow4 := Lib.hid hrow4
    clear hw4 hb4 hrow4 hpxe Ho Hb3
    obtain ⟨E, hE⟩ : ∃ E, chkC ⟨op, ari, dst, a, b, val, wide, args⟩ = E := ⟨_, rfl⟩
    obtain ⟨bs, hbs⟩ : ∃ bs, encO ⟨op, ari, dst, a, b, val, wide, args⟩ = bs := ⟨_, rfl⟩
    obtain ⟨L, hL⟩ : ∃ L, bs.length = L := ⟨_, rfl⟩
    have HE := Lib.hid hE
    have HBS := Lib.hid hbs
    have HL := Lib.hid hL
    have HEn := mencode_any ⟨op, ari, dst, a, b, val, wide, args⟩ Ax n cx w4 (HT.out.below Hb4.out) Ho4.out.len Ho4.out.cap Ho4.out.rd (by have := Ho4.out.few; omega) Ho4.out.val.2.2.2.2.2
    unfold EncP at HEn
    rw [hE, hbs, hL] at HEn
    have HSx : Hid (∀ V : World, Below w4.heap.size w4 V → Calls Tryd.prog 10 #[.agg #[.int .i64 op, .int .i64 ari, .int .i64 dst, .int .i64 a, .int .i64 b, .int .i64 val, .bool wide, .slice Ax n cx]] V (NumP (L : Nat) V)) := Lib.hid (fun V hV => by
      rw [← hL, ← hbs]
      exact msize_any ⟨op, ari, dst, a, b, val, wide, args⟩ Ax n cx V (HT.out.below (below_next Hb4.out hV)) Ho4.out.len Ho4.out.cap (Ho4.out.rd.below hV) (by have := Ho4.out.few; omega) Ho4.out.val.2.2.2.2.2)
    refine HEn.mono ?_
    rintro e w5 ⟨v, rfl, hrv, hb5⟩
    have Hrow5 := Lib.hid ((hb5.block _ (Array.getElem?_eq_some_iff.1 Hrow4.out).1).trans Hrow4.out)
    have Hb45 := Lib.hid hb5
    have Hb5 := Lib.hid (below_next Hb4.out hb5)
    obtain ⟨Av, cv, rfl, hcv, hrv⟩ := hrv
    have Hrv := Lib.hid hrv
    clear hb5 hrv hE hbs hL HEn Hrow4
    obtain ⟨q0, q1, q2, q3, q4, q5, q6, q7⟩ := kRow_cells Hrow5.out
    by_cases h0 : E = 0
    · subst h0
      have hv : i64C val := Ho4.out.val.2.2.2.2.2
      have hbe : bs = encC ⟨op, ari, dst, a, b, val, wide, args⟩ := by
        rw [← HBS.out]
        unfold encO
        rw [if_pos HE.out]
      have hLb : L ≤ 1000 := by
        have := enc_most (x := ⟨op, ari, dst, a, b, val, wide, args⟩) HE.out
        rw [← hbe, HL.out] at this
        have h1 := Ho4.out.few
        have h2 := Ho4.out.len
        simp only at this h2
        omega
      have hdec := dec_at HE.out hv lh lt mh Hmh.out
      have hyv := cut_i64 (x := ⟨op, ari, dst, a, b, val, wide, args⟩) hv
      obtain ⟨hyc, hye⟩ := cut_chk HE.out
      have hyo := cut_op ⟨op, ari, dst, a, b, val, wide, args⟩
      have hya := cut_args ⟨op, ari, dst, a, b, val, wide, args⟩ HE.out
      rw [← hbe, HL.out] at hdec
      rw [← hbe] at hye
      obtain ⟨y, hy⟩ : ∃ y, cutC ⟨op, ari, dst, a, b, val, wide, args⟩ = y := ⟨_, rfl⟩
      rw [hy] at hdec hyc hye hyo hya hyv
      obtain ⟨yo, yr, yd, ya, yb, yv, yw, yl⟩ := y
      simp only at hyo hya
      subst hyo
      have Hdec := Lib.hid hdec
      have Hyc := Lib.hid hyc
      have Hye := Lib.hid hye
      have Hya := Lib.hid hya
      have Hbe := Lib.hid (show ∀ z ∈ lh ++ bs ++ lt, z < 256 by
        intro z hz
        rcases List.mem_append.1 hz with hz | hz
        · rcases List.mem_append.1 hz with hz | hz
          · exact Hlh.out z hz
          · rw [hbe] at hz
            exact enc_byte _ z hz
        · exact Hlt.out z hz)
      have Hyv := Lib.hid hyv
      clear hdec hyc hye hya hy hbe hv hyv
      have Hrh5 := Lib.hid (Hrh.out.below Hb5.out)
      have Hrt5 := Lib.hid (Hrt.out.below Hb5.out)
      clear Hrh Hrt
      go_wp2_with (at_builtin; refine Pause.out ?_)
      refine Pause.of (wpList_app_b _ rfl (.const (.slice none 0 0)) (.tmp 54) rfl w5.heap.size (.slice none 0 0) 0 [] rfl (OwB.nil_ _ _) B mh ch lh rfl Hmh.out Hrh5.out (by omega) (Nat.le_refl _) ?_)
      intro v6 w6 ho6 hg6
      rw [Nat.zero_add, List.nil_append] at ho6
      have hb6 : Below w5.heap.size w5 w6 := grown_any hg6 (fun k hk => by cases hk) (Nat.le_refl _)
      have Hb6 := Lib.hid hb6
      have Ho6 := Lib.hid ho6
      clear hb6 ho6 hg6
      go_wp2_with (at_builtin; refine Pause.out ?_)
      refine Pause.of (wpList_app_b _ rfl (.tmp 55) (.tmp 56) rfl w5.heap.size v6 mh lh rfl Ho6.out Av L cv bs rfl HL.out (Hrv.out.below Hb6.out) (by omega) Hb6.out.size ?_)
      intro v7 w7 ho7 hg7
      have hb7 : Below w5.heap.size w5 w7 := Hb6.out.trans (grown_any hg7 (own_lo Ho6.out) Hb6.out.size)
      have Hb7 := Lib.hid hb7
      have Ho7 := Lib.hid ho7
      clear hb7 ho7 hg7
      go_wp2_with (at_builtin; refine Pause.out ?_)
      refine Pause.of (wpList_app_b _ rfl (.tmp 57) (.tmp 58) rfl w5.heap.size v7 (mh + L) (lh ++ bs) rfl Ho7.out C mt ct lt rfl Hmt.out (Hrt5.out.below Hb7.out) (by omega) Hb7.out.size ?_)
      intro v8 w8 ho8 hg8
      have hb8 : Below w5.heap.size w5 w8 := Hb7.out.trans (grown_any hg8 (own_lo Ho7.out) Hb7.out.size)
      have Hb8 := Lib.hid hb8
      obtain ⟨A8, c8, rfl, hc8, hr8⟩ := ho8.form
      have Hr8 := Lib.hid hr8
      clear hb8 ho8 hg8 hr8 Ho6 Ho7 Hb6 Hb7
      have hsum : (lh ++ bs ++ lt).length = mh + L + mt := by rw [List.length_append, List.length_append, Hmh.out, HL.out, Hmt.out]
      have HD := Lib.hid (mdecode_any (lh ++ bs ++ lt) A8 (mh + L + mt) c8 (mh : Int) _ _ _ w8 (HT.out.below (Hb5.out.trans (Hb8.out.mono Hb5.out.size))) hsum hc8 Hr8.out Hbe.out (by omega) Hdec.out)
      clear hsum
      go_wp2_with fail
      refine HD.out.mono ?_
      rintro e w9 ⟨v9, rfl, hr9, hb9⟩
      obtain ⟨A9, c9, rfl, hc9, hr9⟩ := hr9
      dsimp only [cdv]
      obtain ⟨ny, hny⟩ : ∃ ny, yl.length = ny := ⟨_, rfl⟩
      have hny3 : ny ≤ 3 := by
        have h1 := Ho4.out.few
        have h2 := Ho4.out.len
        rcases Hya.out with h | h
        · rw [h] at hny
          simp at hny
          omega
        · rw [h] at hny
          simp only at h2
          omega
      simp only [hny] at hc9 ⊢
      have Hny := Lib.hid hny
      have Hr9 := Lib.hid hr9
      have Hb9 := Lib.hid (Hb8.out.trans (hb9.mono Hb8.out.size))
      clear hr9 hb9 hny HD Hb8 Hr8 hc8
      go_upto_region 8 with fail
      obtain ⟨w10, hw10⟩ : ∃ w10, w9.alloc (.cells (kRow yo yr yd ya yb yv yw (.slice A9 ny c9)) 26) = w10 := ⟨_, rfl⟩
      have hrow10 : w10.heap[w9.heap.size]? = some (.cells (kRow yo yr yd ya yb yv yw (.slice A9 ny c9)) 26 (0, 0)) := by rw [← hw10]; exact heap_alloc_new w9 _
      have hb10 : Below w9.heap.size w9 w10 := by rw [← hw10]; exact (Below.refl _ _).alloc (Nat.le_refl _) _
      have Hr10 := Lib.hid (Hr9.out.below hb10)
      have Hb10 := Lib.hid (Hb9.out.trans (hb10.mono Hb9.out.size))
      unfold kRow at hw10
      rw [hw10]
      obtain ⟨py, hpye⟩ : ∃ py, w9.heap.size = py := ⟨_, rfl⟩
      rw [hpye] at hrow10 ⊢
      have Hrow10 := Lib.hid hrow10
      clear hw10 hb10 hrow10 hpye Hr9 Hb9
      have HEn := mencode_any ⟨yo, yr, yd, ya, yb, yv, yw, yl⟩ A9 ny c9 w10 (HT.out.below (Hb5.out.trans (Hb10.out.mono Hb5.out.size))) Hny.out hc9 Hr10.out (by omega) Hyv.out
      unfold EncP encO at HEn
      rw [if_pos Hyc.out, Hye.out, HL.out, Hyc.out] at HEn
      have HEn := Lib.hid HEn
      obtain ⟨z0, z1, z2, z3, z4, z5, z6, z7⟩ := kRow_cells Hrow10.out
      clear q0 q1 q2 q3 q4 q5 q6 q7
      go_wp2_with fail
      refine HEn.out.mono ?_
      rintro e w11 ⟨v11, rfl, hr11, hb11⟩
      obtain ⟨A11, c11, rfl, hc11, hr11⟩ := hr11
      have Hb11 := Lib.hid (Hb10.out.trans (hb11.mono Hb10.out.size))
      have Hr11 := Lib.hid hr11
      have y0 : w11.cell? ⟨py, 0, none⟩ = some (.int .i64 yo) := hold hb11 z0
      have Hrv11 := Lib.hid (Hrv.out.below Hb11.out)
      clear hr11 hb11 z0 z1 z2 z3 z4 z5 z6 z7 HEn
      have HQ := Lib.hid (equalB_same A11 Av bs L c11 cv w11 HL.out Hr11.out Hrv11.out (by omega))
      obtain ⟨q0, q1, q2, q3, q4, q5, q6, q7⟩ := kRow_cells ((Hb11.out.block _ (Array.getElem?_eq_some_iff.1 Hrow5.out).1).trans Hrow5.out)
      go_wp2_with fail
      refine HQ.out.mono ?_
      rintro e w12 ⟨rfl, hb12⟩
      have Hb12 := Lib.hid (Hb11.out.trans (hb12.mono Hb11.out.size))
      replace y0 := hold hb12 y0
      clear hb12 q0 q1 q2 q3 q4 q5 q6 q7
      obtain ⟨q0, q1, q2, q3, q4, q5, q6, q7⟩ := kRow_cells ((Hb12.out.block _ (Array.getElem?_eq_some_iff.1 Hrow5.out).1).trans Hrow5.out)
      go_wp2_with fail
      refine (HSx.out _ (below_next Hb45.out Hb12.out)).mono ?_
      rintro e w13 ⟨rfl, hb13⟩
      have Hb13 := Lib.hid (Hb12.out.trans (hb13.mono Hb12.out.size))
      replace y0 := hold hb13 y0
      clear hb13 q0 q1 q2 q3 q4 q5 q6 q7
      have q0 := (kRow_cells ((Hb13.out.block _ (Array.getElem?_eq_some_iff.1 Hrow5.out).1).trans Hrow5.out)).1
      go_wp2_with fail
      go_ret
      exact ⟨rfl, below_next Hb5.out Hb13.out⟩
    · have hne : ((E : Int) != 0) = true := by simp; omega
      have hL0 : L = 0 := by
        rw [← HL.out, ← HBS.out]
        unfold encO
        rw [HE.out, if_neg h0]
        rfl
      subst hL0
      clear h0
      go_wp2_with fail
      refine (HSx.out _ Hb45.out).mono ?_
      rintro e w6 ⟨rfl, hb6⟩
      have Hb6 := Lib.hid (below_next Hb5.out hb6)
      clear hb6
      go_wp2_with fail
      go_ret
      exact ⟨rfl, Hb6.out⟩
end Go.Proofs.YtebmmdafmgphdaaDoor
