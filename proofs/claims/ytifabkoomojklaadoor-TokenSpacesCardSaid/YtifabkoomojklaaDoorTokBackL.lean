/-
  TokenBack: scanning the joined texts of tokens gives the same tokens. Condition: the library's two errors lie where they were laid.
-/
import Derived.Test.YtifabkoomojklaaDoorText
import Derived.Test.YtifabkoomojklaaDoorTokA
import Derived.Test.YtifabkoomojklaaDoorTokJoin
import Derived.Test.YtifabkoomojklaaDoorTokSame
namespace Go.Proofs.YtifabkoomojklaaDoor
open Go.RowKit

/-- What a scan can answer. -/
theorem scanT_cases (l : Bytes) : (∃ n c, scanT l = .error (n, c) ∧ (c = 5 ∨ c = 6)) ∨ (∃ ts, scanT l = .ok ts ∧ scan 1 l = .ok ts ∧ l.length ≤ 65536) := by
  unfold scanT
  by_cases h : 65536 < l.length
  · rw [if_pos h]
    exact .inl ⟨0, 5, rfl, .inl rfl⟩
  · rw [if_neg h]
    cases hs : scan 1 l with
    | error n => exact .inl ⟨n, 6, rfl, .inr rfl⟩
    | ok ts => exact .inr ⟨ts, rfl, rfl, by omega⟩
theorem below_g {W a b : World} {g : Nat} (h : Below W.heap.size W a) (hg : a.grownBy b (some g)) (hW : W.heap.size ≤ g) : Below W.heap.size W b :=
  h.trans (grown_any hg (fun k hk => by injection hk with hk; omega) h.size)
theorem errs_g {a b : World} {g : Nat} (h : Errs a) (hg : a.grownBy b (some g)) (h1 : 1 < g) (h2 : 2 < g) : Errs b :=
  h.grown hg (fun e => absurd (show g = 1 by injection e) (Nat.ne_of_gt h1)) (fun e => absurd (show g = 2 by injection e) (Nat.ne_of_gt h2))
theorem own_later {w w' : World} {base n size : Nat} {T : TypeId} {v : Value} {xs : List Value} (h : w.ownsRow base T size v n xs) (hb : Below w.heap.size w w') : w'.ownsRow base T size v n xs := own_kept h (fun b hb' => hb.block b (h.lt b hb').2)
set_option maxRecDepth 100000 in
theorem back_far (A0 : Option Addr) (m c0 : Nat) (s : ByteArray) (w : World) (he : Errs w) (hs : 500 < s.size) (hs2 : s.size ≤ maxLen) :
    Calls Tryd.prog 3 #[.slice A0 m c0, .string s] w fun e w' => e = .returned (.bool true) ∧ Below w.heap.size w w' := by
  have ha := Lib.hid (awake_any w he)
  unfold maxLen at hs2
  clear he
  go_enter Tryd.func3, Tryd.ntmps3
  go_wp2_with fail
  refine ha.out.mono ?_
  rintro e w1 ⟨rfl, hb1⟩
  have Hb1 := Lib.hid hb1
  clear ha hb1
  go_wp2_with fail
  go_ret
  exact ⟨rfl, Hb1.out⟩
set_option maxRecDepth 100000 in
set_option maxHeartbeats 4000000 in
theorem back_near (A0 : Option Addr) (codes : List Nat) (m c0 : Nat) (s : ByteArray) (w : World) (he : Errs w) (hm : codes.length = m) (hmc : m ≤ c0) (hr : Rd w A0 (codes.map bv)) (hcs : ∀ x ∈ codes, x < 256) (hs : s.size ≤ 500) :
    Calls Tryd.prog 3 #[.slice A0 m c0, .string s] w fun e w' => e = .returned (.bool true) ∧ Below w.heap.size w w' := by
  have ha := Lib.hid (awake_any w he)
  have He := Lib.hid he
  have Hm := Lib.hid hm
  have Hr := Lib.hid hr
  have Hcs := Lib.hid hcs
  have het := he.lt
  clear he hm hr hcs
  go_enter Tryd.func3, Tryd.ntmps3
  go_wp2_with fail
  refine ha.out.mono ?_
  rintro e w1 ⟨rfl, hb1⟩
  have hn := Lib.hid (new_any A0 codes m c0 300 w1 Hm.out hmc (Hr.out.below hb1) (by decide))
  have He1 := Lib.hid (He.out.below hb1)
  have Hb1 := Lib.hid hb1
  clear ha hb1 Hr Hm
  go_wp2_with fail
  refine hn.out.mono ?_
  rintro e w2 ⟨g, cs, rfl, hg, hlen, rfl, hc2, hb2⟩
  have Hcl : Hid (∀ x ∈ codes.take 300, x < 256) := Lib.hid (fun x hx => Hcs.out x (List.mem_of_mem_take hx))
  generalize codes.take 300 = cs at *
  have hgw : w.heap.size ≤ g := Nat.le_trans Hb1.out.size hg
  have ho := Lib.hid (odd_any g cs w2 ⟨0, hc2⟩ (by omega) Hcl.out (text_ct g cs (by omega) Hcl.out))
  have He2 := Lib.hid (He1.out.below hb2)
  have Hb2 := Lib.hid (below_next Hb1.out hb2)
  clear hn hb2 hc2 Hcs Hcl He1 Hb1
  go_wp2_with fail
  refine ho.out.mono ?_
  rintro e w3 ⟨t, rfl, htz, _, hg3⟩
  have He3 := Lib.hid (errs_g He2.out hg3 (by omega) (by omega))
  have Hb3 := Lib.hid (below_g Hb2.out hg3 hgw)
  clear ho hg3 He2 Hb2
  go_wp2_with fail
  have hb4 := (Below.refl _ w3).alloc (Nat.le_refl _) (.cells #[.string t, .string s] 9)
  have hrow : (w3.alloc (.cells #[.string t, .string s] 9)).heap[w3.heap.size]? = some (.cells #[.string t, .string s] 9 (0, 0)) := heap_alloc_new w3 _
  have Hrow : Hid (∀ k, k < 2 → ∃ x : ByteArray, x.size ≤ 65600 ∧ (w3.alloc (.cells #[.string t, .string s] 9)).cell? ⟨w3.heap.size, k, none⟩ = some (.string x)) := Lib.hid (fun k hk => by
    have hc : k = 0 ∨ k = 1 := by omega
    rcases hc with rfl | rfl
    · exact ⟨t, htz, by rw [cell_of_row _ _ 0 _ _ _ hrow]; rfl⟩
    · exact ⟨s, by omega, by rw [cell_of_row _ _ 1 _ _ _ hrow]; rfl⟩)
  have He4 := Lib.hid (He3.out.below hb4)
  have Hb4 := Lib.hid (below_next Hb3.out hb4)
  obtain ⟨q, hq⟩ : ∃ q, q = w3.heap.size := ⟨_, rfl⟩
  rw [← hq] at Hrow ⊢
  clear hb4 hrow He3 Hb3 hq htz hs
  generalize w3.alloc (.cells #[.string t, .string s] 9) = w4 at *
  go_loopw [32] (fun v wr => ∃ k : Nat, k ≤ 2 ∧ v = .int .i64 (k : Int) ∧ Below w4.heap.size w4 wr) (fun v _ => 2 - (intOf v).toNat)
  case atStart => exact ⟨0, by omega, rfl, Below.refl _ _⟩
  case round =>
    obtain ⟨k, hk, rfl, hb⟩ := hrel
    have Hb := Lib.hid hb
    by_cases hlt : k < 2
    · obtain ⟨x, hxz, hx⟩ := Hrow.out k hlt
      have hx2 := hold hb hx
      have HeR := Lib.hid (He4.out.below hb)
      have hsc := Lib.hid (scan_full x wr (by omega) HeR.out)
      have hxl : x.data.toList.length = x.size := by simp
      clear hb hx
      have hdone : ∀ w9, Below wr.heap.size wr w9 → ∃ k' : Nat, k' ≤ 2 ∧ Value.int .i64 ((k : Int) + 1) = .int .i64 (k' : Int) ∧ Below w4.heap.size w4 w9 := fun w9 h9 => ⟨k + 1, by omega, by go_num, below_next Hb.out h9⟩
      have Hdone := Lib.hid hdone
      clear hdone
      go_wp2_with fail
      refine hsc.out.mono ?_
      intro e w5 hp
      rcases scanT_cases x.data.toList with ⟨n, c, hT, hc⟩ | ⟨ts, hT, hts, hle⟩
      · rw [hT] at hp
        obtain ⟨rfl, hb5⟩ := hp
        have Hr5 := Lib.hid (Hdone.out w5 hb5)
        clear hsc hb5 hT
        rcases hc with rfl | rfl
        · go_wp2_with fail
          exact ⟨Hr5.out, by simp [intOf]; omega⟩
        · go_wp2_with fail
          exact ⟨Hr5.out, by simp [intOf]; omega⟩
      · rw [hT] at hp
        obtain ⟨v, rfl, hown, hb5⟩ := hp
        obtain ⟨hj1, hj2⟩ := joinL_size hts
        have hj := Lib.hid (join_any v ts wr.heap.size w5 hown (by omega) (by omega))
        have Hown := Lib.hid hown
        have Hb5 := Lib.hid hb5
        have Hts := Lib.hid hts
        have He5 := Lib.hid (HeR.out.below hb5)
        have hjz : (joinL ts).length ≤ 131201 := by omega
        have htl : ts.length ≤ 70000 := by omega
        clear hsc hT hown hb5 hts hj1 hj2 hle HeR
        go_wp2_with fail
        refine hj.out.mono ?_
        rintro e w6 ⟨rfl, hb6⟩
        have hjs : (ByteArray.mk (joinL ts).toArray).data.toList = joinL ts := rfl
        have hjsz : (ByteArray.mk (joinL ts).toArray).size = (joinL ts).length := by rw [size_of hjs]
        have hsc := Lib.hid (scan_full ⟨(joinL ts).toArray⟩ w6 (by omega) (He5.out.below hb6))
        have Hb6 := Lib.hid (below_next Hb5.out hb6)
        have Hown6 := Lib.hid (own_later Hown.out hb6)
        clear hj hb6 Hown Hb5 He5
        obtain ⟨us, hus, hsame⟩ := scan_back Hts.out
        have Hsame := Lib.hid hsame
        by_cases hbig : 65536 < (joinL ts).length
        · have hT : scanT (joinL ts) = .error (0, 5) := by unfold scanT; rw [if_pos hbig]
          have HP : Hid (∀ e w', ScanPost (scanT (ByteArray.mk (joinL ts).toArray).data.toList) w6 e w' → e = .returned (.tuple #[.slice none 0 0, .int .i64 0, .int .i64 5]) ∧ Below w6.heap.size w6 w') := Lib.hid (fun e w' h => by rw [hjs, hT] at h; exact h)
          generalize ByteArray.mk (joinL ts).toArray = J at *
          have hJ : 65536 < J.size := by omega
          have hJ2 : J.size ≤ 131201 := by omega
          clear hT hjs hus hsame Hsame Hts hjsz hbig hjz
          go_wp2_with fail
          refine hsc.out.mono ?_
          intro e w7 hp
          obtain ⟨rfl, hb7⟩ := HP.out e w7 hp
          have Hr7 := Lib.hid (Hdone.out w7 (below_next Hb6.out hb7))
          clear hsc hp hb7
          go_wp2_with fail
          exact ⟨Hr7.out, by simp [intOf]; omega⟩
        · have hT : scanT (joinL ts) = .ok us := by unfold scanT; rw [if_neg hbig, hus]
          have HP : Hid (∀ e w', ScanPost (scanT (ByteArray.mk (joinL ts).toArray).data.toList) w6 e w' → ∃ v, e = .returned (.tuple #[v, .int .i64 0, .int .i64 0]) ∧ w'.ownsRow w6.heap.size 37 4 v us.length (tks us) ∧ Below w6.heap.size w6 w') := Lib.hid (fun e w' h => by rw [hjs, hT] at h; exact h)
          generalize ByteArray.mk (joinL ts).toArray = J at *
          have hJ : J.size ≤ 65536 := by omega
          clear hT hjs hus hsame Hts hjsz hbig hjz
          go_wp2_with fail
          refine hsc.out.mono ?_
          intro e w7 hp
          obtain ⟨v7, rfl, hown7, hb7⟩ := HP.out e w7 hp
          have hsm := Lib.hid (same_any v v7 ts us _ _ false w7 (own_later Hown6.out hb7) hown7 Hsame.out (by omega))
          have Hb7 := Lib.hid (below_next Hb6.out hb7)
          clear hsc hp hb7 hown7 Hown6
          go_wp2_with fail
          refine hsm.out.mono ?_
          rintro e w8 ⟨rfl, hb8⟩
          have Hr8 := Lib.hid (Hdone.out w8 (below_next Hb7.out hb8))
          clear hsm hb8
          go_wp2_with fail
          exact ⟨Hr8.out, by simp [intOf]; omega⟩
    · have hk2 : k = 2 := by omega
      subst hk2
      have Hb9 := Lib.hid (below_next Hb4.out hb)
      clear hb
      go_wp2_with fail
      go_ret
      exact ⟨rfl, Hb9.out⟩
end Go.Proofs.YtifabkoomojklaaDoor
