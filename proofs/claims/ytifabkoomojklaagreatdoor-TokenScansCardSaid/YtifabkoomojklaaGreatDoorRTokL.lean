/-
  TokenScans: the tokens of any texts are those of the chapter's definition. Condition: the library's two errors lie where they were laid.
-/
import Derived.Test.YtifabkoomojklaaGreatDoorRTokA
import Derived.Test.YtifabkoomojklaaGreatDoorSpoilt
import Derived.Test.YtifabkoomojklaaGreatDoorTokSame
import Derived.Test.YtifabkoomojklaaGreatDoorText
import Derived.Lib.ConvBytes
import Derived.Laws.IdiomStrings
namespace Go.Proofs.YtifabkoomojklaaGreatDoor
open Go.RowKit

set_option maxRecDepth 10000 in
theorem tsign_any (s : ByteArray) (w : World) (hs : s.size ≤ 140737488355328) : Calls Tryz.prog 14 #[.string s] w (RetG (isS s.data.toList) w) := by
  go_enter Tryz.func14, Tryz.ntmps14
  go_wp2_with fail
  refine (signs_any _).mono ?_
  rintro e w1 ⟨b, n, rfl, _, hm, hb⟩
  have hrun := hm.look s (by unfold maxLen; omega)
  have Hb := Lib.hid hb
  clear hm hb
  go_wp2_with fail
  go_ret
  exact ⟨rfl, Hb.out⟩
/-- What a scan answers, in three parts. -/
def tsOf : Except (Nat × Nat) (List Tok) → List Tok
  | .ok ts => ts
  | .error _ => []
def lnOf : Except (Nat × Nat) (List Tok) → Nat
  | .ok _ => 0
  | .error p => p.1
def cdOf : Except (Nat × Nat) (List Tok) → Nat
  | .ok _ => 0
  | .error p => p.2
theorem scanPost_all {x : Except (Nat × Nat) (List Tok)} {w w' : World} {e : Ending} (h : ScanPost x w e w') :
    ∃ a c, e = .returned (.tuple #[.slice a (tsOf x).length c, .int .i64 ((lnOf x : Nat) : Int), .int .i64 ((cdOf x : Nat) : Int)]) ∧ w'.ownsRow w.heap.size 36 4 (.slice a (tsOf x).length c) (tsOf x).length (tks (tsOf x)) ∧ Below w.heap.size w w' := by
  cases x with
  | ok ts =>
    obtain ⟨v, h1, h2, h3⟩ := h
    obtain ⟨a, c, rfl⟩ := own_form h2
    exact ⟨a, c, h1, h2, h3⟩
  | error p =>
    obtain ⟨n, c⟩ := p
    exact ⟨none, 0, h.1, World.ownsRow_nil _ _ _ _, h.2⟩
theorem tsOf_size (l : Bytes) : ((tsOf (scanT l)).map (·.text.length)).sum ≤ 65536 ∧ (tsOf (scanT l)).length ≤ 65537 := by
  unfold scanT
  by_cases h : 65536 < l.length
  · rw [if_pos h]
    exact ⟨Nat.zero_le _, Nat.zero_le _⟩
  · rw [if_neg h]
    cases hs : scan 1 l with
    | error n => exact ⟨Nat.zero_le _, Nat.zero_le _⟩
    | ok ts =>
      have h1 := scan_size _ l 1 ts (Nat.le_refl _) hs
      exact ⟨by show (ts.map (·.text.length)).sum ≤ 65536; omega, by show ts.length ≤ 65537; omega⟩
/-- Bytes as a string again. -/
theorem conv_back (w : World) (A : Option Addr) (b : List Nat) (c : Nat) (hr : Rd w A (b.map bv)) (hb : ∀ x ∈ b, x < 256) (hA : A = none → b = []) :
    ∃ Z : ByteArray, Z.size = b.length ∧ (convert 22 9 (.slice A b.length c)).run Tryz.prog w = .ok (.string Z) w := by
  cases A with
  | none =>
    have h0 := hA rfl
    subst h0
    refine ⟨ByteArray.empty, rfl, ?_⟩
    show (convert 22 9 (.slice none 0 c)).run Tryz.prog w = .ok (.string ByteArray.empty) w
    rw [run_convert_bytes_string w 22 9 5 none 0 c Tryz.underlying22 Tryz.underlying5 Tryz.underlying9]
    simp [Conv.bytesToString]
  | some ad =>
    have h := run_convert_bytes_back (P := Tryz.prog) w 22 9 5 ad c (b.map UInt8.ofNat) Tryz.underlying22 Tryz.underlying5 Tryz.underlying9 (fun j hj => by
      have hj2 : j < b.length := by simpa using hj
      have h1 := hr.cells j (bv b[j]) (by rw [List.getElem?_map, List.getElem?_eq_getElem hj2]; rfl)
      have h2 := hb b[j] (List.getElem_mem _)
      rw [h1]
      simp only [List.getElem_map]
      unfold bv
      congr 2
      simp
      omega)
    exact ⟨⟨(b.map UInt8.ofNat).toArray⟩, by show (b.map UInt8.ofNat).toArray.size = b.length; simp, by simpa using h⟩
def bytesOf (s : ByteArray) : List Nat := s.data.toList.map (·.toNat)
theorem bytesOf_rd (w : World) (s : ByteArray) : Rd (Lib.bytesWorld w 5 s) (some ⟨w.heap.size, 0, none⟩) ((bytesOf s).map bv) := Rd.of_cells fun j u hu => by
  rw [bytesOf, List.map_map, List.getElem?_map] at hu
  obtain ⟨x, hx, rfl⟩ := Option.map_eq_some_iff.1 hu
  have hj : j < s.size := by
    have h1 : s.data.toList.length = s.size := by simp
    rcases Nat.lt_or_ge j s.size with h | h
    · exact h
    · rw [List.getElem?_eq_none (by omega)] at hx; cases hx
  rw [Addr.add_lit, Nat.zero_add, Lib.bytesWorld_cell w 5 s j hj]
  rw [List.getD_eq_getElem?_getD, hx]
  rfl
theorem below_g2 {W a b : World} {g : Nat} (h : Below W.heap.size W a) (hg : a.grownBy b (some g)) (hW : W.heap.size ≤ g) : Below W.heap.size W b :=
  h.trans (grown_any hg (fun k hk => by injection hk with hk; omega) h.size)
theorem errs_g2 {a b : World} {g : Nat} (h : Errs a) (hg : a.grownBy b (some g)) (h1 : 1 < g) (h2 : 2 < g) : Errs b :=
  h.grown hg (fun e => absurd (show g = 1 by injection e) (Nat.ne_of_gt h1)) (fun e => absurd (show g = 2 by injection e) (Nat.ne_of_gt h2))
theorem own_later2 {w w' : World} {base n size : Nat} {T : TypeId} {v : Value} {xs : List Value} (h : w.ownsRow base T size v n xs) (hb : Below w.heap.size w w') : w'.ownsRow base T size v n xs := own_kept h (fun b hb' => hb.block b (h.lt b hb').2)
set_option maxRecDepth 100000 in
theorem scans_far (A0 : Option Addr) (m c0 : Nat) (s : ByteArray) (w : World) (he : Errs w) (hs : 500 < s.size) (hs2 : s.size ≤ maxLen) :
    Calls Tryz.prog 3 #[.slice A0 m c0, .string s] w fun e w' => e = .returned (.bool true) ∧ Below w.heap.size w w' := by
  have ha := Lib.hid (awake_any w he)
  unfold maxLen at hs2
  clear he
  go_enter Tryz.func3, Tryz.ntmps3
  go_wp2_with fail
  refine ha.out.mono ?_
  rintro e w1 ⟨rfl, hb1⟩
  have Hb1 := Lib.hid hb1
  clear ha hb1
  go_wp2_with fail
  go_ret
  exact ⟨rfl, Hb1.out⟩
set_option maxRecDepth 100000 in
set_option maxHeartbeats 4000000 in
theorem scans_near (A0 : Option Addr) (codes : List Nat) (m c0 : Nat) (s : ByteArray) (w : World) (he : Errs w) (hm : codes.length = m) (hmc : m ≤ c0) (hr : Rd w A0 (codes.map bv)) (hcs : ∀ x ∈ codes, x < 256) (hs : s.size ≤ 500) :
    Calls Tryz.prog 3 #[.slice A0 m c0, .string s] w fun e w' => e = .returned (.bool true) ∧ Below w.heap.size w w' := by
  have ha := Lib.hid (awake_any w he)
  have He := Lib.hid he
  have Hm := Lib.hid hm
  have Hr := Lib.hid hr
  have Hcs := Lib.hid hcs
  have het := he.lt
  clear he hm hr hcs
  go_enter Tryz.func3, Tryz.ntmps3
  go_wp2_with fail
  refine ha.out.mono ?_
  rintro e w1 ⟨rfl, hb1⟩
  have hn := Lib.hid (new_any A0 codes m c0 300 w1 Hm.out hmc (Hr.out.below hb1) (by decide))
  have He1 := Lib.hid (He.out.below hb1)
  have Hb1 := Lib.hid hb1
  clear ha hb1 Hr Hm
  go_wp2_with fail
  refine hn.out.mono ?_
  rintro e w2 ⟨g, cs, rfl, hg, hlen, rfl, hc2, hb2⟩
  have Hcl : Hid (∀ x ∈ codes.take 300, x < 256) := Lib.hid (fun x hx => Hcs.out x (List.mem_of_mem_take hx))
  generalize codes.take 300 = cs at *
  have hgw : w.heap.size ≤ g := Nat.le_trans Hb1.out.size hg
  have hx := Lib.hid (text_any g cs w2 ⟨0, hc2⟩ (by omega) Hcl.out)
  have He2 := Lib.hid (He1.out.below hb2)
  have Hb2 := Lib.hid (below_next Hb1.out hb2)
  clear hn hb2 hc2 Hcs He1 Hb1
  go_wp2_with fail
  refine hx.out.mono ?_
  rintro e w3 ⟨t, rfl, htz, _, _, hc3, hg3⟩
  have ho := Lib.hid (odd_any g cs w3 hc3 (by omega) Hcl.out (text_ct g cs (by omega) Hcl.out))
  have He3 := Lib.hid (errs_g2 He2.out hg3 (by omega) (by omega))
  have Hb3 := Lib.hid (below_g2 Hb2.out hg3 hgw)
  clear hx hc3 hg3 He2 Hb2
  go_wp2_with fail
  refine ho.out.mono ?_
  rintro e w4 ⟨od, rfl, hoz, hc4, hg4⟩
  have He4 := Lib.hid (errs_g2 He3.out hg4 (by omega) (by omega))
  have Hb4 := Lib.hid (below_g2 Hb3.out hg4 hgw)
  have hcv := Lib.run_convert_string_bytes (P := Tryz.prog) w4 9 22 5 t Tryz.underlying9 Tryz.underlying22 Tryz.underlying5
  have hbc : Below w4.heap.size w4 (Lib.bytesWorld w4 5 t) := Lib.bytesWorld_below _ _ _
  have hcap := grownCap_ge w4 t.size 0 5
  obtain ⟨k4, hk4⟩ := hc4
  have hsp := Lib.hid (spoilt_any g cs k4 (some ⟨w4.heap.size, 0, none⟩) (bytesOf t) t.size (grownCap w4 t.size 0 5) (Lib.bytesWorld w4 5 t) (codes_below hk4 hbc) (by omega) Hcl.out (by simp [bytesOf]) hcap (bytesOf_rd w4 t) (fun x hx => by
    obtain ⟨y, _, rfl⟩ := List.mem_map.1 hx
    exact y.toNat_lt) (by omega))
  have He5 := Lib.hid (He4.out.below hbc)
  have Hb5 := Lib.hid (below_next Hb4.out hbc)
  clear ho hg4 hk4 He3 Hb3 He4 Hb4 hbc
  generalize grownCap w4 t.size 0 5 = cap at *
  generalize Lib.bytesWorld w4 5 t = w5 at *
  go_wp2_with fail
  refine hsp.out.mono ?_
  rintro e w6 ⟨A, b, c6, k6, rfl, hr6, hb6, _, hbl6, hA6, _, hg6⟩
  obtain ⟨Z, hZ, hcv2⟩ := conv_back w6 A b c6 hr6 hb6 hA6
  have hZz : Z.size ≤ 65600 := by omega
  have He6 := Lib.hid (errs_g2 He5.out hg6 (by omega) (by omega))
  have Hb6 := Lib.hid (below_g2 Hb5.out hg6 hgw)
  clear hsp hr6 hb6 hA6 hg6 hZ He5 Hb5 hcv
  go_upto_region 6 with fail
  have hb7 := (Below.refl _ w6).alloc (Nat.le_refl _) (.cells #[.string s, .string t, .string od, .string (t ++ s), .string (s ++ ⟨#[10]⟩ ++ s), .string Z] 9)
  have hrow : (w6.alloc (.cells #[.string s, .string t, .string od, .string (t ++ s), .string (s ++ ⟨#[10]⟩ ++ s), .string Z] 9)).heap[w6.heap.size]? = some (.cells #[.string s, .string t, .string od, .string (t ++ s), .string (s ++ ⟨#[10]⟩ ++ s), .string Z] 9 (0, 0)) := heap_alloc_new w6 _
  have Hrow : Hid (∀ k, k < 6 → ∃ x : ByteArray, x.size ≤ 140000 ∧ (w6.alloc (.cells #[.string s, .string t, .string od, .string (t ++ s), .string (s ++ ⟨#[10]⟩ ++ s), .string Z] 9)).cell? ⟨w6.heap.size, k, none⟩ = some (.string x)) := Lib.hid (fun k hk => by
    have hc : k = 0 ∨ k = 1 ∨ k = 2 ∨ k = 3 ∨ k = 4 ∨ k = 5 := by omega
    rcases hc with rfl | rfl | rfl | rfl | rfl | rfl
    · exact ⟨s, by omega, by rw [cell_of_row _ _ 0 _ _ _ hrow]; rfl⟩
    · exact ⟨t, by omega, by rw [cell_of_row _ _ 1 _ _ _ hrow]; rfl⟩
    · exact ⟨od, by omega, by rw [cell_of_row _ _ 2 _ _ _ hrow]; rfl⟩
    · exact ⟨t ++ s, by rw [ByteArray.size_append]; omega, by rw [cell_of_row _ _ 3 _ _ _ hrow]; rfl⟩
    · exact ⟨s ++ ⟨#[10]⟩ ++ s, by rw [ByteArray.size_append, ByteArray.size_append]; show s.size + 1 + s.size ≤ 140000; omega, by rw [cell_of_row _ _ 4 _ _ _ hrow]; rfl⟩
    · exact ⟨Z, by omega, by rw [cell_of_row _ _ 5 _ _ _ hrow]; rfl⟩)
  have He7 := Lib.hid (He6.out.below hb7)
  have Hb7 := Lib.hid (below_next Hb6.out hb7)
  obtain ⟨q, hq⟩ : ∃ q, q = w6.heap.size := ⟨_, rfl⟩
  rw [← hq] at Hrow ⊢
  clear hb7 hrow He6 Hb6 hq htz hoz hZz hcv2
  generalize w6.alloc (.cells #[.string s, .string t, .string od, .string (t ++ s), .string (s ++ ⟨#[10]⟩ ++ s), .string Z] 9) = w7 at *
  go_loopw [48] (fun v wr => ∃ k : Nat, k ≤ 6 ∧ v = .int .i64 (k : Int) ∧ Below w7.heap.size w7 wr) (fun v _ => 6 - (intOf v).toNat)
  case atStart => exact ⟨0, by omega, rfl, Below.refl _ _⟩
  case round =>
    obtain ⟨k, hk, rfl, hb⟩ := hrel
    have Hb := Lib.hid hb
    by_cases hlt : k < 6
    · obtain ⟨x, hxz, hx⟩ := Hrow.out k hlt
      have hx2 := hold hb hx
      have HeR := Lib.hid (He7.out.below hb)
      have hsc := Lib.hid (scan_full x wr (by omega) HeR.out)
      clear hb hx
      go_wp2_with fail
      refine hsc.out.mono ?_
      intro e w8 hp
      obtain ⟨a8, c8, rfl, hown8, hb8⟩ := scanPost_all hp
      have hsc2 := Lib.hid (rscan_any x w8 (by omega))
      obtain ⟨hts1, hts2⟩ := tsOf_size x.data.toList
      have Hown8 := Lib.hid hown8
      have Hb8 := Lib.hid (below_next Hb.out hb8)
      clear hsc hp hown8 hb8 HeR
      obtain ⟨n, hn⟩ : ∃ n, n = (tsOf (scanT x.data.toList)).length := ⟨_, rfl⟩
      rw [← hn] at hts2 ⊢
      go_wp2_with fail
      refine hsc2.out.mono ?_
      intro e w9 hp
      obtain ⟨a9, c9, rfl, hown9, hb9⟩ := scanPost_all hp
      have hsm := Lib.hid (same_any _ _ _ _ _ _ true w9 (own_later2 Hown8.out hb9) hown9 (sameT_refl true _) (by omega))
      have Hown9 := Lib.hid hown9
      have Hb9 := Lib.hid (below_next Hb8.out hb9)
      have Hn := Lib.hid hn
      have Hs1 := Lib.hid hts1
      rw [← hn] at hsm ⊢
      clear hsc2 hp hown9 hb9 Hown8 Hb8 hts1 hn
      generalize lnOf (scanT x.data.toList) = LN at *
      generalize cdOf (scanT x.data.toList) = CD at *
      generalize tsOf (scanT x.data.toList) = TS at *
      go_wp2_with fail
      refine hsm.out.mono ?_
      rintro e w10 ⟨rfl, hb10⟩
      have Hb10 := Lib.hid (below_next Hb9.out hb10)
      have Hown10 := Lib.hid (own_later2 Hown9.out hb10)
      clear hsm hb10 Hown9 Hb9
      go_wp2_with fail
      go_loopw [15] (fun v wr2 => ∃ j : Nat, j ≤ n ∧ v = .int .i64 (j : Int) ∧ Below w10.heap.size w10 wr2) (fun v _ => n - (intOf v).toNat)
      case atStart => exact ⟨0, Nat.zero_le _, rfl, Below.refl _ _⟩
      case round =>
        obtain ⟨j, hj, rfl, hbj⟩ := hrel
        have Hbj := Lib.hid hbj
        by_cases hjn : j < n
        · obtain ⟨tk, htk⟩ : ∃ t, TS[j]? = some t := ⟨TS[j]'(by rw [← Hn.out]; exact hjn), List.getElem?_eq_getElem _⟩
          obtain ⟨gt, ct, hv, _, hct, _, _, _, _, d3⟩ := own_lit Hown10.out htk
          injection hv with e1 e2 e3
          subst e1 e3
          clear e2
          have hct2 : n ≤ c9 := by rw [Hn.out]; exact hct
          have d3 := hold hbj d3
          obtain ⟨X, hX⟩ : ∃ X : ByteArray, X = ⟨tk.text.toArray⟩ := ⟨_, rfl⟩
          rw [← hX] at d3
          have hXz : X.size ≤ 65536 := by
            have h1 : X.data.toList = tk.text := by rw [hX]
            have h2 := rsum_mem TS tk (List.mem_of_getElem? htk)
            have h3 := Hs1.out
            rw [size_of h1]
            omega
          clear hbj htk hX hct
          have hS0 : wr.drew.cell? ⟨gt, j * 4 + 3, none⟩ = some (.string X) := d3
          go_upto_region 15 with fail
          go_region_held3 (fun w' => w'.cell? ⟨gt, j * 4 + 3, none⟩ = some (.string X))
            (first | (with_reducible exact hS0) | (with_reducible exact hSa) | (with_reducible exact hSb) | (with_reducible exact hSc) | (with_reducible exact hSd))
            (first | (go_at_call 12; (with_reducible refine (word_any X _ (by omega)).mono ?_); rintro e wa ⟨rfl, hba⟩; have hSa := hold hba hS0; have Hba := Lib.hid (below_next (below_next Hbj.out (Below.refl _ wr).drew) hba); clear hba) | (go_at_call 13; (with_reducible refine (rword_any X _).mono ?_); rintro e wb ⟨rfl, hbb⟩; have hSb := hold hbb hSa; have Hbb := Lib.hid (below_next Hba.out hbb); clear hbb) | (go_at_call 14; (with_reducible refine (tsign_any X _ (by omega)).mono ?_); rintro e wc ⟨rfl, hbc⟩; have hSc := hold hbc hSb; have Hbc := Lib.hid (below_next Hbb.out hbc); clear hbc) | (go_at_call 15; (with_reducible refine (rsign_any X _).mono ?_); rintro e wd ⟨rfl, hbd⟩; have hSd := hold hbd hSc; have Hbd := Lib.hid (below_next Hbc.out hbd); clear hbd))
          all_goals
            go_wp2_with fail
            exact ⟨⟨j + 1, by omega, by go_num, by first | exact Hbd.out | exact below_drewN Hbd.out _⟩, by simp [intOf]; omega⟩
        · have hjl := joinL_take_len TS TS.length
          rw [List.take_length] at hjl
          have hs2 := Hs1.out
          have hn2 := Hn.out
          have h1 := join_any _ TS _ wr (own_later2 Hown10.out hbj) (by omega) (by omega)
          rw [← Hn.out] at h1
          have H1 := Lib.hid h1
          have Hbe := Lib.hid (below_next Hb10.out hbj)
          have Howe := Lib.hid (own_later2 Hown10.out hbj)
          have hjn2 : j = n := by omega
          clear h1 hn2 hbj
          subst hjn2
          go_wp2_with fail
          refine H1.out.mono ?_
          rintro e w11 ⟨rfl, hb11⟩
          have h2 := rjoin_any _ TS _ w11 (own_later2 Howe.out hb11) (by have := Hn.out; omega)
          rw [← Hn.out] at h2
          have H2 := Lib.hid h2
          have Hb11 := Lib.hid (below_next Hbe.out hb11)
          clear h2 hb11 H1 Hbe hjl hs2
          go_wp2_with fail
          refine H2.out.mono ?_
          rintro e w12 ⟨rfl, hb12⟩
          have Hb12 := Lib.hid (below_next Hb11.out hb12)
          clear H2 hb12 Hb11
          go_wp2_with fail
          exact ⟨⟨k + 1, by omega, by go_num, Hb12.out⟩, by simp [intOf]; omega⟩
    · have hk2 : k = 6 := by omega
      subst hk2
      have Hbe := Lib.hid (below_next Hb7.out hb)
      have h1 := Lib.hid (word_any s wr (by omega))
      clear hb
      go_wp2_with fail
      refine h1.out.mono ?_
      rintro e w8 ⟨rfl, hb8⟩
      have h2 := Lib.hid (rword_any s w8)
      have Hb8 := Lib.hid (below_next Hbe.out hb8)
      clear h1 hb8
      go_wp2_with fail
      refine h2.out.mono ?_
      rintro e w9 ⟨rfl, hb9⟩
      have h3 := Lib.hid (tsign_any s w9 (by omega))
      have Hb9 := Lib.hid (below_next Hb8.out hb9)
      clear h2 hb9
      go_wp2_with fail
      refine h3.out.mono ?_
      rintro e w10 ⟨rfl, hb10⟩
      have h4 := Lib.hid (rsign_any s w10)
      have Hb10 := Lib.hid (below_next Hb9.out hb10)
      clear h3 hb10
      go_wp2_with fail
      refine h4.out.mono ?_
      rintro e w11 ⟨rfl, hb11⟩
      have Hb11 := Lib.hid (below_next Hb10.out hb11)
      clear h4 hb11
      go_wp2_with fail
      go_ret
      exact ⟨by simp, Hb11.out⟩
end Go.Proofs.YtifabkoomojklaaGreatDoor
