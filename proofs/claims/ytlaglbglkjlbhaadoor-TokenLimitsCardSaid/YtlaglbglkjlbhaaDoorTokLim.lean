/-
  TokenLimits: names, numbers and texts at their limits. Condition: the library's two errors lie where they were laid.
-/
import Derived.Test.YtlaglbglkjlbhaaDoorTok4
import Derived.Laws.IdiomStrings
import Derived.Lib.AppendStr
namespace Go.Proofs.YtlaglbglkjlbhaaDoor
open Go.RowKit

theorem infoB : (Tryd.prog.info? 5).map (fun i => (i.zero, i.size, i.bytes)) = some (some (.int .u8 0), 1, 1) := by kernel_rfl
theorem rep_cells (c : UInt8) (k : Nat) : (List.replicate k (Value.int .u8 (c.toNat : Int))) ++ Lib.strCells { data := #[c] } = List.replicate (k + 1) (.int .u8 (c.toNat : Int)) := by
  rw [List.replicate_succ']
  rfl
/-- times under way. -/
def TimesRel (w0 : World) (c : UInt8) (n : Nat) (v i : Value) (wr : World) : Prop :=
  ∃ k : Nat, k ≤ n ∧ i = .int .i64 (k : Int) ∧ wr.ownsRow w0.heap.size 5 1 v k (List.replicate k (.int .u8 (c.toNat : Int))) ∧ (∃ g cap, v = .slice (some ⟨g, 0, none⟩) k cap) ∧ Below w0.heap.size w0 wr
theorem own_slice {w : World} {base n size : Nat} {T : TypeId} {v : Value} {xs : List Value} (h : w.ownsRow base T size v n xs) (hn : v ≠ .slice none 0 0) : ∃ g cap, v = .slice (some ⟨g, 0, none⟩) n cap := by
  rcases h.2 with ⟨rfl, _⟩ | ⟨g', cap, cur, rfl, hb, _⟩
  · exact absurd rfl hn
  · exact ⟨g', cap, rfl⟩
set_option maxRecDepth 10000 in
set_option maxHeartbeats 1000000 in
theorem times_any (c : UInt8) (n : Nat) (w : World) (hn : n ≤ 1000000) : Calls Tryd.prog 5 #[.string { data := #[c] }, .int .i64 (n : Int)] w (RetS (List.replicate n c) w) := by
  obtain ⟨i5, hi, hz0, hz1, hz2⟩ := info_parts infoB
  have Hi := Lib.hid hi; have Hz0 := Lib.hid hz0; have Hz1 := Lib.hid hz1; have Hz2 := Lib.hid hz2
  clear hi hz0 hz1 hz2
  go_enter Tryd.func5, Tryd.ntmps5
  go_wp2_with (at_make; refine Pause.out ?_)
  refine Pause.of (wpList_make_own _ rfl _ _ _ rfl w.heap.size 5 i5 _ 1 Tryd.underlying33 Hi.out Hz0.out Hz1.out .i64 .i64 _ n rfl rfl (by simp) (by rw [Hz2.out]; omega) (by unfold maxLen; omega) (Nat.le_refl _) ?_)
  intro w1 hown hg
  have hst : TimesRel w c n (.slice (some ⟨w.heap.size, 0, none⟩) 0 n) (.int .i64 0) w1 := ⟨0, Nat.zero_le _, rfl, hown, ⟨_, _, rfl⟩, (Below.refl _ w).grown hg (Nat.le_refl _) (fun k hk => by cases hk)⟩
  have Hst := Lib.hid hst
  clear hst hown hg
  go_wp2_with fail
  go_loopw [5, 6] (fun v i wr => TimesRel w c n v i wr) (fun _ i _ => n - (intOf i).toNat)
  case atStart => exact Hst.out
  case round =>
    clear Hst
    obtain ⟨k, hk, rfl, hown, ⟨g, cap, rfl⟩, hb⟩ := hrel
    have Hown := Lib.hid hown
    have Hb := Lib.hid hb
    have hsz := hb.size
    clear hown hb
    by_cases hlt : k < n
    · go_wp2_with (at_builtin; refine Pause.out ?_)
      refine Pause.of (Lib.wpList_append_own_string _ rfl _ _ _ _ rfl w.heap.size 5 i5 Tryd.underlying33 Tryd.underlying9 Hi.out Hz0.out Hz1.out Hz2.out _ _ _ rfl Hown.out { data := #[c] } rfl (by show k + 1 ≤ _; unfold maxLen; omega) (by show k + 1 ≤ _; omega) hsz ?_)
      intro v' w' hown hg hnil
      have hsl := own_slice hown (fun e => by have := (hnil.1 e).1; cases this)
      have hr : TimesRel w c n v' (.int .i64 ((k : Int) + 1)) w' := ⟨k + 1, by omega, by go_num, by rw [rep_cells] at hown; exact hown, hsl, Hb.out.grown hg hsz (own_base Hown.out)⟩
      have Hr := Lib.hid hr
      clear hr hsl hown hg hnil
      go_wp2_with fail
      go_roundw
      case rel => exact Hr.out
      case measure => simp [intOf]; omega
    · obtain rfl : k = n := by omega
      have hcv : (convert 33 9 (.slice (some ⟨g, 0, none⟩) k cap)).run Tryd.prog wr = .ok (.string ⟨(List.replicate k c).toArray⟩) wr := by
        have h := run_convert_bytes_back (P := Tryd.prog) wr 33 9 5 ⟨g, 0, none⟩ cap (List.replicate k c) Tryd.underlying33 Tryd.underlying5 Tryd.underlying9 (fun j hj => by
          have := Hown.out.cells (g := g) rfl j (.int .u8 (c.toNat : Int)) (by rw [List.getElem?_replicate, if_pos (by simpa using hj)])
          simpa using this)
        simpa using h
      go_wp2_with fail
      go_ret
      exact ⟨rfl, Hb.out⟩
theorem times_at (c : UInt8) (n : Nat) (z : Int) (w : World) (hn : n ≤ 1000000) (hz : z = (n : Int)) : Calls Tryd.prog 5 #[.string { data := #[c] }, .int .i64 z] w (RetS (List.replicate n c) w) := by
  subst hz
  exact times_any c n w hn
theorem scan_lines (k : Nat) (l : Bytes) : ∀ line, scan line (List.replicate k 10 ++ l) = scan (line + k) l := by
  induction k with
  | zero => intro line; rfl
  | succ k ih =>
    intro line
    rw [List.replicate_succ, List.cons_append, scan, if_pos (by decide), ih]
    congr 1
    omega
theorem scan_spaces (k : Nat) : ∀ line, scan line (List.replicate k 32) = .ok [⟨0, line, 0, []⟩] := by
  induction k with
  | zero => intro line; rw [List.replicate_zero, scan]
  | succ k ih =>
    intro line
    rw [List.replicate_succ, scan, if_neg (by decide), if_pos (by decide), ih]
/-- One token alone. -/
theorem scan_one {l : Bytes} {q : Nat × Nat} {line : Nat} (h : rnext l = some (q.1, q.2, l.length)) (hh : ∀ c r, l = c :: r → c.toNat ≠ 10 ∧ ¬(c.toNat = 32 ∨ c.toNat = 9) ∧ c.toNat ≠ 35) : scan line l = .ok [⟨q.1, line, q.2, l⟩, ⟨0, line, 0, []⟩] := by
  match l, h, hh with
  | [], h, _ => cases h
  | c :: r, h, hh =>
    obtain ⟨h1, h2, h3⟩ := hh c r rfl
    rw [scan, if_neg h1, if_neg h2, if_neg h3, h]
    simp only [List.length_cons, Nat.add_sub_cancel, List.drop_length]
    rw [scan]
    simp
theorem scan_noone {l : Bytes} {line : Nat} (h : rnext l = none) (h0 : l ≠ []) (hh : ∀ c r, l = c :: r → c.toNat ≠ 10 ∧ ¬(c.toNat = 32 ∨ c.toNat = 9) ∧ c.toNat ≠ 35) : scan line l = .error line := by
  match l, h, hh with
  | [], h, _ => exact absurd rfl h0
  | c :: r, h, hh =>
    obtain ⟨h1, h2, h3⟩ := hh c r rfl
    rw [scan, if_neg h1, if_neg h2, if_neg h3, h]
theorem limT_ok {l : Bytes} {q : Nat × Nat} (k : Nat) (h : rnext l = some (q.1, q.2, l.length)) (hh : ∀ c r, l = c :: r → c.toNat ≠ 10 ∧ ¬(c.toNat = 32 ∨ c.toNat = 9) ∧ c.toNat ≠ 35) (hl : k + l.length ≤ 65536) : scanT (List.replicate k 10 ++ l) = .ok [⟨q.1, k + 1, q.2, l⟩, ⟨0, k + 1, 0, []⟩] := by
  rw [scanT, if_neg (by simp; omega), scan_lines, scan_one h hh, Nat.add_comm 1 k]
theorem limT_no {l : Bytes} (k : Nat) (h : rnext l = none) (h0 : l ≠ []) (hh : ∀ c r, l = c :: r → c.toNat ≠ 10 ∧ ¬(c.toNat = 32 ∨ c.toNat = 9) ∧ c.toNat ≠ 35) (hl : k + l.length ≤ 65536) : scanT (List.replicate k 10 ++ l) = .error (k + 1, 6) := by
  rw [scanT, if_neg (by simp; omega), scan_lines, scan_noone h h0 hh, Nat.add_comm 1 k]
/-- Scanning at a limit that is kept. -/
theorem lim_ok (s : ByteArray) (L : Bytes) (q : Nat × Nat) (k : Nat) (w : World) (hs : s.data.toList = List.replicate k 10 ++ L) (h : rnext L = some (q.1, q.2, L.length)) (hh : ∀ c r, L = c :: r → c.toNat ≠ 10 ∧ ¬(c.toNat = 32 ∨ c.toNat = 9) ∧ c.toNat ≠ 35) (hl : k + L.length ≤ 65536) (he : Errs w) :
    Calls Tryd.prog 6 #[.string s] w fun e w' => ∃ g c, e = .returned (.tuple #[.slice (some ⟨g, 0, none⟩) 2 c, .int .i64 0, .int .i64 0]) ∧ Below w.heap.size w w' := by
  have hsz : s.data.toList.length = s.size := by simp
  have hsz2 : s.data.toList.length = k + L.length := by rw [hs]; simp
  refine (scan_full s w (by omega) he).mono fun e w' hp => ?_
  rw [hs, limT_ok k h hh hl] at hp
  obtain ⟨v, rfl, hown, hb⟩ := hp
  obtain ⟨g, c, rfl, _⟩ := own_lit hown (k := 0) rfl
  exact ⟨g, c, rfl, hb⟩
theorem lim_no (s : ByteArray) (L : Bytes) (k : Nat) (w : World) (hs : s.data.toList = List.replicate k 10 ++ L) (h : rnext L = none) (h0 : L ≠ []) (hh : ∀ c r, L = c :: r → c.toNat ≠ 10 ∧ ¬(c.toNat = 32 ∨ c.toNat = 9) ∧ c.toNat ≠ 35) (hl : k + L.length ≤ 65536) (he : Errs w) :
    Calls Tryd.prog 6 #[.string s] w fun e w' => e = .returned (.tuple #[.slice none 0 0, .int .i64 ((k : Int) + 1), .int .i64 6]) ∧ Below w.heap.size w w' := by
  have hsz : s.data.toList.length = s.size := by simp
  have hsz2 : s.data.toList.length = k + L.length := by rw [hs]; simp
  refine (scan_full s w (by omega) he).mono fun e w' hp => ?_
  rw [hs, limT_no k h h0 hh hl] at hp
  obtain ⟨h1, h2⟩ := hp
  exact ⟨by rw [h1]; rfl, h2⟩
theorem times_hid (c : UInt8) (n : Nat) (z : Int) (w : World) (hn : n ≤ 1000000) (hz : z = (n : Int)) : Calls Tryd.prog 5 #[.string { data := #[c] }, .int .i64 z] w fun e w' => ∃ Z : ByteArray, e = .returned (.string Z) ∧ Hid (Z.data.toList = List.replicate n c) ∧ Below w.heap.size w w' :=
  (times_at c n z w hn hz).mono fun _ _ ⟨h1, h2⟩ => ⟨_, h1, Lib.hid rfl, h2⟩
theorem lim_spaces (Z : ByteArray) (n : Nat) (w : World) (hZ : Z.data.toList = List.replicate n 32) (hn : n ≤ 65536) (he : Errs w) :
    Calls Tryd.prog 6 #[.string Z] w fun e w' => ∃ g c, e = .returned (.tuple #[.slice (some ⟨g, 0, none⟩) 1 c, .int .i64 0, .int .i64 0]) ∧ Below w.heap.size w w' := by
  have hsz : Z.data.toList.length = Z.size := by simp
  rw [hZ, List.length_replicate] at hsz
  refine (scan_full _ w (by omega) he).mono fun e w' hp => ?_
  rw [hZ, scanT, if_neg (by simp; omega), scan_spaces] at hp
  obtain ⟨v, rfl, hown, hb⟩ := hp
  obtain ⟨g, c, rfl, _⟩ := own_lit hown (k := 0) rfl
  exact ⟨g, c, rfl, hb⟩
theorem lim_far (Z : ByteArray) (n : Nat) (w : World) (hZ : Z.data.toList = List.replicate n 32) (hn : 65536 < n) (hn2 : n ≤ 1000000) (he : Errs w) :
    Calls Tryd.prog 6 #[.string Z] w fun e w' => e = .returned (.tuple #[.slice none 0 0, .int .i64 0, .int .i64 5]) ∧ Below w.heap.size w w' := by
  have hsz : Z.data.toList.length = Z.size := by simp
  rw [hZ, List.length_replicate] at hsz
  refine (scan_full _ w (by omega) he).mono fun e w' hp => ?_
  rw [hZ, scanT, if_pos (by simp; omega)] at hp
  exact hp
set_option maxRecDepth 10000 in
set_option maxHeartbeats 1000000 in
theorem limits_a0 (x0 : Int) (lg : Nat) (w : World) (he : Errs w) (hx : 0 ≤ x0 ∧ x0 < 256) (h3 : x0 % 3 = 0) (hlg : lg < 256) :
    Calls Tryd.prog 3 #[.int .u8 x0, .int .u8 (lg : Int), .bool false] w (RetG true w) := by
  have He := Lib.hid he
  clear he
  obtain ⟨hx1, hx2⟩ := hx
  go_enter Tryd.func3, Tryd.ntmps3
  go_wp2_with fail
  refine (awake_any _ He.out).mono ?_
  rintro e w1 ⟨rfl, hb1⟩
  have Hb1 := Lib.hid hb1
  have He1 := Lib.hid (He.out.below hb1)
  clear hb1
  have hl20 : lg % 20 < 20 := Nat.mod_lt _ (by decide)
  go_wp2_with fail
  refine (times_at 10 (lg % 20) _ _ (by omega) (by omega)).mono ?_
  rintro e w2 ⟨rfl, hb2⟩
  have Hb2 := Lib.hid (below_next Hb1.out hb2)
  have He2 := Lib.hid (He1.out.below hb2)
  clear hb2 He1 Hb1
  generalize lg % 20 = k at *
  go_wp2_with fail
  refine (times_at 121 31 _ _ (by omega) (by omega)).mono ?_
  rintro e w3 ⟨rfl, hb3⟩
  have Hb3 := Lib.hid (below_next Hb2.out hb3)
  have He3 := Lib.hid (He2.out.below hb3)
  clear hb3 He2 Hb2
  go_wp2_with fail
  refine (lim_ok _ (120 :: List.replicate 31 121) (1, 0) k _ (by simp [List.replicate]) (by decide) (by rintro c r h; injection h with h _; subst h; decide) (by simp; omega) He3.out).mono ?_
  rintro e w4 ⟨g, c, rfl, hb4⟩
  have Hb4 := Lib.hid (below_next Hb3.out hb4)
  clear hb4 He3 Hb3
  go_wp2_with fail
  go_ret
  exact ⟨rfl, Hb4.out⟩
set_option maxRecDepth 10000 in
set_option maxHeartbeats 1000000 in
theorem limits_a1 (x0 : Int) (lg : Nat) (w : World) (he : Errs w) (hx : 0 ≤ x0 ∧ x0 < 256) (h3 : x0 % 3 = 0) (hlg : lg < 256) :
    Calls Tryd.prog 3 #[.int .u8 x0, .int .u8 (lg : Int), .bool true] w (RetG true w) := by
  have He := Lib.hid he
  clear he
  obtain ⟨hx1, hx2⟩ := hx
  go_enter Tryd.func3, Tryd.ntmps3
  go_wp2_with fail
  refine (awake_any _ He.out).mono ?_
  rintro e w1 ⟨rfl, hb1⟩
  have Hb1 := Lib.hid hb1
  have He1 := Lib.hid (He.out.below hb1)
  clear hb1
  have hl20 : lg % 20 < 20 := Nat.mod_lt _ (by decide)
  go_wp2_with fail
  refine (times_at 10 (lg % 20) _ _ (by omega) (by omega)).mono ?_
  rintro e w2 ⟨rfl, hb2⟩
  have Hb2 := Lib.hid (below_next Hb1.out hb2)
  have He2 := Lib.hid (He1.out.below hb2)
  clear hb2 He1 Hb1
  generalize lg % 20 = k at *
  go_wp2_with fail
  refine (times_at 121 32 _ _ (by omega) (by omega)).mono ?_
  rintro e w3 ⟨rfl, hb3⟩
  have Hb3 := Lib.hid (below_next Hb2.out hb3)
  have He3 := Lib.hid (He2.out.below hb3)
  clear hb3 He2 Hb2
  go_wp2_with fail
  refine (lim_no _ (120 :: List.replicate 32 121) k _ (by simp [List.replicate]) (by decide) (by simp) (by rintro c r h; injection h with h _; subst h; decide) (by simp; omega) He3.out).mono ?_
  rintro e w4 ⟨rfl, hb4⟩
  have Hb4 := Lib.hid (below_next Hb3.out hb4)
  clear hb4 He3 Hb3
  go_wp2_with fail
  go_ret
  exact ⟨rfl, Hb4.out⟩
set_option maxRecDepth 10000 in
set_option maxHeartbeats 1000000 in
theorem limits_b0 (x0 : Int) (lg : Nat) (w : World) (he : Errs w) (hx : 0 ≤ x0 ∧ x0 < 256) (h3 : x0 % 3 = 1) (hlg : lg < 256) :
    Calls Tryd.prog 3 #[.int .u8 x0, .int .u8 (lg : Int), .bool false] w (RetG true w) := by
  have He := Lib.hid he
  clear he
  obtain ⟨hx1, hx2⟩ := hx
  go_enter Tryd.func3, Tryd.ntmps3
  go_wp2_with fail
  refine (awake_any _ He.out).mono ?_
  rintro e w1 ⟨rfl, hb1⟩
  have Hb1 := Lib.hid hb1
  have He1 := Lib.hid (He.out.below hb1)
  clear hb1
  have hl20 : lg % 20 < 20 := Nat.mod_lt _ (by decide)
  go_wp2_with fail
  refine (times_at 10 (lg % 20) _ _ (by omega) (by omega)).mono ?_
  rintro e w2 ⟨rfl, hb2⟩
  have Hb2 := Lib.hid (below_next Hb1.out hb2)
  have He2 := Lib.hid (He1.out.below hb2)
  clear hb2 He1 Hb1
  generalize lg % 20 = k at *
  go_wp2_with fail
  refine (lim_ok _ [57, 50, 50, 51, 51, 55, 50, 48, 51, 54, 56, 53, 52, 55, 55, 53, 56, 48, 55] (2, 9223372036854775807) k _ (by simp) (by decide) (by rintro c r h; injection h with h _; subst h; decide) (by simp; omega) (He2.out.below ((Below.refl _ w2).alloc (Nat.le_refl _) _))).mono ?_
  rintro e w4 ⟨g, c, rfl, hb4⟩
  have Hb4 := Lib.hid (below_next (Hb2.out.alloc Hb2.out.size _) hb4)
  clear hb4 He2 Hb2
  go_wp2_with fail
  go_ret
  exact ⟨rfl, Hb4.out⟩
set_option maxRecDepth 10000 in
set_option maxHeartbeats 1000000 in
theorem limits_b1 (x0 : Int) (lg : Nat) (w : World) (he : Errs w) (hx : 0 ≤ x0 ∧ x0 < 256) (h3 : x0 % 3 = 1) (hlg : lg < 256) :
    Calls Tryd.prog 3 #[.int .u8 x0, .int .u8 (lg : Int), .bool true] w (RetG true w) := by
  have He := Lib.hid he
  clear he
  obtain ⟨hx1, hx2⟩ := hx
  go_enter Tryd.func3, Tryd.ntmps3
  go_wp2_with fail
  refine (awake_any _ He.out).mono ?_
  rintro e w1 ⟨rfl, hb1⟩
  have Hb1 := Lib.hid hb1
  have He1 := Lib.hid (He.out.below hb1)
  clear hb1
  have hl20 : lg % 20 < 20 := Nat.mod_lt _ (by decide)
  go_wp2_with fail
  refine (times_at 10 (lg % 20) _ _ (by omega) (by omega)).mono ?_
  rintro e w2 ⟨rfl, hb2⟩
  have Hb2 := Lib.hid (below_next Hb1.out hb2)
  have He2 := Lib.hid (He1.out.below hb2)
  clear hb2 He1 Hb1
  generalize lg % 20 = k at *
  go_wp2_with fail
  refine (lim_no _ [57, 50, 50, 51, 51, 55, 50, 48, 51, 54, 56, 53, 52, 55, 55, 53, 56, 48, 56] k _ (by simp) (by decide) (by simp) (by rintro c r h; injection h with h _; subst h; decide) (by simp; omega) (He2.out.below ((Below.refl _ w2).alloc (Nat.le_refl _) _))).mono ?_
  rintro e w4 ⟨rfl, hb4⟩
  have Hb4 := Lib.hid (below_next (Hb2.out.alloc Hb2.out.size _) hb4)
  clear hb4 He2 Hb2
  go_wp2_with fail
  go_ret
  exact ⟨rfl, Hb4.out⟩
set_option maxRecDepth 10000 in
set_option maxHeartbeats 1000000 in
theorem limits_c0 (x0 : Int) (lg : Nat) (w : World) (he : Errs w) (hx : 0 ≤ x0 ∧ x0 < 256) (h3 : x0 % 3 = 2) (hlg : lg < 256) :
    Calls Tryd.prog 3 #[.int .u8 x0, .int .u8 (lg : Int), .bool false] w (RetG true w) := by
  have He := Lib.hid he
  clear he
  obtain ⟨hx1, hx2⟩ := hx
  go_enter Tryd.func3, Tryd.ntmps3
  go_wp2_with fail
  refine (awake_any _ He.out).mono ?_
  rintro e w1 ⟨rfl, hb1⟩
  have Hb1 := Lib.hid hb1
  have He1 := Lib.hid (He.out.below hb1)
  clear hb1
  have hl20 : lg % 20 < 20 := Nat.mod_lt _ (by decide)
  go_wp2_with fail
  refine (times_at 10 (lg % 20) _ _ (by omega) (by omega)).mono ?_
  rintro e w2 ⟨rfl, hb2⟩
  have Hb2 := Lib.hid (below_next Hb1.out hb2)
  have He2 := Lib.hid (He1.out.below hb2)
  clear hb2 He1 Hb1
  generalize lg % 20 = k at *
  go_wp2_with fail
  refine (times_hid 32 65536 _ _ (by decide) (by decide)).mono ?_
  rintro e w3 ⟨Z, rfl, HZ, hb3⟩
  have Hb3 := Lib.hid (below_next Hb2.out hb3)
  have He3 := Lib.hid (He2.out.below hb3)
  clear hb3 He2 Hb2
  go_wp2_with fail
  refine (lim_spaces Z 65536 _ HZ.out (by decide) He3.out).mono ?_
  rintro e w4 ⟨g, c, rfl, hb4⟩
  have Hb4 := Lib.hid (below_next Hb3.out hb4)
  clear hb4 He3 Hb3
  go_wp2_with fail
  go_ret
  exact ⟨rfl, Hb4.out⟩
set_option maxRecDepth 10000 in
set_option maxHeartbeats 1000000 in
theorem limits_c1 (x0 : Int) (lg : Nat) (w : World) (he : Errs w) (hx : 0 ≤ x0 ∧ x0 < 256) (h3 : x0 % 3 = 2) (hlg : lg < 256) :
    Calls Tryd.prog 3 #[.int .u8 x0, .int .u8 (lg : Int), .bool true] w (RetG true w) := by
  have He := Lib.hid he
  clear he
  obtain ⟨hx1, hx2⟩ := hx
  go_enter Tryd.func3, Tryd.ntmps3
  go_wp2_with fail
  refine (awake_any _ He.out).mono ?_
  rintro e w1 ⟨rfl, hb1⟩
  have Hb1 := Lib.hid hb1
  have He1 := Lib.hid (He.out.below hb1)
  clear hb1
  have hl20 : lg % 20 < 20 := Nat.mod_lt _ (by decide)
  go_wp2_with fail
  refine (times_at 10 (lg % 20) _ _ (by omega) (by omega)).mono ?_
  rintro e w2 ⟨rfl, hb2⟩
  have Hb2 := Lib.hid (below_next Hb1.out hb2)
  have He2 := Lib.hid (He1.out.below hb2)
  clear hb2 He1 Hb1
  generalize lg % 20 = k at *
  go_wp2_with fail
  refine (times_hid 32 65537 _ _ (by decide) (by decide)).mono ?_
  rintro e w3 ⟨Z, rfl, HZ, hb3⟩
  have Hb3 := Lib.hid (below_next Hb2.out hb3)
  have He3 := Lib.hid (He2.out.below hb3)
  clear hb3 He2 Hb2
  go_wp2_with fail
  refine (lim_far Z 65537 _ HZ.out (by decide) (by decide) He3.out).mono ?_
  rintro e w4 ⟨rfl, hb4⟩
  have Hb4 := Lib.hid (below_next Hb3.out hb4)
  clear hb4 He3 Hb3
  go_wp2_with fail
  go_ret
  exact ⟨rfl, Hb4.out⟩
end Go.Proofs.YtlaglbglkjlbhaaDoor
