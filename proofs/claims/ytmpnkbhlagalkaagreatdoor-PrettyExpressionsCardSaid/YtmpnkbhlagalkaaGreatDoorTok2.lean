/-
  The walks of package token's number and meaning. Conditions: lengths below 2^47; the library's two errors lie where they were laid.
-/
import Derived.Test.YtmpnkbhlagalkaaGreatDoorTok
namespace Go.Proofs.YtmpnkbhlagalkaaGreatDoor
open Go.RowKit

/-- The library's two errors lie where they were laid. -/
def Errs (w : World) : Prop := (∃ te pe, w.cell? ⟨2, 0, none⟩ = some (.iface te pe)) ∧ (∃ te pe, w.cell? ⟨3, 0, none⟩ = some (.iface te pe))
theorem Errs.below {w w' : World} (h : Errs w) (hb : Below w.heap.size w w') : Errs w' := by
  obtain ⟨⟨a, b, h1⟩, c, d, h2⟩ := h
  exact ⟨⟨a, b, (hb.cell (p := ⟨2, 0, none⟩) (World.block_lt_of_cell? w _ h1)).trans h1⟩, c, d, (hb.cell (p := ⟨3, 0, none⟩) (World.block_lt_of_cell? w _ h2)).trans h2⟩
theorem Errs.grown {w w' : World} {row : Option Nat} (h : Errs w) (hb : w.grownBy w' row) (h1 : row ≠ some 2) (h2 : row ≠ some 3) : Errs w' := by
  obtain ⟨⟨a, b, e1⟩, c, d, e2⟩ := h
  exact ⟨⟨a, b, (World.cell?_of_block (hb.block _ (World.block_lt_of_cell? w _ e1) (Ne.symm h1))).trans e1⟩, c, d, (World.cell?_of_block (hb.block _ (World.block_lt_of_cell? w _ e2) (Ne.symm h2))).trans e2⟩

/-- The value of a text that begins with a digit. -/
def pnum : Bytes → Option Nat
  | [] => none
  | c :: r => if decide (1 < (c :: r).length) && decide (c.toNat = 48) then none else val (c :: r)
theorem atoi_nonneg {c : UInt8} {r : Bytes} {v : Int} (h : digit c = true) (hv : Lib.atoiAll (c :: r) = .ok v) : v = ((v.toNat : Nat) : Int) := by
  have hc := digit_bd h
  rw [Lib.atoiAll_plain c r (by omega) (by omega)] at hv
  cases e : Lib.parseMag (c :: r) with
  | ok u =>
    rw [e] at hv
    simp only [Lib.signless] at hv
    split at hv
    · cases hv
    · injection hv with hv
      omega
  | _ => rw [e] at hv; cases hv
/-- A number and whether it is one. -/
def NumPost (p : Option Nat) (w : World) (e : Ending) (w' : World) : Prop :=
  ∃ x : Int, e = .returned (.tuple #[.int .i64 x, .bool p.isSome]) ∧ (∀ v, p = some v → x = (v : Int)) ∧ Below w.heap.size w w'
theorem numPost {p : Option Nat} {x : Int} {b : Bool} {w w' : World} (hb : b = p.isSome) (hx : ∀ v, p = some v → x = (v : Int)) (h : Below w.heap.size w w') : NumPost p w (.returned (.tuple #[.int .i64 x, .bool b])) w' := ⟨x, by rw [hb], hx, h⟩
theorem below_drewN {B : Nat} {w w' : World} (h : Below B w w') (n : Nat) : Below B w (w'.drewN n) := ⟨h.os, h.tape, h.output, h.size, h.block⟩
theorem below_bytes {w w' : World} {e : TypeId} (h : w' = w ∨ ∃ t, w' = Lib.bytesWorld w e t) : Below w.heap.size w w' := by
  rcases h with rfl | ⟨t, rfl⟩
  · exact Below.refl _ _
  · exact Lib.bytesWorld_below _ _ _
/-- What strconv.Atoi hands back: the value and no error, or some error. -/
def AtoiPost (p : Option Nat) (w : World) (e : Ending) (w' : World) : Prop :=
  ∃ (x : Int) (ev : Value), e = .returned (.tuple #[.int .i64 x, ev]) ∧ ((ev = .nilIface ∧ ∃ v : Nat, p = some v ∧ x = (v : Int)) ∨ (∃ (T : TypeId) (N : Nat), ev = .iface T (.pointer (some ⟨N, 0, none⟩)) ∧ p = none)) ∧ Below w.heap.size w w'
theorem atoi_any (s : ByteArray) (c : UInt8) (r : Bytes) (w : World) (hs : s.size ≤ 140737488355328) (hl : s.data.toList = c :: r) (hd : digit c = true) (he : Errs w) : Calls Tryz.prog 73 #[.string s] w (AtoiPost (val s.data.toList) w) := by
  obtain ⟨⟨ta, pa, ha⟩, tb, pb, hb⟩ := he
  cases e : Lib.atoiAll s.data.toList with
  | ok v =>
    have hv : v = ((v.toNat : Nat) : Int) := by rw [hl] at e; exact atoi_nonneg hd e
    refine (Tryz.strconv_Atoi_ok s (by omega) v e w).mono fun e' w' ⟨h1, h2⟩ => ⟨v, _, h1, .inl ⟨rfl, v.toNat, by simp [val, e], hv⟩, below_bytes h2⟩
  | range => exact (Tryz.strconv_Atoi_range s (by omega) e _ w hb (.inr ⟨_, _, rfl⟩)).mono fun e' w' ⟨N, h1, _, _, h2⟩ => ⟨_, _, h1, .inr ⟨_, N, rfl, by simp [val, e]⟩, h2⟩
  | _ => exact (Tryz.strconv_Atoi_syntax s (by omega) e _ w ha (.inr ⟨_, _, rfl⟩)).mono fun e' w' ⟨N, h1, _, _, h2⟩ => ⟨0, _, h1, .inr ⟨_, N, rfl, by simp [val, e]⟩, h2⟩
set_option maxRecDepth 10000 in
set_option maxHeartbeats 1000000 in
theorem number_any (s : ByteArray) (w : World) (hs : s.size ≤ 140737488355328) (h0 : 0 < s.size) (hd : digit s[0] = true) (he : Errs w) : Calls Tryz.prog 63 #[.string s] w (NumPost (pnum s.data.toList) w) := by
  have hl : s.data.toList = s[0] :: s.data.toList.drop 1 := by have := drop_at s 0 h0; rwa [List.drop_zero] at this
  have hlen : (s[0] :: s.data.toList.drop 1).length = s.size := by rw [← hl]; simp
  by_cases hz : 1 < s.size ∧ s[0].toNat = 48
  · have HP : Hid (pnum s.data.toList = none) := Lib.hid (by rw [hl, pnum, hlen, if_pos (by simp [hz.1, hz.2])])
    obtain ⟨hz1, hz2⟩ := hz
    have hz3 : ((s[0].toNat : Int) == 48) = true := by simp; omega
    clear hl hlen hd he hz2
    go_enter Tryz.func63, Tryz.ntmps63
    go_wp2_with fail
    go_ret2
    exact numPost (by rw [HP.out]; rfl) (fun v hv => by rw [HP.out] at hv; cases hv) (Below.refl _ _)
  · have hp : Hid (pnum s.data.toList = val s.data.toList) := Lib.hid (by
      have : ¬ (decide (1 < s.size) && decide (s[0].toNat = 48)) = true := by simpa using hz
      rw [hl, pnum, hlen, if_neg this])
    have hz3 : 1 < s.size → ((s[0].toNat : Int) == 48) = false := fun h => by simp; omega
    have ha := Lib.hid (atoi_any s _ _ w hs hl hd he)
    clear hl hlen hd hz he
    have Hz := Lib.hid hz3
    clear hz3
    by_cases h1 : 1 < s.size
    all_goals
      first | have h48 := Hz.out h1 | have h48 : True := trivial
      go_enter Tryz.func63, Tryz.ntmps63
      go_wp2_with fail
      refine ha.out.mono ?_
      rintro e w1 ⟨x, ev, rfl, hv, hb⟩
      have Hb := Lib.hid hb
      clear hb
      rcases hv with ⟨rfl, v, hv, hx⟩ | ⟨T, N, rfl, hv⟩
      all_goals
        have Hv := Lib.hid hv
        clear hv
        try (have Hx := Lib.hid hx; clear hx)
        go_wp2_with fail
        go_quiet (fail)
        go_wp2_with fail
        go_ret2
        refine numPost (by rw [hp.out, Hv.out]; rfl) (fun v' hv' => ?_) (below_drewN Hb.out _)
        rw [hp.out, Hv.out] at hv'
        first | (injection hv' with hv'; rw [← hv']; exact Hx.out) | cases hv'
theorem empty_no {s : ByteArray} (h : 0 < s.size) : s.toList.isEmpty = false := by
  rw [Lib.toList_data]
  cases e : s.data.toList with
  | nil =>
    have : s.data.toList.length = s.size := by simp
    rw [e] at this
    simp at this
    omega
  | cons c r => rfl
/-- What a text means as a token. -/
def MeanPost (p : Option (Nat × Nat)) (w : World) (e : Ending) (w' : World) : Prop :=
  ∃ (k x : Int), e = .returned (.tuple #[.int .i64 k, .int .i64 x, .bool p.isSome]) ∧ (∀ q, p = some q → k = (q.1 : Int) ∧ x = (q.2 : Int)) ∧ Below w.heap.size w w'
theorem meanPost {p : Option (Nat × Nat)} {k x : Int} {b : Bool} {w w' : World} (hb : b = p.isSome) (hx : ∀ q, p = some q → k = (q.1 : Int) ∧ x = (q.2 : Int)) (h : Below w.heap.size w w') : MeanPost p w (.returned (.tuple #[.int .i64 k, .int .i64 x, .bool b])) w' := ⟨k, x, by rw [hb], hx, h⟩
theorem pmean_digit {c : UInt8} {r : Bytes} (h1 : isS (c :: r) = false) (h2 : isW (c :: r) = false) (h : digit c = true) : pmean (c :: r) = (pnum (c :: r)).map fun v => (2, v) := by
  simp only [pmean, pnum, h1, h2, h]
  generalize (decide (1 < (c :: r).length) && decide (c.toNat = 48)) = B
  cases B <;> rfl
set_option maxRecDepth 10000 in
set_option maxHeartbeats 1000000 in
theorem meaning_any (s : ByteArray) (bw nw bs ns : Nat) (w : World) (hs : s.size ≤ 140737488355328) (hW : MapB w bw nw isW) (hS : MapB w bs ns isS) (he : Errs w) : Calls Tryz.prog 43 #[.string s, .map (some bw), .map (some bs)] w (MeanPost (pmean s.data.toList) w) := by
  have rS := hS.look s (by unfold maxLen; omega)
  have rW := hW.look s (by unfold maxLen; omega)
  clear hS hW
  by_cases h0 : s.size = 0
  · have hl : s.data.toList = [] := List.eq_nil_of_length_eq_zero (by simpa using h0)
    have HP : Hid (pmean s.data.toList = none) := Lib.hid (by rw [hl]; rfl)
    obtain rfl : s = { data := #[] } := by
      cases s with | mk d => cases d with | mk l => simp at hl; rw [hl]
    clear rS rW he hl h0
    go_enter Tryz.func43, Tryz.ntmps43
    go_wp2_with fail
    go_ret3
    exact meanPost rfl (fun q hq => by cases hq) (Below.refl _ _)
  · have hl : s.data.toList = s[0] :: s.data.toList.drop 1 := by have := drop_at s 0 (by omega); rwa [List.drop_zero] at this
    have hp : 0 < s.size := by omega
    have hne := empty_no hp
    by_cases h1 : isS s.data.toList = true
    · have HP : Hid (pmean s.data.toList = some (4, 0)) := Lib.hid (by rw [hl] at h1 ⊢; simp only [pmean, h1, if_true])
      rw [h1] at rS
      clear rW he hl h0 h1
      go_enter Tryz.func43, Tryz.ntmps43
      go_wp2_with fail
      go_ret3
      exact meanPost (by rw [HP.out]; rfl) (fun q hq => by rw [HP.out] at hq; injection hq with hq; subst hq; exact ⟨rfl, rfl⟩) (Below.refl _ _)
    · have h1 : isS s.data.toList = false := by simpa using h1
      rw [h1] at rS
      by_cases h2 : isW s.data.toList = true
      · have HP : Hid (pmean s.data.toList = some (3, 0)) := Lib.hid (by rw [hl] at h1 h2 ⊢; simp only [pmean, h1, h2, if_true, Bool.false_eq_true, if_false])
        rw [h2] at rW
        clear he hl h0 h1 h2
        go_enter Tryz.func43, Tryz.ntmps43
        go_wp2_with fail
        go_ret3
        exact meanPost (by rw [HP.out]; rfl) (fun q hq => by rw [HP.out] at hq; injection hq with hq; subst hq; exact ⟨rfl, rfl⟩) (Below.refl _ _)
      · have h2 : isW s.data.toList = false := by simpa using h2
        rw [h2] at rW
        by_cases h3 : digit s[0] = true
        · have HP : Hid (pmean s.data.toList = (pnum s.data.toList).map fun v => (2, v)) := Lib.hid (by rw [hl] at h1 h2 ⊢; exact pmean_digit h1 h2 h3)
          have ha := Lib.hid (number_any s w hs hp h3 he)
          clear he hl h0 h1 h2
          go_enter Tryz.func43, Tryz.ntmps43
          go_wp2_with (go_at_call 61; (with_reducible refine (digit_any _ _).mono ?_); rintro e w' ⟨rfl, rfl⟩)
          refine ha.out.mono ?_
          rintro e w1 ⟨x, rfl, hx, hb⟩
          have Hb := Lib.hid hb
          have Hx := Lib.hid hx
          clear hb hx
          go_wp2_with fail
          go_ret3
          refine meanPost (by rw [HP.out]; cases pnum s.data.toList <;> rfl) (fun q hq => ?_) Hb.out
          rw [HP.out] at hq
          cases e : pnum s.data.toList with
          | none => rw [e] at hq; cases hq
          | some v => rw [e] at hq; injection hq with hq; subst hq; exact ⟨rfl, Hx.out v e⟩
        · have h3 : digit s[0] = false := by simpa using h3
          by_cases h4 : s.size ≤ 32
          · have HP : Hid (pmean s.data.toList = some (1, 0)) := Lib.hid (by
              have hlen : (s[0] :: s.data.toList.drop 1).length = s.size := by rw [← hl]; simp
              rw [hl] at h1 h2 ⊢
              simp only [pmean, h1, h2, h3, Bool.false_eq_true, if_false]
              rw [hlen, if_pos h4])
            clear he hl h0 h1 h2
            go_enter Tryz.func43, Tryz.ntmps43
            go_wp2_with (go_at_call 61; (with_reducible refine (digit_any _ _).mono ?_); rintro e w' ⟨rfl, rfl⟩)
            go_ret3
            exact meanPost (by rw [HP.out]; simp; omega) (fun q hq => by rw [HP.out] at hq; injection hq with hq; subst hq; exact ⟨rfl, rfl⟩) (Below.refl _ _)
          · have HP : Hid (pmean s.data.toList = none) := Lib.hid (by
              have hlen : (s[0] :: s.data.toList.drop 1).length = s.size := by rw [← hl]; simp
              rw [hl] at h1 h2 ⊢
              simp only [pmean, h1, h2, h3, Bool.false_eq_true, if_false]
              rw [hlen, if_neg h4])
            clear he hl h0 h1 h2
            go_enter Tryz.func43, Tryz.ntmps43
            go_wp2_with (go_at_call 61; (with_reducible refine (digit_any _ _).mono ?_); rintro e w' ⟨rfl, rfl⟩)
            go_ret3
            exact meanPost (by rw [HP.out]; simp; omega) (fun q hq => by rw [HP.out] at hq; cases hq) (Below.refl _ _)
end Go.Proofs.YtmpnkbhlagalkaaGreatDoor
