/-
  The walks of package token's small functions: letter, digit, run, blank, length, number, meaning. Conditions: lengths below 2^47; the library's two errors lie where they were laid.
-/
import Derived.Test.YtmpnkbhlagalkaaGreatDoorTokMap
import Derived.Test.YtmpnkbhlagalkaaGreatDoorShelf
import Derived.Deep.QuietTactic
import Derived.BigQuiet
import Derived.Outline
namespace Go.Proofs.YtmpnkbhlagalkaaGreatDoor
open Go.RowKit

/-- A bool is handed back, and nothing has changed. -/
def RetB (x : Bool) (w : World) (e : Ending) (w' : World) : Prop := e = .returned (.bool x) ∧ w = w'
theorem retB {x y : Bool} {w : World} (h : x = y) : RetB y w (.returned (.bool x)) w := ⟨by rw [h], rfl⟩
set_option maxRecDepth 10000 in
theorem letter_any (c : UInt8) (w : World) : Calls Tryz.prog 60 #[.int .u8 (c.toNat : Int)] w (RetB (letter c) w) := by
  go_enter Tryz.func60, Tryz.ntmps60
  go_wp2_with fail
  all_goals (go_ret; refine retB ?_; rw [Bool.eq_iff_iff]; simp [letter]; try omega)
theorem digit_any (c : UInt8) (w : World) : Calls Tryz.prog 61 #[.int .u8 (c.toNat : Int)] w (RetB (digit c) w) := by
  go_enter Tryz.func61, Tryz.ntmps61
  go_wp2_with fail
  all_goals (go_ret; refine retB ?_; rw [Bool.eq_iff_iff]; simp [digit]; try omega)
theorem drop_at (s : ByteArray) (k : Nat) (h : k < s.size) : s.data.toList.drop k = s[k] :: s.data.toList.drop (k + 1) := by
  rw [List.drop_eq_getElem_cons (by simpa using h)]
  rfl
theorem drop_end (s : ByteArray) (k : Nat) (h : s.size ≤ k) : s.data.toList.drop k = [] := List.drop_eq_nil_of_le (by simpa using h)
theorem ext_take (s : ByteArray) (k : Nat) : (s.extract 0 k).data.toList = s.data.toList.take k := by simp
theorem ext_drop (s : ByteArray) (k : Nat) : (s.extract k s.size).data.toList = s.data.toList.drop k := by
  have e : s.size = s.data.toList.length := by simp
  simp only [ByteArray.data_extract, Array.toList_extract, List.extract_eq_take_drop, e]
  rw [List.take_of_length_le (by simp)]
theorem ext_size (s : ByteArray) (k : Nat) : (s.extract 0 k).size = min k s.size := by simp
/-- How many letters, digits and underscores a text begins with. -/
def twl (l : Bytes) : Nat := (l.takeWhile wordy).length
theorem twl_cons {c : UInt8} {r : Bytes} (h : wordy c = true) : twl (c :: r) = 1 + twl r := by simp [twl, h, Nat.add_comm]
theorem twl_stop {c : UInt8} {r : Bytes} (h : wordy c = false) : twl (c :: r) = 0 := by simp [twl, h]
theorem twl_le (l : Bytes) : twl l ≤ l.length := (List.takeWhile_sublist _).length_le
/-- A number is handed back, and nothing has changed. -/
def RetN (x : Nat) (w : World) (e : Ending) (w' : World) : Prop := e = .returned (.int .i64 (x : Int)) ∧ w = w'
theorem retN {x y : Nat} {w : World} (h : x = y) : RetN y w (.returned (.int .i64 (x : Int))) w := ⟨by rw [h], rfl⟩
set_option maxRecDepth 10000 in
set_option maxHeartbeats 1000000 in
theorem run_any (s : ByteArray) (w : World) (hs : s.size ≤ 140737488355328) : Calls Tryz.prog 62 #[.string s] w (RetN (twl s.data.toList) w) := by
  go_enter Tryz.func62, Tryz.ntmps62
  go_wp2_with fail
  go_loop [3] (fun i => ∃ k : Nat, k ≤ s.size ∧ i = .int .i64 k ∧ Hid (twl s.data.toList = k + twl (s.data.toList.drop k))) (fun i => s.size - (intOf i).toNat)
  case atStart => exact ⟨0, Nat.zero_le _, rfl, Lib.hid (by simp)⟩
  case round =>
    obtain ⟨k, hk, rfl, H⟩ := hrel
    by_cases hlt : k < s.size
    · have Hd := Lib.hid (drop_at s k hlt)
      by_cases hw : wordy s[k] = true
      · have H2 : Hid (twl s.data.toList = (k + 1 : Nat) + twl (s.data.toList.drop (k + 1))) := Lib.hid (by rw [H.out, Hd.out, twl_cons hw]; omega)
        clear H Hd
        by_cases h1 : letter s[k] = true
        · clear hw
          go_wp2_with (go_at_call 60; (with_reducible refine (letter_any _ _).mono ?_); rintro e w' ⟨rfl, rfl⟩)
          go_round
          case rel => exact ⟨k + 1, by omega, by go_num, H2⟩
          case measure => simp [intOf]; omega
        · by_cases h2 : digit s[k] = true
          · clear hw
            go_wp2_with (first | (go_at_call 60; (with_reducible refine (letter_any _ _).mono ?_); rintro e w' ⟨rfl, rfl⟩) | (go_at_call 61; (with_reducible refine (digit_any _ _).mono ?_); rintro e w' ⟨rfl, rfl⟩))
            go_round
            case rel => exact ⟨k + 1, by omega, by go_num, H2⟩
            case measure => simp [intOf]; omega
          · have h3 : ((s[k].toNat : Int) == 95) = true := by
              simp [wordy, h1, h2] at hw
              simp; omega
            clear hw
            go_wp2_with (first | (go_at_call 60; (with_reducible refine (letter_any _ _).mono ?_); rintro e w' ⟨rfl, rfl⟩) | (go_at_call 61; (with_reducible refine (digit_any _ _).mono ?_); rintro e w' ⟨rfl, rfl⟩))
            go_round
            case rel => exact ⟨k + 1, by omega, by go_num, H2⟩
            case measure => simp [intOf]; omega
      · have hw : wordy s[k] = false := by simpa using hw
        have H2 : Hid (k = twl s.data.toList) := Lib.hid (by rw [H.out, Hd.out, twl_stop hw]; rfl)
        have h1 : letter s[k] = false := by cases e : letter s[k] with | false => rfl | true => simp [wordy, e] at hw
        have h2 : digit s[k] = false := by cases e : digit s[k] with | false => rfl | true => simp [wordy, e] at hw
        have h3 : ((s[k].toNat : Int) == 95) = false := by
          simp [wordy, h1, h2] at hw
          simp; omega
        clear H Hd hw
        go_wp2_with (first | (go_at_call 60; (with_reducible refine (letter_any _ _).mono ?_); rintro e w' ⟨rfl, rfl⟩) | (go_at_call 61; (with_reducible refine (digit_any _ _).mono ?_); rintro e w' ⟨rfl, rfl⟩))
        go_ret
        exact retN H2.out
    · have H2 : Hid (k = twl s.data.toList) := Lib.hid (by rw [H.out, drop_end s k (by omega)]; rfl)
      clear H
      go_wp2_with fail
      go_ret
      exact retN H2.out
set_option maxRecDepth 10000 in
set_option maxHeartbeats 1000000 in
theorem blank_any (s : ByteArray) (w : World) (hs : s.size ≤ 140737488355328) : Calls Tryz.prog 41 #[.string s] w (RetN (blk false s.data.toList) w) := by
  go_enter Tryz.func41, Tryz.ntmps41
  go_wp2_with fail
  go_loop [3, 8] (fun cm i => ∃ (k : Nat) (com : Bool), k ≤ s.size ∧ cm = .bool com ∧ i = .int .i64 k ∧ Hid (blk false s.data.toList = k + blk com (s.data.toList.drop k))) (fun _ i => s.size - (intOf i).toNat)
  case atStart => exact ⟨0, false, Nat.zero_le _, rfl, rfl, Lib.hid (by simp)⟩
  case round =>
    obtain ⟨k, com, hk, rfl, rfl, H⟩ := hrel
    by_cases hlt : k < s.size
    · have Hd := Lib.hid (drop_at s k hlt)
      by_cases a : s[k].toNat = 10
      · have h10 : ((s[k].toNat : Int) == 10) = true := by simp; omega
        have H2 : Hid (blk false s.data.toList = (k + 1 : Nat) + blk false (s.data.toList.drop (k + 1))) := Lib.hid (by rw [H.out, Hd.out, blk, if_pos a]; omega)
        clear H Hd a
        go_wp2_with fail
        go_round
        case rel => exact ⟨k + 1, false, by omega, rfl, by go_num, H2⟩
        case measure => simp [intOf]; omega
      · have h10 : ((s[k].toNat : Int) == 10) = false := by simp; omega
        by_cases b : s[k].toNat = 35
        · have h35 : ((s[k].toNat : Int) == 35) = true := by simp; omega
          have H2 : Hid (blk false s.data.toList = (k + 1 : Nat) + blk true (s.data.toList.drop (k + 1))) := Lib.hid (by rw [H.out, Hd.out, blk, if_neg a, if_pos b]; omega)
          clear H Hd a b
          go_wp2_with fail
          go_round
          case rel => exact ⟨k + 1, true, by omega, rfl, by go_num, H2⟩
          case measure => simp [intOf]; omega
        · have h35 : ((s[k].toNat : Int) == 35) = false := by simp; omega
          by_cases d : (com || decide (s[k].toNat = 32) || decide (s[k].toNat = 9)) = true
          · have H2 : Hid (blk false s.data.toList = (k + 1 : Nat) + blk com (s.data.toList.drop (k + 1))) := Lib.hid (by rw [H.out, Hd.out, blk, if_neg a, if_neg b, if_pos d]; omega)
            have D := Lib.hid d
            clear H Hd a b d
            cases com with
            | true =>
              clear D
              go_wp2_with fail
              go_round
              case rel => exact ⟨k + 1, true, by omega, rfl, by go_num, H2⟩
              case measure => simp [intOf]; omega
            | false =>
              by_cases e : s[k].toNat = 32
              · have h32 : ((s[k].toNat : Int) == 32) = true := by simp; omega
                have h32' : ((s[k].toNat : Int) != 32) = false := by simp; omega
                clear D e
                go_wp2_with fail
                go_round
                case rel => exact ⟨k + 1, false, by omega, rfl, by go_num, H2⟩
                case measure => simp [intOf]; omega
              · have h32 : ((s[k].toNat : Int) == 32) = false := by simp; omega
                have h32' : ((s[k].toNat : Int) != 32) = true := by simp; omega
                have h9 : ((s[k].toNat : Int) == 9) = true := by have := D.out; simp [e] at this; simp; omega
                have h9' : ((s[k].toNat : Int) != 9) = false := by have := D.out; simp [e] at this; simp; omega
                clear D e
                go_wp2_with fail
                go_round
                case rel => exact ⟨k + 1, false, by omega, rfl, by go_num, H2⟩
                case measure => simp [intOf]; omega
          · have H2 : Hid (k = blk false s.data.toList) := Lib.hid (by rw [H.out, Hd.out, blk, if_neg a, if_neg b, if_neg d]; rfl)
            have D := Lib.hid d
            clear H Hd a b d
            cases com with
            | true => exact absurd rfl D.out
            | false =>
              have h32 : ((s[k].toNat : Int) == 32) = false := by have := D.out; simp at this; simp; omega
              have h32' : ((s[k].toNat : Int) != 32) = true := by have := D.out; simp at this; simp; omega
              have h9 : ((s[k].toNat : Int) == 9) = false := by have := D.out; simp at this; simp; omega
              have h9' : ((s[k].toNat : Int) != 9) = true := by have := D.out; simp at this; simp; omega
              clear D
              go_wp2_with fail
              go_ret
              exact retN H2.out
    · have H2 : Hid (s.size = blk false s.data.toList) := Lib.hid (by rw [H.out, drop_end s k (by omega)]; simp [blk]; omega)
      clear H
      go_wp2_with fail
      go_ret
      exact retN H2.out
/-- The greatest size, from k on down, at which a text begins with a sign. -/
def chk (l : Bytes) : Nat → Nat
  | 0 => 0
  | k + 1 => if isS (l.take (k + 1)) then k + 1 else chk l k
theorem plen_word {c : UInt8} {r : Bytes} (h : (letter c || digit c) = true) : plen (c :: r) = twl (c :: r) := by
  simp only [plen, if_pos h, twl]
theorem plen_sign {c : UInt8} {r : Bytes} (h : (letter c || digit c) = false) : plen (c :: r) = chk (c :: r) (min 2 (c :: r).length) := by
  have : ¬ (letter c || digit c) = true := by simp [h]
  simp only [plen, if_neg this]
  cases r with
  | nil => simp [chk]
  | cons x r =>
    have e : min 2 (c :: x :: r).length = 2 := by simp
    have e2 : decide (2 ≤ (c :: x :: r).length) = true := by simp
    rw [e, e2, Bool.true_and]
    rfl
set_option maxRecDepth 10000 in
set_option maxHeartbeats 1000000 in
theorem length_any (s : ByteArray) (b n : Nat) (w : World) (hs : s.size ≤ 140737488355328) (h0 : 0 < s.size) (hm : MapB w b n isS) : Calls Tryz.prog 42 #[.string s, .map (some b)] w (RetN (plen s.data.toList) w) := by
  have Hd := Lib.hid (drop_at s 0 h0)
  by_cases hw : (letter s[0] || digit s[0]) = true
  · have H : Hid (plen s.data.toList = twl s.data.toList) := Lib.hid (by have := Hd.out; rw [List.drop_zero] at this; rw [this]; exact plen_word hw)
    have HW := Lib.hid hw
    clear hw Hd hm
    by_cases h1 : letter s[0] = true
    · go_enter Tryz.func42, Tryz.ntmps42
      go_wp2_with (first | (go_at_call 60; (with_reducible refine (letter_any _ _).mono ?_); rintro e w' ⟨rfl, rfl⟩) | (go_at_call 61; (with_reducible refine (digit_any _ _).mono ?_); rintro e w' ⟨rfl, rfl⟩) | (go_at_call 62; (with_reducible refine (run_any _ _ hs).mono ?_); rintro e w' ⟨rfl, rfl⟩))
      go_ret
      exact retN H.out.symm
    · have h2 : digit s[0] = true := by have := HW.out; simpa [h1] using this
      go_enter Tryz.func42, Tryz.ntmps42
      go_wp2_with (first | (go_at_call 60; (with_reducible refine (letter_any _ _).mono ?_); rintro e w' ⟨rfl, rfl⟩) | (go_at_call 61; (with_reducible refine (digit_any _ _).mono ?_); rintro e w' ⟨rfl, rfl⟩) | (go_at_call 62; (with_reducible refine (run_any _ _ hs).mono ?_); rintro e w' ⟨rfl, rfl⟩))
      go_ret
      exact retN H.out.symm
  · have hw : (letter s[0] || digit s[0]) = false := by simpa using hw
    have H : Hid (plen s.data.toList = chk s.data.toList (min 2 s.size)) := Lib.hid (by
      have := Hd.out; rw [List.drop_zero] at this
      have e := plen_sign (r := List.drop (0 + 1) s.data.toList) hw
      rw [← this] at e
      simpa using e)
    have h1 : letter s[0] = false := by cases e : letter s[0] with | false => rfl | true => simp [e] at hw
    have h2 : digit s[0] = false := by cases e : digit s[0] with | false => rfl | true => simp [e] at hw
    have Hm := Lib.hid hm
    clear hw Hd hm
    go_enter Tryz.func42, Tryz.ntmps42
    go_wp2_with (first | (go_at_call 60; (with_reducible refine (letter_any _ _).mono ?_); rintro e w' ⟨rfl, rfl⟩) | (go_at_call 61; (with_reducible refine (digit_any _ _).mono ?_); rintro e w' ⟨rfl, rfl⟩))
    go_loop [5] (fun i => ∃ k : Nat, k ≤ 2 ∧ k ≤ s.size ∧ i = .int .i64 k ∧ Hid (plen s.data.toList = chk s.data.toList k)) (fun i => (intOf i).toNat)
    case atStart => exact ⟨min 2 s.size, by omega, by omega, by congr 1; omega, H⟩
    case round =>
      obtain ⟨k, hk2, hks, rfl, H⟩ := hrel
      by_cases hk : 0 < k
      · obtain ⟨j, rfl⟩ : ∃ j, k = j + 1 := ⟨k - 1, by omega⟩
        by_cases hS : isS (s.data.toList.take (j + 1)) = true
        · have H2 : Hid (j + 1 = plen s.data.toList) := Lib.hid (by rw [H.out, chk, if_pos hS])
          have hrun := Hm.out.look (s.extract 0 (j + 1)) (by rw [ext_size]; unfold maxLen; omega)
          rw [ext_take, hS] at hrun
          clear hS H
          go_wp2_with fail
          go_ret
          exact retN H2.out
        · have H2 : Hid (plen s.data.toList = chk s.data.toList j) := Lib.hid (by rw [H.out, chk, if_neg hS])
          have hrun := Hm.out.look (s.extract 0 (j + 1)) (by rw [ext_size]; unfold maxLen; omega)
          rw [ext_take, show isS (s.data.toList.take (j + 1)) = false by simpa using hS] at hrun
          clear hS H
          go_wp2_with fail
          go_round
          case rel => exact ⟨j, by omega, by omega, by go_num, H2⟩
          case measure => simp [intOf]
      · obtain rfl : k = 0 := by omega
        have H2 : Hid (0 = plen s.data.toList) := H.out.symm
        clear H
        go_wp2_with fail
        go_ret
        exact retN H2.out
end Go.Proofs.YtmpnkbhlagalkaaGreatDoor
