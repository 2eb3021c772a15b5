/-
  The walks of package token's small functions: letter, digit, run, blank, length, number, meaning. Conditions: lengths below 2^47; the library's two errors lie where they were laid.
-/
import Derived.Test.YtjmbllbnlnjanaaTokMap
import Derived.Lib.Strings
import Derived.Deep.QuietTactic
import Derived.BigQuiet
import Derived.Outline
namespace Go.Proofs.Ytjmbllbnlnjanaa
open Go.RowKit

/-- A bool is handed back, and nothing has changed. -/
def RetB (x : Bool) (w : World) (e : Ending) (w' : World) : Prop := e = .returned (.bool x) ∧ w = w'
theorem retB {x y : Bool} {w : World} (h : x = y) : RetB y w (.returned (.bool x)) w := ⟨by rw [h], rfl⟩
theorem drop_at (s : ByteArray) (k : Nat) (h : k < s.size) : s.data.toList.drop k = s[k] :: s.data.toList.drop (k + 1) := by
  rw [List.drop_eq_getElem_cons (by simpa using h)]
  rfl
theorem drop_end (s : ByteArray) (k : Nat) (h : s.size ≤ k) : s.data.toList.drop k = [] := List.drop_eq_nil_of_le (by simpa using h)
theorem ext_take (s : ByteArray) (k : Nat) : (s.extract 0 k).data.toList = s.data.toList.take k := by simp
theorem ext_drop (s : ByteArray) (k : Nat) : (s.extract k s.size).data.toList = s.data.toList.drop k := by
  have e : s.size = s.data.toList.length := by simp
  simp only [ByteArray.data_extract, Array.toList_extract, List.extract_eq_take_drop, e]
  rw [List.take_of_length_le (by simp)]
theorem ext_size (s : ByteArray) (k : Nat) : (s.extract 0 k).size = min k s.size := by simp
/-- How many letters, digits and underscores a text begins with. -/
def twl (l : Bytes) : Nat := (l.takeWhile wordy).length
theorem twl_cons {c : UInt8} {r : Bytes} (h : wordy c = true) : twl (c :: r) = 1 + twl r := by simp [twl, h, Nat.add_comm]
theorem twl_stop {c : UInt8} {r : Bytes} (h : wordy c = false) : twl (c :: r) = 0 := by simp [twl, h]
theorem twl_le (l : Bytes) : twl l ≤ l.length := (List.takeWhile_sublist _).length_le
/-- A number is handed back, and nothing has changed. -/
def RetN (x : Nat) (w : World) (e : Ending) (w' : World) : Prop := e = .returned (.int .i64 (x : Int)) ∧ w = w'
theorem retN {x y : Nat} {w : World} (h : x = y) : RetN y w (.returned (.int .i64 (x : Int))) w := ⟨by rw [h], rfl⟩
/-- The greatest size, from k on down, at which a text begins with a sign. -/
def chk (l : Bytes) : Nat → Nat
  | 0 => 0
  | k + 1 => if isS (l.take (k + 1)) then k + 1 else chk l k
theorem plen_word {c : UInt8} {r : Bytes} (h : (letter c || digit c) = true) : plen (c :: r) = twl (c :: r) := by
  simp only [plen, if_pos h, twl]
theorem plen_sign {c : UInt8} {r : Bytes} (h : (letter c || digit c) = false) : plen (c :: r) = chk (c :: r) (min 2 (c :: r).length) := by
  have : ¬ (letter c || digit c) = true := by simp [h]
  simp only [plen, if_neg this]
  cases r with
  | nil => simp [chk]
  | cons x r =>
    have e : min 2 (c :: x :: r).length = 2 := by simp
    have e2 : decide (2 ≤ (c :: x :: r).length) = true := by simp
    rw [e, e2, Bool.true_and]
    rfl
end Go.Proofs.Ytjmbllbnlnjanaa
