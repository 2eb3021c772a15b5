/-
  The walks of package token's number and meaning. Conditions: lengths below 2^47; the library's two errors lie where they were laid.
-/
import Derived.Test.YtjmbllbnlnjanaaTok
namespace Go.Proofs.Ytjmbllbnlnjanaa
open Go.RowKit

/-- The value of a text that begins with a digit. -/
def pnum : Bytes → Option Nat
  | [] => none
  | c :: r => if decide (1 < (c :: r).length) && decide (c.toNat = 48) then none else val (c :: r)
theorem atoi_nonneg {c : UInt8} {r : Bytes} {v : Int} (h : digit c = true) (hv : Lib.atoiAll (c :: r) = .ok v) : v = ((v.toNat : Nat) : Int) := by
  have hc := digit_bd h
  rw [Lib.atoiAll_plain c r (by omega) (by omega)] at hv
  cases e : Lib.parseMag (c :: r) with
  | ok u =>
    rw [e] at hv
    simp only [Lib.signless] at hv
    split at hv
    · cases hv
    · injection hv with hv
      omega
  | _ => rw [e] at hv; cases hv
/-- A number and whether it is one. -/
def NumPost (p : Option Nat) (w : World) (e : Ending) (w' : World) : Prop :=
  ∃ x : Int, e = .returned (.tuple #[.int .i64 x, .bool p.isSome]) ∧ (∀ v, p = some v → x = (v : Int)) ∧ Below w.heap.size w w'
theorem numPost {p : Option Nat} {x : Int} {b : Bool} {w w' : World} (hb : b = p.isSome) (hx : ∀ v, p = some v → x = (v : Int)) (h : Below w.heap.size w w') : NumPost p w (.returned (.tuple #[.int .i64 x, .bool b])) w' := ⟨x, by rw [hb], hx, h⟩
theorem below_drewN {B : Nat} {w w' : World} (h : Below B w w') (n : Nat) : Below B w (w'.drewN n) := ⟨h.os, h.tape, h.output, h.size, h.block⟩
/-- What strconv.Atoi hands back: the value and no error, or some error. -/
def AtoiPost (p : Option Nat) (w : World) (e : Ending) (w' : World) : Prop :=
  ∃ (x : Int) (ev : Value), e = .returned (.tuple #[.int .i64 x, ev]) ∧ ((ev = .nilIface ∧ ∃ v : Nat, p = some v ∧ x = (v : Int)) ∨ (∃ (T : TypeId) (N : Nat), ev = .iface T (.pointer (some ⟨N, 0, none⟩)) ∧ p = none)) ∧ Below w.heap.size w w'
theorem empty_no {s : ByteArray} (h : 0 < s.size) : s.toList.isEmpty = false := by
  rw [Lib.toList_data]
  cases e : s.data.toList with
  | nil =>
    have : s.data.toList.length = s.size := by simp
    rw [e] at this
    simp at this
    omega
  | cons c r => rfl
/-- What a text means as a token. -/
def MeanPost (p : Option (Nat × Nat)) (w : World) (e : Ending) (w' : World) : Prop :=
  ∃ (k x : Int), e = .returned (.tuple #[.int .i64 k, .int .i64 x, .bool p.isSome]) ∧ (∀ q, p = some q → k = (q.1 : Int) ∧ x = (q.2 : Int)) ∧ Below w.heap.size w w'
theorem meanPost {p : Option (Nat × Nat)} {k x : Int} {b : Bool} {w w' : World} (hb : b = p.isSome) (hx : ∀ q, p = some q → k = (q.1 : Int) ∧ x = (q.2 : Int)) (h : Below w.heap.size w w') : MeanPost p w (.returned (.tuple #[.int .i64 k, .int .i64 x, .bool b])) w' := ⟨k, x, by rw [hb], hx, h⟩
theorem pmean_digit {c : UInt8} {r : Bytes} (h1 : isS (c :: r) = false) (h2 : isW (c :: r) = false) (h : digit c = true) : pmean (c :: r) = (pnum (c :: r)).map fun v => (2, v) := by
  simp only [pmean, pnum, h1, h2, h]
  generalize (decide (1 < (c :: r).length) && decide (c.toNat = 48)) = B
  cases B <;> rfl
end Go.Proofs.Ytjmbllbnlnjanaa
