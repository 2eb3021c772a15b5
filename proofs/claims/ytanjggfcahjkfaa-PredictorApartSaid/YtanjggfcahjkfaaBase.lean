/-
  Bytes and numbers of 64 bits as values. No condition.
-/
import Derived.WalkKit
namespace Go.Proofs.Ytanjggfcahjkfaa
open Go.RowKit

/-- A byte as a value. -/
def bv (c : Nat) : Value := .int .u8 (c : Int)
theorem bv_one (l : List Nat) : ∀ u ∈ l.map bv, u.oneCell' = true := by
  intro u hu
  obtain ⟨c, _, rfl⟩ := List.mem_map.1 hu
  rfl
theorem one_cell_u8 (x : Int) : ∀ u ∈ [Value.int .u8 x], u.oneCell' = true := by simp [Value.oneCell']
/-- A number of 64 bits as a value. -/
def uv (c : Nat) : Value := .int .u64 (c : Int)
theorem uv_one (l : List Nat) : ∀ u ∈ l.map uv, u.oneCell' = true := by
  intro u hu
  obtain ⟨c, _, rfl⟩ := List.mem_map.1 hu
  rfl
def strV (l : List ByteArray) : List Value := l.map Value.string
theorem strV_one (l : List ByteArray) : ∀ u ∈ strV l, u.oneCell' = true := by
  intro u hu
  obtain ⟨c, _, rfl⟩ := List.mem_map.1 hu
  rfl
theorem take_step {α : Type} {l : List α} {k : Nat} (h : k < l.length) : l.take (k + 1) = l.take k ++ [l[k]] := by
  rw [List.take_succ_eq_append_getElem h]
end Go.Proofs.Ytanjggfcahjkfaa
