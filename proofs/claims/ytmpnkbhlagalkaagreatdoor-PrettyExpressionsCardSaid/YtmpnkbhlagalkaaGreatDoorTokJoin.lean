/-
  The walk of token.Join: the texts of tokens, but for the ends, separated by one space. Condition: at most a million tokens, and a text of at most 2^47 bytes.
-/
import Derived.Test.YtmpnkbhlagalkaaGreatDoorTok4
import Derived.Test.YtmpnkbhlagalkaaGreatDoorBase
import Derived.Lib.Join
namespace Go.Proofs.YtmpnkbhlagalkaaGreatDoor
open Go.RowKit

/-- The texts of tokens, but for the ends. -/
def txs (l : List Tok) : List ByteArray := (l.filter fun t => decide (t.kind ≠ 0)).map fun t => ⟨t.text.toArray⟩
def joinL (l : List Tok) : Bytes := Lib.join ((txs l).map (·.data.toList)) [32]
theorem txs_snoc (l : List Tok) (k : Nat) (t : Tok) (h : l[k]? = some t) : txs (l.take (k + 1)) = txs (l.take k) ++ if t.kind = 0 then [] else [⟨t.text.toArray⟩] := by
  have hlt : k < l.length := by
    rcases Nat.lt_or_ge k l.length with h' | h'
    · exact h'
    · rw [List.getElem?_eq_none h'] at h; cases h
  rw [List.getElem?_eq_getElem hlt] at h
  injection h with h
  rw [List.take_succ_eq_append_getElem hlt, h]
  simp only [txs, List.filter_append, List.map_append]
  by_cases h0 : t.kind = 0 <;> simp [h0]
theorem txs_length (l : List Tok) (k : Nat) : (txs (l.take k)).length ≤ k := by
  simp only [txs, List.length_map]
  exact Nat.le_trans (List.length_filter_le _ _) (List.length_take_le _ _)
theorem infoStr : (Tryz.prog.info? 9).map (fun i => (i.zero, i.size, i.bytes)) = some (some (.string ⟨#[]⟩), 1, 16) := by kernel_rfl
/-- Join under way. -/
def JoinRel (w0 : World) (l : List Tok) (v i : Value) (wr : World) : Prop :=
  ∃ k : Nat, k ≤ l.length ∧ i = .int .i64 (k : Int) ∧ wr.ownsRow w0.heap.size 9 1 v (txs (l.take k)).length (strV (txs (l.take k))) ∧ Below w0.heap.size w0 wr
end Go.Proofs.YtmpnkbhlagalkaaGreatDoor
