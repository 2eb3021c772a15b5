/-
  What stays where one block is written and memory grows. No condition.
-/
import Derived.Test.YtanjggfcahjkfaaWords
import Derived.Deep.QuietTactic
import Derived.BigQuiet
namespace Go.Proofs.Ytanjggfcahjkfaa
open Go.RowKit

theorem grown_any {w w' : World} {B : Nat} {row : Option Nat} (h : w.grownBy w' row) (hB : ∀ k, row = some k → B ≤ k) (hBw : B ≤ w.heap.size) : Below B w w' := ⟨h.os, h.tape, h.output, h.size, fun k hk => h.block k (by omega) (fun he => by have := hB k he.symm; omega)⟩
theorem grown_new {w a b : World} {row : Option Nat} {go : Nat} (h : w.grownBy a row) (k : a.grownBy b (some go)) (hgo : w.heap.size ≤ go) : w.grownBy b row :=
  ⟨k.os.trans h.os, k.tape.trans h.tape, k.output.trans h.output, Nat.le_trans h.size k.size, fun i hi hne => (k.block i (Nat.lt_of_lt_of_le hi h.size) (fun he => by injection he with he; omega)).trans (h.block i hi hne)⟩
theorem grown_of_below {w w' : World} (h : Below w.heap.size w w') (row : Option Nat) : w.grownBy w' row := ⟨h.os, h.tape, h.output, h.size, fun k hk _ => h.block k hk⟩
theorem grown_low {w a b : World} {row : Option Nat} {go : Nat} (h : w.grownBy a row) (k : Below go a b) (hgo : w.heap.size ≤ go) : w.grownBy b row :=
  ⟨k.os.trans h.os, k.tape.trans h.tape, k.output.trans h.output, Nat.le_trans h.size k.size, fun i hi hne => (k.block i (by omega)).trans (h.block i hi hne)⟩
theorem hold {w w' : World} {p : Addr} {v : Value} (hb : Below w.heap.size w w') (h : w.cell? p = some v) : w'.cell? p = some v := (hb.cell (World.block_lt_of_cell? _ _ h)).trans h
theorem cell_grown {w w' : World} {g r o : Nat} {v : Value} (hg : w.grownBy w' (some g)) (hr : r ≠ g) (h : w.cell? ⟨r, o, none⟩ = some v) : w'.cell? ⟨r, o, none⟩ = some v :=
  (World.cell?_of_block (hg.block r (World.block_lt_of_cell? w _ h) (fun e => hr (by injection e)))).trans h
end Go.Proofs.Ytanjggfcahjkfaa
