/-
  The walks of the laws about machine instructions. Condition: arguments that can be read.
-/
import Derived.Test.YtebmmdafmgphdaaDoorMacE3
import Derived.Test.YtebmmdafmgphdaaDoorCodeD
import Derived.Deep.QuietTactic
import Derived.BigQuiet
namespace Go.Proofs.YtebmmdafmgphdaaDoor
open Go.RowKit

def TrueM (W : World) (e : Ending) (w' : World) : Prop := e = .returned (.bool true) ∧ Below W.heap.size W w'
theorem awake_enc : chkC ⟨2, 0, 1, 2, 0, 0, false, []⟩ = 0 ∧ encO ⟨2, 0, 1, 2, 0, 0, false, []⟩ = [2, 1, 2] := by decide +kernel
theorem rds_cells3 {w : World} {v : Value} {a b c : Nat} (h : RdS w v ([a, b, c].map bv) 3) : ∃ ad cp, v = .slice (some ad) 3 cp ∧ 3 ≤ cp ∧ w.cell? ad = some (.int .u8 (a : Int)) ∧ w.cell? ⟨ad.block, ad.off + 1, none⟩ = some (.int .u8 (b : Int)) ∧ w.cell? ⟨ad.block, ad.off + 2, none⟩ = some (.int .u8 (c : Int)) := by
  obtain ⟨A, cp, rfl, hc, hr⟩ := h
  obtain ⟨ad, rfl, h0⟩ := hr 0 (bv a) rfl
  obtain ⟨ad1, e1, h1⟩ := hr 1 (bv b) rfl
  obtain ⟨ad2, e2, h2⟩ := hr 2 (bv c) rfl
  injection e1 with e1
  injection e2 with e2
  subst e1 e2
  refine ⟨ad, cp, rfl, hc, ?_, ?_, ?_⟩
  · simpa [Addr.add, bv] using h0
  · simpa [Addr.add, bv] using h1
  · simpa [Addr.add, bv] using h2
set_option maxRecDepth 10000 in
theorem awake_12 (w : World) (hT : RowsT w) : Calls Tryd.prog 6 #[] w (TrueM w) := by
  have HC := Lib.hid (mencode_any ⟨2, 0, 1, 2, 0, 0, false, []⟩ none 0 0 w hT rfl (Nat.le_refl _) Rd.nil (by decide) ⟨by decide, by decide⟩)
  go_enter Tryd.func6, Tryd.ntmps6
  go_wp2_with fail
  refine HC.out.mono ?_
  rintro e w1 ⟨v, rfl, hr, hb⟩
  rw [awake_enc.2] at hr
  obtain ⟨ad, cp, rfl, hcp, h0, h1, h2⟩ := rds_cells3 hr
  rw [awake_enc.1]
  have Hb := Lib.hid hb
  clear hr hb HC
  go_wp2_with fail
  go_ret
  exact ⟨rfl, Hb.out⟩
/-- An instruction as a law has it: drawn, its operands read. -/
structure CdO (x : Cd) (A : Option Addr) (n c : Nat) (w : World) : Prop where
  len : x.args.length = n
  few : n ≤ 3
  cap : n ≤ c
  rd : Rd w A (x.args.map iz)
  val : i64C x.op ∧ i64C x.ari ∧ i64C x.dst ∧ i64C x.a ∧ i64C x.b ∧ i64C x.val
theorem CdO.below {x : Cd} {A : Option Addr} {n c : Nat} {w w' : World} (h : CdO x A n c w) (hb : Below w.heap.size w w') : CdO x A n c w' := ⟨h.len, h.few, h.cap, h.rd.below hb, h.val⟩
theorem CdP.open_ {g : Nat} {l : List Nat} {w w' : World} {e : Ending} (h : CdP g l w e w') : ∃ (x : Cd) (A : Option Addr) (n c : Nat), e = .returned (cdv x (.slice A n c)) ∧ CdO x A n c w' ∧ (∃ k, Codes w' g l k) ∧ w.grownBy w' (some g) := by
  obtain ⟨x, v, n, rfl, hn, hm, hi, _, ⟨A, c, rfl, hc, hr, _⟩, hk, hg⟩ := h
  exact ⟨x, A, n, c, rfl, ⟨hn, hm, hc, hr, hi⟩, hk, hg⟩
end Go.Proofs.YtebmmdafmgphdaaDoor
