/-
  slices.Sort at numbers of 64 bits, the words: a world in which a row of such numbers has been written and new blocks have come; and cmp.Less there. No condition.
-/
import Derived.Test.YtlcipcgeanipfaaChecked
import Derived.Shelf.SlSortCmp.Kit1
import Derived.CellFam
import Derived.Deep.QuietTactic
import Derived.BigQuiet
import Derived.RegionTactic
import Derived.BigRegion
import Derived.WalkKit
import Derived.Lib.Hide
import Derived.Outline
namespace Go.Proofs.Ytlcipcgeanipfaa
open Go.RowKit Go.Sort

/-- A row of numbers that lies in old memory. -/
structure Row64 (w0 : World) (blk off len : Nat) : Prop where
  held : ∃ d0 : Array Int, d0.size = len ∧ Holds (Value.int .u64) w0 blk off d0
  old : blk < w0.heap.size
  small : len < 4611686018427387904
/-- The row holds d; else nothing that was there has changed. -/
def St (w0 : World) (blk off len : Nat) (d : Array Int) (W : World) : Prop := d.size = len ∧ SW (Value.int .u64) w0 blk off d W

section
variable {w0 W : World} {blk off len : Nat} {d : Array Int}
theorem St.size (h : St w0 blk off len d W) : d.size = len := h.1
theorem St.drewN (h : St w0 blk off len d W) (q : Nat) : St w0 blk off len d (W.drewN q) := ⟨h.1, h.2.drewN q⟩
theorem St.drew (h : St w0 blk off len d W) : St w0 blk off len d W.drew := ⟨h.1, h.2.drew⟩
theorem St.alloc (h : St w0 blk off len d W) (o : Obj) : St w0 blk off len d (W.alloc o) := ⟨h.1, h.2.alloc o⟩
theorem St.fresh (h : St w0 blk off len d W) (b o : Nat) (v : Value) (hb : w0.heap.size ≤ b) : St w0 blk off len d (W.setCell ⟨b, o, none⟩ v) := ⟨h.1, h.2.setCell_new b o v hb⟩
theorem St.cell (h : St w0 blk off len d W) (R : Row64 w0 blk off len) : ∀ t, t < len → W.cell? ⟨blk, off + t, none⟩ = some (.int .u64 d[t]!) := fun t ht => by
  obtain ⟨d0, h0, hh⟩ := R.held
  exact (h.2.holds R.old hh (by rw [h.1, h0]) t (by rw [h.1]; exact ht)).1
theorem St.free (h : St w0 blk off len d W) (R : Row64 w0 blk off len) : ∀ t, t < len → W.frozen? ⟨blk, off + t, none⟩ = false := fun t ht => by
  obtain ⟨d0, h0, hh⟩ := R.held
  exact (h.2.holds R.old hh (by rw [h.1, h0]) t (by rw [h.1]; exact ht)).2
/-- The row's numbers under a name, for a walk. -/
theorem St.names (h : St w0 blk off len d W) (R : Row64 w0 blk off len) :
    ∃ G : Nat → Int, Hid (∀ t, G t = d[t]!) ∧ (∀ t, t < len → W.cell? ⟨blk, off + t, none⟩ = some (.int .u64 (G t))) ∧ (∀ t, t < len → W.frozen? ⟨blk, off + t, none⟩ = false) :=
  ⟨fun t => d[t]!, fun _ => rfl, h.cell R, h.free R⟩
theorem St.swap (h : St w0 blk off len d W) (R : Row64 w0 blk off len) {i j : Nat} (hi : i < len) (hj : j < len) {x y : Int} (hx : x = d[j]!) (hy : y = d[i]!) :
    St w0 blk off len (swp d i j) ((W.setCell ⟨blk, off + i, none⟩ (.int .u64 x)).setCell ⟨blk, off + j, none⟩ (.int .u64 y)) := by
  subst hx hy
  exact ⟨by rw [size_swp]; exact h.1, h.2.swap R.old i j (by rw [h.1]; exact hi) (by rw [h.1]; exact hj)⟩
/-- Behind the first store of an exchange there is still something in the second place. -/
theorem St.second (h : St w0 blk off len d W) (R : Row64 w0 blk off len) {i j : Nat} (hi : i < len) (hj : j < len) (v : Value) : ∃ u, (W.setCell ⟨blk, off + i, none⟩ v).cell? ⟨blk, off + j, none⟩ = some u := by
  by_cases e : i = j
  · subst e
    exact ⟨v, World.cell?_setCell_same _ _ _ (h.cell R i hi)⟩
  · refine ⟨_, (World.cell?_setCell_other _ _ _ _ (fun he => e ?_)).trans (h.cell R j hj)⟩
    simp only [Addr.mk.injEq] at he
    omega
theorem St.low (h : St w0 blk off len d W) : w0.heap.size ≤ W.heap.size := h.2.le
theorem St.start (hs : d.size = len) (h : Holds (Value.int .u64) w0 blk off d) : St w0 blk off len d w0 := ⟨hs, SW.start h⟩
end

/-- A callee that leaves the world alone, in a region that only draws. -/
theorem quietHere {P : Program} {f : FuncId} {args : Array Value} {W : World} {v : Value} {Q : World → Prop} (h : Calls P f args W fun e w' => e = .returned v ∧ w' = W) (hQ : Q W) : Calls P f args W fun e w' => e = .returned v ∧ Q w' :=
  h.mono fun _ _ ⟨he, hw⟩ => ⟨he, hw ▸ hQ⟩
theorem notNaN (x : Int) (W : World) : Calls Try.prog 44 #[.int .u64 x] W fun e w' => e = .returned (.bool false) ∧ w' = W := by
  go_enter Try.func44, Try.ntmps44
  go_wp2
  go_ret
  exact ⟨by simp, rfl⟩
theorem less_any (x y : Int) (W : World) : Calls Try.prog 34 #[.int .u64 x, .int .u64 y] W fun e w' => e = .returned (.bool (ltInt x y)) ∧ w' = W := by
  go_enter Try.func34, Try.ntmps34
  go_wp2_with (go_at_call 44; refine (notNaN _ _).mono ?_; rintro e w' ⟨rfl, rfl⟩)
  go_ret
  exact ⟨rfl, rfl⟩
end Go.Proofs.Ytlcipcgeanipfaa
