/-
  The walk of codec.Checksum: half a byte at a time by the table, which is what the promise says bit by bit. Conditions: the table reads as the program's text lays it; the slice takes no more memory than the form's reach.
-/
import Derived.Test.YthgfbfocccekfaaDoorGet
import Derived.Test.YthgfbfocccekfaaDoorCrc
namespace Go.Proofs.YthgfbfocccekfaaDoor
open Go.RowKit

/-- The table's cells. -/
def Tab (w : World) : Prop := ∀ j, j < 16 → w.cell? ⟨0, j, none⟩ = some (.int .u32 ((crcTab.getD j 0 : Nat) : Int))
theorem Tab.below {w w' : World} {B : Nat} (h : Tab w) (hb : Below B w w') (hB : 0 < B) : Tab w' := fun j hj => (hb.cell (p := ⟨0, j, none⟩) hB).trans (h j hj)
theorem Tab.lt {w : World} (h : Tab w) : 0 < w.heap.size := World.block_lt_of_cell? w ⟨0, 0, none⟩ (h 0 (by decide))
theorem Tab.later {w w' : World} (h : Tab w) (hb : Below w.heap.size w w') : Tab w' := h.below hb h.lt

def CkRel (l : List Nat) (u i : Value) : Prop :=
  ∃ k : Nat, k ≤ l.length ∧ i = .int .i64 (k : Int) ∧ u = .int .u32 ((crcFold 4294967295 (l.take k) : Nat) : Int)

set_option maxRecDepth 10000 in
set_option maxHeartbeats 800000 in
theorem checksum_any (A : Option Addr) (l : List Nat) (m c : Nat) (w : World) (hm : l.length = m) (hr : Rd w A (l.map bv)) (hl : ∀ x ∈ l, x < 256) (hreach : m ≤ 140737488351232) (ht : Tab w) :
    Calls Tryd.prog 22 #[.slice A m c] w fun f w' => f = .returned (.int .u32 ((crc l : Nat) : Int)) ∧ w = w' := by
  subst hm
  have Ht := Lib.hid ht; clear ht
  go_enter Tryd.func22, Tryd.ntmps22
  go_wp2_with fail
  go_loop [3, 8] (fun u i => CkRel l u i) (fun _ i => l.length - (intOf i).toNat)
  case atStart => exact ⟨0, by omega, rfl, rfl⟩
  case round =>
    obtain ⟨k, hk, rfl, rfl⟩ := hrel
    have hcl : crcFold 4294967295 (l.take k) < 4294967296 := crcFold_lt (by decide) (fun x hx => hl x (List.mem_of_mem_take hx))
    by_cases hlt : k < l.length
    · have Hs := Lib.hid (crcFold_take (c := 4294967295) hlt)
      obtain ⟨ad, rfl, hc⟩ := hr.at_ (k := k) (by simp; omega)
      simp only [List.getElem_map] at hc
      have hx : l[k] < 256 := hl _ (List.getElem_mem _)
      generalize l[k] = x at *
      generalize crcFold 4294967295 (l.take k) = c0 at *
      rw [crcByte_nib] at Hs
      unfold bv at hc
      have Hr := Lib.hid hr; clear hr
      have Hl := Lib.hid hl; clear hl
      have e1 := xor32 c0 x hcl (by omega)
      have b1 : c0 ^^^ x < 4294967296 := xor_lt32 hcl (by omega)
      generalize c0 ^^^ x = c1 at *
      have n1 := nib32 c1 b1
      have a1 := and15 c1 b1
      have t1 := Ht.out (c1 % 16) (Nat.mod_lt _ (by decide))
      have m1 : c1 % 16 < 16 := Nat.mod_lt _ (by decide)
      have b2 := crcNib_lt b1
      generalize crcTab.getD (c1 % 16) 0 = d1 at *
      generalize c1 % 16 = r1 at *
      generalize crcNib c1 = c2 at *
      have n2 := nib32 c2 b2
      have a2 := and15 c2 b2
      have t2 := Ht.out (c2 % 16) (Nat.mod_lt _ (by decide))
      have m2 : c2 % 16 < 16 := Nat.mod_lt _ (by decide)
      generalize crcTab.getD (c2 % 16) 0 = d2 at *
      generalize c2 % 16 = r2 at *
      generalize crcNib c2 = c3 at *
      go_wp2_with fail
      exact ⟨⟨k + 1, by omega, by go_num, by rw [Hs.out]⟩, by simp [intOf]; omega⟩
    · go_wp2_with fail
      go_ret
      have hk' : l.take k = l := List.take_of_length_le (by omega)
      rw [hk'] at hcl
      exact ⟨by rw [hk']; exact congrArg (fun q => Ending.returned (.int .u32 q)) (comp32 _ hcl), rfl⟩
end Go.Proofs.YthgfbfocccekfaaDoor
