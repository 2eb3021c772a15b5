/-
  slices.Sort at numbers of 64 bits: whoever calls it finds the row sorted, a permutation of what it held, and all else as it was. Condition: the row lies in old memory.
-/
import Derived.Test.YtlcipcgeanipfaaSortPdq
import Derived.Sort.WalkA14
namespace Go.Proofs.Ytlcipcgeanipfaa
open Go.RowKit Go.Sort

theorem bitLen_small (n : Nat) (h : n < 4611686018427387904) : Lib.bitLen n ≤ 62 := by
  rw [bitLen_eq n (by omega)]
  exact (bitsLen_le_iff n 62).2 (by omega)
set_option maxRecDepth 100000 in
theorem sort_any (blk off len cap : Nat) (d : Array Int) (w : World) (hd : d.size = len) (hH : Holds (Value.int .u64) w blk off d) (hblk : blk < w.heap.size) (hsm : len < 4611686018427387904) :
    Calls Try.prog 24 #[.slice (some ⟨blk, off, none⟩) len cap] w fun e w' => e = .returned (.tuple #[]) ∧ Done w blk off len 0 len d w' := by
  have HR := Lib.hid (Row64.mk (w0 := w) (blk := blk) (off := off) (len := len) ⟨d, hd, hH⟩ hblk hsm)
  have HS := Lib.hid (St.start hd hH)
  have hlim := bitLen_small len hsm
  have HL := Lib.hid (fun W => Try.bits_Len (len : Int) W (by omega) (by omega))
  simp only [Int.toNat_natCast] at HL
  clear hH hd
  generalize Lib.bitLen len = lim at *
  go_enter Try.func24, Try.ntmps24
  go_wp2_with fail
  refine (HL.out _).mono ?_
  rintro e w1 ⟨rfl, rfl⟩
  go_wp2_with fail
  refine (pdq_any _ blk off len cap HR.out (len + 1) 0 len lim d _ (by omega) HS.out (by omega) (Nat.le_refl _) (by omega) (Or.inl rfl)).mono ?_
  rintro e w1 ⟨rfl, hd⟩
  go_wp2_with fail
  go_end0
  exact ⟨rfl, hd⟩
end Go.Proofs.Ytlcipcgeanipfaa
