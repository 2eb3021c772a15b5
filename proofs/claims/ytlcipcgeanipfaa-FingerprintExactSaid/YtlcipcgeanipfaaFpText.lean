/-
  The walks of Text, the program's and the reference's. Condition: the string takes no more memory than the form's reach.
-/
import Derived.Test.YtlcipcgeanipfaaFpBytes
import Derived.Laws.IdiomStrings
namespace Go.Proofs.Ytlcipcgeanipfaa
open Go.RowKit

/-- A string's bytes as numbers. -/
def codes (s : ByteArray) : List Nat := s.data.toList.map UInt8.toNat
theorem codes_length (s : ByteArray) : (codes s).length = s.size := by simp [codes]
theorem codes_small (s : ByteArray) : ∀ x ∈ codes s, x < 256 := fun x hx => by
  obtain ⟨b, _, rfl⟩ := List.mem_map.1 hx
  exact b.toNat_lt
theorem rd_text (w : World) (s : ByteArray) (cap : Nat) (t : TypeId) (fr : Nat × Nat) : Rd (w.alloc (.cells (bytesRow s cap) t fr)) (some ⟨w.heap.size, 0, none⟩) ((codes s).map bv) := Rd.of_cells fun j u hu => by
  rw [Addr.add_lit, Nat.zero_add, World.cell?_alloc_mark]
  have hj : j < s.data.size := by
    rcases Nat.lt_or_ge j s.data.size with hl | hl
    · exact hl
    · rw [List.getElem?_eq_none (by simp [codes]; exact hl)] at hu; cases hu
  rw [bytesRow_at s cap j hj]
  simp only [codes, List.map_map, List.getElem?_map] at hu
  rw [List.getElem?_eq_getElem (by simpa using hj)] at hu
  simpa [bv] using hu
set_option maxRecDepth 10000 in
theorem text_any (s : ByteArray) (w : World) (hs : s.size ≤ 140737488351232) :
    Calls Try.prog 13 #[.string s] w fun f w' => f = .returned (.int .u64 ((fbytes (codes s) : Nat) : Int)) ∧ Below w.heap.size w w' := by
  have hcv := fun w s => run_bytes_of_string (P := Try.prog) w 9 23 5 s Try.underlying9 Try.underlying23 Try.underlying5
  go_enter Try.func13, Try.ntmps13
  go_wp2_with fail
  refine (bytes_any _ (codes s) s.size _ _ (codes_length s) ((rd_text w s _ _ _).drew) (codes_small s) hs).mono ?_
  rintro e w1 ⟨rfl, rfl⟩
  go_wp2_with fail
  go_ret
  exact ⟨rfl, ((Below.refl _ w).alloc (Nat.le_refl _) _).drew⟩
set_option maxRecDepth 10000 in
theorem refText_any (s : ByteArray) (w : World) (hs : s.size ≤ 140737488351232) :
    Calls Try.prog 14 #[.string s] w fun f w' => f = .returned (.int .u64 ((fbytes (codes s) : Nat) : Int)) ∧ Below w.heap.size w w' := by
  have hcv := fun w s => run_bytes_of_string (P := Try.prog) w 9 23 5 s Try.underlying9 Try.underlying23 Try.underlying5
  go_enter Try.func14, Try.ntmps14
  go_wp2_with fail
  refine (refBytes_any _ (codes s) s.size _ _ (codes_length s) ((rd_text w s _ _ _).drew) (codes_small s) hs).mono ?_
  rintro e w1 ⟨rfl, rfl⟩
  go_wp2_with fail
  go_ret
  exact ⟨rfl, ((Below.refl _ w).alloc (Nat.le_refl _) _).drew⟩
end Go.Proofs.Ytlcipcgeanipfaa
