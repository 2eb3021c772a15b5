/-
  token.Scan at every text; token.Word; the statements' example. Conditions: lengths below 2^47; the library's two errors lie where they were laid.
-/
import Derived.Test.YtmpnkbhlagalkaaGreatDoorTok3
namespace Go.Proofs.YtmpnkbhlagalkaaGreatDoor
open Go.RowKit

set_option maxRecDepth 10000 in
theorem scan_long (s : ByteArray) (w : World) (hs : 65536 < s.size) (hs2 : s.size ≤ 140737488355328) : Calls Tryz.prog 19 #[.string s] w (ScanPost (scanT s.data.toList) w) := by
  have HP : Hid (scanT s.data.toList = .error (0, 5)) := Lib.hid (by
    have hl : s.data.toList.length = s.size := by simp
    rw [scanT, if_pos (by omega)])
  go_enter Tryz.func19, Tryz.ntmps19
  go_wp2_with fail
  go_ret3
  rw [HP.out]
  exact ⟨rfl, (Below.refl _ w).alloc (Nat.le_refl _) _⟩
theorem scan_full (s : ByteArray) (w : World) (hs : s.size ≤ 140737488355328) (he : Errs w) : Calls Tryz.prog 19 #[.string s] w (ScanPost (scanT s.data.toList) w) := by
  by_cases h : s.size ≤ 65536
  · exact scan_any s w h he
  · exact scan_long s w (by omega) hs
/-- A bool is handed back; memory has grown at most. -/
def RetG (x : Bool) (w : World) (e : Ending) (w' : World) : Prop := e = .returned (.bool x) ∧ Below w.heap.size w w'
theorem scan_example : scanT [120, 60, 61, 49, 48] = .ok [⟨1, 1, 0, [120]⟩, ⟨4, 1, 0, [60, 61]⟩, ⟨2, 1, 10, [49, 48]⟩, ⟨0, 1, 0, []⟩] := by
  have e1 : rnext [120, 60, 61, 49, 48] = some (1, 0, 1) := by decide
  have e2 : rnext [60, 61, 49, 48] = some (4, 0, 2) := by decide
  have e3 : rnext [49, 48] = some (2, 10, 2) := by decide
  simp [scanT, scan, e1, e2, e3]
theorem own_lit {w : World} {base : Nat} {v : Value} {l : List Tok} (h : w.ownsRow base 67 4 v l.length (tks l)) {k : Nat} {t : Tok} (hk : l[k]? = some t) :
    ∃ g c, v = .slice (some ⟨g, 0, none⟩) l.length c ∧ base ≤ g ∧ l.length ≤ c ∧ g < w.heap.size ∧ w.cell? ⟨g, k * 4, none⟩ = some (.int .i64 (t.kind : Int)) ∧ w.cell? ⟨g, k * 4 + 1, none⟩ = some (.int .i64 (t.line : Int)) ∧ w.cell? ⟨g, k * 4 + 2, none⟩ = some (.int .i64 (t.value : Int)) ∧ w.cell? ⟨g, k * 4 + 3, none⟩ = some (.string ⟨t.text.toArray⟩) := by
  rcases h.2 with ⟨_, h0⟩ | ⟨g, cap, cur, hv, hb, hg, hc, _, hsz, ht⟩
  · have : l = [] := List.eq_nil_of_length_eq_zero h0
    subst this
    simp at hk
  · have hlt : k < l.length := by
      rcases Nat.lt_or_ge k l.length with h | h
      · exact h
      · rw [List.getElem?_eq_none h] at hk; cases hk
    have hcell : ∀ j u, (tks l)[k * 4 + j]? = some u → w.cell? ⟨g, k * 4 + j, none⟩ = some u := fun j u hu => by
      rw [cell_of_row w g _ _ _ _ hg]
      rw [← ht] at hu
      rw [List.getElem?_take] at hu
      split at hu
      · simpa using hu
      · cases hu
    have hat : ∀ (l : List Tok) (k : Nat) (t : Tok) (j : Nat), j < 4 → l[k]? = some t → (tks l)[k * 4 + j]? = (tkc t)[j]? := by
      intro l
      induction l with
      | nil => intro k t j _ hk; simp at hk
      | cons a r ih =>
        intro k t j hj hk
        cases k with
        | zero =>
          simp at hk
          subst hk
          simp only [tks, List.flatMap_cons]
          rw [List.getElem?_append_left (by simp [tkc]; omega)]
          simp
        | succ k =>
          simp only [List.getElem?_cons_succ] at hk
          have := ih k t j hj hk
          simp only [tks, List.flatMap_cons] at this ⊢
          rw [List.getElem?_append_right (by simp [tkc]; omega)]
          have e : (k + 1) * 4 + j - (tkc a).length = k * 4 + j := by simp [tkc]; omega
          rw [e, this]
    exact ⟨g, cap, hv, hb, hc, (Array.getElem?_eq_some_iff.1 hg).1, by simpa using hcell 0 _ ((hat l k t 0 (by omega) hk).trans rfl), hcell 1 _ ((hat l k t 1 (by omega) hk).trans rfl), hcell 2 _ ((hat l k t 2 (by omega) hk).trans rfl), hcell 3 _ ((hat l k t 3 (by omega) hk).trans rfl)⟩
/-- A string is handed back; memory has grown at most. -/
def RetS (l : Bytes) (w : World) (e : Ending) (w' : World) : Prop := e = .returned (.string ⟨l.toArray⟩) ∧ Below w.heap.size w w'
end Go.Proofs.YtmpnkbhlagalkaaGreatDoor
