/-
  The walks of the parser's small methods: sees, next, refuse, accepts, demand, ended. No condition.
-/
import Derived.Test.YtmpnkbhlagalkaaGreatDoorPsMath
namespace Go.Proofs.YtmpnkbhlagalkaaGreatDoor
open Go.RowKit

/-- A row of strings. -/
def TRow (w : World) (g : Nat) (l : List Bytes) : Prop := ∀ i x, l[i]? = some x → w.cell? ⟨g, i, none⟩ = some (.string (nmB x))
theorem nmB_ne {a b : Bytes} (h : a ≠ b) : ((nmB a).toList == (nmB b).toList) = false := by
  rw [beq_eq_false_iff_ne]
  intro e
  rw [Lib.toList_data, Lib.toList_data] at e
  exact h e
def RetIx (b : Bool) (w : World) (e : Ending) (w' : World) : Prop := ∃ i : Int, e = .returned (.int .i64 i) ∧ w = w' ∧ decide (0 ≤ i) = b
set_option maxRecDepth 10000 in
theorem index_any (b : Bool) (s : Bytes) (l : List Bytes) (g n c : Nat) (w : World) (hb : l.contains s = b) (hn : l.length = n) (_hc : n ≤ c) (hn2 : n ≤ 1000) (hr : TRow w g l) :
    Calls Tryz.prog 65 #[.slice (some ⟨g, 0, none⟩) n c, .string (nmB s)] w (RetIx b w) := by
  have HB := Lib.hid hb
  clear hb
  have Hr := Lib.hid hr
  have Hn := Lib.hid hn
  clear hr hn
  go_enter Tryz.func65, Tryz.ntmps65
  go_wp2_with fail
  go_loop [8] (fun i => ∃ k : Nat, k ≤ n ∧ i = .int .i64 (k : Int) ∧ Hid (∀ j, j < k → l[j]? ≠ some s)) (fun i => n - (intOf i).toNat)
  case atStart => exact ⟨0, Nat.zero_le _, rfl, Lib.hid (fun j hj => by omega)⟩
  case round =>
    obtain ⟨k, hk, rfl, H⟩ := hrel
    by_cases hlt : k < n
    · obtain ⟨x, hx⟩ : ∃ x, l[k]? = some x := ⟨l[k]'(by rw [Hn.out]; exact hlt), List.getElem?_eq_getElem _⟩
      have d0 := Hr.out k x hx
      have Hx := Lib.hid hx
      clear hx
      by_cases he : s = x
      · subst he
        have HP : Hid (l.contains s = true) := Lib.hid (by rw [List.contains_iff_mem]; exact List.mem_of_getElem? Hx.out)
        clear H Hx
        go_wp2_with fail
        go_ret
        exact ⟨_, rfl, rfl, by rw [← HB.out, HP.out]; simp⟩
      · have H2 : Hid (∀ j, j < k + 1 → l[j]? ≠ some s) := Lib.hid (fun j hj => by
          rcases Nat.lt_or_ge j k with h | h
          · exact H.out j h
          · obtain rfl : j = k := by omega
            rw [Hx.out]
            intro e
            injection e with e
            exact he e.symm)
        have he2 := nmB_ne he
        clear H Hx
        go_wp2_with fail
        exact ⟨⟨k + 1, by omega, by go_num, H2⟩, by simp [intOf]; omega⟩
    · have HP : Hid (l.contains s = false) := Lib.hid (by
        rw [← Bool.not_eq_true, List.contains_iff_mem]
        intro hm
        obtain ⟨j, hj, e⟩ := List.mem_iff_getElem.1 hm
        exact H.out j (by have := Hn.out; omega) (by rw [List.getElem?_eq_getElem hj, e]))
      clear H
      go_wp2_with fail
      go_ret
      exact ⟨_, rfl, rfl, by rw [← HB.out, HP.out]; rfl⟩
theorem contains_any (b : Bool) (s : Bytes) (l : List Bytes) (g n c : Nat) (w : World) (hb : l.contains s = b) (hn : l.length = n) (hc : n ≤ c) (hn2 : n ≤ 1000) (hr : TRow w g l) :
    Calls Tryz.prog 45 #[.slice (some ⟨g, 0, none⟩) n c, .string (nmB s)] w (RetB b w) := by
  have hx := Lib.hid (index_any b s l g n c w hb hn hc hn2 hr)
  clear hb hn hc hn2 hr
  go_enter Tryz.func45, Tryz.ntmps45
  go_wp2_with fail
  refine hx.out.mono ?_
  rintro e w1 ⟨i, rfl, rfl, hi⟩
  have Hi := Lib.hid hi
  clear hi hx
  go_wp2_with fail
  go_ret
  exact ⟨by rw [← Hi.out]; simp, rfl⟩
theorem sees_any {p tb : Nat} {s : PS} (b : Bool) (l : List Bytes) (g n c : Nat) (w : World) (h : PA w p tb s) (hb : seesP l s = b) (hn : l.length = n) (hc : n ≤ c) (hn2 : n ≤ 1000) (hr : TRow w g l) :
    Calls Tryz.prog 23 #[.pointer (some ⟨p, 0, none⟩), .slice (some ⟨g, 0, none⟩) n c] w (RetB b w) := by
  have hx := Lib.hid (contains_any b (hdT s).text l g n c w hb hn hc hn2 hr)
  obtain ⟨off, c2, m, h⟩ := h
  have h0 := h.cells.1
  have h3 := h.hd.2.2.2
  have hm := h.cap
  clear hb hn hc hn2 hr h
  go_enter Tryz.func23, Tryz.ntmps23
  go_wp2_with fail
  refine hx.out.mono ?_
  rintro e w1 ⟨rfl, rfl⟩
  clear hx
  go_wp2_with fail
  go_ret
  exact ⟨rfl, rfl⟩
end Go.Proofs.YtmpnkbhlagalkaaGreatDoor
