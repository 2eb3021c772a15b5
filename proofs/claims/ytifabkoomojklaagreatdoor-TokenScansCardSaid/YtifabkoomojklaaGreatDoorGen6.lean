/-
  The maker of sources: one, names, fresh. Condition: at most a thousand locals.
-/
import Derived.Test.YtifabkoomojklaaGreatDoorGen3
namespace Go.Proofs.YtifabkoomojklaaGreatDoor
open Go.RowKit

/-- A statement with one expression. -/
def OneG (k : Int) (s : ByteArray) (xs : Array Value) (w : World) (e : Ending) (w' : World) : Prop :=
  ∃ b, w.heap.size ≤ b ∧ b < w'.heap.size ∧ e = .returned (.agg #[.int .i64 k, .int .i64 0, .string s, .slice (some ⟨b, 0, none⟩) 1 1, .slice none 0 0, .slice none 0 0]) ∧ w'.heap[b]? = some (.cells xs 90 (0, 0)) ∧ Below w.heap.size w w'
set_option maxRecDepth 100000 in
set_option maxHeartbeats 4000000 in
theorem one_any (k : Int) (s : ByteArray) (k' o a l : Int) (s' : ByteArray) (A : Option Addr) (n c : Nat) (w : World) :
    Calls Tryz.prog 56 #[.int .i64 k, .string s, .agg #[.int .i64 k', .int .i64 o, .int .i64 a, .int .i64 l, .string s', .slice A n c]] w (OneG k s #[.int .i64 k', .int .i64 o, .int .i64 a, .int .i64 l, .string s', .slice A n c] w) := by
  have hb := (((Below.refl _ w).alloc (Nat.le_refl _) (.cells #[.int .i64 k', .int .i64 o, .int .i64 a, .int .i64 l, .string s', .slice A n c] 90)).alloc (by simp) (.cells #[.int .i64 0, .int .i64 0, .string { data := #[] }, .slice none 0 0, .slice none 0 0, .slice none 0 0] 84)).alloc (by simp; omega) (.cells #[.int .i64 k', .int .i64 o, .int .i64 a, .int .i64 l, .string s', .slice A n c] 90)
  have hr := heap_alloc_new (w.alloc (.cells #[.int .i64 k', .int .i64 o, .int .i64 a, .int .i64 l, .string s', .slice A n c] 90)) (.cells #[.int .i64 0, .int .i64 0, .string { data := #[] }, .slice none 0 0, .slice none 0 0, .slice none 0 0] 84)
  have hr1 := (heap_alloc_old _ (.cells #[.int .i64 k', .int .i64 o, .int .i64 a, .int .i64 l, .string s', .slice A n c] 90) (Array.getElem?_eq_some_iff.1 hr).1).trans hr
  have hr2 := heap_alloc_new ((w.alloc (.cells #[.int .i64 k', .int .i64 o, .int .i64 a, .int .i64 l, .string s', .slice A n c] 90)).alloc (.cells #[.int .i64 0, .int .i64 0, .string { data := #[] }, .slice none 0 0, .slice none 0 0, .slice none 0 0] 84)) (.cells #[.int .i64 k', .int .i64 o, .int .i64 a, .int .i64 l, .string s', .slice A n c] 90)
  rw [show ∀ o, (w.alloc o).heap.size = w.heap.size + 1 from fun o => by simp] at hr1
  rw [show ∀ o o', ((w.alloc o).alloc o').heap.size = w.heap.size + 1 + 1 from fun o o' => by simp] at hr2
  have HB := Lib.hid hb
  have HR1 := Lib.hid hr1
  have HR2 := Lib.hid hr2
  clear hb hr hr1 hr2
  go_enter Tryz.func56, Tryz.ntmps56
  go_wp2_with (with_reducible refine wpList_pause_store ?_)
  refine Pause.of (wpList_store_new _ rfl _ _ _ rfl (w.heap.size + 1) _ rfl (by rfl) _ _ HR1.out (by kernel_rfl) (by rfl) (by simp [Value.oneCell']) ?_)
  intro w9 hrow hg9
  have k0 := cell_of_row _ _ 0 _ _ _ hrow
  have k1 := cell_of_row _ _ 1 _ _ _ hrow
  have k2 := cell_of_row _ _ 2 _ _ _ hrow
  have k3 := cell_of_row _ _ 3 _ _ _ hrow
  have k4 := cell_of_row _ _ 4 _ _ _ hrow
  have k5 := cell_of_row _ _ 5 _ _ _ hrow
  have HR3 := Lib.hid (blk_keep hg9 (by omega) HR2.out)
  have HH := Lib.hid (HB.out.trans (grown_any hg9 (fun k hk => by injection hk with hk; omega) (by simp; omega) : Below w.heap.size _ w9))
  clear hrow hg9
  go_wp2_with fail
  refine bodyPost_ret ?_ rfl ⟨w.heap.size + 1 + 1, by omega, (Array.getElem?_eq_some_iff.1 HR3.out).1, rfl, HR3.out, HH.out⟩
  simp [results, Tryz.results56, go_sem, k0, k1, k2, k3, k4, k5]
def localNames : List ByteArray := [⟨#[97]⟩, ⟨#[98]⟩, ⟨#[99]⟩, ⟨#[100]⟩, ⟨#[101]⟩, ⟨#[102]⟩, ⟨#[105]⟩, ⟨#[107]⟩]
/-- The names of locals. -/
def NamesG (w : World) (e : Ending) (w' : World) : Prop := ∃ b, e = .returned (.slice (some ⟨b, 0, none⟩) 8 8) ∧ (∀ i, i < 8 → ∃ s ∈ localNames, w'.cell? ⟨b, i, none⟩ = some (.string s)) ∧ Below w.heap.size w w'
theorem names_any (w : World) : Calls Tryz.prog 72 #[] w (NamesG w) := by
  have hN : ∀ i, i < 8 → ∃ s ∈ localNames, (w.alloc (.cells #[.string ⟨#[97]⟩, .string ⟨#[98]⟩, .string ⟨#[99]⟩, .string ⟨#[100]⟩, .string ⟨#[101]⟩, .string ⟨#[102]⟩, .string ⟨#[105]⟩, .string ⟨#[107]⟩] 9)).cell? ⟨w.heap.size, i, none⟩ = some (.string s) := fun i hi => by
    have hr := heap_alloc_new w (.cells #[.string ⟨#[97]⟩, .string ⟨#[98]⟩, .string ⟨#[99]⟩, .string ⟨#[100]⟩, .string ⟨#[101]⟩, .string ⟨#[102]⟩, .string ⟨#[105]⟩, .string ⟨#[107]⟩] 9)
    have hc : i = 0 ∨ i = 1 ∨ i = 2 ∨ i = 3 ∨ i = 4 ∨ i = 5 ∨ i = 6 ∨ i = 7 := by omega
    rcases hc with rfl | rfl | rfl | rfl | rfl | rfl | rfl | rfl
    all_goals exact ⟨_, by simp [localNames], cell_of_row _ _ _ _ _ _ hr⟩
  have HN := Lib.hid hN
  have HB := Lib.hid ((Below.refl _ w).alloc (Nat.le_refl _) (.cells #[.string ⟨#[97]⟩, .string ⟨#[98]⟩, .string ⟨#[99]⟩, .string ⟨#[100]⟩, .string ⟨#[101]⟩, .string ⟨#[102]⟩, .string ⟨#[105]⟩, .string ⟨#[107]⟩] 9))
  clear hN
  go_enter Tryz.func72, Tryz.ntmps72
  go_wp2_with fail
  go_ret
  exact ⟨_, rfl, HN.out, HB.out⟩
def FreshG (w : World) (e : Ending) (w' : World) : Prop := ∃ (s : ByteArray) (ok : Bool), e = .returned (.tuple #[.string s, .bool ok]) ∧ (ok = true → s ∈ localNames) ∧ Below w.heap.size w w'
set_option maxRecDepth 100000 in
set_option maxHeartbeats 4000000 in
theorem fresh_any (m g : Nat) (l : List Nat) (E : Env) (bud : Int) (w : World) (h : GS w m g l E bud) (hE : EnvOk E) :
    Calls Tryz.prog 55 #[.pointer (some ⟨m, 0, none⟩)] w (FreshG w) := by
  obtain ⟨gA, gc, fA, fc, lA, lc, c0, c1, c2, c3, c4, hG, hF, hL⟩ := h.cells
  have HL := Lib.hid hL
  have hln := hE.ln
  obtain ⟨n, hn⟩ : ∃ n, n = E.locals.length := ⟨_, rfl⟩
  have Hn := Lib.hid hn
  have hgc : n ≤ lc := by rw [hn]; exact hL.1
  rw [← hn] at c3 hln
  clear hL h hE hn c0 c1 c2 c4 hG hF
  go_enter Tryz.func55, Tryz.ntmps55
  go_wp2_with fail
  refine (names_any _).mono ?_
  rintro e w1 ⟨b, rfl, hN, hb1⟩
  have HN := Lib.hid hN
  have Hb1 := Lib.hid hb1
  clear hN hb1
  go_wp2_with fail
  go_loopw [5] (fun i wr => ∃ k : Nat, k ≤ 8 ∧ i = .int .i64 (k : Int) ∧ Below w1.heap.size w1 wr) (fun i _ => 8 - (intOf i).toNat)
  case atStart => exact ⟨0, by omega, rfl, Below.refl _ _⟩
  case round =>
    obtain ⟨k, hk, rfl, hb⟩ := hrel
    have Hb := Lib.hid hb
    clear hb
    by_cases hlt : k < 8
    · have Hlt := Lib.hid hlt
      go_wp2_with fail
      go_loopw [6, 7] (fun u i wr => ∃ (j : Nat) (o : Bool), j ≤ n ∧ u = .bool o ∧ i = .int .i64 (j : Int) ∧ Below w1.heap.size w1 wr) (fun _ i _ => n - (intOf i).toNat)
      case atStart => exact ⟨0, false, by omega, rfl, rfl, Hb.out⟩
      case round =>
        obtain ⟨j, o, hj, rfl, rfl, hb2⟩ := hrel
        have Hb2 := Lib.hid hb2
        have d3 := hold (Hb1.out.trans (hb2.mono Hb1.out.size)) c3
        clear hb2
        obtain ⟨s, hs, hc⟩ := HN.out k hlt
        have dn := hold Hb2.out hc
        have Hs := Lib.hid hs
        clear hs hc
        by_cases hjn : j < n
        · obtain ⟨r, rfl, _, hloc⟩ := strs_some HL.out (by rw [← Hn.out]; omega)
          have dl := hold (Hb1.out.trans (Hb2.out.mono Hb1.out.size)) (hloc j _ (List.getElem?_eq_getElem (by rw [← Hn.out]; exact hjn)))
          generalize E.locals[j]'(by rw [← Hn.out]; exact hjn) = t at *
          clear hloc
          cases o with
          | true =>
            go_wp2_with fail
            go_quiet (fail)
            go_wp2_with fail
            exact ⟨⟨j + 1, true, by omega, rfl, by go_num, below_drewN Hb2.out _⟩, by simp [intOf]; omega⟩
          | false =>
            go_wp2_with fail
            go_quiet (fail)
            go_wp2_with fail
            exact ⟨⟨j + 1, _, by omega, rfl, by go_num, below_drewN Hb2.out _⟩, by simp [intOf]; omega⟩
        · obtain rfl : j = n := by omega
          cases o with
          | true =>
            go_wp2_with fail
            exact ⟨⟨k + 1, by omega, by go_num, Hb2.out⟩, by simp [intOf]; omega⟩
          | false =>
            go_wp2_with fail
            go_ret2
            exact ⟨s, true, rfl, fun _ => Hs.out, Hb1.out.trans (Hb2.out.mono Hb1.out.size)⟩
    · obtain rfl : k = 8 := by omega
      go_wp2_with fail
      go_ret2
      exact ⟨_, false, rfl, (fun h => by cases h), Hb1.out.trans (Hb.out.mono Hb1.out.size)⟩
end Go.Proofs.YtifabkoomojklaaGreatDoor
