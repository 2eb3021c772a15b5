/-
  SyntaxPrecedence: its calls: ParseExpr at a text whose tree is known, SameExpr, awake. Condition: the library's two errors lie where they were laid.
-/
import Derived.Test.YtdnaknpifinfdaaGreatDoorPsSame
import Derived.Test.YtdnaknpifinfdaaGreatDoorPsPrec
namespace Go.Proofs.YtdnaknpifinfdaaGreatDoor
open Go.RowKit

/-- ParseExpr's answer with the error e0; where it is none, the tree is x. -/
def PG (e0 : Int) (x : Ex) (w : World) (e : Ending) (w' : World) : Prop := ∃ ln k o a l nm A n c, e = .returned (.tuple #[.agg #[.int .i64 k, .int .i64 o, .int .i64 a, .int .i64 l, .string nm, .slice A n c], .int .i64 ln, .int .i64 e0]) ∧ Hid (e0 = 0 → ∃ d, ExV (fun q => w.heap.size ≤ q ∧ q < w'.heap.size) w' d x (.agg #[.int .i64 k, .int .i64 o, .int .i64 a, .int .i64 l, .string nm, .slice A n c])) ∧ Below w.heap.size w w'
theorem good_pg {L : Bytes} {x : Ex} (h : Good L x) (S : ByteArray) (w : World) (hS : S.data.toList = L) (hL : L.length ≤ 65536) (he : Errs w) : Calls Tryz.prog 8 #[.string S] w (PG 0 x w) := by
  obtain ⟨ts, s, h1, h2, h3, h4, h5⟩ := h
  have hsz : S.size = L.length := by rw [← hS]; simp
  refine (parse_ok S w (by omega) he ts 3 x s (by rw [hS]; exact h1) h2 h3 h4 h5).mono ?_
  rintro e w' ⟨d, k, o, a, l, nm, A, n, c, rfl, hx, hb⟩
  exact ⟨0, k, o, a, l, nm, A, n, c, rfl, Lib.hid (fun _ => ⟨d, hx.out⟩), hb⟩
theorem bad_pg {L : Bytes} {N : Nat} (x : Ex) (h : Bad L N) (S : ByteArray) (w : World) (hS : S.data.toList = L) (hL : L.length ≤ 65536) (he : Errs w) : Calls Tryz.prog 8 #[.string S] w (PG 7 x w) := by
  obtain ⟨ts, y, s, h1, h2, h3, h4⟩ := h
  have hsz : S.size = L.length := by rw [← hS]; simp
  refine (parse_bad S w (by omega) he ts 3 y s (by rw [hS]; exact h1) h2 N h3 h4).mono ?_
  rintro e w' ⟨rfl, hb⟩
  exact ⟨N, _, _, _, _, _, _, _, _, rfl, Lib.hid (fun h => by cases h), hb⟩
end Go.Proofs.YtdnaknpifinfdaaGreatDoor
namespace Go.Proofs.YtdnaknpifinfdaaGreatDoor
open Go.RowKit

def exA : Ex := .mk 6 3 0 1 ⟨#[]⟩ [.mk 1 0 1 1 ⟨#[]⟩ [], .mk 6 5 0 1 ⟨#[]⟩ [.mk 1 0 2 1 ⟨#[]⟩ [], .mk 1 0 3 1 ⟨#[]⟩ []]]
theorem exA_is : resF (tx0 6 8) = some exA := by kernel_rfl
theorem exA_at {F : Nat → Prop} {w : World} {d : Nat} {k o a l : Int} {nm : ByteArray} {A : Option Addr} {n c : Nat} (h : ExV F w d exA (.agg #[.int .i64 k, .int .i64 o, .int .i64 a, .int .i64 l, .string nm, .slice A n c])) :
    o = 3 ∧ n = 2 ∧ 2 ≤ c ∧ ∃ g off, A = some ⟨g, off, none⟩ ∧ w.cell? ⟨g, off + 7, none⟩ = some (.int .i64 5) ∧ g < w.heap.size := by
  cases d with
  | zero => exact h.elim
  | succ d =>
    obtain ⟨A', c', hv, hr⟩ := exV_iff.1 h
    injection hv with hv
    injection hv with hv
    injection hv with _ hv
    injection hv with e1 hv
    injection e1 with _ e1
    injection hv with _ hv
    injection hv with _ hv
    injection hv with _ hv
    injection hv with e5 _
    injection e5 with e5 e6 e7
    subst e1 e5 e6 e7
    cases d with
    | zero =>
      obtain ⟨_, _, _, _, _, _, _, _, _, _, _, _, _, _, _, _, hv⟩ := hr.2 0 _ rfl
      exact hv.elim
    | succ d =>
      have hc := hr.1
      obtain ⟨g, off, k', o', a', l', s', us, A', c', rfl, hm, _, p1, _⟩ := rowE_at hr (k := 1) rfl
      injection hm with _ hm
      subst hm
      exact ⟨rfl, rfl, hc, g, off, rfl, p1, World.block_lt_of_cell? w _ p1⟩
set_option maxRecDepth 100000 in
set_option maxHeartbeats 2000000 in
theorem awake_4 (w : World) (he : Errs w) : Calls Tryz.prog 4 #[] w (RetG true w) := by
  have HP := Lib.hid (good_pg (resF_good exA_is) ⟨#[49, 32, 43, 32, 50, 32, 42, 32, 51]⟩ w (by rfl) (by decide) he)
  clear he
  go_enter Tryz.func4, Tryz.ntmps4
  go_wp2_with fail
  refine HP.out.mono ?_
  rintro e w1 ⟨ln, k, o, a, l, nm, A, n, c, rfl, hx, hb⟩
  obtain ⟨d, hv⟩ := hx.out rfl
  obtain ⟨rfl, rfl, hc, g, off, rfl, p1, hg⟩ := exA_at hv
  have HZ := Lib.hid (heap_alloc_new w1 (.cells #[.int .i64 0, .int .i64 0, .int .i64 0, .int .i64 0, .string { data := #[] }, .slice none 0 0] 31))
  have HB := Lib.hid hb
  have p2 := hold ((Below.refl _ w1).alloc (Nat.le_refl _) (.cells #[.int .i64 0, .int .i64 0, .int .i64 0, .int .i64 0, .string { data := #[] }, .slice none 0 0] 31)) p1
  clear HP hx hv hb p1
  go_wp2_with (with_reducible refine pause_ex ?_)
  refine Pause.of (wpList_store_new _ rfl _ _ _ rfl _ _ rfl (by rfl) _ _ HZ.out (by kernel_rfl) (by rfl) (by simp [Value.oneCell']) ?_)
  intro w5 hrow5 hg5
  have j1 := cell_of_row _ _ 1 _ _ _ hrow5
  have j5 := cell_of_row _ _ 5 _ _ _ hrow5
  have p3 := cell_grown hg5 (by omega) p2
  have HH := Lib.hid ((HB.out.alloc HB.out.size _).trans (grown_any hg5 (fun k hk => by injection hk with hk; have := HB.out.size; omega) (by have := HB.out.size; simp; omega) : Below w.heap.size _ w5))
  clear hrow5 hg5 p2 HZ
  go_wp2_with fail
  go_ret
  exact ⟨rfl, HH.out⟩
end Go.Proofs.YtdnaknpifinfdaaGreatDoor
