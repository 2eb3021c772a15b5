/-
  The walk of the law's helper that draws a table of counters. Condition: at most a million codes.
-/
import Derived.Test.YtanjggfcahjkfaaNums
import Derived.Test.YtanjggfcahjkfaaPredM
namespace Go.Proofs.Ytanjggfcahjkfaa
open Go.RowKit

def TabPost (g : Nat) (l : List Nat) (w : World) (e : Ending) (w' : World) : Prop :=
  ∃ t v, e = .returned v ∧ 1 ≤ t.length ∧ t.length ≤ 8 ∧ Ctrs t ∧ DR w g l 3 1 v t.length (t.map nv) w'
def TabR (g : Nat) (l : List Nat) (w : World) (m : Nat) (v i : Value) (wr : World) : Prop :=
  ∃ (j : Nat) (t : List Nat), i = .int .i64 (j : Int) ∧ t.length + j = m ∧ Ctrs t ∧ DR w g l 3 1 v t.length (t.map nv) wr
set_option maxRecDepth 10000 in
theorem table_any (g : Nat) (l : List Nat) (k : Nat) (w : World) (hc : Codes w g l k) (hlen : l.length ≤ 1000000) (hl : ∀ x ∈ l, x < 256) :
    Calls Try.prog 9 #[.pointer (some ⟨g, 0, none⟩)] w (TabPost g l w) := by
  have Hc := Lib.hid hc; clear hc
  have Hl := Lib.hid hl; clear hl
  go_enter Try.func9, Try.ntmps9
  go_wp2_with fail
  refine (drawn_any g l k 8 _ Hc.out (by decide) hlen Hl.out).mono ?_
  rintro e w1 ⟨r, k1, rfl, hr, _, hc1, hg1⟩
  have hr8 : r < 8 := by have := hr (by omega); omega
  have Hd := Lib.hid (DR.begun (T := 3) (s := 1) hc1 hg1 (codes_lt Hc.out))
  clear hr hc1 hg1
  go_wp2_with fail
  go_loopw [3, 4] (fun v i wr => TabR g l w (1 + r) v i wr) (fun _ i _ => (intOf i).toNat)
  case atStart => exact ⟨1 + r, [], by simp, by simp, (fun x hx => by cases hx), Hd.out⟩
  case round =>
    obtain ⟨j, t, rfl, hj, ht, hd⟩ := hrel
    obtain ⟨n, hn⟩ : ∃ n, t.length = n := ⟨_, rfl⟩
    rw [hn] at hd hj
    have Hn := Lib.hid hn; clear hn
    have Hd1 := Lib.hid hd; clear hd
    have Ht := Lib.hid ht; clear ht
    by_cases h0 : 0 < j
    · obtain ⟨k2, hc2⟩ := Hd1.out.cod
      have Hc2 := Lib.hid hc2; clear hc2
      have hle : j ≤ 8 := by omega
      go_wp2_with fail
      refine (drawn_any g l k2 4 _ Hc2.out (by decide) hlen Hl.out).mono ?_
      rintro e w2 ⟨x, k3, rfl, hx, _, hc3, hg3⟩
      have hx4 : x < 4 := by have := hx (by omega); omega
      have Hd2 := Lib.hid (Hd1.out.next hc3 hg3)
      clear hx hc3 hg3
      go_wp2_with (at_builtin; refine Pause.out ?_)
      refine Pause.of (wpList_append_nat w2 rfl (.tmp 12) (.tmp 15) rfl w.heap.size _ t n x _ Hn.out rfl rfl rfl Hd2.out.own (by omega) Hd2.out.gro.size ?_)
      intro v' w3 hown hg
      have Hd3 := Lib.hid (Hd2.out.app hown hg)
      clear hown hg
      go_wp2_with fail
      refine ⟨⟨j - 1, t ++ [x], by go_num, by rw [List.length_append, Hn.out]; simp; omega, ?_, ?_⟩, by simp [intOf]; omega⟩
      · intro y hy
        rcases List.mem_append.1 hy with h | h
        · exact Ht.out y h
        · simp at h
          omega
      · rw [List.length_append, Hn.out]
        exact Hd3.out
    · obtain rfl : j = 0 := by omega
      obtain ⟨A, c, rfl, _, _⟩ := own_form Hd1.out.own
      go_wp2_with fail
      go_ret
      exact ⟨t, _, rfl, by have := Hn.out; omega, by have := Hn.out; omega, Ht.out, by rw [Hn.out]; exact Hd1.out⟩
end Go.Proofs.Ytanjggfcahjkfaa
