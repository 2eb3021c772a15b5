/-
  The walk of the reference's writer for lists of expressions. Condition: the text has at most 2^40 bytes.
-/
import Derived.Test.YtifabkoomojklaaGreatDoorExpr
namespace Go.Proofs.YtifabkoomojklaaGreatDoor
open Go.RowKit

def jl (l : List Bytes) : Bytes := ([44, 32] : Bytes).intercalate l
theorem inter_cons2 (sep x y : Bytes) (r : List Bytes) : sep.intercalate (x :: y :: r) = x ++ sep ++ sep.intercalate (y :: r) := by simp [List.intercalate, List.intersperse]
theorem inter_snoc (sep : Bytes) : ∀ (l : List Bytes) (a : Bytes), sep.intercalate (l ++ [a]) = if l = [] then a else sep.intercalate l ++ sep ++ a
  | [], a => by simp [List.intercalate]
  | [x], a => by simp [List.intercalate, List.intersperse]
  | x :: y :: r, a => by
    have ih : sep.intercalate (y :: (r ++ [a])) = sep.intercalate (y :: r) ++ sep ++ a := by
      have := inter_snoc sep (y :: r) a
      rwa [if_neg (by simp)] at this
    rw [if_neg (by simp)]
    show sep.intercalate (x :: y :: (r ++ [a])) = _
    rw [inter_cons2, inter_cons2, ih]
    simp
theorem jl_snoc (l : List Bytes) (a : Bytes) : jl (l ++ [a]) = if l = [] then a else jl l ++ [44, 32] ++ a := inter_snoc _ l a
theorem jl_le (l : List Bytes) (a : Bytes) : (jl l).length ≤ (jl (l ++ [a])).length := by
  rw [jl_snoc]
  split
  · rename_i h; subst h; simp [jl, List.intercalate]
  · simp
theorem jl_take (l : List Bytes) : ∀ k, (jl (l.take k)).length ≤ (jl l).length := by
  have key : ∀ n k, k + n = l.length → (jl (l.take k)).length ≤ (jl l).length := by
    intro n
    induction n with
    | zero => intro k hk; rw [List.take_of_length_le (by omega)]; exact Nat.le_refl _
    | succ n ih =>
      intro k hk
      have h1 := ih (k + 1) (by omega)
      rw [List.take_succ_eq_append_getElem (by omega)] at h1
      exact Nat.le_trans (jl_le _ _) h1
  intro k
  by_cases hk : k ≤ l.length
  · exact key (l.length - k) k (by omega)
  · rw [List.take_of_length_le (by omega)]; exact Nat.le_refl _
theorem jl_get (l : List Bytes) (k : Nat) (a : Bytes) (h : l[k]? = some a) : a.length ≤ (jl l).length ∧ jl (l.take (k + 1)) = if k = 0 then a else jl (l.take k) ++ [44, 32] ++ a := by
  have hlt : k < l.length := by
    rcases Nat.lt_or_ge k l.length with h' | h'
    · exact h'
    · rw [List.getElem?_eq_none h'] at h; cases h
  rw [List.getElem?_eq_getElem hlt] at h
  injection h with h
  have e : jl (l.take (k + 1)) = if k = 0 then a else jl (l.take k) ++ [44, 32] ++ a := by
    rw [List.take_succ_eq_append_getElem hlt, h, jl_snoc]
    by_cases h0 : k = 0
    · subst h0; simp
    · rw [if_neg h0, if_neg (by intro hh; have := congrArg List.length hh; rw [List.length_take, List.length_nil] at this; omega)]
  refine ⟨?_, e⟩
  have h2 := jl_take l (k + 1)
  rw [e] at h2
  split at h2
  · exact h2
  · simp at h2; omega
/-- list under way. -/
def ListRel (w0 : World) (l : List Bytes) (s i : Value) (wr : World) : Prop :=
  ∃ (k : Nat) (t : ByteArray), k ≤ l.length ∧ s = .string t ∧ i = .int .i64 (k : Int) ∧ t.data.toList = 40 :: jl (l.take k) ∧ Below w0.heap.size w0 wr
set_option maxRecDepth 10000 in
set_option maxHeartbeats 1000000 in
theorem list_5 (d : Nat) (ih : ExprC d) : ListC d := by
  intro F xs A c w hr hs hn hl
  obtain ⟨hc, hrow⟩ := hr
  have hl2 : (jl (xs.map (fmtE d))).length ≤ 1099511627776 := by
    refine Nat.le_trans ?_ hl
    unfold lst jl
    simp
    omega
  have hlL : Hid (lst d xs = 40 :: (jl (xs.map (fmtE d)) ++ [41])) := Lib.hid rfl
  have Ih := Lib.hid ih
  have Hrow := Lib.hid hrow
  have Hs := Lib.hid hs
  clear hrow hs ih hl
  generalize lst d xs = L at *
  obtain ⟨n, hnn⟩ : ∃ n, n = xs.length := ⟨_, rfl⟩
  have Hn := Lib.hid hnn
  have hn2 : n ≤ 1000 := by omega
  have hcn : n ≤ c := by omega
  rw [← hnn]
  clear hnn hn hc
  go_enter Tryz.func71, Tryz.ntmps71
  go_wp2_with fail
  go_loopw [3, 4] (fun s i wr => ListRel w (xs.map (fmtE d)) s i wr) (fun _ i _ => n - (intOf i).toNat)
  case atStart => exact ⟨0, _, Nat.zero_le _, rfl, rfl, rfl, Below.refl _ _⟩
  case round =>
    obtain ⟨k, t, hk, rfl, rfl, ht, hb⟩ := hrel
    have Ht := Lib.hid ht
    have Hb := Lib.hid hb
    have hsz := hb.size
    have hkn : k ≤ n := by rw [Hn.out]; simpa using hk
    have htz : t.size ≤ 1099511627777 := by
      rw [size_of ht]
      have := jl_take (xs.map (fmtE d)) k
      simp
      omega
    clear ht hb hk
    by_cases hlt : k < n
    · obtain ⟨x, hx⟩ : ∃ x, xs[k]? = some x := ⟨xs[k]'(by rw [← Hn.out]; exact hlt), List.getElem?_eq_getElem _⟩
      obtain ⟨g, off, c0, c1, c2, c3, c4, c5, rfl, _, e0, e1, e2, e3, e4, e5, hxv⟩ := Hrow.out k x hx
      have hm : (xs.map (fmtE d))[k]? = some (fmtE d x) := by simp [hx]
      obtain ⟨hg1, hg2⟩ := jl_get _ _ _ hm
      have hcall := Ih.out _ x _ wr (ExV.low Hb.out d x _ hxv) (Hs.out x (List.mem_of_getElem? hx)) (Nat.le_trans hg1 hl2)
      have Hcall := Lib.hid hcall
      have hfl := Nat.le_trans hg1 hl2
      have Hg2 := Lib.hid hg2
      have d0 := hold Hb.out e0
      have d1 := hold Hb.out e1
      have d2 := hold Hb.out e2
      have d3 := hold Hb.out e3
      have d4 := hold Hb.out e4
      have d5 := hold Hb.out e5
      clear e0 e1 e2 e3 e4 e5 hxv hm hg1 hg2 hcall hx
      by_cases h0 : k = 0
      · have Hg3 : Hid (jl ((xs.map (fmtE d)).take (k + 1)) = fmtE d x) := Lib.hid (by rw [Hg2.out, if_pos h0])
        have Ht3 : Hid (t.data.toList = [40]) := Lib.hid (by rw [Ht.out, h0]; rfl)
        have hk0 : ¬ 0 < k := by omega
        clear h0 Hg2 Ht
        go_wp2_with fail
        refine Hcall.out.mono ?_
        rintro e w1 ⟨u, rfl, hu, hb1⟩
        have Hb1 := Lib.hid (below_next Hb.out hb1)
        have husz : u.size ≤ 1099511627776 := by rw [size_of hu.out]; exact hfl
        clear hb1 Hcall
        go_wp2_with fail
        exact ⟨⟨k + 1, _, by simp; rw [← Hn.out]; omega, rfl, by go_num, by rw [Hg3.out, ← hu.out]; simp [Ht3.out], Hb1.out⟩, by simp [intOf]; omega⟩
      · have Hg3 : Hid (jl ((xs.map (fmtE d)).take (k + 1)) = jl ((xs.map (fmtE d)).take k) ++ [44, 32] ++ fmtE d x) := Lib.hid (by rw [Hg2.out, if_neg h0])
        have hk0 : 0 < k := by omega
        clear h0 Hg2
        go_wp2_with fail
        refine Hcall.out.mono ?_
        rintro e w1 ⟨u, rfl, hu, hb1⟩
        have Hb1 := Lib.hid (below_next Hb.out hb1)
        have husz : u.size ≤ 1099511627776 := by rw [size_of hu.out]; exact hfl
        clear hb1 Hcall
        go_wp2_with fail
        exact ⟨⟨k + 1, _, by simp; rw [← Hn.out]; omega, rfl, by go_num, by rw [Hg3.out, ← hu.out]; simp [Ht.out], Hb1.out⟩, by simp [intOf]; omega⟩
    · obtain rfl : k = n := by omega
      have HtE : Hid (t.data.toList = 40 :: jl (xs.map (fmtE d))) := Lib.hid (by rw [Ht.out, List.take_of_length_le (by simp; rw [← Hn.out]; exact Nat.le_refl _)])
      clear Ht
      go_wp2_with fail
      go_ret
      exact retStr (by rw [hlL.out]; simp [HtE.out]) Hb.out
end Go.Proofs.YtifabkoomojklaaGreatDoor
