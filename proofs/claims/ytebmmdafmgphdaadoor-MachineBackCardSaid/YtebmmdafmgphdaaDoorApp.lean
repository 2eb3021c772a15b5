/-
  append of bytes: onto a slice whose new row lies in memory of the call's own; onto nil. No condition.
-/
import Derived.Test.YtebmmdafmgphdaaDoorRows
import Derived.Test.YtebmmdafmgphdaaDoorWords
import Derived.Test.YtebmmdafmgphdaaDoorBase
import Derived.WalkLawsBesides
namespace Go.Proofs.YtebmmdafmgphdaaDoor
open Go.RowKit

theorem Tryd.infoU8 : (Tryd.prog.info? 5).map (fun i => (i.zero, i.size, i.bytes)) = some (some (.int .u8 0), 1, 1) := by kernel_rfl

/-- append onto a slice of bytes, where a new one lies in memory of the call's own. -/
theorem wpList_appendB (w : World) {ops : Array Oper} {rest : List Oper} {o : Oper} {a : Act} {Q : Exit → Act → World → Prop} (hgd : o.guard = none) (s x : Operand)
    (ho : o.op = .call { callee := .builtin .append, args := #[s, x], argTypes := #[22, 22] })
    (base : Nat) (v : Value) (xs : List Value) (hs : a.eval s = v) (hown : Sl w base 5 v xs) (A : Option Addr) (m c : Nat) (news : List Value) (hx : a.eval x = .slice A m c) (hm : news.length = m) (hr : Rd w A news) (h1 : ∀ u ∈ news, u.oneCell' = true)
    (h63 : xs.length + m ≤ 140737488355328) (hbase : base ≤ w.heap.size)
    (h : ∀ v' w', Sl w' base 5 v' (xs ++ news) → Below base w w' → wpList Tryd.prog ops Q rest (a.put o.dst v') w') : wpList Tryd.prog ops Q (o :: rest) a w := by
  obtain ⟨i5, hi, hz0, hz1, hz2⟩ := info_parts Tryd.infoU8
  exact wpList_append_sl w hgd s x 22 ho base 5 i5 (.int .u8 0) 1 Tryd.underlying22 hi hz0 hz1 hz2 rfl v xs hs hown A m c news hx hm hr h1 (by unfold maxLen; omega) (by omega) hbase h

/-- append onto nil, something: a new row of the call's own. -/
theorem wpList_appendNew (w : World) {ops : Array Oper} {rest : List Oper} {o : Oper} {a : Act} {Q : Exit → Act → World → Prop} (hgd : o.guard = none) (s x : Operand)
    (ho : o.op = .call { callee := .builtin .append, args := #[s, x], argTypes := #[22, 22] })
    (hs : a.eval s = .slice none 0 0) (A : Option Addr) (m c : Nat) (news : List Value) (hx : a.eval x = .slice A m c) (hm : news.length = m) (hr : Rd w A news) (h1 : ∀ u ∈ news, u.oneCell' = true)
    (h63 : m ≤ 140737488355328) (hne : news ≠ [])
    (h : ∀ g cap cur w', m ≤ cap → w.heap.size ≤ g → w'.heap[g]? = some (.cells cur 5 (0, 0)) → Rd w' (some ⟨g, 0, none⟩) news → Below w.heap.size w w' → cur.size = cap → cur.toList.take m = news → cap ≤ maxLen → wpList Tryd.prog ops Q rest (a.put o.dst (.slice (some ⟨g, 0, none⟩) m cap)) w') : wpList Tryd.prog ops Q (o :: rest) a w := by
  obtain ⟨i5, hi, hz0, hz1, hz2⟩ := info_parts Tryd.infoU8
  obtain ⟨ad, rfl⟩ := hr.some_ hne
  refine wpList_append_own w hgd s x 22 ho w.heap.size 5 i5 (.int .u8 0) 1 1 Tryd.underlying22 hi hz0 hz1 hz2 rfl Nat.one_pos (.slice none 0 0) 0 [] hs (World.ownsRow_nil w _ _ 1) ad m c news hx (by omega) hr.cells h1 (by unfold maxLen; omega) (by omega) (Nat.le_refl _) ?_
  intro v' w' hown hg _
  rcases hown.2 with ⟨_, h0⟩ | ⟨g, cap, cur, rfl, hbg, hcur, hnc, hcm, hsz, htk⟩
  · have := List.length_pos_iff.2 hne
    omega
  · have hr' := Rd.of_own (A := some ⟨g, 0, none⟩) hown
    simp only [Nat.zero_add, List.nil_append, Nat.mul_one] at hr' hnc htk hsz ⊢
    exact h g cap cur w' hnc hbg hcur hr' ((Below.refl _ w).grown hg (Nat.le_refl _) (fun k hk => by simp [Value.ownBlock] at hk)) hsz htk hcm
theorem Sl.bytes {w : World} {base : Nat} {e : TypeId} {v : Value} {xs : List Value} {l : List Nat} (h : Sl w base e v xs) (hx : xs = l.map bv) : ∃ A c, v = .slice A l.length c ∧ Rd w A (l.map bv) ∧ l.length ≤ c := by
  subst hx
  obtain ⟨A, c, rfl, hr, hc⟩ := h.form
  exact ⟨A, c, by simp, hr, by simpa using hc⟩
theorem Sl.bytesN {w : World} {base : Nat} {e : TypeId} {v : Value} {xs : List Value} {l : List Nat} {n : Nat} (h : Sl w base e v xs) (hx : xs = l.map bv) (hn : l.length = n) : ∃ A c, v = .slice A n c ∧ Rd w A (l.map bv) ∧ n ≤ c := by
  subst hn
  exact h.bytes hx
end Go.Proofs.YtebmmdafmgphdaaDoor
