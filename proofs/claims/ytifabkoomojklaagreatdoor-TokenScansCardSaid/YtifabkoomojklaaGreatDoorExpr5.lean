/-
  The contract of the reference's writer for expressions, at every depth. Condition: the text has at most 2^40 bytes.
-/
import Derived.Test.YtifabkoomojklaaGreatDoorExpr4
namespace Go.Proofs.YtifabkoomojklaaGreatDoor
open Go.RowKit

theorem row_first {F : Nat → Prop} {w : World} {d : Nat} {x : Ex} {r : List Ex} {A : Option Addr} {c : Nat} (h : RowE F w d (x :: r) A c) : ∃ g off c0 c1 c2 c3 c4 c5, A = some ⟨g, off, none⟩ ∧ w.cell? ⟨g, off, none⟩ = some c0 ∧ w.cell? ⟨g, off + 1, none⟩ = some c1 ∧ w.cell? ⟨g, off + 2, none⟩ = some c2 ∧ w.cell? ⟨g, off + 3, none⟩ = some c3 ∧ w.cell? ⟨g, off + 4, none⟩ = some c4 ∧ w.cell? ⟨g, off + 5, none⟩ = some c5 ∧ ExV F w d x (.agg #[c0, c1, c2, c3, c4, c5]) := by
  obtain ⟨g, off, c0, c1, c2, c3, c4, c5, hA, _, e0, e1, e2, e3, e4, e5, hx⟩ := h.2 0 x rfl
  exact ⟨g, off, c0, c1, c2, c3, c4, c5, hA, by simpa using e0, by simpa using e1, by simpa using e2, by simpa using e3, by simpa using e4, by simpa using e5, hx⟩
theorem row_second {F : Nat → Prop} {w : World} {d : Nat} {x y : Ex} {r : List Ex} {g off : Nat} {c : Nat} (h : RowE F w d (x :: y :: r) (some ⟨g, off, none⟩) c) : ∃ c0 c1 c2 c3 c4 c5, w.cell? ⟨g, off + 6, none⟩ = some c0 ∧ w.cell? ⟨g, off + 7, none⟩ = some c1 ∧ w.cell? ⟨g, off + 8, none⟩ = some c2 ∧ w.cell? ⟨g, off + 9, none⟩ = some c3 ∧ w.cell? ⟨g, off + 10, none⟩ = some c4 ∧ w.cell? ⟨g, off + 11, none⟩ = some c5 ∧ ExV F w d y (.agg #[c0, c1, c2, c3, c4, c5]) := by
  obtain ⟨g', off', c0, c1, c2, c3, c4, c5, hA, _, e0, e1, e2, e3, e4, e5, hx⟩ := h.2 1 y rfl
  injection hA with hA
  injection hA with h1 h2 _
  subst h1 h2
  exact ⟨c0, c1, c2, c3, c4, c5, by simpa using e0, by simpa using e1, by simpa using e2, by simpa using e3, by simpa using e4, by simpa using e5, hx⟩
theorem row_rest {F : Nat → Prop} {w : World} {d : Nat} {x : Ex} {r : List Ex} {g off : Nat} {c : Nat} (h : RowE F w d (x :: r) (some ⟨g, off, none⟩) c) : RowE F w d r (if c = 1 then some ⟨g, off, none⟩ else some ⟨g, off + 6, none⟩) (c - 1) := by
  have hc := h.1
  simp only [List.length_cons] at hc
  refine ⟨by omega, fun i y hy => ?_⟩
  have hne : c ≠ 1 := by
    intro e
    have : r = [] := List.eq_nil_of_length_eq_zero (by omega)
    rw [this] at hy
    simp at hy
  obtain ⟨g', off', c0, c1, c2, c3, c4, c5, hA, hF, e0, e1, e2, e3, e4, e5, hx⟩ := h.2 (i + 1) y (by simpa using hy)
  injection hA with hA
  injection hA with h1 h2 _
  subst h1 h2
  have e : off + (i + 1) * 6 = off + 6 + i * 6 := by omega
  rw [e] at e0 e1 e2 e3 e4 e5
  exact ⟨g, off + 6, c0, c1, c2, c3, c4, c5, if_neg hne, hF, e0, e1, e2, e3, e4, e5, hx⟩
theorem RowE.low {F : Nat → Prop} {w w' : World} {d : Nat} {xs : List Ex} {A : Option Addr} {c : Nat} (h : RowE F w d xs A c) (hb : Below w.heap.size w w') : RowE (fun k => k < w'.heap.size) w' d xs A c :=
  ⟨h.1, fun i x hi => by
    obtain ⟨g, off, c0, c1, c2, c3, c4, c5, hA, hF, h0, h1, h2, h3, h4, h5, hx⟩ := h.2 i x hi
    exact ⟨g, off, c0, c1, c2, c3, c4, c5, hA, Nat.lt_of_lt_of_le (World.block_lt_of_cell? _ _ h0) hb.size, hold hb h0, hold hb h1, hold hb h2, hold hb h3, hold hb h4, hold hb h5, ExV.low hb d x _ hx⟩⟩
theorem gives_oper {d : Nat} (ih : ExprC d) {F : Nat → Prop} {w : World} {x : Ex} {v : Value} (hx : ExV F w d x v) (hs : ShE d x) (hl : (opd d x).length ≤ 1099511627776) : Gives 70 #[v] (opd d x) w := fun w' hb => operand_5 d ih _ x v w' (ExV.low hb d x v hx) hs hl
theorem gives_sign {o : Int} {w : World} (h0 : 0 ≤ o) (h1 : o ≤ 11) : Gives 69 #[.int .i64 o] (signL o) w := fun w' _ => sign_5 o w' h0 h1
theorem gives_list {d : Nat} (ih : ExprC d) {F : Nat → Prop} {w : World} {xs : List Ex} {A : Option Addr} {c n : Nat} (hn : xs.length = n) (hx : RowE F w d xs A c) (hs : ∀ x ∈ xs, ShE d x) (h1 : xs.length ≤ 1000) (hl : (lst d xs).length ≤ 1099511627776) : Gives 71 #[.slice A n c] (lst d xs) w := fun w' hb => by
  subst hn
  exact list_5 d ih _ xs A c w' (hx.low hb) hs h1 hl
theorem len_two {α : Type} {l : List α} (h : l.length = 2) : ∃ a b, l = [a, b] := by
  match l, h with
  | [a, b], _ => exact ⟨a, b, rfl⟩
theorem signL_le (o : Int) : (signL o).length ≤ 1099511627776 := by
  unfold signL
  repeat' split
  all_goals simp
set_option maxRecDepth 10000 in
theorem expr_step (d : Nat) (ih : ExprC d) : ExprC (d + 1) := by
  intro F x v w hx hs hl
  match x, hx, hs with
  | .mk k o a l s xs, ⟨A, c, hv, hr⟩, ⟨hn, hsz, _, ha, ho0, ho1, hsub, hk⟩ =>
    subst hv
    rcases hk with rfl | rfl | rfl | rfl | rfl | rfl | ⟨rfl, h1⟩ | ⟨rfl, h1⟩ | ⟨rfl, h2⟩ | ⟨rfl, h2⟩ | ⟨rfl, h2⟩ | rfl | ⟨rfl, h1⟩
    · exact expr_plain 1 o a l s A xs.length c w _ ha hsz (.inl ⟨rfl, rfl⟩)
    · exact expr_plain 13 o a l s A xs.length c w _ ha hsz (.inr (.inl ⟨.inl rfl, rfl⟩))
    · exact expr_plain 2 o a l s A xs.length c w _ ha hsz (.inr (.inl ⟨.inr (.inl rfl), rfl⟩))
    · exact expr_plain 3 o a l s A xs.length c w _ ha hsz (.inr (.inl ⟨.inr (.inr rfl), rfl⟩))
    · exact expr_plain 12 o a l s A xs.length c w _ ha hsz (.inr (.inr (.inl ⟨rfl, rfl⟩)))
    · exact expr_plain 11 o a l s A xs.length c w _ ha hsz (.inr (.inr (.inr ⟨rfl, rfl⟩)))
    · obtain ⟨y, rfl⟩ := List.length_eq_one_iff.1 h1
      obtain ⟨g, off, c0, c1, c2, c3, c4, c5, rfl, e0, e1, e2, e3, e4, e5, hy⟩ := row_first hr
      have hL : (fmtE d y).length ≤ 1099511627776 := by
        have : fmtE (d + 1) (.mk 4 o a l s [y]) = s.data.toList ++ 91 :: (fmtE d y ++ [93]) := rfl
        rw [this] at hl
        simp at hl
        omega
      exact expr_elem o a l s g off c c0 c1 c2 c3 c4 c5 w (fmtE d y) hsz hL e0 e1 e2 e3 e4 e5 (fun w' hb => ih _ y _ w' (ExV.low hb d y _ hy) (hsub y (by simp)) hL)
    · obtain ⟨y, rfl⟩ := List.length_eq_one_iff.1 h1
      obtain ⟨g, off, c0, c1, c2, c3, c4, c5, rfl, e0, e1, e2, e3, e4, e5, hy⟩ := row_first hr
      have hL : (opd d y).length ≤ 1099511627776 := by
        have : fmtE (d + 1) (.mk 5 o a l s [y]) = signL o ++ opd d y := rfl
        rw [this] at hl
        simp at hl
        omega
      exact expr_unary o a l s g off c c0 c1 c2 c3 c4 c5 w (signL o) (opd d y) (signL_le o) hL e0 e1 e2 e3 e4 e5 (gives_sign ho0 ho1) (gives_oper ih hy (hsub y (by simp)) hL)
    · obtain ⟨y, z, rfl⟩ := len_two h2
      obtain ⟨g, off, c0, c1, c2, c3, c4, c5, rfl, e0, e1, e2, e3, e4, e5, hy⟩ := row_first hr
      obtain ⟨b0, b1, b2, b3, b4, b5, f0, f1, f2, f3, f4, f5, hz⟩ := row_second hr
      have : fmtE (d + 1) (.mk 6 o a l s [y, z]) = opd d y ++ 32 :: (signL o ++ 32 :: opd d z) := rfl
      rw [this] at hl
      have hL : (opd d y).length ≤ 1099511627776 := by simp at hl; omega
      have hM : (opd d z).length ≤ 1099511627776 := by simp at hl; omega
      exact expr_binary o a l s g off c c0 c1 c2 c3 c4 c5 b0 b1 b2 b3 b4 b5 w (opd d y) (signL o) (opd d z) hL (signL_le o) hM e0 e1 e2 e3 e4 e5 f0 f1 f2 f3 f4 f5 (gives_oper ih hy (hsub y (by simp)) hL) (gives_sign ho0 ho1) (gives_oper ih hz (hsub z (by simp)) hM)
    · obtain ⟨y, z, rfl⟩ := len_two h2
      obtain ⟨g, off, c0, c1, c2, c3, c4, c5, rfl, e0, e1, e2, e3, e4, e5, hy⟩ := row_first hr
      obtain ⟨b0, b1, b2, b3, b4, b5, f0, f1, f2, f3, f4, f5, hz⟩ := row_second hr
      have : fmtE (d + 1) (.mk 7 o a l s [y, z]) = opd d y ++ [32, 38, 38, 32] ++ opd d z := rfl
      rw [this] at hl
      have hL : (opd d y).length ≤ 1099511627776 := by simp at hl; omega
      have hM : (opd d z).length ≤ 1099511627776 := by simp at hl; omega
      exact expr_and o a l s g off c c0 c1 c2 c3 c4 c5 b0 b1 b2 b3 b4 b5 w (opd d y) (opd d z) hL hM e0 e1 e2 e3 e4 e5 f0 f1 f2 f3 f4 f5 (gives_oper ih hy (hsub y (by simp)) hL) (gives_oper ih hz (hsub z (by simp)) hM)
    · obtain ⟨y, z, rfl⟩ := len_two h2
      obtain ⟨g, off, c0, c1, c2, c3, c4, c5, rfl, e0, e1, e2, e3, e4, e5, hy⟩ := row_first hr
      obtain ⟨b0, b1, b2, b3, b4, b5, f0, f1, f2, f3, f4, f5, hz⟩ := row_second hr
      have : fmtE (d + 1) (.mk 8 o a l s [y, z]) = opd d y ++ [32, 124, 124, 32] ++ opd d z := rfl
      rw [this] at hl
      have hL : (opd d y).length ≤ 1099511627776 := by simp at hl; omega
      have hM : (opd d z).length ≤ 1099511627776 := by simp at hl; omega
      exact expr_or o a l s g off c c0 c1 c2 c3 c4 c5 b0 b1 b2 b3 b4 b5 w (opd d y) (opd d z) hL hM e0 e1 e2 e3 e4 e5 f0 f1 f2 f3 f4 f5 (gives_oper ih hy (hsub y (by simp)) hL) (gives_oper ih hz (hsub z (by simp)) hM)
    · have : fmtE (d + 1) (.mk 9 o a l s xs) = s.data.toList ++ lst d xs := by cases xs with | nil => rfl | cons a b => cases b with | nil => rfl | cons c e => cases e <;> rfl
      rw [this] at hl ⊢
      have hL : (lst d xs).length ≤ 1099511627776 := by simp at hl; omega
      exact expr_call o a l s A xs.length c w (lst d xs) hsz hL (gives_list ih rfl hr hsub hn hL)
    · match xs, hr, h1 with
      | y :: r, hr, _ =>
        obtain ⟨g, off, c0, c1, c2, c3, c4, c5, rfl, e0, e1, e2, e3, e4, e5, hy⟩ := row_first hr
        have hf : fmtE (d + 1) (.mk 10 o a l s (y :: r)) = (if y.kind = 13 ∨ y.kind = 2 ∨ y.kind = 3 then 40 :: (opd d y ++ [41]) else opd d y) ++ lst d r := by cases r with | nil => rfl | cons c e => cases e <;> rfl
        rw [hf] at hl ⊢
        have hL : (opd d y).length ≤ 1099511627776 := by split at hl <;> simp at hl <;> omega
        have hM : (lst d r).length ≤ 1099511627776 := by split at hl <;> simp at hl <;> omega
        cases d with
        | zero => exact hy.elim
        | succ d =>
          match y, hy, hsub with
          | .mk k1 o1 a1 l1 s1 ys, ⟨A1, m1, hv, hr1⟩, hsub =>
            injection hv with hv
            injection hv with hv
            injection hv with h0 hv
            injection hv with h1 hv
            injection hv with h2 hv
            injection hv with h3 hv
            injection hv with h4 hv
            injection hv with h5 _
            subst h0 h1 h2 h3 h4 h5
            refine expr_value o a l k1 o1 a1 l1 s s1 A1 ys.length m1 g off c r.length w _ _ _ hL hM hr.1 (by simp at hn; omega) e0 e1 e2 e3 e4 e5 (gives_oper ih ⟨A1, m1, rfl, hr1⟩ (hsub _ (by simp)) hL) (gives_list ih rfl (row_rest hr) (fun x hx => hsub x (by simp [hx])) (by simp at hn; omega) hM) ?_
            by_cases hk : k1 = 13 ∨ k1 = 2 ∨ k1 = 3
            · exact .inl ⟨hk, by rw [show (Ex.mk k1 o1 a1 l1 s1 ys).kind = k1 from rfl, if_pos hk]⟩
            · exact .inr ⟨hk, by rw [show (Ex.mk k1 o1 a1 l1 s1 ys).kind = k1 from rfl, if_neg hk]⟩
theorem expr_5 : ∀ d, ExprC d
  | 0 => fun _ _ _ _ h => h.elim
  | d + 1 => expr_step d (expr_5 d)
end Go.Proofs.YtifabkoomojklaaGreatDoor
