/-
  How long the texts are that are written for what the maker makes. No condition.
-/
import Derived.Test.YtifabkoomojklaaGreatDoorGen9
namespace Go.Proofs.YtifabkoomojklaaGreatDoor
open Go.RowKit

def LE : Nat → Nat
  | 0 => 33
  | d + 1 => 3 * LE d + 10
theorem le_33 : ∀ d, 33 ≤ LE d
  | 0 => Nat.le_refl _
  | d + 1 => by have := le_33 d; simp only [LE]; omega
theorem signL_two (o : Int) : (signL o).length ≤ 2 := by
  unfold signL
  repeat (split; simp)
  simp
theorem len_one {α : Type} {l : List α} (h : l.length = 1) : ∃ a, l = [a] := by
  match l, h with
  | [a], _ => exact ⟨a, rfl⟩
/-- Operands in a row. -/
theorem lst_len {d N n : Nat} {l : List Ex} (h : ∀ x ∈ l, (fmtE d x).length ≤ N) (hn : l.length ≤ n) : (([44, 32] : Bytes).intercalate (l.map (fmtE d))).length ≤ n * (N + 2) := by
  induction l generalizing n with
  | nil => simp [List.intercalate]
  | cons a r ih =>
    have ha := h a (by simp)
    cases r with
    | nil =>
      have : 1 ≤ n := by simpa using hn
      have h2 : 1 * (N + 2) ≤ n * (N + 2) := Nat.mul_le_mul_right _ this
      simp [List.intercalate]
      omega
    | cons b r =>
      obtain ⟨n, rfl⟩ : ∃ n', n = n' + 1 := ⟨n - 1, by simp at hn; omega⟩
      have hr := ih (n := n) (fun x hx => h x (by simp [hx])) (by simp at hn ⊢; omega)
      have e : ([44, 32] : Bytes).intercalate ((a :: b :: r).map (fmtE d)) = fmtE d a ++ [44, 32] ++ ([44, 32] : Bytes).intercalate ((b :: r).map (fmtE d)) := inter_cons2 _ _ _ _
      rw [e, Nat.add_mul]
      simp at hr ⊢
      omega
theorem leaf_len {d : Nat} {k o a l : Int} {s : ByteArray} (h0 : 0 ≤ a ∧ a < 9223372036854775808) (hs : s.size ≤ 16) (hk : k = 12 ∨ (k = 13 ∧ GoodN s) ∨ k = 1 ∨ (k = 11 ∧ GoodN s)) : (fmtE (d + 1) (.mk k o a l s [])).length ≤ 33 := by
  have hsz : s.data.toList.length = s.size := by simp
  rcases hk with rfl | ⟨rfl, _⟩ | rfl | ⟨rfl, _⟩
  · simp [fmtE]
  · simp [fmtE]; omega
  · have := numL_small (n := (max a 0).toNat) (by omega)
    simp [fmtE]; omega
  · simp [fmtE]; omega
/-- An expression. -/
theorem fmtE_len : ∀ (d : Nat) (x : Ex), GE d x → (fmtE (d + 1) x).length ≤ LE d
  | 0, .mk k o a l s xs, ⟨_, _, _, h3, h4, h5, hxs, hk⟩ => by subst hxs; exact leaf_len ⟨h3, h4⟩ h5 hk
  | d + 1, .mk k o a l s xs, ⟨_, _, _, h3, h4, h5, hk⟩ => by
    have h33 := le_33 d
    rcases hk with ⟨rfl, hk⟩ | ⟨hx, hk⟩
    · have := leaf_len (d := d + 1) (o := o) (l := l) ⟨h3, h4⟩ h5 hk
      simp only [LE]
      omega
    have ih : ∀ x ∈ xs, (fmtE (d + 1) x).length ≤ LE d := fun x hm => fmtE_len d x (hx x hm)
    have hop : ∀ x ∈ xs, (if compK x.kind then 40 :: (fmtE (d + 1) x ++ [41]) else fmtE (d + 1) x).length ≤ LE d + 2 := fun x hm => by
      have := ih x hm
      split <;> simp <;> omega
    have hsz : s.data.toList.length = s.size := by simp
    have hsg := signL_two o
    simp only [LE]
    rcases hk with ⟨rfl, _, _, hl⟩ | ⟨rfl, _, hl⟩ | ⟨rfl, hl⟩ | ⟨rfl, hl⟩ | ⟨rfl, _, hl⟩ | ⟨rfl, _, hl⟩ | ⟨rfl, hl, hl3⟩
    · obtain ⟨x, rfl⟩ := len_one hl
      have hx1 := hop x (by simp)
      simp only [fmtE]
      simp
      omega
    · obtain ⟨x, y, rfl⟩ := len_two hl
      have hx1 := hop x (by simp)
      have hx2 := hop y (by simp)
      simp only [fmtE]
      simp
      omega
    · obtain ⟨x, y, rfl⟩ := len_two hl
      have hx1 := hop x (by simp)
      have hx2 := hop y (by simp)
      simp only [fmtE]
      simp
      omega
    · obtain ⟨x, y, rfl⟩ := len_two hl
      have hx1 := hop x (by simp)
      have hx2 := hop y (by simp)
      simp only [fmtE]
      simp
      omega
    · obtain ⟨x, rfl⟩ := len_one hl
      have hx1 := ih x (by simp)
      simp only [fmtE]
      simp at hsz ⊢
      omega
    · have hl2 := lst_len ih hl
      simp only [fmtE]
      simp at hsz hl2 ⊢
      omega
    · match xs, hl with
      | x :: r, _ =>
        have hx1 := hop x (by simp)
        have hl2 := lst_len (l := r) (n := 2) (fun y hy => ih y (by simp [hy])) (by simp at hl3; omega)
        have hm : ∀ T : Bytes, T.length ≤ LE d + 2 → (if x.kind = 13 ∨ x.kind = 2 ∨ x.kind = 3 then 40 :: (T ++ [41]) else T).length ≤ LE d + 4 := fun T hT => by split <;> (try simp) <;> omega
        have hm1 := hm _ hx1
        simp only [fmtE]
        rw [if_neg (by decide), if_neg (by decide), if_neg (by decide), if_neg (by decide)]
        simp only [List.length_append, List.length_cons, List.length_nil] at hl2 ⊢
        omega
theorem valL_len {es : List Ex} {i : Nat} (h : ∀ x ∈ es, GE 2 x) : (valL 3 es i).length ≤ 337 := by
  unfold valL
  split
  · rename_i x hx
    exact fmtE_len 2 x (h x (List.mem_of_getElem? hx))
  · simp
theorem fm_sum {α : Type} (f : α → Bytes) (c : α → Nat) (K : Nat) : ∀ (l : List α), (∀ x ∈ l, (f x).length ≤ K * c x) → (l.flatMap f).length ≤ K * (l.map c).sum
  | [], _ => by simp
  | a :: r, h => by
    have h1 := h a (by simp)
    have h2 := fm_sum f c K r (fun x hx => h x (by simp [hx]))
    simp only [List.flatMap_cons, List.length_append, List.map_cons, List.sum_cons, Nat.mul_add]
    omega
theorem cK_ten {k : Int} (es : List Ex) (h : k ≠ 2) : 10 ≤ cK k es := by
  unfold cK
  split
  · omega
  · rw [if_neg (fun h2 => h h2.1)]
    omega
/-- A loop's own step. -/
theorem inc_shape : ∀ {es : List Ex}, incE es = true → ∃ a0 l0 s0 o1 a1 l1 s1 o2 l2 s2, es = [.mk 6 3 a0 l0 s0 [.mk 13 o1 a1 l1 s1 [], .mk 1 o2 1 l2 s2 []]] := by
  intro es h
  unfold incE at h
  split at h
  · rename_i k o a0 l0 s0 k1 o1 a1 l1 s1 k2 o2 a l2 s2
    obtain ⟨rfl, rfl, rfl, rfl, rfl⟩ := of_decide_eq_true h
    exact ⟨a0, l0, s0, o1, a1, l1, s1, o2, l2, s2, rfl⟩
  · cases h
theorem numL_one : numL 1 = [49] := by rw [numL, dif_pos (by omega)]; rfl
theorem inc_ge {a0 l0 o1 a1 l1 o2 l2 : Int} {s0 s1 s2 : ByteArray} (h : GE 2 (.mk 6 3 a0 l0 s0 [.mk 13 o1 a1 l1 s1 [], .mk 1 o2 1 l2 s2 []])) : GoodN s1 := by
  obtain ⟨_, _, _, _, _, _, hk⟩ := h
  rcases hk with ⟨hk, _⟩ | ⟨hx, _⟩
  · cases hk
  · obtain ⟨_, _, _, _, _, _, hk⟩ := hx (.mk 13 o1 a1 l1 s1 []) (by simp)
    rcases hk with ⟨_, hk⟩ | ⟨_, hk⟩
    · rcases hk with hk | ⟨_, hk⟩ | hk | ⟨hk, _⟩
      · omega
      · exact hk
      · omega
      · omega
    · rcases hk with ⟨hk, _⟩ | ⟨hk, _⟩ | ⟨hk, _⟩ | ⟨hk, _⟩ | ⟨hk, _⟩ | ⟨hk, _⟩ | ⟨hk, _⟩ <;> omega
theorem inc_len {es : List Ex} (h : incE es = true) (hg : ∀ x ∈ es, GE 2 x) : (valL 3 es 0).length ≤ 22 := by
  obtain ⟨a0, l0, s0, o1, a1, l1, s1, o2, l2, s2, rfl⟩ := inc_shape h
  have hs := (inc_ge (hg _ (List.mem_singleton.2 rfl))).1
  have hsz : s1.data.toList.length = s1.size := by simp
  have e : valL 3 [.mk 6 3 a0 l0 s0 [.mk 13 o1 a1 l1 s1 [], .mk 1 o2 1 l2 s2 []]] 0 = s1.data.toList ++ [32, 43, 32] ++ numL 1 := by
    simp [valL, fmtE, compK, signL, Ex.kind]
    rfl
  rw [e, numL_one]
  simp only [List.length_append, List.length_cons, List.length_nil]
  omega
/-- A statement, with all that is in it. -/
theorem stL_len : ∀ (d : Nat) (t : St) (ind : Bytes), GSt (d + 1) t → ind.length + d ≤ 6 → (stL 3 (fmtB 3 d) ind t).length ≤ 80 * cntS (d + 1) t := by
  intro d
  induction d with
  | zero =>
    intro t ind hg hi
    match t, hg with
    | .mk k l s es ts us, ⟨_, he, ht, hu, hk⟩ =>
      have h0 := valL_len (i := 0) he
      have h1 := valL_len (i := 1) he
      have hsz : s.data.toList.length = s.size := by simp
      have hts : ts = [] := by
        cases ts with
        | nil => rfl
        | cons a r => exact (ht a (by simp)).elim
      have hus : us = [] := by
        cases us with
        | nil => rfl
        | cons a r => exact (hu a (by simp)).elim
      subst hts hus
      simp only [cntS, List.map_nil, List.sum_nil]
      by_cases hk2 : k = 2
      · subst hk2
        have hs1 : s.size ≤ 16 := by
          rcases hk with ⟨h, _⟩ | ⟨_, h, _⟩ | ⟨h, _⟩ | ⟨h, _⟩ | ⟨h, _⟩ | ⟨h, _⟩
          all_goals (first | exact h.1 | omega)
        by_cases hi2 : incE es = true
        · have h3 := inc_len hi2 he
          have hc := (cK_le 2 es).1
          simp [stL] at hsz ⊢
          omega
        · have hc : cK 2 es = 11 := by simp [cK, hi2]
          rw [hc]
          simp [stL] at hsz ⊢
          omega
      · have hc := cK_ten es hk2
        rcases hk with ⟨rfl, hs, _⟩ | ⟨rfl, hs, _⟩ | ⟨rfl, hs, _⟩ | ⟨rfl, hs, _⟩ | ⟨rfl, hs, _⟩ | ⟨rfl | rfl | rfl, hs, _⟩
        all_goals (try have hs1 := hs.1)
        all_goals (simp [stL, fmtB] at hsz ⊢; omega)
  | succ d ih =>
    intro t ind hg hi
    match t, hg with
    | .mk k l s es ts us, ⟨_, he, ht, hu, hk⟩ =>
      have h0 := valL_len (i := 0) he
      have h1 := valL_len (i := 1) he
      have hsz : s.data.toList.length = s.size := by simp
      have hB : ∀ (l : List St), (∀ t ∈ l, GSt (d + 1) t) → (fmtB 3 (d + 1) l (ind ++ [9])).length ≤ 80 * (l.map (cntS (d + 1))).sum := fun l hl => fm_sum _ _ _ l (fun t hm => ih t (ind ++ [9]) (hl t hm) (by simp; omega))
      have hb1 := hB ts ht
      have hb2 := hB us hu
      clear hB
      simp only [cntS]
      by_cases hk2 : k = 2
      · subst hk2
        have hs1 : s.size ≤ 16 := by
          rcases hk with ⟨h, _⟩ | ⟨_, h, _⟩ | ⟨h, _⟩ | ⟨h, _⟩ | ⟨h, _⟩ | ⟨h, _⟩
          all_goals (first | exact h.1 | omega)
        by_cases hi2 : incE es = true
        · have h3 := inc_len hi2 he
          have hc := (cK_le 2 es).1
          simp [stL] at hsz ⊢
          omega
        · have hc : cK 2 es = 11 := by simp [cK, hi2]
          rw [hc]
          simp [stL] at hsz ⊢
          omega
      · have hc := cK_ten es hk2
        rcases hk with ⟨rfl, hs, _⟩ | ⟨rfl, hs, _⟩ | ⟨rfl, hs, _⟩ | ⟨rfl, hs, _⟩ | ⟨rfl, hs, _⟩ | ⟨rfl | rfl | rfl, hs, _⟩
        all_goals (try have hs1 := hs.1)
        all_goals (simp [stL] at hsz ⊢; try split)
        all_goals (try simp)
        all_goals omega
/-- The statements of a block. -/
theorem fmtB_len {d : Nat} {ts : List St} {ind : Bytes} (h : ∀ t ∈ ts, GSt (d + 1) t) (hi : ind.length + d ≤ 6) : (fmtB 3 (d + 1) ts ind).length ≤ 80 * (ts.map (cntS (d + 1))).sum :=
  fm_sum _ _ _ ts (fun t hm => stL_len d t ind (h t hm) hi)
/-- What the maker makes has the shape that the writer asks. -/
theorem gst_shape : ∀ (d : Nat) (t : St), GSt d t → cntS d t ≤ 900 → ShS 3 d t
  | 0, _, h, _ => h.elim
  | d + 1, .mk k l s es ts us, ⟨_, he, ht, hu, hk⟩, hc => by
    have hsum : ∀ (l : List St), (∀ t ∈ l, GSt d t) → l.length ≤ (l.map (cntS d)).sum ∧ ∀ t ∈ l, cntS d t ≤ (l.map (cntS d)).sum := by
      intro l
      induction l with
      | nil => intro _; simp
      | cons a r ih =>
        intro h
        have h1 := ih (fun t hm => h t (by simp [hm]))
        have h2 : 1 ≤ cntS d a := by
          have ha := h a (by simp)
          cases d with
          | zero => exact ha.elim
          | succ d =>
            obtain ⟨k, l, s, es, ts, us⟩ := a
            have := (cK_le k es).1
            simp only [cntS]; omega
        refine ⟨by simp; omega, fun t hm => ?_⟩
        rcases List.mem_cons.1 hm with rfl | hm
        · simp
        · have := h1.2 t hm
          simp
          omega
    have h1 := hsum ts ht
    have h2 := hsum us hu
    simp only [cntS] at hc
    refine ⟨?_, fun x hx => ge_shape 2 x (he x hx), fun t hm => gst_shape d t (ht t hm) (by have := h1.2 t hm; omega), fun t hm => gst_shape d t (hu t hm) (by have := h2.2 t hm; omega), ?_, ?_, by omega, by omega, ?_⟩
    · rcases hk with ⟨_, hs, _⟩ | ⟨_, hs, _⟩ | ⟨_, hs, _⟩ | ⟨_, hs, _⟩ | ⟨_, hs, _⟩ | ⟨_, hs, _⟩
      all_goals (first | (have := hs.1; omega) | omega)
    · omega
    · omega
    · omega
end Go.Proofs.YtifabkoomojklaaGreatDoor
