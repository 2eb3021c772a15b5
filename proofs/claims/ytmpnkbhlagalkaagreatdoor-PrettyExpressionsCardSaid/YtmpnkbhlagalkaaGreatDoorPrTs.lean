/-
  The writer of package pretty at every depth, Expr, and SameExpr at a tree and the same tree in line 1. Condition: strconv's table of powers lies where it was laid.
-/
import Derived.Test.YtmpnkbhlagalkaaGreatDoorPrKind
import Derived.Test.YtmpnkbhlagalkaaGreatDoorPrBk
namespace Go.Proofs.YtmpnkbhlagalkaaGreatDoor
open Go.RowKit

theorem opd_opk (n : Nat) (x : Ex) : opd n x = opk n (compK x.kind) x := rfl
theorem two_of {α : Type} {xs : List α} (h : xs.length = 2) : ∃ x y, xs = [x, y] := by
  match xs, h with
  | [x, y], _ => exact ⟨x, y, rfl⟩
theorem one_of {α : Type} {xs : List α} (h : xs.length = 1) : ∃ x, xs = [x] := by
  match xs, h with
  | [x], _ => exact ⟨x, rfl⟩
set_option maxHeartbeats 1000000 in
theorem expr_next {n : Nat} (ih : PrC n) : PrC (n + 1) := by
  intro F x v B p dp l W hx hF hs hw hl
  obtain ⟨k, o, a, ln, s, xs, rfl⟩ : ∃ k o a ln s xs, x = .mk k o a ln s xs := by
    cases x
    exact ⟨_, _, _, _, _, _, rfl⟩
  obtain ⟨A, c, rfl, hr⟩ := exV_iff.1 hx
  obtain ⟨h1, h2, h3, h4, h5, h6, h7, hk⟩ := hs
  rcases hk with rfl | rfl | rfl | rfl | rfl | rfl | ⟨rfl, hk⟩ | ⟨rfl, hk⟩ | ⟨rfl, hk⟩ | ⟨rfl, hk⟩ | ⟨rfl, hk⟩ | rfl | ⟨rfl, hk⟩
  · have e : fmtE (n + 1) (.mk 1 o a ln s xs) = numL a.toNat := by
      have : max a 0 = a := by omega
      simp [fmtE, this]
    rw [e] at hl ⊢
    exact pr_num1 F (n + 1) _ o a ln s A _ c B p dp l W hx hF hw h3 h4 hl
  · have e : fmtE (n + 1) (.mk 13 o a ln s xs) = s.data.toList := by simp [fmtE]
    rw [e] at hl ⊢
    exact pr_name13 F (n + 1) _ o a ln s A _ c B p dp l W hx hF hw hl
  · have e : fmtE (n + 1) (.mk 2 o a ln s xs) = s.data.toList := by simp [fmtE]
    rw [e] at hl ⊢
    exact pr_name2 F (n + 1) _ o a ln s A _ c B p dp l W hx hF hw hl
  · have e : fmtE (n + 1) (.mk 3 o a ln s xs) = s.data.toList := by simp [fmtE]
    rw [e] at hl ⊢
    exact pr_name3 F (n + 1) _ o a ln s A _ c B p dp l W hx hF hw hl
  · have e : fmtE (n + 1) (.mk 12 o a ln s xs) = [114, 101, 97, 100] := by simp [fmtE]
    rw [e] at hl ⊢
    exact pr_read12 F (n + 1) _ o a ln s A _ c B p dp l W hx hF hw hl
  · have e : fmtE (n + 1) (.mk 11 o a ln s xs) = 38 :: s.data.toList := by simp [fmtE]
    rw [e] at hl ⊢
    exact pr_func11 F (n + 1) _ o a ln s A _ c B p dp l W hx hF hw h2 hl
  · obtain ⟨y, rfl⟩ := one_of hk
    obtain ⟨g, off, k1, o1, a1, l1, s1, A1, m1, c1, rfl, hy⟩ := kid_get (i := 0) hr rfl
    have e : fmtE (n + 1) (.mk 4 o a ln s [y]) = s.data.toList ++ 91 :: (fmtE n y ++ [93]) := by simp [fmtE]
    rw [e] at hl ⊢
    exact pr_elem4 ih F (n + 1) _ y o a ln s g off c B p dp l W k1 o1 a1 l1 s1 A1 m1 c1 hx hF hw hy h2 (h7 y (by simp)) hl
  · obtain ⟨y, rfl⟩ := one_of hk
    obtain ⟨g, off, k1, o1, a1, l1, s1, A1, m1, c1, rfl, hy⟩ := kid_get (i := 0) hr rfl
    have e : fmtE (n + 1) (.mk 5 o a ln s [y]) = signL o ++ opk n (compK k1) y := by rw [← hy.kd]; simp [fmtE, opk]
    rw [e] at hl ⊢
    exact pr_unary5 ih F (n + 1) _ y o a ln s g off c B p dp l W k1 o1 a1 l1 s1 A1 m1 c1 hx hF hw hy h5 h6 (h7 y (by simp)) hl
  · obtain ⟨y, z, rfl⟩ := two_of hk
    obtain ⟨g, off, k1, o1, a1, l1, s1, A1, m1, c1, rfl, hy⟩ := kid_get (i := 0) hr rfl
    obtain ⟨g', off', k2, o2, a2, l2, s2, A2, m2, c2, hA, hz⟩ := kid_get (i := 1) hr rfl
    injection hA with hA
    injection hA with q1 q2 _
    subst q1 q2
    have e : fmtE (n + 1) (.mk 6 o a ln s [y, z]) = opk n (compK k1) y ++ 32 :: (sgnK 6 o ++ 32 :: opk n (compK k2) z) := by rw [← hy.kd, ← hz.kd]; simp [fmtE, opk, sgnK]
    rw [e] at hl ⊢
    exact pr_bin6 ih F (n + 1) _ y z o a ln s g off c B p dp l W k1 o1 a1 l1 s1 A1 m1 c1 k2 o2 a2 l2 s2 A2 m2 c2 hx hF hw hy hz h5 h6 (h7 y (by simp)) (h7 z (by simp)) hl
  · obtain ⟨y, z, rfl⟩ := two_of hk
    obtain ⟨g, off, k1, o1, a1, l1, s1, A1, m1, c1, rfl, hy⟩ := kid_get (i := 0) hr rfl
    obtain ⟨g', off', k2, o2, a2, l2, s2, A2, m2, c2, hA, hz⟩ := kid_get (i := 1) hr rfl
    injection hA with hA
    injection hA with q1 q2 _
    subst q1 q2
    have e : fmtE (n + 1) (.mk 7 o a ln s [y, z]) = opk n (compK k1) y ++ 32 :: (sgnK 7 o ++ 32 :: opk n (compK k2) z) := by rw [← hy.kd, ← hz.kd]; simp [fmtE, opk, sgnK]
    rw [e] at hl ⊢
    exact pr_bin7 ih F (n + 1) _ y z o a ln s g off c B p dp l W k1 o1 a1 l1 s1 A1 m1 c1 k2 o2 a2 l2 s2 A2 m2 c2 hx hF hw hy hz h5 h6 (h7 y (by simp)) (h7 z (by simp)) hl
  · obtain ⟨y, z, rfl⟩ := two_of hk
    obtain ⟨g, off, k1, o1, a1, l1, s1, A1, m1, c1, rfl, hy⟩ := kid_get (i := 0) hr rfl
    obtain ⟨g', off', k2, o2, a2, l2, s2, A2, m2, c2, hA, hz⟩ := kid_get (i := 1) hr rfl
    injection hA with hA
    injection hA with q1 q2 _
    subst q1 q2
    have e : fmtE (n + 1) (.mk 8 o a ln s [y, z]) = opk n (compK k1) y ++ 32 :: (sgnK 8 o ++ 32 :: opk n (compK k2) z) := by rw [← hy.kd, ← hz.kd]; simp [fmtE, opk, sgnK]
    rw [e] at hl ⊢
    exact pr_bin8 ih F (n + 1) _ y z o a ln s g off c B p dp l W k1 o1 a1 l1 s1 A1 m1 c1 k2 o2 a2 l2 s2 A2 m2 c2 hx hF hw hy hz h5 h6 (h7 y (by simp)) (h7 z (by simp)) hl
  · have e : fmtE (n + 1) (.mk 9 o a ln s xs) = s.data.toList ++ lst n xs := by simp [fmtE, lst]
    rw [e] at hl ⊢
    exact pr_call9 F (n + 1) n ih _ o a ln s A _ c B p dp l W hx hF hw xs hr h7 rfl h1 hl
  · match xs, hk with
    | y :: xs, _ =>
      obtain ⟨g, off, k1, o1, a1, l1, s1, A1, m1, c1, rfl, hy⟩ := kid_get (i := 0) hr rfl
      have e : fmtE (n + 1) (.mk 10 o a ln s (y :: xs)) = opk n (compK k1 || [13, 2, 3].contains k1) y ++ lst n xs := by
        rw [← hy.kd]
        by_cases hc : compK y.kind = true
        · have h13 : ¬ (y.kind = 13 ∨ y.kind = 2 ∨ y.kind = 3) := by
            intro h
            rcases h with h | h | h <;> (rw [h] at hc; revert hc; decide)
          simp only [fmtE, opk, hc, Bool.true_or, if_true]
          rw [if_neg (by decide), if_neg (by decide), if_neg (by decide), if_neg (by decide), if_neg h13]
          rfl
        · have hc : compK y.kind = false := by simpa using hc
          by_cases h13 : y.kind = 13 ∨ y.kind = 2 ∨ y.kind = 3
          · have h13' : ([13, 2, 3] : List Int).contains y.kind = true := by simpa using h13
            simp only [fmtE, opk, hc, h13', Bool.false_or, if_true]
            rw [if_neg (by decide), if_neg (by decide), if_neg (by decide), if_neg (by decide), if_pos h13]
            rfl
          · have h13' : ([13, 2, 3] : List Int).contains y.kind = false := by
              rw [← Bool.not_eq_true, List.contains_iff_mem]
              simpa using h13
            simp only [fmtE, opk, hc, h13', Bool.false_or]
            rw [if_neg (by decide), if_neg (by decide), if_neg (by decide), if_neg (by decide), if_neg h13]
            rfl
      rw [e] at hl ⊢
      exact pr_val10 ih F (n + 1) _ y o a ln s g off _ c B p dp l W k1 o1 a1 l1 s1 A1 m1 c1 hx hF hw xs hr hy (fun z hz => h7 z (by simp [hz])) (h7 y (by simp)) rfl h1 _ rfl hl
theorem expr_pr : ∀ n, PrC n
  | 0 => fun _ _ _ _ _ _ _ _ _ _ hs => hs.elim
  | n + 1 => expr_next (expr_pr n)
set_option maxRecDepth 100000 in
set_option maxHeartbeats 2000000 in
/-- Expr of package pretty. -/
theorem prExpr_any (F : Nat → Prop) (n : Nat) (x : Ex) (k o a ln : Int) (s : ByteArray) (A : Option Addr) (m c : Nat) (W : World) (hx : ExV F W n x (.agg #[.int .i64 k, .int .i64 o, .int .i64 a, .int .i64 ln, .string s, .slice A m c])) (hF : ∀ q, F q → q < W.heap.size) (hs : ShP n x) (ht : PowT W) (hg : 1 < W.heap.size) (hl : (fmtE n x).length ≤ 1099511627776) (hne : fmtE n x ≠ []) :
    Calls Tryz.prog 8 #[.agg #[.int .i64 k, .int .i64 o, .int .i64 a, .int .i64 ln, .string s, .slice A m c]] W (RetStr (fmtE n x) W) := by
  obtain ⟨R, hR⟩ : ∃ R : Array Value, R = #[.int .i64 k, .int .i64 o, .int .i64 a, .int .i64 ln, .string s, .slice A m c] := ⟨_, rfl⟩
  have hb0 := (Below.refl _ W).alloc (Nat.le_refl _) (.cells R 30)
  have hb1 := hb0.alloc (by simp) (.cells #[.pointer none, .slice none 0 0, .int .i64 0] 48)
  have hsz : ((W.alloc (.cells R 30)).alloc (.cells #[.pointer none, .slice none 0 0, .int .i64 0] 48)).heap.size = W.heap.size + 1 + 1 := by simp
  have hr0 : ((W.alloc (.cells R 30)).alloc (.cells #[.pointer none, .slice none 0 0, .int .i64 0] 48)).heap[W.heap.size]? = some (.cells R 30 (0, 0)) :=
    (((Below.refl _ (W.alloc (.cells R 30))).alloc (Nat.le_refl _) _).block W.heap.size (by simp)).trans (heap_alloc_new W _)
  have hr1 : ((W.alloc (.cells R 30)).alloc (.cells #[.pointer none, .slice none 0 0, .int .i64 0] 48)).heap[W.heap.size + 1]? = some (.cells #[.pointer none, .slice none 0 0, .int .i64 0] 48 (0, 0)) := by
    have := heap_alloc_new (W.alloc (.cells R 30)) (.cells #[.pointer none, .slice none 0 0, .int .i64 0] 48)
    simpa using this
  have hw : Wri (W.heap.size + 1) (W.heap.size + 1) 0 [] ((W.alloc (.cells R 30)).alloc (.cells #[.pointer none, .slice none 0 0, .int .i64 0] 48)) := ⟨.inl ⟨Nat.le_refl _, _, hr1, World.ownsRow_nil _ _ _ _⟩, ht.next (hb1.mono (Nat.le_refl _)) hg, by omega⟩
  have hx1 := hx.keep (G := F) (fun _ h => h) (fun q hq => hb1.block q (hF q hq))
  have HX := Lib.hid (expr_pr n F x _ (W.heap.size + 1) (W.heap.size + 1) 0 [] _ hx1 (fun q hq => Nat.lt_succ_of_lt (hF q hq)) hs hw (by simpa using hl))
  subst hR
  have j0 := cell_of_row _ _ 0 _ _ _ hr0
  have j1 := cell_of_row _ _ 1 _ _ _ hr0
  have j2 := cell_of_row _ _ 2 _ _ _ hr0
  have j3 := cell_of_row _ _ 3 _ _ _ hr0
  have j4 := cell_of_row _ _ 4 _ _ _ hr0
  have j5 := cell_of_row _ _ 5 _ _ _ hr0
  have HB := Lib.hid hb1
  have HNE := Lib.hid hne
  clear hb0 hb1 hr0 hr1 hw hx1 hx hF hs ht hl hsz hne hg
  go_enter Tryz.func8, Tryz.ntmps8
  go_wp2_with fail
  refine HX.out.mono ?_
  rintro e w1 ⟨rfl, hw1, hk1⟩
  have HT := Lib.hid (wr_text _ _ _ (fmtE n x) w1 hw1.out.wr HNE.out)
  have hlt := hw1.out.wr.lt
  clear HX j0 j1 j2 j3 j4 j5
  go_wp2_with fail
  refine HT.out.mono ?_
  rintro e w2 ⟨rfl, hb2⟩
  have HB2 := Lib.hid (HB.out.trans ((hk1.out.bel.trans hb2).mono (Nat.le_succ _)))
  clear hb2 HT
  go_wp2_with fail
  go_ret
  exact retStr (by simp) HB2.out
end Go.Proofs.YtmpnkbhlagalkaaGreatDoor
namespace Go.Proofs.YtmpnkbhlagalkaaGreatDoor
open Go.RowKit

/-- A tree and the same tree in line 1 are the same, at a depth. -/
def SmT (n : Nat) : Prop := ∀ (F G : Nat → Prop) (x : Ex) (vx vy : Value) (W : World), ExV F W n x vx → ExV G W n (rlX x) vy → (∀ q, F q → q < W.heap.size) → (∀ q, G q → q < W.heap.size) → ShP n x → Calls Tryz.prog 9 #[vx, vy] W (RetV (.bool true) W)
theorem rlL_len : ∀ xs : List Ex, (rlL xs).length = xs.length
  | [] => rfl
  | x :: r => by simp [rlL, rlL_len r]
theorem rlL_get : ∀ (xs : List Ex) (i : Nat) (x : Ex), xs[i]? = some x → (rlL xs)[i]? = some (rlX x)
  | [], i, x, h => by simp at h
  | y :: r, 0, x, h => by simp at h; subst h; simp [rlL]
  | y :: r, i + 1, x, h => by simpa [rlL] using rlL_get r i x (by simpa using h)
set_option maxRecDepth 100000 in
set_option maxHeartbeats 2000000 in
theorem equalFunc_any {n : Nat} (ih : SmT n) (F G : Nat → Prop) (xs : List Ex) (A1 A2 : Option Addr) (c1 c2 m : Nat) (W : World) (h1 : RowE F W n xs A1 c1) (h2 : RowE G W n (rlL xs) A2 c2) (hF : ∀ q, F q → q < W.heap.size) (hG : ∀ q, G q → q < W.heap.size) (hs : ∀ x ∈ xs, ShP n x) (hm : xs.length = m) (hm1 : m ≤ 1000) :
    Calls Tryz.prog 15 #[.slice A1 m c1, .slice A2 m c2, .func (.func 9) #[] #[]] W (RetV (.bool true) W) := by
  have hc1 : m ≤ c1 := by have := h1.1; omega
  have hc2 : m ≤ c2 := by have := h2.1; rw [rlL_len] at this; omega
  have H1 := Lib.hid h1
  have H2 := Lib.hid h2
  have HF := Lib.hid hF
  have HG := Lib.hid hG
  have HS := Lib.hid hs
  have HM := Lib.hid hm
  have Ih := Lib.hid ih
  clear h1 h2 hF hG hs hm ih
  go_enter Tryz.func15, Tryz.ntmps15
  go_wp2_with fail
  go_loopw [17] (fun i wr => ∃ k : Nat, k ≤ m ∧ i = .int .i64 (k : Int) ∧ Below W.heap.size W wr) (fun i _ => m - (intOf i).toNat)
  case atStart => exact ⟨0, Nat.zero_le _, rfl, Below.refl _ _⟩
  case round =>
    obtain ⟨k, hk, rfl, hb⟩ := hrel
    have Hb := Lib.hid hb
    have hsz := hb.size
    clear hb
    by_cases hlt : k < m
    · obtain ⟨x, hx⟩ : ∃ x, xs[k]? = some x := ⟨xs[k]'(by rw [HM.out]; exact hlt), List.getElem?_eq_getElem _⟩
      obtain ⟨g, off, kk, o, a, ln, s, A', m', c', rfl, hg, e0, e1, e2, e3, e4, e5, hv, -⟩ := row_get H1.out hx
      obtain ⟨g2, off2, kk2, o2, a2, ln2, s2, A2', m2', c2', rfl, hg2, u0, u1, u2, u3, u4, u5, hv2, -⟩ := row_get H2.out (rlL_get xs k x hx)
      have q1 := HF.out g hg
      have q2 := HG.out g2 hg2
      have d0 := hold Hb.out e0
      have d1 := hold Hb.out e1
      have d2 := hold Hb.out e2
      have d3 := hold Hb.out e3
      have d4 := hold Hb.out e4
      have d5 := hold Hb.out e5
      have v0 := hold Hb.out u0
      have v1 := hold Hb.out u1
      have v2 := hold Hb.out u2
      have v3 := hold Hb.out u3
      have v4 := hold Hb.out u4
      have v5 := hold Hb.out u5
      have hb1 := (Below.refl _ wr).alloc (Nat.le_refl _) (.cells #[.int .i64 kk, .int .i64 o, .int .i64 a, .int .i64 ln, .string s, .slice A' m' c'] 30)
      have hb2 := hb1.alloc (by simp) (.cells #[.int .i64 kk2, .int .i64 o2, .int .i64 a2, .int .i64 ln2, .string s2, .slice A2' m2' c2'] 30)
      have hbw := below_next Hb.out hb2
      have HC := Lib.hid (Ih.out F G x _ _ _ (hv.keep (G := F) (fun _ h => h) (fun q hq => hbw.block q (HF.out q hq))) (hv2.keep (G := G) (fun _ h => h) (fun q hq => hbw.block q (HG.out q hq))) (fun q hq => Nat.lt_of_lt_of_le (HF.out q hq) hbw.size) (fun q hq => Nat.lt_of_lt_of_le (HG.out q hq) hbw.size) (HS.out x (List.mem_of_getElem? hx)))
      have HBW := Lib.hid hbw
      have z0 := hold hb1 v0
      have z1 := hold hb1 v1
      have z2 := hold hb1 v2
      have z3 := hold hb1 v3
      have z4 := hold hb1 v4
      have z5 := hold hb1 v5
      clear e0 e1 e2 e3 e4 e5 u0 u1 u2 u3 u4 u5 hv hv2 hx hg hg2 hb1 hb2 hbw
      go_wp2_with fail
      refine HC.out.mono ?_
      rintro e w3 ⟨rfl, hb3⟩
      have hbe := below_next HBW.out hb3
      clear HC HBW hb3 z0 z1 z2 z3 z4 z5 d0 d1 d2 d3 d4 d5 v0 v1 v2 v3 v4 v5
      go_wp2_with fail
      exact ⟨⟨k + 1, by omega, by go_num, hbe⟩, by simp [intOf]; omega⟩
    · go_wp2_with fail
      go_ret
      exact ⟨rfl, Hb.out⟩
set_option maxRecDepth 100000 in
set_option maxHeartbeats 2000000 in
theorem same_next {n : Nat} (ih : SmT n) : SmT (n + 1) := by
  intro F G x vx vy W hx hy hF hG hs
  obtain ⟨k, o, a, ln, s, xs, rfl⟩ : ∃ k o a ln s xs, x = .mk k o a ln s xs := by
    cases x
    exact ⟨_, _, _, _, _, _, rfl⟩
  obtain ⟨A1, c1, rfl, hr1⟩ := exV_iff.1 hx
  obtain ⟨A2, c2, rfl, hr2⟩ := exV_iff.1 (show ExV G W (n + 1) (.mk k o a 1 s (rlL xs)) vy from hy)
  obtain ⟨h1, -, -, -, -, -, h7, -⟩ := hs
  rw [rlL_len]
  obtain ⟨m, hm⟩ : ∃ m, xs.length = m := ⟨_, rfl⟩
  rw [hm] at h1 ⊢
  obtain ⟨C1, hC1⟩ : ∃ C : Array Value, C = #[.int .i64 k, .int .i64 o, .int .i64 a, .int .i64 ln, .string s, .slice A1 m c1] := ⟨_, rfl⟩
  obtain ⟨C2, hC2⟩ : ∃ C : Array Value, C = #[.int .i64 k, .int .i64 o, .int .i64 a, .int .i64 1, .string s, .slice A2 m c2] := ⟨_, rfl⟩
  have hb1 := (Below.refl _ W).alloc (Nat.le_refl _) (.cells C1 30)
  have hb2 := hb1.alloc (by simp) (.cells C2 30)
  have q1 := alloc2_old W (.cells C1 30) (.cells C2 30)
  have q2 := alloc2_new W (.cells C1 30) (.cells C2 30)
  have HE := Lib.hid (equalFunc_any ih F G xs A1 A2 c1 c2 m _ (hr1.keep (G := F) (fun _ h => h) (fun q hq => hb2.block q (hF q hq))) (hr2.keep (G := G) (fun _ h => h) (fun q hq => hb2.block q (hG q hq))) (fun q hq => Nat.lt_of_lt_of_le (hF q hq) hb2.size) (fun q hq => Nat.lt_of_lt_of_le (hG q hq) hb2.size) h7 hm h1)
  have HB := Lib.hid hb2
  subst hC1 hC2
  have a0 := cell_of_row _ _ 0 _ _ _ q1
  have a1 := cell_of_row _ _ 1 _ _ _ q1
  have a2 := cell_of_row _ _ 2 _ _ _ q1
  have a3 := cell_of_row _ _ 3 _ _ _ q1
  have a4 := cell_of_row _ _ 4 _ _ _ q1
  have a5 := cell_of_row _ _ 5 _ _ _ q1
  have b0 := cell_of_row _ _ 0 _ _ _ q2
  have b1 := cell_of_row _ _ 1 _ _ _ q2
  have b2 := cell_of_row _ _ 2 _ _ _ q2
  have b3 := cell_of_row _ _ 3 _ _ _ q2
  have b4 := cell_of_row _ _ 4 _ _ _ q2
  have b5 := cell_of_row _ _ 5 _ _ _ q2
  clear hb1 hb2 q1 q2 hx hy hF hG hr1 hr2 h7 hm ih
  go_enter Tryz.func9, Tryz.ntmps9
  go_wp2_with fail
  refine HE.out.mono ?_
  rintro e w3 ⟨rfl, hb3⟩
  have HB3 := Lib.hid (below_next HB.out hb3)
  clear hb3 HE a0 a1 a2 a3 a4 a5 b0 b1 b2 b3 b4 b5
  go_wp2_with fail
  go_ret
  exact ⟨rfl, HB3.out⟩
theorem same_all : ∀ n, SmT n
  | 0 => fun _ _ _ _ _ _ _ _ _ _ hs => hs.elim
  | n + 1 => same_next (same_all n)
theorem nm_size {s : ByteArray} (h : isNm s.data.toList = true) : s.size ≤ 1000 := by
  rw [Lib.size_eq]
  cases e : s.data.toList with
  | nil => simp
  | cons c r =>
    rw [e] at h
    simp only [isNm, Bool.and_eq_true, decide_eq_true_eq] at h
    simp only [List.length_cons]
    omega
theorem ndL_mem {x : Ex} : ∀ {xs : List Ex}, x ∈ xs → ndX x ≤ ndL xs
  | [], h => by simp at h
  | y :: r, h => by
    simp only [ndL]
    rcases List.mem_cons.1 h with rfl | h
    · omega
    · have := ndL_mem h; omega
theorem ndL_len : ∀ xs : List Ex, xs.length ≤ ndL xs
  | [] => by simp
  | y :: r => by
    have := ndL_len r
    have := ndX_pos y
    simp only [ndL, List.length_cons]
    omega
/-- A tree of the grammar has the writer's shape. -/
theorem shp_of {x : Ex} (h : WfX x) : ∀ d, Dp d x → ndX x ≤ 1000 → ShP d x := by
  induction h with
  | num a l h1 h2 =>
    intro d hd hn
    cases d with
    | zero => exact hd.elim
    | succ d => exact ⟨by simp, by decide, h1, h2, by decide, by decide, fun x hx => by simp at hx, .inl rfl⟩
  | nam l s h =>
    intro d hd hn
    cases d with
    | zero => exact hd.elim
    | succ d => exact ⟨by simp, nm_size h, by decide, by decide, by decide, by decide, fun x hx => by simp at hx, by simp⟩
  | fn l s h =>
    intro d hd hn
    cases d with
    | zero => exact hd.elim
    | succ d => exact ⟨by simp, nm_size h, by decide, by decide, by decide, by decide, fun x hx => by simp at hx, by simp⟩
  | rd l =>
    intro d hd hn
    cases d with
    | zero => exact hd.elim
    | succ d => exact ⟨by simp, by decide, by decide, by decide, by decide, by decide, fun x hx => by simp at hx, by simp⟩
  | el l s x h hx ih =>
    intro d hd hn
    simp only [ndX, ndL] at hn
    cases d with
    | zero => exact hd.elim
    | succ d => exact ⟨by simp, nm_size h, by decide, by decide, by decide, by decide, fun y hy => by rw [List.mem_singleton] at hy; subst hy; exact ih d (hd y (by simp)) (by omega), by simp⟩
  | un o l x h1 h2 hx ih =>
    intro d hd hn
    simp only [ndX, ndL] at hn
    cases d with
    | zero => exact hd.elim
    | succ d => exact ⟨by simp, by decide, by decide, by decide, by omega, by omega, fun y hy => by rw [List.mem_singleton] at hy; subst hy; exact ih d (hd y (by simp)) (by omega), by simp⟩
  | bin o l x y h1 h2 hx hy ih1 ih2 =>
    intro d hd hn
    simp only [ndX, ndL] at hn
    cases d with
    | zero => exact hd.elim
    | succ d => exact ⟨by simp, by decide, by decide, by decide, by omega, h2, fun z hz => by
        simp only [List.mem_cons, List.not_mem_nil, or_false] at hz
        rcases hz with rfl | rfl
        · exact ih1 d (hd _ (by simp)) (by omega)
        · exact ih2 d (hd _ (by simp)) (by omega), by simp⟩
  | and_ l x y hx hy ih1 ih2 =>
    intro d hd hn
    simp only [ndX, ndL] at hn
    cases d with
    | zero => exact hd.elim
    | succ d => exact ⟨by simp, by decide, by decide, by decide, by decide, by decide, fun z hz => by
        simp only [List.mem_cons, List.not_mem_nil, or_false] at hz
        rcases hz with rfl | rfl
        · exact ih1 d (hd _ (by simp)) (by omega)
        · exact ih2 d (hd _ (by simp)) (by omega), by simp⟩
  | or_ l x y hx hy ih1 ih2 =>
    intro d hd hn
    simp only [ndX, ndL] at hn
    cases d with
    | zero => exact hd.elim
    | succ d => exact ⟨by simp, by decide, by decide, by decide, by decide, by decide, fun z hz => by
        simp only [List.mem_cons, List.not_mem_nil, or_false] at hz
        rcases hz with rfl | rfl
        · exact ih1 d (hd _ (by simp)) (by omega)
        · exact ih2 d (hd _ (by simp)) (by omega), by simp⟩
  | call l s xs h hxs ih =>
    intro d hd hn
    simp only [ndX] at hn
    cases d with
    | zero => exact hd.elim
    | succ d =>
      have := ndL_len xs
      exact ⟨by omega, nm_size h, by decide, by decide, by decide, by decide, fun y hy => ih y hy d (hd y hy) (by have := ndL_mem hy; omega), by simp⟩
  | val l x xs hx hxs ih1 ih2 =>
    intro d hd hn
    simp only [ndX, ndL] at hn
    cases d with
    | zero => exact hd.elim
    | succ d =>
      have := ndL_len xs
      have := ndX_pos x
      exact ⟨by simp; omega, by decide, by decide, by decide, by decide, by decide, fun y hy => by
        rcases List.mem_cons.1 hy with rfl | hy
        · exact ih1 d (hd _ (by simp)) (by omega)
        · exact ih2 y hy d (hd y (by simp [hy])) (by have := ndL_mem hy; omega), by simp⟩
end Go.Proofs.YtmpnkbhlagalkaaGreatDoor
