/-
  A run of an expression of numbers and operations, at every depth, errors too. Conditions: limits and steps of at most a million of millions.
-/
import Derived.Test.YtjmbllbnlnjanaaEvRun
import Derived.Test.YtjmbllbnlnjanaaTree
namespace Go.Proofs.Ytjmbllbnlnjanaa
open Go.RowKit

mutual
/-- An expression of numbers and operations alone. -/
def arX : Ex → Bool
  | .mk k _ _ _ _ xs => ((k == 1) || ((k == 5) && decide (xs.length = 1)) || ((k == 6) && decide (xs.length = 2))) && arL xs
def arL : List Ex → Bool
  | [] => true
  | x :: xs => arX x && arL xs
end
/-- An operation with one operand, with two. -/
def un7 (o : Int) (r : (Int × Int × Int) × Int) : (Int × Int × Int) × Int := if r.1.2.1 = 0 then ((unP o r.1.1, 0, 0), r.2) else ((0, r.1.2.1, r.1.2.2), r.2)
def bi7 (o : Int) (r : (Int × Int × Int) × Int) (f : Int → (Int × Int × Int) × Int) : (Int × Int × Int) × Int :=
  if r.1.2.1 = 0 then (if (f r.2).1.2.1 = 0 then (appP o r.1.1 (f r.2).1.1, (f r.2).2) else ((0, (f r.2).1.2.1, (f r.2).1.2.2), (f r.2).2)) else ((0, r.1.2.1, r.1.2.2), r.2)
/-- The value and the end of an expression, and the steps behind it. -/
def evX (ls : Int) : Ex → Int → (Int × Int × Int) × Int
  | .mk k o a _ _ xs, st =>
    if (stepP ls st).1 = 0 then
      (if k = 1 then ((a, 0, 0), (stepP ls st).2)
      else match xs with
        | [x] => un7 o (evX ls x (stepP ls st).2)
        | [x, y] => bi7 o (evX ls x (stepP ls st).2) (evX ls y)
        | _ => ((0, 0, 0), (stepP ls st).2))
    else ((0, (stepP ls st).1, 0), (stepP ls st).2)
def opX (ls : Int) (o : Int) (xs : List Ex) (st : Int) : (Int × Int × Int) × Int :=
  match xs with
  | [x] => un7 o (evX ls x st)
  | [x, y] => bi7 o (evX ls x st) (evX ls y)
  | _ => ((0, 0, 0), st)
theorem evX_eq (ls k o a l : Int) (s : ByteArray) (xs : List Ex) (st : Int) : evX ls (.mk k o a l s xs) st = if (stepP ls st).1 = 0 then (if k = 1 then ((a, 0, 0), (stepP ls st).2) else opX ls o xs (stepP ls st).2) else ((0, (stepP ls st).1, 0), (stepP ls st).2) := by
  match xs with
  | [] => rfl
  | [x] => rfl
  | [x, y] => rfl
  | x :: y :: z :: r => rfl
/-- An expression's cells. -/
def PtrX (F : Nat → Prop) (w : World) (D : Nat) (g q : Nat) (k o a : Int) (xs : List Ex) : Prop := ∃ A c, w.cell? ⟨g, q, none⟩ = some (.int .i64 k) ∧ w.cell? ⟨g, q + 1, none⟩ = some (.int .i64 o) ∧ w.cell? ⟨g, q + 2, none⟩ = some (.int .i64 a) ∧ w.cell? ⟨g, q + 5, none⟩ = some (.slice A xs.length c) ∧ RowE F w D xs A c
theorem PtrX.keep {F : Nat → Prop} {w w' : World} {D g q : Nat} {k o a : Int} {xs : List Ex} (h : PtrX F w D g q k o a xs) (hg : F g) (hk : ∀ b, F b → w'.heap[b]? = w.heap[b]?) : PtrX F w' D g q k o a xs := by
  obtain ⟨A, c, e0, e1, e2, e5, he⟩ := h
  have e : ∀ o, w'.cell? ⟨g, o, none⟩ = w.cell? ⟨g, o, none⟩ := fun o => World.cell?_of_block (hk g hg)
  exact ⟨A, c, (e _).trans e0, (e _).trans e1, (e _).trans e2, (e _).trans e5, he.keep (fun _ h => h) hk⟩
def RnOk (r : Rn) : Prop := 0 ≤ r.st ∧ r.st ≤ 1000000000000000 ∧ r.ls ≤ 1000000000000000
/-- An expression's value and end are handed back; the run's steps are counted. -/
def EvG (p : Nat) (y : (Int × Int × Int) × Int) (r : Rn) (w : World) (e : Ending) (w' : World) : Prop :=
  e = .returned (.tuple #[.int .i64 y.1.1, .agg #[.int .i64 y.1.2.1, .int .i64 y.1.2.2]]) ∧ RnP p { r with st := y.2 } w' ∧ w.grownBy w' (some p) ∧ RnOk { r with st := y.2 }
def EvC (D : Nat) : Prop := ∀ (F : Nat → Prop) (p g q : Nat) (k o a l : Int) (s : ByteArray) (xs : List Ex) (r : Rn) (w : World), PtrX F w D g q k o a xs → arX (.mk k o a l s xs) = true → RnP p r w → F g → (∀ b, F b → b < w.heap.size ∧ b ≠ p) → RnOk r →
  Calls Try.prog 71 #[.pointer (some ⟨p, 0, none⟩), .pointer (some ⟨g, q, none⟩)] w (EvG p (evX r.ls (.mk k o a l s xs) r.st) r w)
def OpC (D : Nat) : Prop := ∀ (F : Nat → Prop) (p g q : Nat) (k o a l : Int) (s : ByteArray) (xs : List Ex) (r : Rn) (w : World), PtrX F w D g q k o a xs → k ≠ 1 → arX (.mk k o a l s xs) = true → RnP p r w → F g → (∀ b, F b → b < w.heap.size ∧ b ≠ p) → RnOk r →
  Calls Try.prog 80 #[.pointer (some ⟨p, 0, none⟩), .pointer (some ⟨g, q, none⟩)] w (EvG p (opX r.ls o xs r.st) r w)
theorem step_ok {r : Rn} (h : RnOk r) : RnOk { r with st := (stepP r.ls r.st).2 } := by
  obtain ⟨h1, h2, h3⟩ := h
  unfold stepP
  split
  · exact ⟨h1, h2, h3⟩
  · exact ⟨by dsimp only; omega, by dsimp only; omega, h3⟩
theorem arX_kind {k o a l : Int} {s : ByteArray} {xs : List Ex} (h : arX (.mk k o a l s xs) = true) : (k = 1 ∨ (k = 5 ∧ xs.length = 1) ∨ (k = 6 ∧ xs.length = 2)) ∧ arL xs = true := by
  unfold arX at h
  simp only [Bool.and_eq_true, Bool.or_eq_true, beq_iff_eq, decide_eq_true_eq] at h
  exact ⟨by rcases h.1 with (h1 | h1) | h1 <;> simp [h1], h.2⟩
theorem cell2_end {w w2 : World} {p B : Nat} {r : Rn} {v0 v1 a b : Value} {T : TypeId} {o : Obj} (hZ : w2.heap[B]? = some (.cells #[a, b] T (0, 0))) (hr : RnP p r w2) (hg : w.grownBy w2 (some p)) (hB : w.heap.size ≤ B) (hp : p ≠ B) :
    (((w2.setCell ⟨B, 0, none⟩ v0).setCell ⟨B, 1, none⟩ v1).alloc o).drew.cell? ⟨B, 0, none⟩ = some v0 ∧ (((w2.setCell ⟨B, 0, none⟩ v0).setCell ⟨B, 1, none⟩ v1).alloc o).drew.cell? ⟨B, 1, none⟩ = some v1 ∧ RnP p r (((w2.setCell ⟨B, 0, none⟩ v0).setCell ⟨B, 1, none⟩ v1).alloc o).drew ∧ w.grownBy (((w2.setCell ⟨B, 0, none⟩ v0).setCell ⟨B, 1, none⟩ v1).alloc o).drew (some p) := by
  have h1 : ((w2.setCell ⟨B, 0, none⟩ v0).setCell ⟨B, 1, none⟩ v1).heap[B]? = some (.cells #[v0, v1] T (0, 0)) := row_set (i := 1) v1 (row_set (i := 0) v0 hZ)
  have hg1 : w2.grownBy ((w2.setCell ⟨B, 0, none⟩ v0).setCell ⟨B, 1, none⟩ v1) (some B) := (set_grown w2 ⟨B, 0, none⟩ v0).trans (set_grown _ ⟨B, 1, none⟩ v1)
  have hb := (Below.refl _ ((w2.setCell ⟨B, 0, none⟩ v0).setCell ⟨B, 1, none⟩ v1)).alloc (Nat.le_refl _) o
  have h2 := (hb.block _ (Array.getElem?_eq_some_iff.1 h1).1).trans h1
  have hr1 : RnP p r (((w2.setCell ⟨B, 0, none⟩ v0).setCell ⟨B, 1, none⟩ v1).alloc o) := RnP.below (blk_keep hg1 hp hr) hb
  exact ⟨cell_of_row _ _ 0 _ _ _ h2, cell_of_row _ _ 1 _ _ _ h2, hr1, grown_new hg (hg1.trans (grown_of_below (below_drew hb) (some B))) hB⟩
set_option maxRecDepth 10000 in
set_option maxHeartbeats 2000000 in
theorem expr_e {D : Nat} (hO : OpC D) : EvC D := by
  intro F p g q k o a l s xs r w hx ha hr hFg hF hok
  have hb1 := (Below.refl _ w).alloc (Nat.le_refl _) (.cells #[.int .i64 0, .int .i64 0] 86)
  have hZ1 := heap_alloc_new w (.cells #[.int .i64 0, .int .i64 0] 86)
  have plt := (Array.getElem?_eq_some_iff.1 hr).1
  have HS := Lib.hid (step_e _ (hr.below hb1) hok.1 (by have := hok.2.1; omega))
  have HK := Lib.hid (step_ok hok)
  have HE := Lib.hid (evX_eq r.ls k o a l s xs r.st)
  have HX := Lib.hid (fun (w' : World) (hg : w.grownBy w' (some p)) => hx.keep hFg (fun b hb => hg.block b (hF b hb).1 (fun e => by injection e with e; exact (hF b hb).2 e)))
  have HF := Lib.hid (fun (w' : World) (hs : w.heap.size ≤ w'.heap.size) b (hb : F b) => (And.intro (Nat.lt_of_lt_of_le (hF b hb).1 hs) (hF b hb).2 : b < w'.heap.size ∧ b ≠ p))
  have HFg := Lib.hid hFg
  have hgp : g ≠ p := (hF g hFg).2
  have hgw : g < w.heap.size := (hF g hFg).1
  have HA := Lib.hid ha
  have HO := Lib.hid hO
  have HB1 := Lib.hid hb1
  have HZ1 := Lib.hid hZ1
  clear hx ha hr hFg hF hok hb1 hZ1 hO
  generalize evX r.ls (.mk k o a l s xs) r.st = y at HE ⊢
  generalize stepP r.ls r.st = sp at HS HK HE
  obtain ⟨s1, s2⟩ := sp
  dsimp only at HS HK HE
  go_enter Try.func71, Try.ntmps71
  go_wp2_with fail
  refine HS.out.mono ?_
  rintro e w2 ⟨rfl, hr2, hg2⟩
  have hZ2 := blk_keep hg2 (by omega) HZ1.out
  have hs2 : w.heap.size < w2.heap.size := (Array.getElem?_eq_some_iff.1 hZ2).1
  have hb3 := (Below.refl _ w2).alloc (Nat.le_refl _) (.cells #[.int .i64 s1, .int .i64 0] 86)
  have hg3 := ((grown_of_below HB1.out (some p)).trans hg2).trans (grown_of_below hb3 (some p))
  have hr3 := hr2.below hb3
  have hZ3 := (hb3.block _ hs2).trans hZ2
  have hE3 := heap_alloc_new w2 (.cells #[.int .i64 s1, .int .i64 0] 86)
  have z0 := cell_of_row _ _ 0 _ _ _ hZ2
  have z1 := cell_of_row _ _ 1 _ _ _ hZ2
  have f0 := rp_fz hZ2 0
  have f1 := rp_fz hZ2 1
  have e0 := cell_of_row _ _ 0 _ _ _ hE3
  have e1 := cell_of_row _ _ 1 _ _ _ hE3
  have HR3 := Lib.hid hr3
  have HG3 := Lib.hid hg3
  have HZ3 := Lib.hid hZ3
  have HT := Lib.hid (fun v0 v1 o => cell2_end (v0 := v0) (v1 := v1) (o := o) hZ2 hr2 ((grown_of_below HB1.out (some p)).trans hg2) (Nat.le_refl _) (by omega : p ≠ w.heap.size))
  clear hr2 hg2 hZ2 hb3 hg3 hr3 hZ3 hE3 HS HB1 HZ1
  by_cases h0 : s1 = 0
  · rw [if_pos h0] at HE
    subst h0
    have hx3 := HX.out _ HG3.out
    have hg3w := HG3.out.size
    by_cases hk : k = 1
    · rw [if_pos hk] at HE
      subst hk
      obtain ⟨A, c, d0, d1, d2, d5, _⟩ := hx3
      clear HO HX HF HA d1 d5 z0 z1 f0 f1
      go_upto_region 4 with fail
      go_wp2_with (with_reducible refine re_pause ?_)
      refine Pause.of (wpList_store_new _ rfl _ _ _ rfl w.heap.size _ rfl (by rfl) _ _ HZ3.out (by kernel_rfl) (by rfl) (by simp [Value.oneCell']) ?_)
      intro w9 hrow9 hg9
      have j0 := cell_of_row _ _ 0 _ _ _ hrow9
      have j1 := cell_of_row _ _ 1 _ _ _ hrow9
      have HH : Hid (EvG p y r w (.returned (.tuple #[.int .i64 a, .agg #[.int .i64 0, .int .i64 0]])) w9) := Lib.hid (by
        rw [HE.out]
        exact ⟨rfl, blk_keep hg9 (by omega) HR3.out, grown_new HG3.out hg9 (Nat.le_refl _), HK.out⟩)
      clear hrow9 hg9 d0 d2
      go_wp2_with fail
      exact bodyPost_ret (by simp [results, Try.results71, go_sem, j0, j1]) rfl HH.out
    · rw [if_neg hk] at HE
      have HOp := Lib.hid (HO.out F p g q k o a l s xs _ _ hx3 hk HA.out HR3.out HFg.out (HF.out _ hg3w) HK.out)
      have hkk := (arX_kind HA.out).1
      have k1 : (k == 1) = false := by simp [hk]
      have k2 : (k == 11) = false := by simp; omega
      have k3 : (k == 2) = false := by simp; omega
      have k4 : (k == 3) = false := by simp; omega
      have k5 : (k == 12) = false := by simp; omega
      have k6 : (k == 9) = false := by simp; omega
      have k7 : (k == 10) = false := by simp; omega
      obtain ⟨A, c, d0, d1, d2, d5, _⟩ := hx3
      clear HO HX HF HA d1 d2 d5 z0 z1 f0 f1 hk hkk
      go_wp2_with fail
      refine HOp.out.mono ?_
      rintro e w4 ⟨rfl, hr4, hg4, hok4⟩
      have HE4 := Lib.hid HE.out
      dsimp only at hr4 hok4 HE4
      generalize opX r.ls o xs s2 = y4 at HE4 hr4 hok4 ⊢
      obtain rfl := HE4.out
      have HZ4 := Lib.hid (blk_keep hg4 (by omega) HZ3.out)
      have HG4 := Lib.hid (HG3.out.trans hg4)
      have HR4 := Lib.hid hr4
      have HK4 := Lib.hid hok4
      clear hr4 hg4 hok4 HOp HZ3 HG3 HR3 HE4
      go_wp2_with (with_reducible refine re_pause ?_)
      refine Pause.of (wpList_store_new _ rfl _ _ _ rfl w.heap.size _ rfl (by rfl) _ _ HZ4.out (by kernel_rfl) (by rfl) (by simp [Value.oneCell']) ?_)
      intro w9 hrow9 hg9
      have j0 := cell_of_row _ _ 0 _ _ _ hrow9
      have j1 := cell_of_row _ _ 1 _ _ _ hrow9
      have HH : Hid (EvG p y r w (.returned (.tuple #[.int .i64 y.1.1, .agg #[.int .i64 y.1.2.1, .int .i64 y.1.2.2]])) w9) := Lib.hid ⟨rfl, blk_keep hg9 (by omega) HR4.out, grown_new HG4.out hg9 (Nat.le_refl _), HK4.out⟩
      clear hrow9 hg9 d0
      go_wp2_with fail
      exact bodyPost_ret (by simp [results, Try.results71, go_sem, j0, j1]) rfl HH.out
  · rw [if_neg h0] at HE
    have h0' : (s1 != 0) = true := by simp [h0]
    clear h0
    go_wp2_with fail
    go_region
    go_wp2_with fail
    obtain ⟨j0, j1, hr9, hg9⟩ := HT.out (.int .i64 s1) (.int .i64 0) (.cells #[.int .i64 s1, .int .i64 0] 86)
    have HH : Hid (EvG p y r w (.returned (.tuple #[.int .i64 0, .agg #[.int .i64 s1, .int .i64 0]])) _) := Lib.hid (by
      rw [HE.out]
      exact ⟨rfl, hr9, hg9, HK.out⟩)
    clear hr9 hg9
    exact bodyPost_ret (by simp [results, Try.results71, go_sem, j0, j1]) rfl HH.out
end Go.Proofs.Ytjmbllbnlnjanaa
namespace Go.Proofs.Ytjmbllbnlnjanaa
open Go.RowKit

theorem row_ptr {F : Nat → Prop} {w : World} {D : Nat} {xs : List Ex} {A : Option Addr} {c i : Nat} {k o a l : Int} {s : ByteArray} {ys : List Ex} (h : RowE F w (D + 1) xs A c) (hi : xs[i]? = some (.mk k o a l s ys)) : ∃ g off, A = some ⟨g, off, none⟩ ∧ F g ∧ PtrX F w D g (off + i * 6) k o a ys := by
  obtain ⟨g, off, c0, c1, c2, c3, c4, c5, hA, hF, e0, e1, e2, e3, e4, e5, hx⟩ := h.2 i _ hi
  obtain ⟨A', c', hv, hr⟩ := exV_iff.1 hx
  injection hv with hv
  injection hv with hv
  injection hv with h0 hv
  injection hv with h1 hv
  injection hv with h2 hv
  injection hv with h3 hv
  injection hv with h4 hv
  injection hv with h5 hv
  subst h0 h1 h2 h5
  exact ⟨g, off, hA, hF, A', c', e0, e1, e2, e5, hr⟩
theorem cell2_end0 {w w2 : World} {p B : Nat} {r : Rn} {v0 v1 a b : Value} {T : TypeId} (hZ : w2.heap[B]? = some (.cells #[a, b] T (0, 0))) (hr : RnP p r w2) (hg : w.grownBy w2 (some p)) (hB : w.heap.size ≤ B) (hp : p ≠ B) :
    ((w2.setCell ⟨B, 0, none⟩ v0).setCell ⟨B, 1, none⟩ v1).drew.cell? ⟨B, 0, none⟩ = some v0 ∧ ((w2.setCell ⟨B, 0, none⟩ v0).setCell ⟨B, 1, none⟩ v1).drew.cell? ⟨B, 1, none⟩ = some v1 ∧ RnP p r ((w2.setCell ⟨B, 0, none⟩ v0).setCell ⟨B, 1, none⟩ v1).drew ∧ w.grownBy ((w2.setCell ⟨B, 0, none⟩ v0).setCell ⟨B, 1, none⟩ v1).drew (some p) := by
  have h1 : ((w2.setCell ⟨B, 0, none⟩ v0).setCell ⟨B, 1, none⟩ v1).heap[B]? = some (.cells #[v0, v1] T (0, 0)) := row_set (i := 1) v1 (row_set (i := 0) v0 hZ)
  have hg1 : w2.grownBy ((w2.setCell ⟨B, 0, none⟩ v0).setCell ⟨B, 1, none⟩ v1) (some B) := (set_grown w2 ⟨B, 0, none⟩ v0).trans (set_grown _ ⟨B, 1, none⟩ v1)
  have hr1 : RnP p r ((w2.setCell ⟨B, 0, none⟩ v0).setCell ⟨B, 1, none⟩ v1) := blk_keep hg1 hp hr
  exact ⟨cell_of_row _ _ 0 _ _ _ h1, cell_of_row _ _ 1 _ _ _ h1, hr1, grown_new hg (hg1.trans (grown_of_below (below_drew (Below.refl _ _)) (some B))) hB⟩
theorem len_two {xs : List Ex} (h : xs.length = 2) : ∃ x y, xs = [x, y] := by
  match xs with
  | [] => simp at h
  | [x] => simp at h
  | [x, y] => exact ⟨x, y, rfl⟩
  | x :: y :: z :: r => simp at h
theorem opX_stop {ls o st v k t s1 : Int} {xs : List Ex} {x : Ex} (hx : xs[0]? = some x) (hl : xs.length = 1 ∨ xs.length = 2) (hy : evX ls x st = ((v, k, t), s1)) (h0 : ¬ k = 0) : opX ls o xs st = ((0, k, t), s1) := by
  match xs with
  | [] => simp at hx
  | [z] =>
    simp at hx
    subst hx
    show un7 o (evX ls _ st) = _
    rw [hy]
    exact if_neg h0
  | [z, z2] =>
    simp at hx
    subst hx
    show bi7 o (evX ls _ st) _ = _
    rw [hy]
    exact if_neg h0
  | z :: z2 :: z3 :: zr => simp at hl
theorem opX_un {ls o st v t s1 : Int} {x : Ex} (hy : evX ls x st = ((v, 0, t), s1)) : opX ls o [x] st = ((unP o v, 0, 0), s1) := by
  show un7 o (evX ls _ st) = _
  rw [hy]
  rfl
theorem opX_bi {ls o st v t s1 u k t2 s2 : Int} {x y : Ex} (hy : evX ls x st = ((v, 0, t), s1)) (hz : evX ls y s1 = ((u, k, t2), s2)) : opX ls o [x, y] st = if k = 0 then (appP o v u, s2) else ((0, k, t2), s2) := by
  show bi7 o (evX ls _ st) _ = _
  rw [hy]
  show (if (0 : Int) = 0 then _ else _) = _
  rw [if_pos rfl]
  dsimp only
  rw [hz]
set_option maxRecDepth 10000 in
set_option maxHeartbeats 2000000 in
theorem op_e {D : Nat} (hE : EvC D) : OpC (D + 1) := by
  intro F p g q k o a l s xs r w hx hk ha hr hFg hF hok
  have hkk := (arX_kind ha).1
  have har := (arX_kind ha).2
  -- the first operand
  obtain ⟨x, hx0⟩ : ∃ x, xs[0]? = some x := by
    cases xs with
    | nil => simp at hkk; omega
    | cons x r => exact ⟨x, rfl⟩
  have hb1 := (Below.refl _ w).alloc (Nat.le_refl _) (.cells #[.int .i64 0, .int .i64 0] 86)
  have hZ1 := heap_alloc_new w (.cells #[.int .i64 0, .int .i64 0] 86)
  have plt := (Array.getElem?_eq_some_iff.1 hr).1
  have HX := Lib.hid (fun (w' : World) (hg : w.grownBy w' (some p)) => hx.keep hFg (fun b hb => hg.block b (hF b hb).1 (fun e => by injection e with e; exact (hF b hb).2 e)))
  have HF := Lib.hid (fun (w' : World) (hs : w.heap.size ≤ w'.heap.size) b (hb : F b) => (And.intro (Nat.lt_of_lt_of_le (hF b hb).1 hs) (hF b hb).2 : b < w'.heap.size ∧ b ≠ p))
  have hgp : g ≠ p := (hF g hFg).2
  have hgw : g < w.heap.size := (hF g hFg).1
  have hg1 := grown_of_below hb1 (some p)
  have hx1 := HX.out _ hg1
  obtain ⟨A, c, d0, d1, d2, d5, he⟩ := hx1
  obtain ⟨kx, ox, ax, lx, sx, ys⟩ := x
  obtain ⟨g', off, rfl, hFg', hp'⟩ := row_ptr he hx0
  rw [Nat.zero_mul, Nat.add_zero] at hp'
  have harx : arX (.mk kx ox ax lx sx ys) = true := by
    cases xs with
    | nil => simp at hx0
    | cons z zs =>
      simp at hx0
      subst hx0
      unfold arL at har
      simp only [Bool.and_eq_true] at har
      exact har.1
  have HC := Lib.hid (hE F p g' off kx ox ax lx sx ys r _ hp' harx (hr.below hb1) hFg' (HF.out _ hb1.size) hok)
  have HE := Lib.hid hE
  have HZ1 := Lib.hid hZ1
  have HG1 := Lib.hid hg1
  have HAr := Lib.hid har
  have HFg := Lib.hid hFg
  have hpos : 0 < xs.length := by rcases hkk with h | h | h <;> omega
  have hpos2 : (0 : Int) < (xs.length : Int) := by omega
  have k4 : (k == 4) = false := by simp; omega
  have k7 : (k == 7) = false := by simp; omega
  have k8 : (k == 8) = false := by simp; omega
  have HX0 := Lib.hid hx0
  clear hx ha hr hFg hF hok hb1 hZ1 hg1 hE hp' harx hFg' he har hx0
  go_enter Try.func80, Try.ntmps80
  go_wp2_with fail
  refine HC.out.mono ?_
  rintro e w2 ⟨rfl, hr2, hg2, hok2⟩
  generalize hy : evX r.ls (.mk kx ox ax lx sx ys) r.st = y at hr2 hok2 ⊢
  have HY := Lib.hid hy
  clear hy
  obtain ⟨⟨v1, k1, t1⟩, s1⟩ := y
  dsimp only at hr2 hok2 ⊢
  have hZ2 := blk_keep hg2 (by omega) HZ1.out
  have hs2 : w.heap.size < w2.heap.size := (Array.getElem?_eq_some_iff.1 hZ2).1
  have hg02 := HG1.out.trans hg2
  have HT := Lib.hid (fun v0 v1 o => cell2_end (v0 := v0) (v1 := v1) (o := o) hZ2 hr2 hg02 (Nat.le_refl _) (by omega : p ≠ w.heap.size))
  have hb3 := (Below.refl _ w2).alloc (Nat.le_refl _) (.cells #[.int .i64 k1, .int .i64 t1] 86)
  have hE3 := heap_alloc_new w2 (.cells #[.int .i64 k1, .int .i64 t1] 86)
  have z0 := cell_of_row _ _ 0 _ _ _ hZ2
  have z1 := cell_of_row _ _ 1 _ _ _ hZ2
  have f0 := rp_fz hZ2 0
  have f1 := rp_fz hZ2 1
  have e0 := cell_of_row _ _ 0 _ _ _ hE3
  have e1 := cell_of_row _ _ 1 _ _ _ hE3
  have hs3 := hb3.size
  have HZ3 := Lib.hid ((hb3.block _ hs2).trans hZ2)
  have HE3 := Lib.hid hE3
  have HG3 := Lib.hid (hg02.trans (grown_of_below hb3 (some p)))
  have HR3 := Lib.hid (RnP.below hr2 hb3)
  have HK3 := Lib.hid hok2
  have hsw2' := hg02.size
  clear hr2 hg2 hok2 hZ2 hg02 hb3 hE3 HC HZ1 HG1 d0 d1 d2 d5
  by_cases h0 : k1 = 0
  · subst h0
    have hsw3 := HG3.out.size
    obtain ⟨A2, c2, d0, d1, d2, d5, he⟩ := HX.out _ HG3.out
    rcases hkk with h | ⟨rfl, hl⟩ | ⟨rfl, hl⟩
    · exact absurd h hk
    · have HO : Hid (opX r.ls o xs r.st = ((unP o v1, 0, 0), s1)) := Lib.hid (by
        obtain ⟨z, rfl⟩ := List.length_eq_one_iff.1 hl
        have hz := HX0.out
        simp at hz
        subst hz
        exact opX_un HY.out)
      clear HX HF HE HAr HX0 HT hk he d2 d5 z0 z1 f0 f1 hl HE3
      go_upto_region 10 with fail
      go_wp2_with fail
      refine (unary_e o v1 _).mono ?_
      rintro e w4 ⟨rfl, rfl⟩
      go_wp2_with (with_reducible refine re_pause ?_)
      refine Pause.of (wpList_store_new _ rfl _ _ _ rfl w.heap.size _ rfl (by rfl) _ _ HZ3.out (by kernel_rfl) (by rfl) (by simp [Value.oneCell']) ?_)
      intro w9 hrow9 hg9
      have j0 := cell_of_row _ _ 0 _ _ _ hrow9
      have j1 := cell_of_row _ _ 1 _ _ _ hrow9
      have HH : Hid (EvG p (opX r.ls o xs r.st) r w (.returned (.tuple #[.int .i64 (unP o v1), .agg #[.int .i64 0, .int .i64 0]])) w9) := Lib.hid (by
        rw [HO.out]
        exact ⟨rfl, blk_keep hg9 (by omega) HR3.out, grown_new HG3.out hg9 (Nat.le_refl _), HK3.out⟩)
      clear hrow9 hg9
      go_wp2_with fail
      exact bodyPost_ret (by simp [results, Try.results80, go_sem, j0, j1]) rfl HH.out
    · obtain ⟨x0, x1, rfl⟩ : ∃ x0 x1, xs = [x0, x1] := len_two hl
      have hz := HX0.out
      simp at hz
      subst hz
      obtain ⟨k', o', a', l', s', ys'⟩ := x1
      obtain ⟨g2, off2, rfl, hFg2, hp2⟩ := row_ptr (i := 1) he rfl
      have harx : arX (.mk k' o' a' l' s' ys') = true := by
        have h := HAr.out
        unfold arL at h
        simp only [Bool.and_eq_true] at h
        have h2 := h.2
        unfold arL at h2
        simp only [Bool.and_eq_true] at h2
        exact h2.1
      have HC := Lib.hid (HE.out F p g2 (off2 + 1 * 6) k' o' a' l' s' ys' { r with st := s1 } _ hp2 harx HR3.out hFg2 (HF.out _ hsw3) HK3.out)
      rw [Nat.one_mul] at HC
      have HD := Lib.hid (fun (w' : World) (hg : w.grownBy w' (some p)) => HX.out w' hg)
      have d5 : (w2.alloc (.cells #[.int .i64 0, .int .i64 t1] 86)).cell? ⟨g, q + 5, none⟩ = some (.slice (some ⟨g2, off2, none⟩) 2 c2) := d5
      clear HX HF HE HAr HX0 HT hk he d1 d2 z0 z1 f0 f1 hl hp2 harx hFg2
      go_upto_region 18 with fail
      go_wp2_with fail
      refine HC.out.mono ?_
      rintro e w4 ⟨rfl, hr4, hg4, hok4⟩
      generalize hy2 : evX r.ls (.mk k' o' a' l' s' ys') s1 = y2 at hr4 hok4 ⊢
      have HY2 := Lib.hid hy2
      clear hy2
      obtain ⟨⟨v2, k2, t2⟩, s2⟩ := y2
      dsimp only at hr4 hok4 ⊢
      have HO := Lib.hid (opX_bi (o := o) HY.out HY2.out)
      have hE4 := blk_keep hg4 (by omega) HE3.out
      have HE4 := Lib.hid hE4
      have HZ4 := Lib.hid (blk_keep hg4 (by omega) HZ3.out)
      have HG4 := Lib.hid (HG3.out.trans hg4)
      have HR4 := Lib.hid hr4
      have HK4 := Lib.hid hok4
      clear hr4 hg4 hok4 hE4 HC HZ3 HE3 HG3 HR3 d0 d5 e0 e1
      go_wp2_with (with_reducible refine re_pause ?_)
      refine Pause.of (wpList_store_new _ rfl _ _ _ rfl w2.heap.size _ rfl (by rfl) _ _ HE4.out (by kernel_rfl) (by rfl) (by simp [Value.oneCell']) ?_)
      intro w5 hrow5 hg5
      have hZ5 := blk_keep hg5 (by omega) HZ4.out
      have hR5 : RnP p { r with st := s2 } w5 := blk_keep hg5 (by omega) HR4.out
      have hG5 := grown_new HG4.out hg5 hsw2'
      have x0 := cell_of_row _ _ 0 _ _ _ hrow5
      have x1 := cell_of_row _ _ 1 _ _ _ hrow5
      have HZ5 := Lib.hid hZ5
      have HR5 := Lib.hid hR5
      have HG5 := Lib.hid hG5
      have hB5 : w.heap.size < w5.heap.size := (Array.getElem?_eq_some_iff.1 hZ5).1
      by_cases h2 : k2 = 0
      · have HO2 := Lib.hid (HO.out.trans (if_pos h2))
        subst h2
        obtain ⟨A5, c5, d0, d1, _, _, _⟩ := HD.out _ hG5
        clear hrow5 hg5 hZ5 hR5 hG5 HO HZ4 HG4 HR4 HE4 HD
        dsimp only [Act.put]
        go_wp2_with fail
        refine (applied_e o v1 v2 _).mono ?_
        rintro e w6 ⟨rfl, hb6⟩
        have HZ6 := Lib.hid ((hb6.block _ hB5).trans HZ5.out)
        have HR6 := Lib.hid (HR5.out.below hb6)
        have HG6 := Lib.hid (HG5.out.trans (grown_of_below hb6 (some p)))
        clear hb6 HZ5 HR5 HG5 d0 d1 x0 x1
        go_wp2_with (with_reducible refine re_pause ?_)
        refine Pause.of (wpList_store_new _ rfl _ _ _ rfl w.heap.size _ rfl (by rfl) _ _ HZ6.out (by kernel_rfl) (by rfl) (by simp [Value.oneCell']) ?_)
        intro w9 hrow9 hg9
        have j0 := cell_of_row _ _ 0 _ _ _ hrow9
        have j1 := cell_of_row _ _ 1 _ _ _ hrow9
        have HH : Hid (EvG p (opX r.ls o [.mk kx ox ax lx sx ys, .mk k' o' a' l' s' ys'] r.st) r w (.returned (.tuple #[.int .i64 (appP o v1 v2).1, .agg #[.int .i64 (appP o v1 v2).2.1, .int .i64 (appP o v1 v2).2.2]])) w9) := Lib.hid (by
          rw [HO2.out]
          exact ⟨rfl, blk_keep hg9 (by omega) HR6.out, grown_new HG6.out hg9 (Nat.le_refl _), HK4.out⟩)
        clear hrow9 hg9
        go_wp2_with fail
        exact bodyPost_ret (by simp [results, Try.results80, go_sem, j0, j1]) rfl HH.out
      · have HO2 := Lib.hid (HO.out.trans (if_neg h2))
        have h2' : (k2 != 0) = true := by simp [h2]
        have HT := Lib.hid (fun v0 v1 => cell2_end0 (v0 := v0) (v1 := v1) hZ5 hR5 hG5 (Nat.le_refl _) (by omega : p ≠ w.heap.size))
        have z0 := cell_of_row _ _ 0 _ _ _ hZ5
        have z1 := cell_of_row _ _ 1 _ _ _ hZ5
        have f0 := rp_fz hZ5 0
        have f1 := rp_fz hZ5 1
        clear hrow5 hg5 hZ5 hR5 hG5 HO HZ4 HG4 HR4 HE4 HD h2
        dsimp only [Act.put]
        go_wp2_with fail
        go_region
        go_wp2_with fail
        obtain ⟨j0, j1, hr9, hg9⟩ := HT.out (.int .i64 k2) (.int .i64 t2)
        have HH : Hid (EvG p (opX r.ls o [.mk kx ox ax lx sx ys, .mk k' o' a' l' s' ys'] r.st) r w (.returned (.tuple #[.int .i64 0, .agg #[.int .i64 k2, .int .i64 t2]])) _) := Lib.hid (by
          rw [HO2.out]
          exact ⟨rfl, hr9, hg9, HK4.out⟩)
        clear hr9 hg9
        exact bodyPost_ret (by simp [results, Try.results80, go_sem, j0, j1]) rfl HH.out
  · have h0' : (k1 != 0) = true := by simp [h0]
    have HO : Hid (opX r.ls o xs r.st = ((0, k1, t1), s1)) := Lib.hid (opX_stop HX0.out (by omega) HY.out h0)
    clear h0 hkk
    go_wp2_with fail
    go_region
    go_wp2_with fail
    obtain ⟨j0, j1, hr9, hg9⟩ := HT.out (.int .i64 k1) (.int .i64 t1) (.cells #[.int .i64 k1, .int .i64 t1] 86)
    have HH : Hid (EvG p (opX r.ls o xs r.st) r w (.returned (.tuple #[.int .i64 0, .agg #[.int .i64 k1, .int .i64 t1]])) _) := Lib.hid (by
      rw [HO.out]
      exact ⟨rfl, hr9, hg9, HK3.out⟩)
    clear hr9 hg9
    exact bodyPost_ret (by simp [results, Try.results80, go_sem, j0, j1]) rfl HH.out
theorem op_0 : OpC 0 := by
  intro F p g q k o a l s xs r w hx hk ha hr hFg hF hok
  exfalso
  have hkk := (arX_kind ha).1
  obtain ⟨A, c, _, _, _, _, he⟩ := hx
  cases xs with
  | nil => simp at hkk; omega
  | cons x zs =>
    obtain ⟨_, _, _, _, _, _, _, _, _, _, _, _, _, _, _, _, hv⟩ := he.2 0 x rfl
    exact hv.elim
theorem expr_ev : ∀ D : Nat, EvC D
  | 0 => expr_e op_0
  | D + 1 => expr_e (op_e (expr_ev D))
end Go.Proofs.Ytjmbllbnlnjanaa
