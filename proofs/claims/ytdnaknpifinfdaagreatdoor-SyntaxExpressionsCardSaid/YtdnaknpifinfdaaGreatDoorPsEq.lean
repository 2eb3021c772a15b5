/-
  Whether two expressions are equal, with or without their lines. No condition.
-/
import Derived.Test.YtdnaknpifinfdaaGreatDoorPsBad
import Derived.Deep.QuietTactic
import Derived.BigQuiet
namespace Go.Proofs.YtdnaknpifinfdaaGreatDoor
open Go.RowKit

/-- A bool is handed back; nothing but orders was drawn. -/
abbrev RetQ (b : Bool) (w : World) (e : Ending) (w' : World) : Prop := e = .returned (.bool b) ∧ ∃ q, w' = w.drewN q
def eq1 (ln : Bool) (f : List Ex → List Ex → Bool) : Ex → Ex → Bool
  | .mk k o a l s az, .mk k' o' a' l' s' bs => decide (k = k') && decide (o = o') && decide (a = a') && decide (s.data.toList = s'.data.toList) && (!ln || decide (l = l')) && f az bs
/-- Whether two rows of expressions are equal, with or without their lines. -/
def eqX (ln : Bool) : Nat → List Ex → List Ex → Bool
  | 0, xs, ys => decide (xs.length = ys.length)
  | d + 1, xs, ys => decide (xs.length = ys.length) && (xs.zip ys).all fun p => eq1 ln (eqX ln d) p.1 p.2
def LenOk : Nat → List Ex → Prop
  | 0, xs => xs.length ≤ 1000000
  | d + 1, xs => xs.length ≤ 1000000 ∧ ∀ x ∈ xs, LenOk d x.args
theorem LenOk.le {d : Nat} {xs : List Ex} (h : LenOk d xs) : xs.length ≤ 1000000 := by
  cases d with
  | zero => exact h
  | succ d => exact h.1
theorem quiet_q {P : Program} {f : FuncId} {args : Array Value} {w : World} {q x : Nat} {v : Value} (h : Calls P f args (w.drewN (q + x)) fun e w' => e = .returned v ∧ ∃ m, w' = (w.drewN (q + x)).drewN m) : Calls P f args (w.drewN (q + x)) fun e w'' => e = .returned v ∧ ∃ m, w'' = w.drewN (q + m) :=
  h.mono fun _ _ ⟨he, m, hm⟩ => ⟨he, x + m, by rw [hm, World.drewN_drewN, Nat.add_assoc]⟩
theorem eqX_len {ln : Bool} {d : Nat} {xs ys : List Ex} (h : xs.length ≠ ys.length) : eqX ln d xs ys = false := by
  cases d <;> simp [eqX, h]
theorem eqX_yes {ln : Bool} {d : Nat} {xs ys : List Ex} (h : xs.length = ys.length) (ha : ∀ (j : Nat) (x y : Ex), xs[j]? = some x → ys[j]? = some y → eq1 ln (eqX ln (d - 1)) x y = true) : eqX ln d xs ys = true := by
  cases d with
  | zero => simp [eqX, h]
  | succ d =>
    simp only [eqX, h, decide_true, Bool.true_and, List.all_eq_true]
    rintro ⟨x, y⟩ hm
    obtain ⟨j, hj, e⟩ := List.mem_iff_getElem.1 hm
    rw [List.getElem_zip] at e
    injection e with e1 e2
    rw [List.length_zip] at hj
    exact ha j x y (by rw [← e1]; exact List.getElem?_eq_getElem _) (by rw [← e2]; exact List.getElem?_eq_getElem _)
theorem eqX_no {ln : Bool} {d j : Nat} {xs ys : List Ex} {x y : Ex} (h1 : xs[j]? = some x) (h2 : ys[j]? = some y) (h : eq1 ln (eqX ln d) x y = false) : eqX ln (d + 1) xs ys = false := by
  by_cases hl : xs.length = ys.length
  · simp only [eqX, hl, decide_true, Bool.true_and]
    rw [← Bool.not_eq_true, List.all_eq_true]
    intro ha
    have := ha (x, y) (by
      refine List.mem_iff_getElem?.2 ⟨j, ?_⟩
      rw [List.getElem?_zip_eq_some]
      exact ⟨h1, h2⟩)
    rw [h] at this
    cases this
  · exact eqX_len hl
theorem bytesNe {a b : ByteArray} (h : ¬ a.data.toList = b.data.toList) : (a.toList == b.toList) = false := by
  rw [beq_eq_false_iff_ne]
  intro e
  rw [Lib.toList_data, Lib.toList_data] at e
  exact h e
theorem bytesEq {a b : ByteArray} (h : a.data.toList = b.data.toList) : a = b := by
  cases a with
  | mk a => cases b with
    | mk b => congr 1; exact Array.toList_inj.1 h
theorem rowE_at {F : Nat → Prop} {w : World} {d k : Nat} {xs : List Ex} {A : Option Addr} {c : Nat} {x : Ex} (h : RowE F w (d + 1) xs A c) (hx : xs[k]? = some x) : ∃ g off k' o a l s az A' c', A = some ⟨g, off, none⟩ ∧ x = .mk k' o a l s az ∧ w.cell? ⟨g, off + k * 6, none⟩ = some (.int .i64 k') ∧ w.cell? ⟨g, off + k * 6 + 1, none⟩ = some (.int .i64 o) ∧ w.cell? ⟨g, off + k * 6 + 2, none⟩ = some (.int .i64 a) ∧ w.cell? ⟨g, off + k * 6 + 3, none⟩ = some (.int .i64 l) ∧ w.cell? ⟨g, off + k * 6 + 4, none⟩ = some (.string s) ∧ w.cell? ⟨g, off + k * 6 + 5, none⟩ = some (.slice A' az.length c') ∧ RowE F w d az A' c' := by
  obtain ⟨g, off, c0, c1, c2, c3, c4, c5, hA, _, h0, h1, h2, h3, h4, h5, hv⟩ := h.2 k x hx
  match x, hv with
  | .mk k' o a l s az, ⟨A', c', hv, hr⟩ =>
    injection hv with hv
    injection hv with hv
    injection hv with e0 hv
    injection hv with e1 hv
    injection hv with e2 hv
    injection hv with e3 hv
    injection hv with e4 hv
    injection hv with e5 _
    subst e0 e1 e2 e3 e4 e5
    exact ⟨g, off, k', o, a, l, s, az, A', c', hA, rfl, h0, h1, h2, h3, h4, h5, hr⟩
end Go.Proofs.YtdnaknpifinfdaaGreatDoor
