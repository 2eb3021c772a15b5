/-
  Rows of arguments that the reference reader grows; what the loop over calls carries. Condition: at most a million.
-/
import Derived.Test.YtmpnkbhlagalkaaGreatDoorRpPrim
namespace Go.Proofs.YtmpnkbhlagalkaaGreatDoor
open Go.RowKit

theorem exV_same {F : Nat → Prop} {w : World} {d : Nat} {x : Ex} {k o a l : Int} {s : ByteArray} {A : Option Addr} {n c : Nat} (h : ExV F w d x (.agg #[.int .i64 k, .int .i64 o, .int .i64 a, .int .i64 l, .string s, .slice A n c])) : x.kind = k ∧ x.nm = s := by
  cases d with
  | zero => exact h.elim
  | succ d =>
    match x, h with
    | .mk k' o' a' l' s' xs, ⟨A', c', hv, _⟩ =>
      injection hv with hv
      injection hv with hv
      injection hv with h0 hv
      injection hv with h1 hv
      injection hv with h2 hv
      injection hv with h3 hv
      injection hv with h4 hv
      injection h0 with _ h0
      injection h4 with h4
      exact ⟨h0.symm, h4.symm⟩
theorem ArgRow.up {base d : Nat} {w : World} {v : Value} {xs : List Ex} {L : List Value} (h : ArgRow base d w v xs L) (n : Nat) : ArgRow base (d + n) w v xs L :=
  ⟨h.own, fun j x hj => by
    obtain ⟨c0, c1, c2, c3, c4, c5, e0, e1, e2, e3, e4, e5, hx⟩ := h.at_ j x hj
    exact ⟨c0, c1, c2, c3, c4, c5, e0, e1, e2, e3, e4, e5, hx.mono n⟩⟩
/-- A row of the call's own, its trees in blocks of G. -/
theorem row_own {G : Nat → Prop} {base d : Nat} {w : World} {A : Option Addr} {m c : Nat} {xs : List Ex} {L : List Value} (hown : w.ownsRow base 30 6 (.slice A m c) m L) (hm : m = xs.length) (hat : ∀ (j : Nat) (x : Ex), xs[j]? = some x → ∃ c0 c1 c2 c3 c4 c5, L[j * 6]? = some c0 ∧ L[j * 6 + 1]? = some c1 ∧ L[j * 6 + 2]? = some c2 ∧ L[j * 6 + 3]? = some c3 ∧ L[j * 6 + 4]? = some c4 ∧ L[j * 6 + 5]? = some c5 ∧ ExV G w d x (.agg #[c0, c1, c2, c3, c4, c5])) (hG : ∀ b, base ≤ b → b < w.heap.size → G b) : RowE G w d xs A c := by
  subst hm
  rcases hown.2 with ⟨e, h0⟩ | ⟨g, cap, cur, e, hb, hh, hc, _⟩
  · injection e with e1 e2 e3
    subst e1 e3
    exact ⟨by rw [h0]; exact Nat.le_refl _, fun i x hi => by rw [List.eq_nil_of_length_eq_zero h0] at hi; simp at hi⟩
  · injection e with e1 e2 e3
    subst e1 e3
    refine ⟨hc, fun i x hi => ?_⟩
    obtain ⟨c0, c1, c2, c3, c4, c5, e0, e1, e2, e3, e4, e5, hx⟩ := hat i x hi
    have hcell : ∀ k u, L[k]? = some u → w.cell? ⟨g, 0 + k, none⟩ = some u := fun k u hk => by
      rw [Nat.zero_add]
      have hk2 : k < L.length := by
        rcases Nat.lt_or_ge k L.length with h' | h'
        · exact h'
        · rw [List.getElem?_eq_none h'] at hk; cases hk
      exact (hown.cellAt k (by have := hown.1; omega)).trans hk
    exact ⟨g, 0, c0, c1, c2, c3, c4, c5, rfl, hG g hb (Array.getElem?_eq_some_iff.1 hh).1, hcell _ _ e0, hcell _ _ e1, hcell _ _ e2, hcell _ _ e3, hcell _ _ e4, hcell _ _ e5, hx⟩
set_option maxRecDepth 10000 in
/-- A literal of one operand, and the arguments behind it. -/
theorem wpList_append_consR {ops : Array Oper} {rest : List Oper} {o : Oper} {a : Act} {Q : Exit → Act → World → Prop} (w : World) (hgd : o.guard = none) (s x : Operand)
    (ho : o.op = .call { callee := .builtin .append, args := #[s, x], argTypes := #[28, 28] }) (base d : Nat) (aA : Option Addr) (m aC : Nat) (xs : List Ex) (L : List Value) (y : Ex) (k o' a' l' : Int) (t : ByteArray) (A : Option Addr) (n c : Nat) (F : Nat → Prop)
    (hs : a.eval s = .slice (some ⟨w.heap.size, 0, none⟩) 1 1) (hx : a.eval x = .slice aA m aC) (hm : m = xs.length) (h : ArgRow base d w (.slice aA m aC) xs L) (hlen : xs.length ≤ 1000000)
    (hy : ExV F w d y (.agg #[.int .i64 k, .int .i64 o', .int .i64 a', .int .i64 l', .string t, .slice A n c])) (hF : ∀ b, F b → b < w.heap.size)
    (hk : ∀ A' m' c' w', m' = (y :: xs).length → RowE (fun b => (F b ∨ base ≤ b ∧ b < w.heap.size) ∨ w.heap.size ≤ b ∧ b < w'.heap.size) w' d (y :: xs) A' c' → Below w.heap.size w w' → wpList Tryz.prog ops Q rest (a.put o.dst (.slice A' m' c')) w') :
    wpList Tryz.prog ops Q (o :: rest) a (w.alloc (.cells #[.int .i64 k, .int .i64 o', .int .i64 a', .int .i64 l', .string t, .slice A n c] 30)) := by
  subst hm
  obtain ⟨i, hi, hz, hsz, hby⟩ := info_parts infoExpr
  have hlit : (w.alloc (.cells #[.int .i64 k, .int .i64 o', .int .i64 a', .int .i64 l', .string t, .slice A n c] 30)).ownsRow w.heap.size 30 6 (.slice (some ⟨w.heap.size, 0, none⟩) 1 1) 1 [.int .i64 k, .int .i64 o', .int .i64 a', .int .i64 l', .string t, .slice A n c] := World.ownsRow_lit w _ 1 (Nat.le_refl _) (by unfold maxLen; omega) (by simp)
  have hend : ∀ v' w', w'.ownsRow w.heap.size 30 6 v' (1 + xs.length) ([.int .i64 k, .int .i64 o', .int .i64 a', .int .i64 l', .string t, .slice A n c] ++ L) → Below w.heap.size w w' → wpList Tryz.prog ops Q rest (a.put o.dst v') w' := fun v' w' ho hw => by
    obtain ⟨A', c', rfl⟩ := own_shape ho
    refine hk A' _ c' w' (by simp; omega) (row_own ho (by simp; omega) ?_ (fun b h1 h2 => .inr ⟨h1, h2⟩)) hw
    intro j z hj
    cases j with
    | zero =>
      simp at hj
      subst hj
      exact ⟨_, _, _, _, _, _, rfl, rfl, rfl, rfl, rfl, rfl, hy.keep (fun b hb => .inl (.inl hb)) (fun b hb => hw.block b (hF b hb))⟩
    | succ j =>
      rw [List.getElem?_cons_succ] at hj
      obtain ⟨d0, d1, d2, d3, d4, d5, e0, e1, e2, e3, e4, e5, hx⟩ := h.at_ j z hj
      have hr : ∀ q, ([.int .i64 k, .int .i64 o', .int .i64 a', .int .i64 l', .string t, .slice A n c] ++ L)[(j + 1) * 6 + q]? = L[j * 6 + q]? := fun q => by
        rw [List.getElem?_append_right (by simp; omega)]
        congr 1
        simp
        omega
      exact ⟨d0, d1, d2, d3, d4, d5, (hr 0).trans e0, (hr 1).trans e1, (hr 2).trans e2, (hr 3).trans e3, (hr 4).trans e4, (hr 5).trans e5, hx.keep (fun b hb => .inl (.inr ⟨hb.1, hb.2.1⟩)) (fun b hb => hw.block b hb.2.1)⟩
  rcases h.own.2 with ⟨e, h0⟩ | ⟨g, cap, cur, e, hb, hh, hc, _⟩
  · injection e with e1 e2 e3
    subst e1 e3
    have hx0 := List.eq_nil_of_length_eq_zero h0
    subst hx0
    have hL0 : L = [] := List.eq_nil_of_length_eq_zero (by have := h.own.1; simpa using this)
    subst hL0
    exact wpList_append_own_none hgd s x _ ho w.heap.size 30 i 6 Tryz.underlying28 hi _ 1 _ hs hlit hx (hend _ _ (by simpa using hlit) ((Below.refl _ w).alloc (Nat.le_refl _) _))
  · injection e with e1 e2 e3
    subst e1 e3
    refine wpList_append_own _ hgd s x _ ho w.heap.size 30 i _ 6 72 Tryz.underlying28 hi hz hsz hby rfl (by decide) _ 1 _ hs hlit ⟨g, 0, none⟩ xs.length aC L hx h.own.1 ?_ ?_ (by unfold maxLen; omega) (by omega) (by simp) fun v' w' h1 h2 _ => hend v' w' h1 ?_
    · intro j u hu
      have hj : j < xs.length * 6 := by
        rw [← h.own.1]
        rcases Nat.lt_or_ge j L.length with h' | h'
        · exact h'
        · rw [List.getElem?_eq_none h'] at hu; cases hu
      rw [Addr.add_lit, Nat.zero_add]
      exact hold ((Below.refl _ w).alloc (Nat.le_refl _) _) ((h.own.cellAt j hj).trans hu)
    · exact h.one
    · exact ((Below.refl _ w).alloc (Nat.le_refl _) _).trans (grown_any h2 (fun k hk => Nat.le_of_eq (by simpa [Value.ownBlock] using hk)) (by simp))
def tokRow (t : Tok) : Obj := .cells #[.int .i64 (t.kind : Int), .int .i64 (t.line : Int), .int .i64 (t.value : Int), .string (nmB t.text)] 67
/-- What the loop over calls carries. -/
def CalR (E : R1) (nf : Bool) (p tb ub xb : Nat) (tk : Tok) (x : Ex) (s s' : RS) (w wr : World) : Prop :=
  ∃ n xx ss, callsR E nf n xx ss = some (x, s') ∧ XBox (w.heap.size + 1) wr xb xx ∧ RA wr p tb ss ∧ w.grownBy wr (some p) ∧ wr.heap[w.heap.size]? = some zeroE ∧ wr.heap[ub]? = some (tokRow tk) ∧ ss.rest.length ≤ s.rest.length
theorem cal_step {E : R1} {nf : Bool} {p tb ub xb m d6 : Nat} {tk : Tok} {x x2 : Ex} {s s' s2 : RS} {w w6 w9 : World} {k o a ln : Int} {t : ByteArray} {A : Option Addr} {n c : Nat} (hlp : callsR E nf m x2 s2 = some (x, s')) (hx : w.heap.size + 1 ≤ xb) (hp : p < w.heap.size) (ht : tb < w.heap.size) (hu : ub ≠ xb)
    (hv : ExV (fun q => w.heap.size + 1 ≤ q ∧ q < w6.heap.size ∧ q ≠ xb) w6 d6 x2 (.agg #[.int .i64 k, .int .i64 o, .int .i64 a, .int .i64 ln, .string t, .slice A n c])) (h6 : RA w6 p tb s2) (hg6 : w.grownBy w6 (some p)) (hz6 : w6.heap[w.heap.size]? = some zeroE) (hu6 : w6.heap[ub]? = some (tokRow tk)) (hl : s2.rest.length ≤ s.rest.length)
    (hrow : w9.heap[xb]? = some (.cells #[.int .i64 k, .int .i64 o, .int .i64 a, .int .i64 ln, .string t, .slice A n c] 30 (0, 0))) (hg9 : w6.grownBy w9 (some xb)) : CalR E nf p tb ub xb tk x s s' w w9 ∧ restLenR w9 p = s2.rest.length :=
  ⟨⟨m, x2, s2, hlp, ⟨hx, d6, k, o, a, ln, t, A, n, c, hrow, exV_grown hv (fun q hq => ⟨⟨hq.1, Nat.lt_of_lt_of_le hq.2.1 hg9.size, hq.2.2⟩, hq.2.1, hq.2.2⟩) hg9⟩, h6.other hg9 (by omega) (by omega), grown_new hg6 hg9 (by omega), (hg9.block w.heap.size (Array.getElem?_eq_some_iff.1 hz6).1 (fun e => by injection e with e; omega)).trans hz6, (hg9.block ub (Array.getElem?_eq_some_iff.1 hu6).1 (fun e => by injection e with e; omega)).trans hu6, hl⟩, (h6.other hg9 (by omega) (by omega)).rest⟩
theorem callsR_yes {E : R1} {nf : Bool} {n : Nat} {x xr : Ex} {s sr : RS} (h : callsR E nf n x s = some (xr, sr)) (hs : isR [40] s = true) : ∃ m xs s1, argsR E (popR s) = some (xs, s1) ∧ callsR E nf m (callR nf (hdR s).line x xs) s1 = some (xr, sr) := by
  cases n with
  | zero => cases h
  | succ m =>
    simp only [callsR, hs, if_true] at h
    cases hp : argsR E (popR s) with
    | none => rw [hp] at h; cases h
    | some q => rw [hp] at h; exact ⟨m, q.1, q.2, rfl, h⟩
theorem callsR_no {E : R1} {nf : Bool} {n : Nat} {x xr : Ex} {s sr : RS} (h : callsR E nf n x s = some (xr, sr)) (hs : isR [40] s = false) : xr = x ∧ sr = s := by
  cases n with
  | zero => cases h
  | succ m =>
    simp only [callsR, hs] at h
    injection h with h
    injection h with h1 h2
    exact ⟨h1.symm, h2.symm⟩
theorem argsR_cases {E : R1} {s s1 : RS} {xs : List Ex} (h : argsR E s = some (xs, s1)) : (isR [41] s = true ∧ xs = [] ∧ s1 = popR s) ∨ (isR [41] s = false ∧ ∃ x sx n, E s = some (x, sx) ∧ moreR E n [x] sx = some (xs, s1)) := by
  unfold argsR at h
  cases h1 : isR [41] s with
  | true =>
    simp only [h1, if_true] at h
    injection h with h
    injection h with e1 e2
    exact .inl ⟨rfl, e1.symm, e2.symm⟩
  | false =>
    simp only [h1, Bool.false_eq_true, if_false] at h
    refine .inr ⟨rfl, ?_⟩
    cases hq : E s with
    | none => rw [hq] at h; cases h
    | some q => rw [hq] at h; exact ⟨q.1, q.2, _, rfl, h⟩
theorem moreR_yes {E : R1} {n : Nat} {xs ys : List Ex} {s sr : RS} (h : moreR E n xs s = some (ys, sr)) (hs : isR [44] s = true) : ∃ m y s2, E (popR s) = some (y, s2) ∧ moreR E m (xs ++ [y]) s2 = some (ys, sr) := by
  cases n with
  | zero => cases h
  | succ m =>
    simp only [moreR, hs, if_true] at h
    cases hp : E (popR s) with
    | none => rw [hp] at h; cases h
    | some q => rw [hp] at h; exact ⟨m, q.1, q.2, rfl, h⟩
theorem moreR_no {E : R1} {n : Nat} {xs ys : List Ex} {s sr : RS} (h : moreR E n xs s = some (ys, sr)) (hs : isR [44] s = false) : ys = xs ∧ sr = expectR [41] s := by
  cases n with
  | zero => cases h
  | succ m =>
    simp only [moreR, hs] at h
    injection h with h
    injection h with h1 h2
    exact ⟨h1.symm, h2.symm⟩
theorem calledR_start {E : R1} {s s' : RS} {x : Ex} (h : calledR E s = some (x, s')) : ∃ x1 s1 n, primaryR E s = some (x1, s1) ∧ callsR E (decide ((hdR s).kind = 1)) n x1 s1 = some (x, s') := by
  unfold calledR at h
  cases hp : primaryR E s with
  | none => rw [hp] at h; cases h
  | some q => rw [hp] at h; exact ⟨q.1, q.2, _, rfl, h⟩
/-- What the loop over arguments carries, from the world W on: the row grows. -/
def MorR (E : R1) (base p tb : Nat) (ys : List Ex) (s0 s1 : RS) (W : World) (v : Value) (wr : World) : Prop :=
  ∃ n xs ss L A m c d, v = .slice A m c ∧ m = xs.length ∧ moreR E n xs ss = some (ys, s1) ∧ ArgRow base d wr (.slice A m c) xs L ∧ RA wr p tb ss ∧ W.grownBy wr (some p) ∧ xs.length + ss.rest.length ≤ s0.rest.length + 1 ∧ ss.rest.length ≤ s0.rest.length
end Go.Proofs.YtmpnkbhlagalkaaGreatDoor
