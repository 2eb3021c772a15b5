/-
  Words for slices of one-cell elements: what a slice reads as, and append where the result lies in memory of the call's own. No condition.
-/
import Derived.WalkKit
import Derived.WalkSpells
import Derived.ArgAppend
import Derived.Deep.Draws
import Derived.Maps.AppendAt
import Derived.Lib.Hide
import Derived.Outline
namespace Go.Proofs.Ytanjggfcahjkfaa
open Go.RowKit

theorem add_zero (a : Addr) : a.add 0 = a := by simp [Addr.add]
theorem block_add (a : Addr) (n : Nat) : (a.add n).block = a.block := by unfold Addr.add; split <;> rfl
theorem add_add (a : Addr) (i j : Nat) : (a.add i).add j = a.add (i + j) := by
  unfold Addr.add
  by_cases hi : i = 0 <;> by_cases hj : j = 0 <;> simp [hi, hj, Nat.add_assoc]

/-- The cells from A on are xs. -/
def Rd (w : World) (A : Option Addr) (xs : List Value) : Prop := ∀ j u, xs[j]? = some u → ∃ ad, A = some ad ∧ w.cell? (ad.add j) = some u

section
variable {w w' : World} {A : Option Addr} {xs ys : List Value}
theorem Rd.nil : Rd w A [] := fun j u h => by simp at h
theorem Rd.at_ {k : Nat} (h : Rd w A xs) (hk : k < xs.length) : ∃ ad, A = some ad ∧ w.cell? (ad.add k) = some xs[k] := h k _ (List.getElem?_eq_getElem hk)
theorem Rd.some_ (h : Rd w A xs) (hx : xs ≠ []) : ∃ ad, A = some ad := by
  obtain ⟨ad, e, _⟩ := h.at_ (k := 0) (List.length_pos_iff.2 hx)
  exact ⟨ad, e⟩
theorem Rd.cells {ad : Addr} (h : Rd w (some ad) xs) : ∀ j u, xs[j]? = some u → w.cell? (ad.add j) = some u := fun j u hu => by
  obtain ⟨_, e, hc⟩ := h j u hu
  injection e with e
  subst e
  exact hc
theorem Rd.of_cells {ad : Addr} (h : ∀ j u, xs[j]? = some u → w.cell? (ad.add j) = some u) : Rd w (some ad) xs := fun j u hu => ⟨ad, rfl, h j u hu⟩
theorem Rd.keep (h : Rd w A xs) (hk : ∀ p : Addr, p.block < w.heap.size → w'.cell? p = w.cell? p) : Rd w' A xs := fun j u hu => by
  obtain ⟨ad, e, hc⟩ := h j u hu
  exact ⟨ad, e, (hk _ (World.block_lt_of_cell? w _ hc)).trans hc⟩
theorem Rd.below (h : Rd w A xs) (hb : Below w.heap.size w w') : Rd w' A xs := h.keep fun _ hp => hb.cell hp
theorem Rd.drew (h : Rd w A xs) : Rd w.drew A xs := h
theorem Rd.drewN (h : Rd w A xs) (k : Nat) : Rd (w.drewN k) A xs := h
theorem Rd.alloc (h : Rd w A xs) (o : Obj) : Rd (w.alloc o) A xs := h.keep fun p hp => World.cell?_alloc_lt w o p hp
theorem Rd.new (w : World) (C : Array Value) (t : TypeId) (fr : Nat × Nat) : Rd (w.alloc (.cells C t fr)) (some ⟨w.heap.size, 0, none⟩) C.toList := Rd.of_cells fun j u hu => by
  rw [Addr.add_lit, Nat.zero_add]
  exact (cell_of_row _ _ _ _ _ _ (heap_alloc_new w _)).trans (by simpa using hu)
theorem Rd.left (h : Rd w A (xs ++ ys)) : Rd w A xs := fun j u hu => h j u (by
  rw [List.getElem?_append_left (by rcases Nat.lt_or_ge j xs.length with hl | hl; exact hl; rw [List.getElem?_eq_none hl] at hu; cases hu)]; exact hu)
theorem Rd.take (h : Rd w A xs) (k : Nat) : Rd w A (xs.take k) := by
  rw [← List.take_append_drop k xs] at h
  exact h.left
theorem Rd.cut (h : Rd w A xs) {k c : Nat} (hc : xs.length ≤ c) : Rd w (if c = k then A else A.map (·.add k)) (xs.drop k) := fun j u hu => by
  rw [List.getElem?_drop] at hu
  obtain ⟨ad, e, hcell⟩ := h _ u hu
  have hlt : k + j < xs.length := by
    rcases Nat.lt_or_ge (k + j) xs.length with hl | hl
    · exact hl
    · rw [List.getElem?_eq_none hl] at hu; cases hu
  rw [if_neg (by omega), e]
  exact ⟨ad.add k, rfl, by rw [add_add]; exact hcell⟩
theorem Rd.cut_lt (h : Rd w A xs) {k c : Nat} (hc : xs.length ≤ c) (hk : k < c) : Rd w (A.map (·.add k)) (xs.drop k) := by
  have := h.cut (k := k) hc
  rwa [if_neg (by omega)] at this
theorem Rd.set_ {g : Nat} (h : Rd w (some ⟨g, 0, none⟩) xs) (i : Nat) (hi : i < xs.length) (u : Value) : Rd (w.setCell ⟨g, i, none⟩ u) (some ⟨g, 0, none⟩) (xs.set i u) := Rd.of_cells fun j u' hu => by
  rw [Addr.add_lit, Nat.zero_add]
  by_cases hj : i = j
  · subst hj
    have hc := h.cells i xs[i] (List.getElem?_eq_getElem hi)
    rw [Addr.add_lit, Nat.zero_add] at hc
    rw [List.getElem?_set_self hi] at hu
    injection hu with hu
    subst hu
    exact World.cell?_setCell_same _ _ _ hc
  · rw [List.getElem?_set_ne hj] at hu
    have hc := h.cells j u' hu
    rw [Addr.add_lit, Nat.zero_add] at hc
    rw [World.cell?_setCell_other _ _ _ _ (fun he => hj (by injection he))]
    exact hc
theorem Rd.of_own {base : Nat} {e : TypeId} {n c : Nat} (h : w.ownsRow base e 1 (.slice A n c) n xs) : Rd w A xs := fun j u hu => by
  rcases h.2 with ⟨_, rfl⟩ | ⟨g, cap, cur, hv, _⟩
  · have := h.1
    have hx : xs = [] := List.eq_nil_of_length_eq_zero (by simpa using this)
    subst hx
    simp at hu
  · injection hv with hA
    subst hA
    exact ⟨_, rfl, h.cells (g := g) rfl j u hu⟩
end

/-- A slice value to which append never writes memory that was there before block base: the call's own row, or one without spare places. -/
def Sl (w : World) (base : Nat) (e : TypeId) (v : Value) (xs : List Value) : Prop :=
  w.ownsRow base e 1 v xs.length xs ∨ ∃ A, v = .slice A xs.length xs.length ∧ Rd w A xs ∧ (A = none → xs = [])

section
variable {w w' : World} {base : Nat} {e : TypeId} {v : Value} {xs : List Value}
theorem Sl.nil_ : Sl w base e (.slice none 0 0) [] := .inl (World.ownsRow_nil w base e 1)
theorem Sl.form (h : Sl w base e v xs) : ∃ A c, v = .slice A xs.length c ∧ Rd w A xs ∧ xs.length ≤ c := by
  rcases h with h | ⟨A, rfl, hr, _⟩
  · rcases h.2 with ⟨rfl, h0⟩ | ⟨g, cap, cur, rfl, _, _, hnc, _⟩
    · have hx : xs = [] := List.eq_nil_of_length_eq_zero h0
      subst hx
      exact ⟨none, 0, rfl, Rd.nil, Nat.le_refl _⟩
    · exact ⟨_, _, rfl, Rd.of_own h, hnc⟩
  · exact ⟨A, _, rfl, hr, Nat.le_refl _⟩
theorem Sl.alloc (h : Sl w base e v xs) (o : Obj) : Sl (w.alloc o) base e v xs := by
  rcases h with h | ⟨A, rfl, hr, h0⟩
  · exact .inl (h.alloc o)
  · exact .inr ⟨A, rfl, hr.alloc o, h0⟩
theorem Sl.drew (h : Sl w base e v xs) : Sl w.drew base e v xs := h
theorem Sl.below (h : Sl w base e v xs) (hb : Below w.heap.size w w') : Sl w' base e v xs := by
  rcases h with h | ⟨A, rfl, hr, h0⟩
  · exact .inl (h.kept (row := none) ⟨hb.os, hb.tape, hb.output, hb.size, fun k hk _ => hb.block k hk⟩ (by cases hv : v.ownBlock <;> simp))
  · exact .inr ⟨A, rfl, hr.below hb, h0⟩
end

theorem below_next {w w1 w2 : World} (h : Below w.heap.size w w1) (k : Below w1.heap.size w1 w2) : Below w.heap.size w w2 := h.trans (k.mono h.size)
/-- The walk stands still here: a mark that no step of the walk looks behind. -/
def Pause (p : Prop) : Prop := p
theorem Pause.out {p : Prop} (h : Pause p) : p := h
theorem Pause.of {p : Prop} (h : p) : Pause p := h

section
variable {P : Program} (w : World)
theorem run_append_sl (base : Nat) (t ty e : TypeId) (i : TypeInfo) (z : Value) (bytes : Nat) (ht : P.underlying t = some (.slice e)) (hi : P.info? e = some i) (hz : i.zero = some z)
    (hsize : i.size = 1) (hby : i.bytes = bytes) (hzs : z.cells.size = 1)
    (v : Value) (xs : List Value) (hown : Sl w base e v xs) (A : Option Addr) (m c : Nat) (news : List Value) (hm : news.length = m) (hr : Rd w A news) (h1 : ∀ u ∈ news, u.oneCell' = true)
    (h63 : xs.length + m ≤ maxLen) (hbytes : (xs.length + m) * bytes ≤ 140737488355328) (hbase : base ≤ w.heap.size) :
    ∃ v' w', (Builtin.append_ #[t, t] ty #[v, .slice A m c]).run P w = .ok v' w' ∧ Sl w' base e v' (xs ++ news) ∧ Below base w w' := by
  subst hm
  by_cases hn : news = []
  · subst hn
    refine ⟨v, w, ?_, by simpa using hown, Below.refl _ _⟩
    obtain ⟨B, d, rfl, hB, hd⟩ := hown.form
    cases A <;> cases B <;> simp [Builtin.append_, run_underlying ht, sizeOf, typeInfo, hi, Builtin.lenOf, Builtin.firstCells, loadCells, loadCellsFrom, hd, storeCells]
  · obtain ⟨ad, rfl⟩ := hr.some_ hn
    have hpos : 0 < news.length := List.length_pos_iff.2 hn
    rcases hown with hown | ⟨B, rfl, hB, h0⟩
    · obtain ⟨v', w', hrun, h2, h3, _⟩ := run_append_own (P := P) w base t ty e i z 1 bytes ht hi hz hsize hby hzs Nat.one_pos v _ xs hown ad news.length c news (by simp) hr.cells h1 h63 hbytes hbase
      exact ⟨v', w', hrun, .inl (by simpa using h2), (Below.refl base w).grown h3 hbase (fun k hk => (hown.lt k hk).1)⟩
    · cases B with
      | none =>
        have := h0 rfl
        subst this
        obtain ⟨v', w', hrun, h2, h3, _⟩ := run_append_own (P := P) w base t ty e i z 1 bytes ht hi hz hsize hby hzs Nat.one_pos (.slice none 0 0) 0 [] (World.ownsRow_nil w base e 1) ad news.length c news (by simp) hr.cells h1 (by simpa using h63) (by simpa using hbytes) hbase
        exact ⟨v', w', hrun, .inl (by simpa using h2), (Below.refl base w).grown h3 hbase (fun k hk => by simp [Value.ownBlock] at hk)⟩
      | some b =>
        obtain ⟨v', w', hrun, h2, h3⟩ := run_append_arg_grows (P := P) w t ty e i z 1 bytes ht hi hz hsize hby hzs Nat.one_pos b xs.length xs.length xs (by simp) hB.cells ad news.length c news (by simp) hr.cells (by omega) h63 hbytes
        refine ⟨v', w', hrun, .inl ?_, (Below.refl base w).grown h3 hbase (fun k hk => by cases hk)⟩
        refine ⟨by simp, ?_⟩
        rcases h2.2 with ⟨e1, e2⟩ | ⟨g, cap, cur, e1, e2, e3⟩
        · omega
        · exact .inr ⟨g, cap, cur, by simpa using e1, by omega, by simpa using e3⟩

theorem wpList_append_sl {ops : Array Oper} {rest : List Oper} {o : Oper} {a : Act} {Q : Exit → Act → World → Prop} (hgd : o.guard = none) (s x : Operand) (t : TypeId)
    (ho : o.op = .call { callee := .builtin .append, args := #[s, x], argTypes := #[t, t] })
    (base : Nat) (e : TypeId) (i : TypeInfo) (z : Value) (bytes : Nat) (ht : P.underlying t = some (.slice e)) (hi : P.info? e = some i) (hz : i.zero = some z)
    (hsize : i.size = 1) (hby : i.bytes = bytes) (hzs : z.cells.size = 1)
    (v : Value) (xs : List Value) (hs : a.eval s = v) (hown : Sl w base e v xs) (A : Option Addr) (m c : Nat) (news : List Value) (hx : a.eval x = .slice A m c) (hm : news.length = m) (hr : Rd w A news) (h1 : ∀ u ∈ news, u.oneCell' = true)
    (h63 : xs.length + m ≤ maxLen) (hbytes : (xs.length + m) * bytes ≤ 140737488355328) (hbase : base ≤ w.heap.size)
    (h : ∀ v' w', Sl w' base e v' (xs ++ news) → Below base w w' → wpList P ops Q rest (a.put o.dst v') w') : wpList P ops Q (o :: rest) a w :=
  wpList_plain hgd fun K hK => by
    obtain ⟨v', w', hrun, h2, h3⟩ := run_append_sl (P := P) w base t o.type e i z bytes ht hi hz hsize hby hzs v xs hown A m c news hm hr h1 h63 hbytes hbase
    unfold Oper.wp execOp
    simp only [ho, resolve, invoke, builtin, Sem.run_bind, Sem.run_pure, Result.andThen_ok, List.map_toArray, List.map_cons, List.map_nil, hs, hx, hrun]
    exact hK _ _ (h v' w' h2 h3)
end
end Go.Proofs.Ytanjggfcahjkfaa
