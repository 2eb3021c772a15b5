/-
  Statements in memory; rows that grow. No condition.
-/
import Derived.Test.YtjmbllbnlnjanaaNode
namespace Go.Proofs.Ytjmbllbnlnjanaa
open Go.RowKit

/-- A statement. -/
inductive St where
  | mk (kind line : Int) (name : ByteArray) (exprs : List Ex) (thens elses : List St)
/-- A statement as a value: what it holds lies in blocks of F (D: the depth of its expressions). -/
def StV (F : Nat → Prop) (w : World) (D : Nat) : Nat → St → Value → Prop
  | 0, _, _ => False
  | d + 1, .mk k l s es ts us, v => ∃ eA ec tA tc uA uc, v = .agg #[.int .i64 k, .int .i64 l, .string s, .slice eA es.length ec, .slice tA ts.length tc, .slice uA us.length uc] ∧ RowE F w D es eA ec ∧
      (ts.length ≤ tc ∧ ∀ i x, ts[i]? = some x → ∃ g off c0 c1 c2 c3 c4 c5, tA = some ⟨g, off, none⟩ ∧ F g ∧ w.cell? ⟨g, off + i * 6, none⟩ = some c0 ∧ w.cell? ⟨g, off + i * 6 + 1, none⟩ = some c1 ∧ w.cell? ⟨g, off + i * 6 + 2, none⟩ = some c2 ∧ w.cell? ⟨g, off + i * 6 + 3, none⟩ = some c3 ∧ w.cell? ⟨g, off + i * 6 + 4, none⟩ = some c4 ∧ w.cell? ⟨g, off + i * 6 + 5, none⟩ = some c5 ∧ StV F w D d x (.agg #[c0, c1, c2, c3, c4, c5])) ∧
      (us.length ≤ uc ∧ ∀ i x, us[i]? = some x → ∃ g off c0 c1 c2 c3 c4 c5, uA = some ⟨g, off, none⟩ ∧ F g ∧ w.cell? ⟨g, off + i * 6, none⟩ = some c0 ∧ w.cell? ⟨g, off + i * 6 + 1, none⟩ = some c1 ∧ w.cell? ⟨g, off + i * 6 + 2, none⟩ = some c2 ∧ w.cell? ⟨g, off + i * 6 + 3, none⟩ = some c3 ∧ w.cell? ⟨g, off + i * 6 + 4, none⟩ = some c4 ∧ w.cell? ⟨g, off + i * 6 + 5, none⟩ = some c5 ∧ StV F w D d x (.agg #[c0, c1, c2, c3, c4, c5]))
/-- A row of statements. -/
def RowS (F : Nat → Prop) (w : World) (D d : Nat) (ts : List St) (A : Option Addr) (c : Nat) : Prop :=
  ts.length ≤ c ∧ ∀ i x, ts[i]? = some x → ∃ g off c0 c1 c2 c3 c4 c5, A = some ⟨g, off, none⟩ ∧ F g ∧ w.cell? ⟨g, off + i * 6, none⟩ = some c0 ∧ w.cell? ⟨g, off + i * 6 + 1, none⟩ = some c1 ∧ w.cell? ⟨g, off + i * 6 + 2, none⟩ = some c2 ∧ w.cell? ⟨g, off + i * 6 + 3, none⟩ = some c3 ∧ w.cell? ⟨g, off + i * 6 + 4, none⟩ = some c4 ∧ w.cell? ⟨g, off + i * 6 + 5, none⟩ = some c5 ∧ StV F w D d x (.agg #[c0, c1, c2, c3, c4, c5])
theorem stV_iff {F : Nat → Prop} {w : World} {D d : Nat} {k l : Int} {s : ByteArray} {es : List Ex} {ts us : List St} {v : Value} : StV F w D (d + 1) (.mk k l s es ts us) v ↔ ∃ eA ec tA tc uA uc, v = .agg #[.int .i64 k, .int .i64 l, .string s, .slice eA es.length ec, .slice tA ts.length tc, .slice uA us.length uc] ∧ RowE F w D es eA ec ∧ RowS F w D d ts tA tc ∧ RowS F w D d us uA uc := Iff.rfl
/-- A change that leaves what is read alone: F's blocks, or all that lay there. -/
theorem StV.keep {F G : Nat → Prop} {w w' : World} {D : Nat} (hFG : ∀ k, F k → G k) (hk : ∀ k, F k → w'.heap[k]? = w.heap[k]?) : ∀ (d : Nat) (x : St) (v : Value), StV F w D d x v → StV G w' D d x v
  | 0, _, _, h => h
  | d + 1, .mk k l s es ts us, v, ⟨eA, ec, tA, tc, uA, uc, hv, he, ⟨h1, h2⟩, h3, h4⟩ => ⟨eA, ec, tA, tc, uA, uc, hv, he.keep hFG hk, ⟨h1, fun i x hi => by
      obtain ⟨g, off, c0, c1, c2, c3, c4, c5, hA, hF, e0, e1, e2, e3, e4, e5, hx⟩ := h2 i x hi
      have e : ∀ o, w'.cell? ⟨g, o, none⟩ = w.cell? ⟨g, o, none⟩ := fun o => World.cell?_of_block (hk g hF)
      exact ⟨g, off, c0, c1, c2, c3, c4, c5, hA, hFG g hF, (e _).trans e0, (e _).trans e1, (e _).trans e2, (e _).trans e3, (e _).trans e4, (e _).trans e5, StV.keep hFG hk d x _ hx⟩⟩, h3, fun i x hi => by
      obtain ⟨g, off, c0, c1, c2, c3, c4, c5, hA, hF, e0, e1, e2, e3, e4, e5, hx⟩ := h4 i x hi
      have e : ∀ o, w'.cell? ⟨g, o, none⟩ = w.cell? ⟨g, o, none⟩ := fun o => World.cell?_of_block (hk g hF)
      exact ⟨g, off, c0, c1, c2, c3, c4, c5, hA, hFG g hF, (e _).trans e0, (e _).trans e1, (e _).trans e2, (e _).trans e3, (e _).trans e4, (e _).trans e5, StV.keep hFG hk d x _ hx⟩⟩
theorem RowS.keep {F G : Nat → Prop} {w w' : World} {D d : Nat} {ts : List St} {A : Option Addr} {c : Nat} (hFG : ∀ k, F k → G k) (hk : ∀ k, F k → w'.heap[k]? = w.heap[k]?) (h : RowS F w D d ts A c) : RowS G w' D d ts A c :=
  ⟨h.1, fun i x hi => by
      obtain ⟨g, off, c0, c1, c2, c3, c4, c5, hA, hF, e0, e1, e2, e3, e4, e5, hx⟩ := h.2 i x hi
      have e : ∀ o, w'.cell? ⟨g, o, none⟩ = w.cell? ⟨g, o, none⟩ := fun o => World.cell?_of_block (hk g hF)
      exact ⟨g, off, c0, c1, c2, c3, c4, c5, hA, hFG g hF, (e _).trans e0, (e _).trans e1, (e _).trans e2, (e _).trans e3, (e _).trans e4, (e _).trans e5, StV.keep hFG hk d x _ hx⟩⟩
/-- A function of a source. -/
structure Fn where
  name : ByteArray
  line : Int
  params : List ByteArray
  body : List St
/-- A row of globals: names and sizes. -/
def GlobsAt (F : Nat → Prop) (w : World) (gl : List (ByteArray × Int)) (A : Option Addr) (c : Nat) : Prop :=
  gl.length ≤ c ∧ ∀ i x, gl[i]? = some x → ∃ g, A = some ⟨g, 0, none⟩ ∧ F g ∧ w.cell? ⟨g, i * 2, none⟩ = some (.string x.1) ∧ w.cell? ⟨g, i * 2 + 1, none⟩ = some (.int .i64 x.2)
/-- A row of strings. -/
def StrsAt (F : Nat → Prop) (w : World) (l : List ByteArray) (A : Option Addr) (c : Nat) : Prop :=
  l.length ≤ c ∧ ∀ i x, l[i]? = some x → ∃ g, A = some ⟨g, 0, none⟩ ∧ F g ∧ w.cell? ⟨g, i, none⟩ = some (.string x)
/-- A row of functions. -/
def FuncsAt (F : Nat → Prop) (w : World) (D d : Nat) (fl : List Fn) (A : Option Addr) (c : Nat) : Prop :=
  fl.length ≤ c ∧ ∀ i f, fl[i]? = some f → ∃ g pA pc bA bc, A = some ⟨g, 0, none⟩ ∧ F g ∧ w.cell? ⟨g, i * 4, none⟩ = some (.string f.name) ∧ w.cell? ⟨g, i * 4 + 1, none⟩ = some (.int .i64 f.line) ∧ w.cell? ⟨g, i * 4 + 2, none⟩ = some (.slice pA f.params.length pc) ∧ w.cell? ⟨g, i * 4 + 3, none⟩ = some (.slice bA f.body.length bc) ∧ StrsAt F w f.params pA pc ∧ RowS F w D d f.body bA bc
theorem exV_next {F : Nat → Prop} {w : World} : ∀ (d : Nat) (x : Ex) (v : Value), ExV F w d x v → ExV F w (d + 1) x v
  | 0, _, _, h => h.elim
  | d + 1, .mk k o a l s xs, v, ⟨A, c, hv, hc, h⟩ => ⟨A, c, hv, hc, fun i x hi => by
      obtain ⟨g, off, c0, c1, c2, c3, c4, c5, hA, hF, h0, h1, h2, h3, h4, h5, hx⟩ := h i x hi
      exact ⟨g, off, c0, c1, c2, c3, c4, c5, hA, hF, h0, h1, h2, h3, h4, h5, exV_next d x _ hx⟩⟩
theorem exV_more {F : Nat → Prop} {w : World} {d : Nat} {x : Ex} {v : Value} (n : Nat) (h : ExV F w d x v) : ExV F w (d + n) x v := by
  induction n with
  | zero => exact h
  | succ n ih => exact exV_next _ _ _ ih
theorem RowE.up {F : Nat → Prop} {w : World} {d : Nat} {xs : List Ex} {A : Option Addr} {c : Nat} (h : RowE F w d xs A c) (n : Nat) : RowE F w (d + n) xs A c := by
  refine ⟨h.1, fun i x hi => ?_⟩
  obtain ⟨g, off, c0, c1, c2, c3, c4, c5, hA, hF, e0, e1, e2, e3, e4, e5, hx⟩ := h.2 i x hi
  exact ⟨g, off, c0, c1, c2, c3, c4, c5, hA, hF, e0, e1, e2, e3, e4, e5, exV_more n hx⟩
theorem StV.up {F : Nat → Prop} {w : World} {D : Nat} (m : Nat) : ∀ (d : Nat) (x : St) (v : Value), StV F w D d x v → StV F w (D + m) (d + 1) x v
  | 0, _, _, h => h.elim
  | d + 1, .mk k l s es ts us, v, ⟨eA, ec, tA, tc, uA, uc, hv, he, ⟨h1, h2⟩, h3, h4⟩ => ⟨eA, ec, tA, tc, uA, uc, hv, he.up m, ⟨h1, fun i x hi => by
      obtain ⟨g, off, c0, c1, c2, c3, c4, c5, hA, hF, e0, e1, e2, e3, e4, e5, hx⟩ := h2 i x hi
      exact ⟨g, off, c0, c1, c2, c3, c4, c5, hA, hF, e0, e1, e2, e3, e4, e5, StV.up m d x _ hx⟩⟩, h3, fun i x hi => by
      obtain ⟨g, off, c0, c1, c2, c3, c4, c5, hA, hF, e0, e1, e2, e3, e4, e5, hx⟩ := h4 i x hi
      exact ⟨g, off, c0, c1, c2, c3, c4, c5, hA, hF, e0, e1, e2, e3, e4, e5, StV.up m d x _ hx⟩⟩
theorem StV.more {F : Nat → Prop} {w : World} {D d : Nat} {x : St} {v : Value} (h : StV F w D d x v) (m : Nat) : ∀ n, StV F w (D + m) (d + (n + 1)) x v
  | 0 => StV.up m d x v h
  | n + 1 => StV.up 0 _ x v (h.more m n)
theorem RowS.more {F : Nat → Prop} {w : World} {D d : Nat} {ts : List St} {A : Option Addr} {c : Nat} (h : RowS F w D d ts A c) (m n : Nat) : RowS F w (D + m) (d + (n + 1)) ts A c := by
  refine ⟨h.1, fun i x hi => ?_⟩
  obtain ⟨g, off, c0, c1, c2, c3, c4, c5, hA, hF, e0, e1, e2, e3, e4, e5, hx⟩ := h.2 i x hi
  exact ⟨g, off, c0, c1, c2, c3, c4, c5, hA, hF, e0, e1, e2, e3, e4, e5, hx.more m n⟩
end Go.Proofs.Ytjmbllbnlnjanaa
namespace Go.Proofs.Ytjmbllbnlnjanaa
open Go.RowKit

/-- What an element's cells mean, its parts in blocks of F. -/
abbrev Means (α : Type) := (Nat → Prop) → World → α → List Value → Prop
def Means.Keeps {α : Type} (V : Means α) : Prop := ∀ (F G : Nat → Prop) (w w' : World) (x : α) (cs : List Value), (∀ b, F b → G b) → (∀ b, F b → w'.heap[b]? = w.heap[b]?) → V F w x cs → V G w' x cs
/-- A row that grows: k cells an element. -/
structure GRow {α : Type} (k : Nat) (T : TypeId) (V : Means α) (base : Nat) (w : World) (v : Value) (xs : List α) (L : List Value) : Prop where
  own : w.ownsRow base T k v xs.length L
  at_ : ∀ (j : Nat) (x : α), xs[j]? = some x → ∃ cs : List Value, cs.length = k ∧ (∀ (i : Nat) (u : Value), cs[i]? = some u → L[j * k + i]? = some u) ∧ V (fun b => base ≤ b ∧ b < w.heap.size ∧ v.ownBlock ≠ some b) w x cs
/-- A row, read. -/
def RowG {α : Type} (k : Nat) (V : Means α) (F : Nat → Prop) (w : World) (xs : List α) (A : Option Addr) (c : Nat) : Prop :=
  xs.length ≤ c ∧ ∀ (i : Nat) (x : α), xs[i]? = some x → ∃ (g : Nat) (cs : List Value), A = some ⟨g, 0, none⟩ ∧ F g ∧ cs.length = k ∧ (∀ (j : Nat) (u : Value), cs[j]? = some u → w.cell? ⟨g, i * k + j, none⟩ = some u) ∧ V F w x cs
section
variable {α : Type} {k : Nat} {T : TypeId} {V : Means α} {base : Nat} {w w' : World} {v : Value} {xs : List α} {L : List Value}
theorem GRow.nil : GRow k T V base w (.slice none 0 0) [] [] := ⟨World.ownsRow_nil _ _ _ _, fun j x h => by simp at h⟩
theorem GRow.grown {g : Nat} (hV : V.Keeps) (h : GRow k T V base w v xs L) (hg : w.grownBy w' (some g)) (hb : g < base) : GRow k T V base w' v xs L := by
  refine ⟨?_, fun j x hj => ?_⟩
  · rcases h.own.2 with hn | ⟨g', cap, cur, e, hb', hh, rest⟩
    · exact ⟨h.own.1, .inl hn⟩
    · exact ⟨h.own.1, .inr ⟨g', cap, cur, e, hb', (hg.block g' (Array.getElem?_eq_some_iff.1 hh).1 (fun e => by injection e with e; omega)).trans hh, rest⟩⟩
  · obtain ⟨cs, h1, h2, h3⟩ := h.at_ j x hj
    exact ⟨cs, h1, h2, hV _ _ _ _ _ _ (fun b hb => ⟨hb.1, Nat.lt_of_lt_of_le hb.2.1 hg.size, hb.2.2⟩) (fun b hb => hg.block b hb.2.1 (fun e => by injection e with e; omega)) h3⟩
theorem GRow.map {V' : Means α} (h : GRow k T V base w v xs L) (hm : ∀ F w x cs, V F w x cs → V' F w x cs) : GRow k T V' base w v xs L :=
  ⟨h.own, fun j x hj => by
    obtain ⟨cs, h1, h2, h3⟩ := h.at_ j x hj
    exact ⟨cs, h1, h2, hm _ _ _ _ h3⟩⟩
theorem GRow.push {F : Nat → Prop} {g cap : Nat} {wa : World} {y : α} {cs : List Value} (hV : V.Keeps) (h : GRow k T V base w v xs L) (hcs : cs.length = k) (hy : V F w y cs) (hF : ∀ b, F b → base ≤ b ∧ b < w.heap.size ∧ v.ownBlock ≠ some b)
    (hown : w'.ownsRow base T k (.slice (some ⟨g, 0, none⟩) (xs.length + 1) cap) (xs.length + 1) (L ++ cs)) (ha : Below w.heap.size w wa) (hg : wa.grownBy w' v.ownBlock) (hat : v.ownBlock = some g ∨ g = wa.heap.size) :
    GRow k T V base w' (.slice (some ⟨g, 0, none⟩) (xs.length + 1) cap) (xs ++ [y]) (L ++ cs) := by
  have hL : L.length = xs.length * k := h.own.1
  have step : ∀ {F : Nat → Prop} {z : α} {us : List Value}, V F w z us → (∀ b, F b → base ≤ b ∧ b < w.heap.size ∧ v.ownBlock ≠ some b) → V (fun b => base ≤ b ∧ b < w'.heap.size ∧ (Value.slice (some ⟨g, 0, none⟩) (xs.length + 1) cap).ownBlock ≠ some b) w' z us := fun hz hF => hV _ _ _ _ _ _ (fun b hb => by
      obtain ⟨h1, h2, h3⟩ := hF b hb
      refine ⟨h1, Nat.lt_of_lt_of_le h2 (Nat.le_trans ha.size hg.size), ?_⟩
      intro e
      have e2 : g = b := by simpa [Value.ownBlock] using e
      subst e2
      rcases hat with hh | hh
      · exact h3 hh
      · have := ha.size
        omega) (fun b hb => by
      obtain ⟨h1, h2, h3⟩ := hF b hb
      exact (hg.block b (Nat.lt_of_lt_of_le h2 ha.size) (fun e => h3 e.symm)).trans (ha.block b h2)) hz
  refine ⟨by simpa using hown, fun j z hj => ?_⟩
  rcases Nat.lt_or_ge j xs.length with hlt | hge
  · rw [List.getElem?_append_left hlt] at hj
    obtain ⟨ds, h1, h2, h3⟩ := h.at_ j z hj
    refine ⟨ds, h1, fun i u hu => ?_, step h3 (fun b hb => hb)⟩
    have hk := h2 i u hu
    have hk2 : j * k + i < L.length := by
      rcases Nat.lt_or_ge (j * k + i) L.length with h' | h'
      · exact h'
      · rw [List.getElem?_eq_none h'] at hk; cases hk
    rw [List.getElem?_append_left hk2]
    exact hk
  · have hjx : j = xs.length := by
      rcases Nat.lt_or_ge xs.length j with h' | h'
      · rw [List.getElem?_eq_none (by simp; omega)] at hj; cases hj
      · omega
    subst hjx
    simp at hj
    subst hj
    refine ⟨cs, hcs, fun i u hu => ?_, step hy hF⟩
    rw [List.getElem?_append_right (by omega), hL, Nat.add_sub_cancel_left]
    exact hu
theorem GRow.row {A : Option Addr} {n c : Nat} (hV : V.Keeps) (h : GRow k T V base w (.slice A n c) xs L) : n = xs.length ∧ RowG k V (fun b => base ≤ b ∧ b < w.heap.size) w xs A c := by
  rcases h.own.2 with ⟨e, h0⟩ | ⟨g, cap, cur, e, hb, hh, hc, _⟩
  · injection e with e1 e2 e3
    subst e1 e2 e3
    exact ⟨h0.symm, by rw [h0]; exact Nat.le_refl _, fun i x hi => by rw [List.eq_nil_of_length_eq_zero h0] at hi; simp at hi⟩
  · injection e with e1 e2 e3
    subst e1 e2 e3
    refine ⟨rfl, hc, fun i x hi => ?_⟩
    obtain ⟨cs, h1, h2, h3⟩ := h.at_ i x hi
    refine ⟨g, cs, rfl, ⟨hb, (Array.getElem?_eq_some_iff.1 hh).1⟩, h1, fun j u hu => ?_, hV _ _ _ _ _ _ (fun b hb => ⟨hb.1, hb.2.1⟩) (fun _ _ => rfl) h3⟩
    have hk := h2 j u hu
    have hk2 : i * k + j < L.length := by
      rcases Nat.lt_or_ge (i * k + j) L.length with h' | h'
      · exact h'
      · rw [List.getElem?_eq_none h'] at hk; cases hk
    exact (h.own.cellAt _ (by have := h.own.1; omega)).trans hk
end
set_option maxRecDepth 10000 in
/-- One element is appended. -/
theorem wpList_append_g {α : Type} {k : Nat} {T S : TypeId} {V : Means α} {ops : Array Oper} {rest : List Oper} {o : Oper} {a : Act} {Q : Exit → Act → World → Prop} (w : World) (hgd : o.guard = none) (s x : Operand)
    (ho : o.op = .call { callee := .builtin .append, args := #[s, x], argTypes := #[S, S] }) (hV : V.Keeps) (z : Value) (bytes : Nat) (ht : Try.prog.underlying S = some (.slice T)) (hinfo : (Try.prog.info? T).map (fun i => (i.zero, i.size, i.bytes)) = some (some z, k, bytes)) (hzs : z.cells.size = k) (hk0 : 0 < k) (hb0 : bytes ≤ 1000)
    (base : Nat) (v : Value) (xs : List α) (L : List Value) (y : α) (cs : List Value) (F : Nat → Prop)
    (hs : a.eval s = v) (hx : a.eval x = .slice (some ⟨w.heap.size, 0, none⟩) 1 1) (h : GRow k T V base w v xs L) (hlen : xs.length ≤ 1000000) (hbase : base ≤ w.heap.size)
    (hcs : cs.length = k) (h1 : ∀ u ∈ cs, u.oneCell' = true) (hy : V F w y cs) (hF : ∀ b, F b → base ≤ b ∧ b < w.heap.size ∧ v.ownBlock ≠ some b)
    (hk : ∀ g cap w', GRow k T V base w' (.slice (some ⟨g, 0, none⟩) (xs.length + 1) cap) (xs ++ [y]) (L ++ cs) → w.grownBy w' v.ownBlock → wpList Try.prog ops Q rest (a.put o.dst (.slice (some ⟨g, 0, none⟩) (xs.length + 1) cap)) w') :
    wpList Try.prog ops Q (o :: rest) a (w.alloc (.cells cs.toArray T)) := by
  obtain ⟨i, hi, hz, hsz, hby⟩ := info_parts hinfo
  have hmul : (xs.length + 1) * bytes ≤ 1000001 * 1000 := Nat.mul_le_mul (by omega) hb0
  refine wpList_append_lies _ hgd s x _ ho base T i z k bytes ht hi hz hsz hby hzs hk0 v xs.length L hs (h.own.alloc _) ⟨w.heap.size, 0, none⟩ 1 1 cs hx (by omega) ?_ h1 (by decide) (by unfold maxLen; omega) (by omega) (by simp; omega) _ rfl fun g cap w' h1 h2 h3 _ => hk g cap w' (h.push hV hcs hy hF h1 ((Below.refl _ w).alloc (Nat.le_refl _) _) h2 h3) ((World.grownBy_alloc _ _ _).trans h2)
  intro j u hu
  rw [Addr.add_lit, Nat.zero_add]
  exact (cell_of_row _ _ _ _ _ _ (heap_alloc_new w _)).trans (by simpa using hu)
end Go.Proofs.Ytjmbllbnlnjanaa
