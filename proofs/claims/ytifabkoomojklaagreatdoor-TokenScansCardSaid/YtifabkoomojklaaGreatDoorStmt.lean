/-
  Statements in memory, and what the reference writes for them. No condition.
-/
import Derived.Test.YtifabkoomojklaaGreatDoorExpr5
namespace Go.Proofs.YtifabkoomojklaaGreatDoor
open Go.RowKit

/-- A statement. -/
inductive St where
  | mk (kind line : Int) (name : ByteArray) (exprs : List Ex) (thens elses : List St)
/-- A statement as a value: what it holds lies in blocks of F (D: the depth of its expressions). -/
def StV (F : Nat → Prop) (w : World) (D : Nat) : Nat → St → Value → Prop
  | 0, _, _ => False
  | d + 1, .mk k l s es ts us, v => ∃ eA ec tA tc uA uc, v = .agg #[.int .i64 k, .int .i64 l, .string s, .slice eA es.length ec, .slice tA ts.length tc, .slice uA us.length uc] ∧ RowE F w D es eA ec ∧
      (ts.length ≤ tc ∧ ∀ i x, ts[i]? = some x → ∃ g off c0 c1 c2 c3 c4 c5, tA = some ⟨g, off, none⟩ ∧ F g ∧ w.cell? ⟨g, off + i * 6, none⟩ = some c0 ∧ w.cell? ⟨g, off + i * 6 + 1, none⟩ = some c1 ∧ w.cell? ⟨g, off + i * 6 + 2, none⟩ = some c2 ∧ w.cell? ⟨g, off + i * 6 + 3, none⟩ = some c3 ∧ w.cell? ⟨g, off + i * 6 + 4, none⟩ = some c4 ∧ w.cell? ⟨g, off + i * 6 + 5, none⟩ = some c5 ∧ StV F w D d x (.agg #[c0, c1, c2, c3, c4, c5])) ∧
      (us.length ≤ uc ∧ ∀ i x, us[i]? = some x → ∃ g off c0 c1 c2 c3 c4 c5, uA = some ⟨g, off, none⟩ ∧ F g ∧ w.cell? ⟨g, off + i * 6, none⟩ = some c0 ∧ w.cell? ⟨g, off + i * 6 + 1, none⟩ = some c1 ∧ w.cell? ⟨g, off + i * 6 + 2, none⟩ = some c2 ∧ w.cell? ⟨g, off + i * 6 + 3, none⟩ = some c3 ∧ w.cell? ⟨g, off + i * 6 + 4, none⟩ = some c4 ∧ w.cell? ⟨g, off + i * 6 + 5, none⟩ = some c5 ∧ StV F w D d x (.agg #[c0, c1, c2, c3, c4, c5]))
/-- A row of statements. -/
def RowS (F : Nat → Prop) (w : World) (D d : Nat) (ts : List St) (A : Option Addr) (c : Nat) : Prop :=
  ts.length ≤ c ∧ ∀ i x, ts[i]? = some x → ∃ g off c0 c1 c2 c3 c4 c5, A = some ⟨g, off, none⟩ ∧ F g ∧ w.cell? ⟨g, off + i * 6, none⟩ = some c0 ∧ w.cell? ⟨g, off + i * 6 + 1, none⟩ = some c1 ∧ w.cell? ⟨g, off + i * 6 + 2, none⟩ = some c2 ∧ w.cell? ⟨g, off + i * 6 + 3, none⟩ = some c3 ∧ w.cell? ⟨g, off + i * 6 + 4, none⟩ = some c4 ∧ w.cell? ⟨g, off + i * 6 + 5, none⟩ = some c5 ∧ StV F w D d x (.agg #[c0, c1, c2, c3, c4, c5])
theorem stV_iff {F : Nat → Prop} {w : World} {D d : Nat} {k l : Int} {s : ByteArray} {es : List Ex} {ts us : List St} {v : Value} : StV F w D (d + 1) (.mk k l s es ts us) v ↔ ∃ eA ec tA tc uA uc, v = .agg #[.int .i64 k, .int .i64 l, .string s, .slice eA es.length ec, .slice tA ts.length tc, .slice uA us.length uc] ∧ RowE F w D es eA ec ∧ RowS F w D d ts tA tc ∧ RowS F w D d us uA uc := Iff.rfl
/-- A change that leaves what is read alone: F's blocks, or all that lay there. -/
theorem StV.keep {F G : Nat → Prop} {w w' : World} {D : Nat} (hFG : ∀ k, F k → G k) (hk : ∀ k, F k → w'.heap[k]? = w.heap[k]?) : ∀ (d : Nat) (x : St) (v : Value), StV F w D d x v → StV G w' D d x v
  | 0, _, _, h => h
  | d + 1, .mk k l s es ts us, v, ⟨eA, ec, tA, tc, uA, uc, hv, he, ⟨h1, h2⟩, h3, h4⟩ => ⟨eA, ec, tA, tc, uA, uc, hv, he.keep hFG hk, ⟨h1, fun i x hi => by
      obtain ⟨g, off, c0, c1, c2, c3, c4, c5, hA, hF, e0, e1, e2, e3, e4, e5, hx⟩ := h2 i x hi
      have e : ∀ o, w'.cell? ⟨g, o, none⟩ = w.cell? ⟨g, o, none⟩ := fun o => World.cell?_of_block (hk g hF)
      exact ⟨g, off, c0, c1, c2, c3, c4, c5, hA, hFG g hF, (e _).trans e0, (e _).trans e1, (e _).trans e2, (e _).trans e3, (e _).trans e4, (e _).trans e5, StV.keep hFG hk d x _ hx⟩⟩, h3, fun i x hi => by
      obtain ⟨g, off, c0, c1, c2, c3, c4, c5, hA, hF, e0, e1, e2, e3, e4, e5, hx⟩ := h4 i x hi
      have e : ∀ o, w'.cell? ⟨g, o, none⟩ = w.cell? ⟨g, o, none⟩ := fun o => World.cell?_of_block (hk g hF)
      exact ⟨g, off, c0, c1, c2, c3, c4, c5, hA, hFG g hF, (e _).trans e0, (e _).trans e1, (e _).trans e2, (e _).trans e3, (e _).trans e4, (e _).trans e5, StV.keep hFG hk d x _ hx⟩⟩
theorem RowS.keep {F G : Nat → Prop} {w w' : World} {D d : Nat} {ts : List St} {A : Option Addr} {c : Nat} (hFG : ∀ k, F k → G k) (hk : ∀ k, F k → w'.heap[k]? = w.heap[k]?) (h : RowS F w D d ts A c) : RowS G w' D d ts A c :=
  ⟨h.1, fun i x hi => by
      obtain ⟨g, off, c0, c1, c2, c3, c4, c5, hA, hF, e0, e1, e2, e3, e4, e5, hx⟩ := h.2 i x hi
      have e : ∀ o, w'.cell? ⟨g, o, none⟩ = w.cell? ⟨g, o, none⟩ := fun o => World.cell?_of_block (hk g hF)
      exact ⟨g, off, c0, c1, c2, c3, c4, c5, hA, hFG g hF, (e _).trans e0, (e _).trans e1, (e _).trans e2, (e _).trans e3, (e _).trans e4, (e _).trans e5, StV.keep hFG hk d x _ hx⟩⟩
theorem StV.low {F : Nat → Prop} {w w' : World} {D : Nat} (hb : Below w.heap.size w w') : ∀ (d : Nat) (x : St) (v : Value), StV F w D d x v → StV (fun k => k < w'.heap.size) w' D d x v
  | 0, _, _, h => h
  | d + 1, .mk k l s es ts us, v, ⟨eA, ec, tA, tc, uA, uc, hv, he, ⟨h1, h2⟩, h3, h4⟩ => ⟨eA, ec, tA, tc, uA, uc, hv, he.low hb, ⟨h1, fun i x hi => by
      obtain ⟨g, off, c0, c1, c2, c3, c4, c5, hA, hF, e0, e1, e2, e3, e4, e5, hx⟩ := h2 i x hi
      exact ⟨g, off, c0, c1, c2, c3, c4, c5, hA, Nat.lt_of_lt_of_le (World.block_lt_of_cell? _ _ e0) hb.size, hold hb e0, hold hb e1, hold hb e2, hold hb e3, hold hb e4, hold hb e5, StV.low hb d x _ hx⟩⟩, h3, fun i x hi => by
      obtain ⟨g, off, c0, c1, c2, c3, c4, c5, hA, hF, e0, e1, e2, e3, e4, e5, hx⟩ := h4 i x hi
      exact ⟨g, off, c0, c1, c2, c3, c4, c5, hA, Nat.lt_of_lt_of_le (World.block_lt_of_cell? _ _ e0) hb.size, hold hb e0, hold hb e1, hold hb e2, hold hb e3, hold hb e4, hold hb e5, StV.low hb d x _ hx⟩⟩
theorem RowS.low {F : Nat → Prop} {w w' : World} {D d : Nat} {ts : List St} {A : Option Addr} {c : Nat} (hb : Below w.heap.size w w') (h : RowS F w D d ts A c) : RowS (fun k => k < w'.heap.size) w' D d ts A c :=
  ⟨h.1, fun i x hi => by
      obtain ⟨g, off, c0, c1, c2, c3, c4, c5, hA, hF, e0, e1, e2, e3, e4, e5, hx⟩ := h.2 i x hi
      exact ⟨g, off, c0, c1, c2, c3, c4, c5, hA, Nat.lt_of_lt_of_le (World.block_lt_of_cell? _ _ e0) hb.size, hold hb e0, hold hb e1, hold hb e2, hold hb e3, hold hb e4, hold hb e5, StV.low hb d x _ hx⟩⟩
/-- The text of the expression at a place. -/
def valL (D : Nat) (es : List Ex) (i : Nat) : Bytes := match es[i]? with | some x => fmtE D x | none => []
/-- What is written for a statement; B writes the statements within it. -/
def stL (D : Nat) (B : List St → Bytes → Bytes) (ind : Bytes) : St → Bytes
  | .mk k _ s es tt uu =>
    ind ++ (if k = 1 then [118, 97, 114, 32] ++ s.data.toList ++ [32, 61, 32] ++ valL D es 0 ++ [59]
      else if k = 2 then s.data.toList ++ [32, 61, 32] ++ valL D es 0 ++ [59]
      else if k = 3 then s.data.toList ++ [91] ++ valL D es 0 ++ [93, 32, 61, 32] ++ valL D es 1 ++ [59]
      else if k = 6 then [114, 101, 116, 117, 114, 110, 32] ++ valL D es 0 ++ [59]
      else if k = 7 then [112, 114, 105, 110, 116, 32] ++ valL D es 0 ++ [59]
      else if k = 8 then [99, 97, 108, 108, 32] ++ valL D es 0 ++ [59]
      else if k = 5 then [119, 104, 105, 108, 101, 32] ++ valL D es 0 ++ [32, 123, 10] ++ B tt (ind ++ [9]) ++ ind ++ [125]
      else if k = 4 then [105, 102, 32] ++ valL D es 0 ++ [32, 123, 10] ++ B tt (ind ++ [9]) ++ ind ++ [125] ++ (if uu.length = 0 then [] else [32, 101, 108, 115, 101, 32, 123, 10] ++ B uu (ind ++ [9]) ++ ind ++ [125])
      else []) ++ [10]
/-- What is written for statements. -/
def fmtB (D : Nat) : Nat → List St → Bytes → Bytes
  | 0, _, _ => []
  | d + 1, ts, ind => ts.flatMap (stL D (fmtB D d) ind)
/-- Statements with what their kinds want. -/
def ShS (D : Nat) : Nat → St → Prop
  | 0, _ => False
  | d + 1, .mk k _ s es ts us => s.size ≤ 1000 ∧ (∀ x ∈ es, ShE D x) ∧ (∀ t ∈ ts, ShS D d t) ∧ (∀ t ∈ us, ShS D d t) ∧ 1 ≤ es.length ∧ es.length ≤ 1000 ∧ ts.length ≤ 1000 ∧ us.length ≤ 1000 ∧
      (k = 1 ∨ k = 2 ∨ (k = 3 ∧ 2 ≤ es.length) ∨ k = 6 ∨ k = 7 ∨ k = 8 ∨ k = 5 ∨ k = 4)
set_option maxRecDepth 10000 in
set_option maxHeartbeats 1000000 in
theorem value_5 (D : Nat) (F : Nat → Prop) (k l : Int) (s : ByteArray) (es : List Ex) (eA tA uA : Option Addr) (ec tn tc un uc : Nat) (i : Nat) (w : World) (hr : RowE F w D es eA ec) (hs : ∀ x ∈ es, ShE D x) (hi : i < es.length) (hl : (valL D es i).length ≤ 1099511627776) :
    Calls Tryz.prog 48 #[.agg #[.int .i64 k, .int .i64 l, .string s, .slice eA es.length ec, .slice tA tn tc, .slice uA un uc], .int .i64 (i : Int)] w (RetStr (valL D es i) w) := by
  have hb0 := (Below.refl _ w).alloc (Nat.le_refl _) (.cells #[.int .i64 k, .int .i64 l, .string s, .slice eA es.length ec, .slice tA tn tc, .slice uA un uc] 84)
  have Hb0 := Lib.hid hb0
  obtain ⟨x, hx⟩ : ∃ x, es[i]? = some x := ⟨es[i], List.getElem?_eq_getElem _⟩
  have hv : valL D es i = fmtE D x := by rw [valL, hx]
  rw [hv] at hl ⊢
  obtain ⟨g, off, c0, c1, c2, c3, c4, c5, rfl, _, e0, e1, e2, e3, e4, e5, hxv⟩ := hr.2 i x hx
  have hec := hr.1
  have d0 := hold hb0 e0
  have d1 := hold hb0 e1
  have d2 := hold hb0 e2
  have d3 := hold hb0 e3
  have d4 := hold hb0 e4
  have d5 := hold hb0 e5
  have hc := Lib.hid (expr_5 D _ x _ _ (ExV.low hb0 D x _ hxv) (hs x (List.mem_of_getElem? hx)) hl)
  obtain ⟨n, hnn⟩ : ∃ n, n = es.length := ⟨_, rfl⟩
  rw [← hnn] at hi hec hc d0 d1 d2 d3 d4 d5 Hb0 ⊢
  clear hb0 hr hs hl hv hx hxv e0 e1 e2 e3 e4 e5 hnn
  go_enter Tryz.func48, Tryz.ntmps48
  go_wp2_with fail
  refine hc.out.mono ?_
  rintro e w1 ⟨t, rfl, ht, hb⟩
  have Hb := Lib.hid (below_next Hb0.out hb)
  clear hb
  go_wp2_with fail
  go_ret
  exact retStr ht.out Hb.out
end Go.Proofs.YtifabkoomojklaaGreatDoor
