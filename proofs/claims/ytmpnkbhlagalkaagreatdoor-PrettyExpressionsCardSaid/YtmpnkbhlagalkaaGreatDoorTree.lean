/-
  Trees of expressions in memory, and what the reference writes for them. No condition.
-/
import Derived.Test.YtmpnkbhlagalkaaGreatDoorTok4
import Derived.Laws.IdiomStrings
import Derived.Deep.RegionHeld3
import Derived.Deep.AppendLies
namespace Go.Proofs.YtmpnkbhlagalkaaGreatDoor
open Go.RowKit

/-- An expression. -/
inductive Ex where
  | mk (kind op value line : Int) (name : ByteArray) (args : List Ex)
def Ex.kind : Ex → Int | .mk k _ _ _ _ _ => k
def Ex.args : Ex → List Ex | .mk _ _ _ _ _ xs => xs
/-- An expression xs a value: its operands lie in blocks of F. -/
def ExV (F : Nat → Prop) (w : World) : Nat → Ex → Value → Prop
  | 0, _, _ => False
  | d + 1, .mk k o a l s xs, v => ∃ A c, v = .agg #[.int .i64 k, .int .i64 o, .int .i64 a, .int .i64 l, .string s, .slice A xs.length c] ∧ xs.length ≤ c ∧
      ∀ i x, xs[i]? = some x → ∃ g off c0 c1 c2 c3 c4 c5, A = some ⟨g, off, none⟩ ∧ F g ∧ w.cell? ⟨g, off + i * 6, none⟩ = some c0 ∧ w.cell? ⟨g, off + i * 6 + 1, none⟩ = some c1 ∧ w.cell? ⟨g, off + i * 6 + 2, none⟩ = some c2 ∧ w.cell? ⟨g, off + i * 6 + 3, none⟩ = some c3 ∧ w.cell? ⟨g, off + i * 6 + 4, none⟩ = some c4 ∧ w.cell? ⟨g, off + i * 6 + 5, none⟩ = some c5 ∧ ExV F w d x (.agg #[c0, c1, c2, c3, c4, c5])
/-- A row of expressions. -/
def RowE (F : Nat → Prop) (w : World) (d : Nat) (xs : List Ex) (A : Option Addr) (c : Nat) : Prop :=
  xs.length ≤ c ∧ ∀ i x, xs[i]? = some x → ∃ g off c0 c1 c2 c3 c4 c5, A = some ⟨g, off, none⟩ ∧ F g ∧ w.cell? ⟨g, off + i * 6, none⟩ = some c0 ∧ w.cell? ⟨g, off + i * 6 + 1, none⟩ = some c1 ∧ w.cell? ⟨g, off + i * 6 + 2, none⟩ = some c2 ∧ w.cell? ⟨g, off + i * 6 + 3, none⟩ = some c3 ∧ w.cell? ⟨g, off + i * 6 + 4, none⟩ = some c4 ∧ w.cell? ⟨g, off + i * 6 + 5, none⟩ = some c5 ∧ ExV F w d x (.agg #[c0, c1, c2, c3, c4, c5])
theorem exV_iff {F : Nat → Prop} {w : World} {d : Nat} {k o a l : Int} {s : ByteArray} {xs : List Ex} {v : Value} : ExV F w (d + 1) (.mk k o a l s xs) v ↔ ∃ A c, v = .agg #[.int .i64 k, .int .i64 o, .int .i64 a, .int .i64 l, .string s, .slice A xs.length c] ∧ RowE F w d xs A c := Iff.rfl
theorem ExV.keep {F G : Nat → Prop} {w w' : World} (hFG : ∀ k, F k → G k) (hk : ∀ k, F k → w'.heap[k]? = w.heap[k]?) : ∀ (d : Nat) (x : Ex) (v : Value), ExV F w d x v → ExV G w' d x v
  | 0, _, _, h => h
  | d + 1, .mk k o a l s xs, v, ⟨A, c, hv, hc, h⟩ => ⟨A, c, hv, hc, fun i x hi => by
      obtain ⟨g, off, c0, c1, c2, c3, c4, c5, hA, hF, h0, h1, h2, h3, h4, h5, hx⟩ := h i x hi
      have e : ∀ o, w'.cell? ⟨g, o, none⟩ = w.cell? ⟨g, o, none⟩ := fun o => World.cell?_of_block (hk g hF)
      exact ⟨g, off, c0, c1, c2, c3, c4, c5, hA, hFG g hF, (e _).trans h0, (e _).trans h1, (e _).trans h2, (e _).trans h3, (e _).trans h4, (e _).trans h5, ExV.keep hFG hk d x _ hx⟩⟩
theorem RowE.keep {F G : Nat → Prop} {w w' : World} {d : Nat} {xs : List Ex} {A : Option Addr} {c : Nat} (hFG : ∀ k, F k → G k) (hk : ∀ k, F k → w'.heap[k]? = w.heap[k]?) (h : RowE F w d xs A c) : RowE G w' d xs A c := by
  have := ExV.keep hFG hk (d + 1) (.mk 0 0 0 0 ⟨#[]⟩ xs) _ ⟨A, c, rfl, h⟩
  obtain ⟨A', c', e, h'⟩ := this
  injection e with e
  injection e with e
  injection e with _ e
  injection e with _ e
  injection e with _ e
  injection e with _ e
  injection e with _ e
  injection e with e _
  injection e with e1 e2 e3
  subst e1 e3
  exact h'
/-- Digits of a number. -/
def numL (n : Nat) : Bytes := if h : n < 10 then [UInt8.ofNat (48 + n)] else numL (n / 10) ++ [UInt8.ofNat (48 + n % 10)]
termination_by n
decreasing_by omega
def signL (o : Int) : Bytes := if o = 1 then [45] else if o = 2 then [33] else if o = 3 then [43] else if o = 4 then [45] else if o = 5 then [42] else if o = 6 then [47] else if o = 7 then [37] else if o = 8 then [60] else if o = 9 then [60, 61] else if o = 10 then [61, 61] else if o = 11 then [33, 61] else []
/-- Whether an expression stands in parentheses xs an operand. -/
def compK (k : Int) : Bool := decide (k = 5) || decide (k = 6) || decide (k = 7) || decide (k = 8)
/-- What is written for an expression. -/
def fmtE : Nat → Ex → Bytes
  | 0, _ => []
  | d + 1, .mk k o a _ s xs =>
    let opd := fun (x : Ex) => if compK x.kind then 40 :: (fmtE d x ++ [41]) else fmtE d x
    let lst := fun (l : List Ex) => 40 :: (([44, 32] : Bytes).intercalate (l.map (fmtE d)) ++ [41])
    if k = 1 then numL (max a 0).toNat
    else if k = 13 ∨ k = 2 ∨ k = 3 then s.data.toList
    else if k = 12 then [114, 101, 97, 100]
    else if k = 11 then 38 :: s.data.toList
    else match k, xs with
      | 4, [x] => s.data.toList ++ 91 :: (fmtE d x ++ [93])
      | 5, [x] => signL o ++ opd x
      | 6, [x, y] => opd x ++ 32 :: (signL o ++ 32 :: opd y)
      | 7, [x, y] => opd x ++ [32, 38, 38, 32] ++ opd y
      | 8, [x, y] => opd x ++ [32, 124, 124, 32] ++ opd y
      | 9, l => s.data.toList ++ lst l
      | 10, x :: l => (if x.kind = 13 ∨ x.kind = 2 ∨ x.kind = 3 then 40 :: (opd x ++ [41]) else opd x) ++ lst l
      | _, _ => []
def opd (d : Nat) (x : Ex) : Bytes := if compK x.kind then 40 :: (fmtE d x ++ [41]) else fmtE d x
def lst (d : Nat) (l : List Ex) : Bytes := 40 :: (([44, 32] : Bytes).intercalate (l.map (fmtE d)) ++ [41])
/-- A tree whose nodes have the operands that their kinds want. -/
def ShE : Nat → Ex → Prop
  | 0, _ => False
  | d + 1, .mk k o a _ s xs => xs.length ≤ 1000 ∧ s.size ≤ 1000 ∧ -9223372036854775808 ≤ a ∧ a < 9223372036854775808 ∧ 0 ≤ o ∧ o ≤ 11 ∧ (∀ x ∈ xs, ShE d x) ∧
      (k = 1 ∨ k = 13 ∨ k = 2 ∨ k = 3 ∨ k = 12 ∨ k = 11 ∨ (k = 4 ∧ xs.length = 1) ∨ (k = 5 ∧ xs.length = 1) ∨ (k = 6 ∧ xs.length = 2) ∨ (k = 7 ∧ xs.length = 2) ∨ (k = 8 ∧ xs.length = 2) ∨ k = 9 ∨ (k = 10 ∧ 1 ≤ xs.length))
/-- A string of these bytes is handed back; memory has grown at most. -/
def RetStr (l : Bytes) (w : World) (e : Ending) (w' : World) : Prop := ∃ s : ByteArray, e = .returned (.string s) ∧ Hid (s.data.toList = l) ∧ Below w.heap.size w w'
theorem size_of {s : ByteArray} {l : Bytes} (h : s.data.toList = l) : s.size = l.length := by rw [← h]; simp
theorem retStr {s : ByteArray} {l : Bytes} {w w' : World} (h : s.data.toList = l) (hb : Below w.heap.size w w') : RetStr l w (.returned (.string s)) w' := ⟨s, rfl, Lib.hid h, hb⟩
theorem numL_len : ∀ (k n : Nat), n < 10 ^ (k + 1) → (numL n).length ≤ k + 1
  | 0, n, h => by rw [numL, dif_pos (by simpa using h)]; simp
  | k + 1, n, h => by
    rw [numL]
    split
    · simp
    · have := numL_len k (n / 10) (by rw [Nat.pow_succ] at h; omega)
      simp
      omega
theorem numL_small {n : Nat} (h : n < 9223372036854775808) : (numL n).length ≤ 19 := numL_len 18 n (by omega)
end Go.Proofs.YtmpnkbhlagalkaaGreatDoor
