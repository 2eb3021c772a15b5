/-
  The walk of machine.Decode: what it carries. Condition: the bytes can be read; the table reads as the program's text lays it.
-/
import Derived.Test.YtebmmdafmgphdaaDoorMacF3
namespace Go.Proofs.YtebmmdafmgphdaaDoor
open Go.RowKit

theorem st_row (w : World) (r i : Nat) (row row' : Array Value) (u : Value) (h : w.heap[r]? = some (.cells row 26 (0, 0))) (e : row.setIfInBounds i u = row') : (w.setCell ⟨r, i, none⟩ u).heap[r]? = some (.cells row' 26 (0, 0)) := by
  rw [← e]
  exact heap_setCell_same w r i _ _ u h
theorem set8 (w : World) (r : Nat) (a0 a1 a2 a3 a4 a5 a6 a7 : Value) (h : w.heap[r]? = some (.cells (kRow 0 0 0 0 0 0 false (.slice none 0 0)) 26 (0, 0))) :
    ((((((((w.setCell ⟨r, 0, none⟩ a0).setCell ⟨r, 1, none⟩ a1).setCell ⟨r, 2, none⟩ a2).setCell ⟨r, 3, none⟩ a3).setCell ⟨r, 4, none⟩ a4).setCell ⟨r, 5, none⟩ a5).setCell ⟨r, 6, none⟩ a6).setCell ⟨r, 7, none⟩ a7).heap[r]? = some (.cells #[a0, a1, a2, a3, a4, a5, a6, a7] 26 (0, 0)) := by
  have h0 := st_row w r 0 _ #[a0, .int .i64 0, .int .i64 0, .int .i64 0, .int .i64 0, .int .i64 0, .bool false, .slice none 0 0] a0 h rfl
  have h1 := st_row _ r 1 _ #[a0, a1, .int .i64 0, .int .i64 0, .int .i64 0, .int .i64 0, .bool false, .slice none 0 0] a1 h0 rfl
  have h2 := st_row _ r 2 _ #[a0, a1, a2, .int .i64 0, .int .i64 0, .int .i64 0, .bool false, .slice none 0 0] a2 h1 rfl
  have h3 := st_row _ r 3 _ #[a0, a1, a2, a3, .int .i64 0, .int .i64 0, .bool false, .slice none 0 0] a3 h2 rfl
  have h4 := st_row _ r 4 _ #[a0, a1, a2, a3, a4, .int .i64 0, .bool false, .slice none 0 0] a4 h3 rfl
  have h5 := st_row _ r 5 _ #[a0, a1, a2, a3, a4, a5, .bool false, .slice none 0 0] a5 h4 rfl
  have h6 := st_row _ r 6 _ #[a0, a1, a2, a3, a4, a5, a6, .slice none 0 0] a6 h5 rfl
  exact st_row _ r 7 _ #[a0, a1, a2, a3, a4, a5, a6, a7] a7 h6 rfl
theorem set8_only (w : World) (r : Nat) (a0 a1 a2 a3 a4 a5 a6 a7 : Value) :
    w.grownBy ((((((((w.setCell ⟨r, 0, none⟩ a0).setCell ⟨r, 1, none⟩ a1).setCell ⟨r, 2, none⟩ a2).setCell ⟨r, 3, none⟩ a3).setCell ⟨r, 4, none⟩ a4).setCell ⟨r, 5, none⟩ a5).setCell ⟨r, 6, none⟩ a6).setCell ⟨r, 7, none⟩ a7) (some r) :=
  (((((((set_only w r 0 a0).trans (set_only _ r 1 a1)).trans (set_only _ r 2 a2)).trans (set_only _ r 3 a3)).trans (set_only _ r 4 a4)).trans (set_only _ r 5 a5)).trans (set_only _ r 6 a6)).trans (set_only _ r 7 a7)
theorem rd_apart {w w' : World} {A : Option Addr} {xs : List Value} {r : Nat} (h : Rd w A xs) (hg : w.grownBy w' (some r)) (hne : ∀ ad, A = some ad → ad.block ≠ r) : Rd w' A xs := fun j u hu => by
  obtain ⟨ad, e, hc⟩ := h j u hu
  refine ⟨ad, e, ?_⟩
  have hlt := World.block_lt_of_cell? _ _ hc
  rw [block_add] at hlt
  have hb := hg.block ad.block hlt (fun e2 => hne ad e (by injection e2))
  simp only [World.cell?, block_add] at hc ⊢
  rw [hb]
  exact hc
theorem own_above {w : World} {base n size : Nat} {T : TypeId} {A : Option Addr} {m c : Nat} {xs : List Value} (h : w.ownsRow base T size (.slice A m c) n xs) : ∀ ad, A = some ad → base ≤ ad.block := by
  rintro ad rfl
  rcases h.2 with ⟨h2, _⟩ | ⟨g, cap, cur, h2, hb, _⟩
  · cases h2
  · injection h2 with h2
    injection h2 with h2
    subst h2
    exact hb
theorem decFs_snoc (f : Fd) : ∀ (fs : List Fd) (y : Cd) (r : List Nat), decFs (fs ++ [f]) y r = match decFs fs y r with
    | none => none
    | some (z, q) => decF z q f
  | [], y, r => by
    simp only [List.nil_append, decFs]
    cases decF y r f with
    | none => rfl
    | some x => rfl
  | g :: fs, y, r => by
    simp only [List.cons_append, decFs]
    cases decF y r g with
    | none => rfl
    | some x => exact decFs_snoc f fs x.1 x.2
theorem sgn_i64 (w x : Nat) (hw : w ≤ 8) (hx : x < 256 ^ w) : i64C (sgnC w x) := by
  unfold sgnC i64C
  have h8 : (256 : Nat) ^ w ≤ 256 ^ 8 := Nat.pow_le_pow_right (by decide) hw
  have e8 : (256 : Nat) ^ 8 = 18446744073709551616 := by decide
  have e : ((256 : Int) ^ w) = ((256 ^ w : Nat) : Int) := (Int.natCast_pow 256 w).symm
  rw [e]
  split <;> omega
theorem decF_i64 (f : Fd) (y z : Cd) (r q : List Nat) (hr : ∀ x ∈ r, x < 256) (hy : i64C y.val) (h : decF y r f = some (z, q)) : i64C z.val ∧ (∀ x ∈ q, x < 256) ∧ z.op = y.op ∧ z.wide = y.wide := by
  unfold decF at h
  split at h
  · cases h
  · rename_i hl
    have hlt : ∀ k, k ≤ r.length → leN (r.take k) < 256 ^ k := fun k hk => by
      have := leN_lt (r.take k) (fun x hx => hr x (List.mem_of_mem_take hx))
      rwa [List.length_take, Nat.min_eq_left hk] at this
    split at h
    · split at h
      · cases h
      · simp only [Option.some.injEq, Prod.mk.injEq] at h
        obtain ⟨rfl, rfl⟩ := h
        exact ⟨hy, fun x hx => hr x (List.mem_of_mem_drop (List.mem_of_mem_drop hx)), rfl, rfl⟩
    · simp only [Option.some.injEq, Prod.mk.injEq] at h
      obtain ⟨rfl, rfl⟩ := h
      refine ⟨?_, fun x hx => hr x (List.mem_of_mem_drop hx), by cases f <;> rfl, by cases f <;> rfl⟩
      have hk : ∀ k, k ≤ 4 → k ≤ r.length → i64C ((leN (r.take k) : Nat) : Int) := fun k h4 hkr => by
        have h1 := hlt k hkr
        have h8 : (256 : Nat) ^ k ≤ 256 ^ 4 := Nat.pow_le_pow_right (by decide) h4
        have e8 : (256 : Nat) ^ 4 = 4294967296 := by decide
        exact ⟨by omega, by omega⟩
      cases f with
      | k => exact sgn_i64 8 _ (by decide) (hlt 8 (by simp only [widC] at hl; omega))
      | j =>
        cases hw : y.wide with
        | true =>
          simp only [widC, hw, if_true] at hl
          simp only [setF, widC, if_true]
          exact sgn_i64 4 _ (by decide) (hlt 4 (by omega))
        | false =>
          simp only [widC, hw, Bool.false_eq_true, if_false] at hl
          simp only [setF, widC, Bool.false_eq_true, if_false]
          exact sgn_i64 1 _ (by decide) (hlt 1 (by omega))
      | v => exact hk 1 (by decide) (by simp only [widC] at hl; omega)
      | w => exact hk 2 (by decide) (by simp only [widC] at hl; omega)
      | c => exact hk 4 (by decide) (by simp only [widC] at hl; omega)
      | _ => exact hy
theorem n_once : ∀ n : Fin 19, ∀ j : Fin 5, (rowC ((n.val : Nat) : Int))[j.val]? = some .n → Fd.n ∉ (rowC ((n.val : Nat) : Int)).take j.val := by decide +kernel
theorem row_few : ∀ n : Fin 19, (rowC ((n.val : Nat) : Int)).length ≤ 4 := by decide +kernel
/-- Decode under way. -/
structure DcR (w0 : World) (p q it base n : Nat) (wd : Bool) (l0 : List Nat) (j : Nat) (y : Cd) (v : Value) (m : Nat) (xs : List Nat) (A : Option Addr) (l : List Nat) (rn rc : Nat) (sh : Bool) (w : World) : Prop where
  fs : FS w0 p q base it (.stringIter (strL (lets n)) j) y v m xs A l rn rc sh w
  itl : w0.heap.size ≤ it
  op : y.op = n
  wide : y.wide = wd
  few : if Fd.n ∈ (rowC (n : Int)).take j then m ≤ 255 else m = 0
  good : sh = false → decFs ((rowC (n : Int)).take j) { zeroC with op := (n : Int), wide := wd } l0 = some (y, l)
  bad : sh = true → decFs ((rowC (n : Int)).take j) { zeroC with op := (n : Int), wide := wd } l0 = none
theorem DcR.next {w0 w : World} {p q it base n : Nat} {wd : Bool} {l0 : List Nat} {j : Nat} {y : Cd} {v : Value} {m : Nat} {xs : List Nat} {A : Option Addr} {l : List Nat} {rn rc : Nat} {sh : Bool} (h : DcR w0 p q it base n wd l0 j y v m xs A l rn rc sh w) :
    FS w0 p q base it (.stringIter (strL (lets n)) (j + 1)) y v m xs A l rn rc sh (w.iterAt it (strL (lets n)) (j + 1)) := by
  have hi := h.fs.it
  refine ⟨(Lib.iterAt_other w it p _ _ hi.2.1.symm).trans h.fs.row, h.fs.args, h.fs.own.kept (row := some it) ⟨rfl, rfl, rfl, by rw [Lib.iterAt_size]; exact Nat.le_refl _, fun i _ hi => Lib.iterAt_other w it i _ _ (fun e => hi (by rw [e]))⟩ (own_ne h.fs.own hi.2.2.2), (Lib.iterAt_other w it q _ _ hi.2.2.1.symm).trans h.fs.rdr, h.fs.rd, h.fs.byte, h.fs.len, Lib.below_iterAt h.fs.bel h.itl _ _, ⟨Lib.iterAt_heap w it _ _ _ hi.1, hi.2⟩, by rw [Lib.iterAt_size]; exact h.fs.lo⟩
/-- One field more. -/
theorem DcR.field {w0 w w' : World} {p q it base n : Nat} {wd : Bool} {l0 : List Nat} {j : Nat} {y : Cd} {v : Value} {m : Nat} {xs : List Nat} {A : Option Addr} {l : List Nat} {rn rc : Nat} {sh : Bool} (h : DcR w0 p q it base n wd l0 j y v m xs A l rn rc sh w) (hn : n < 19) (f : Fd) (hf : (rowC (n : Int))[j]? = some f)
    {e : Ending} (hp : FldP w0 p q base it (.stringIter (strL (lets n)) (j + 1)) y l m sh f e w') : e = .returned (.tuple #[]) ∧ ∃ y' v' m' xs' A' l' rn' rc' sh', DcR w0 p q it base n wd l0 (j + 1) y' v' m' xs' A' l' rn' rc' sh' w' := by
  obtain ⟨y', v', m', xs', A', l', rn', rc', sh', rfl, hF, h1, h2, h3, h4, h5, h6⟩ := hp
  have htk : (rowC (n : Int)).take (j + 1) = (rowC (n : Int)).take j ++ [f] := by
    rw [List.take_add_one, hf]
    rfl
  refine ⟨rfl, y', v', m', xs', A', l', rn', rc', sh', ⟨hF, h.itl, h1.trans h.op, h2.trans h.wide, ?_, ?_, ?_⟩⟩
  · have hfew := h.few
    rw [htk]
    by_cases hfn : f = .n
    · subst hfn
      have hj : j < 5 := by
        have h7 := row_few ⟨n, hn⟩
        have := (List.getElem?_eq_some_iff.1 hf).1
        simp only at h7
        omega
      rw [if_neg (n_once ⟨n, hn⟩ ⟨j, hj⟩ hf)] at hfew
      rw [if_pos (by simp)]
      omega
    · have := h6 hfn
      by_cases hin : Fd.n ∈ (rowC (n : Int)).take j
      · rw [if_pos hin] at hfew
        rw [if_pos (List.mem_append_left _ hin)]
        omega
      · rw [if_neg hin] at hfew
        rw [if_neg (by
          rw [List.mem_append, List.mem_singleton]
          rintro (h | h)
          · exact hin h
          · exact hfn h.symm)]
        omega
  · intro hs
    have hsf : sh = false := by
      cases sh with
      | false => rfl
      | true => rw [h3 rfl] at hs; cases hs
    rw [htk, decFs_snoc, h.good hsf]
    rcases h4 hsf with ⟨h7, _⟩ | ⟨_, h7⟩
    · exact h7
    · rw [h7] at hs
      cases hs
  · intro hs
    rw [htk, decFs_snoc]
    cases hsf : sh with
    | true => rw [h.bad hsf]
    | false =>
      rw [h.good hsf]
      rcases h4 hsf with ⟨_, h7⟩ | ⟨h7, _⟩
      · rw [h7] at hs
        cases hs
      · exact h7
theorem decF_short (f : Fd) (y z : Cd) (r q : List Nat) (h : decF y r f = some (z, q)) : q.length ≤ r.length := by
  unfold decF at h
  split at h
  · cases h
  · split at h
    · split at h
      · cases h
      · simp only [Option.some.injEq, Prod.mk.injEq] at h
        rw [← h.2, List.length_drop, List.length_drop]
        omega
    · simp only [Option.some.injEq, Prod.mk.injEq] at h
      rw [← h.2, List.length_drop]
      omega
theorem decFs_short : ∀ (fs : List Fd) (y z : Cd) (r q : List Nat), decFs fs y r = some (z, q) → q.length ≤ r.length
  | [], y, z, r, q, h => by
    simp only [decFs, Option.some.injEq, Prod.mk.injEq] at h
    rw [h.2]
    exact Nat.le_refl _
  | f :: fs, y, z, r, q, h => by
    simp only [decFs] at h
    cases hd : decF y r f with
    | none =>
      rw [hd] at h
      cases h
    | some x =>
      rw [hd] at h
      exact Nat.le_trans (decFs_short fs x.1 z x.2 q h) (decF_short f y x.1 r x.2 hd)
theorem decFs_i64 : ∀ (fs : List Fd) (y z : Cd) (r q : List Nat), (∀ x ∈ r, x < 256) → i64C y.val → decFs fs y r = some (z, q) → i64C z.val
  | [], y, z, r, q, _, hy, h => by
    simp only [decFs, Option.some.injEq, Prod.mk.injEq] at h
    rw [← h.1]
    exact hy
  | f :: fs, y, z, r, q, hr, hy, h => by
    simp only [decFs] at h
    cases hd : decF y r f with
    | none =>
      rw [hd] at h
      cases h
    | some x =>
      rw [hd] at h
      have := decF_i64 f y x.1 r x.2 hr hy hd
      exact decFs_i64 fs x.1 z x.2 q this.2.1 this.1 h
end Go.Proofs.YtebmmdafmgphdaaDoor
