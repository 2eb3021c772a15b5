/-
  The walk of token.Scan: a text's tokens, or the line at which there is none. Conditions: at most 65536 bytes, or more; the library's two errors lie where they were laid.
-/
import Derived.Test.YtjmbllbnlnjanaaTok2
import Derived.Laws.AppendOwn
namespace Go.Proofs.Ytjmbllbnlnjanaa
open Go.RowKit

/-- A token as cells. -/
def tkc (t : Tok) : List Value := [.int .i64 (t.kind : Int), .int .i64 (t.line : Int), .int .i64 (t.value : Int), .string ⟨t.text.toArray⟩]
def tks (l : List Tok) : List Value := l.flatMap tkc
theorem tks_length : ∀ l : List Tok, (tks l).length = l.length * 4
  | [] => rfl
  | t :: r => by
    have := tks_length r
    simp only [tks, List.flatMap_cons, List.length_append, List.length_cons] at this ⊢
    rw [this]
    simp [tkc]; omega
theorem tks_append (a b : List Tok) : tks (a ++ b) = tks a ++ tks b := by simp [tks]
theorem tks_one (l : List Tok) : ∀ u ∈ tks l, u.oneCell' = true := by
  intro u hu
  obtain ⟨t, _, h⟩ := List.mem_flatMap.1 hu
  simp only [tkc, List.mem_cons, List.not_mem_nil, or_false] at h
  rcases h with rfl | rfl | rfl | rfl <;> rfl
/-- The cell of a captured string. -/
def Box (w : World) (g : Nat) (s : ByteArray) : Prop := w.heap[g]? = some (.cells #[.string s] 9 (0, 0))
theorem Box.cell {w : World} {g : Nat} {s : ByteArray} (h : Box w g s) : w.cell? ⟨g, 0, none⟩ = some (.string s) := by rw [cell_of_row w g 0 _ _ _ h]; rfl
theorem Box.frozen {w : World} {g : Nat} {s : ByteArray} (h : Box w g s) : w.frozen? ⟨g, 0, none⟩ = false := by
  have h' : w.heap[g]? = some (.cells #[.string s] 9 (0, 0)) := h
  simp [World.frozen?, h']
theorem Box.lt {w : World} {g : Nat} {s : ByteArray} (h : Box w g s) : g < w.heap.size := (Array.getElem?_eq_some_iff.1 h).1
theorem Box.set {w : World} {g : Nat} {s : ByteArray} (h : Box w g s) (s' : ByteArray) : Box (w.setCell ⟨g, 0, none⟩ (.string s')) g s' := by
  have := heap_setCell_same w g 0 _ _ (.string s') h
  simpa [Box] using this
theorem Box.grown {w w' : World} {g : Nat} {s : ByteArray} (h : Box w g s) {row : Option Nat} (hg : w.grownBy w' row) (hne : some g ≠ row) : Box w' g s := (hg.block g h.lt hne).trans h
theorem Box.below {w w' : World} {g : Nat} {s : ByteArray} (h : Box w g s) (hb : Below w.heap.size w w') : Box w' g s := (hb.block g h.lt).trans h
/-- What the cut leaves: the string's head is handed back, its rest stays in the box. -/
def CutPost (g : Nat) (s : ByteArray) (n : Nat) (w : World) (e : Ending) (w' : World) : Prop :=
  e = .returned (.string (s.extract 0 n)) ∧ w' = w.setCell ⟨g, 0, none⟩ (.string (s.extract n s.size))
/-- How long the boxed string is. -/
def boxLen (w : World) (g : Nat) : Nat := match w.cell? ⟨g, 0, none⟩ with | some (.string s) => s.size | _ => 0
theorem Box.len {w : World} {g : Nat} {s : ByteArray} (h : Box w g s) : boxLen w g = s.size := by simp [boxLen, h.cell]
theorem set_grown (w : World) (a : Addr) (u : Value) : w.grownBy (w.setCell a u) (some a.block) := ⟨rfl, rfl, rfl, by simp [World.setCell], fun i _ hne => Below.heap_setCell w _ _ i (fun he => hne (by rw [he]))⟩
/-- What scanning a text answers: tokens, or a line and an error's number. -/
def scanT (l : Bytes) : Except (Nat × Nat) (List Tok) := if 65536 < l.length then .error (0, 5) else match scan 1 l with | .error n => .error (n, 6) | .ok ts => .ok ts
/-- Tokens in memory of their own, or the error. -/
def ScanPost (x : Except (Nat × Nat) (List Tok)) (w : World) (e : Ending) (w' : World) : Prop :=
  match x with
  | .ok ts => ∃ v, e = .returned (.tuple #[v, .int .i64 0, .int .i64 0]) ∧ w'.ownsRow w.heap.size 90 4 v ts.length (tks ts) ∧ Below w.heap.size w w'
  | .error (n, c) => e = .returned (.tuple #[.slice none 0 0, .int .i64 (n : Int), .int .i64 (c : Int)]) ∧ Below w.heap.size w w'
theorem plen_le (l : Bytes) : plen l ≤ l.length := by
  match l with
  | [] => exact Nat.le_refl _
  | c :: r =>
    simp only [plen]
    split
    · exact (List.takeWhile_sublist _).length_le
    · split
      · rename_i h
        simp only [Bool.and_eq_true, decide_eq_true_eq] at h
        exact h.1
      · split <;> simp
/-- Scanning where a token begins. -/
theorem scan_tok {c : UInt8} {r : Bytes} {line : Nat} (h : c.toNat ≠ 10 ∧ ¬(c.toNat = 32 ∨ c.toNat = 9) ∧ c.toNat ≠ 35) :
    scan line (c :: r) = match pmean ((c :: r).take (plen (c :: r))) with | none => .error line | some q => ext [⟨q.1, line, q.2, (c :: r).take (plen (c :: r))⟩] (scan line ((c :: r).drop (plen (c :: r)))) := by
  rw [scan, if_neg h.1, if_neg h.2.1, if_neg h.2.2, next_eq]
  cases e : pmean ((c :: r).take (plen (c :: r))) with
  | none => rfl
  | some q =>
    cases hp : plen (c :: r) with
    | zero => rw [hp] at e; cases e
    | succ n =>
      simp only [Option.map_some, Nat.add_sub_cancel, List.drop_succ_cons]
      cases scan line (r.drop n) <;> rfl
theorem ext_ext (a b : List Tok) (x : Except Nat (List Tok)) : ext a (ext b x) = ext (a ++ b) x := by cases x <;> simp [ext]
section
variable {w w' : World} {base n : Nat} {T : TypeId} {size : Nat} {v : Value} {xs : List Value}
theorem own_ne_box {g : Nat} {s : ByteArray} (h : w.ownsRow base 90 size v n xs) (hb : Box w g s) : some g ≠ v.ownBlock := by
  rcases h.2 with ⟨rfl, _⟩ | ⟨g', cap, cur, rfl, _, hg, _⟩
  · simp [Value.ownBlock]
  · simp only [Value.ownBlock]
    intro he
    injection he with he
    subst he
    have hb' : w.heap[g]? = some (.cells #[.string s] 9 (0, 0)) := hb
    rw [hg] at hb'
    injection hb' with hb'
    injection hb' with _ hb'
    cases hb'
theorem own_ne_map {b m : Nat} {f : Bytes → Bool} (h : w.ownsRow base T size v n xs) (hb : MapB w b m f) : some b ≠ v.ownBlock := by
  rcases h.2 with ⟨rfl, _⟩ | ⟨g', cap, cur, rfl, _, hg, _⟩
  · simp [Value.ownBlock]
  · simp only [Value.ownBlock]
    intro he
    injection he with he
    subst he
    obtain ⟨D, ⟨es, clock, h0, _⟩, _⟩ := hb
    rw [hg] at h0
    cases h0
theorem box_ne_map {b g m : Nat} {f : Bytes → Bool} {s : ByteArray} (h : Box w g s) (hb : MapB w b m f) : b ≠ g := by
  rintro rfl
  obtain ⟨D, ⟨es, clock, h0, _⟩, _⟩ := hb
  rw [show w.heap[b]? = _ from h] at h0
  cases h0
end
theorem own_base {w : World} {base n size : Nat} {T : TypeId} {v : Value} {xs : List Value} (h : w.ownsRow base T size v n xs) : ∀ k, v.ownBlock = some k → base ≤ k := fun k hk => by
  rcases h.2 with ⟨rfl, _⟩ | ⟨g', cap, cur, rfl, hb, _⟩
  · simp [Value.ownBlock] at hk
  · simp [Value.ownBlock] at hk
    omega
theorem infoTok : (Try.prog.info? 90).map (fun i => (i.zero, i.size, i.bytes)) = some (some (.agg #[.int .i64 0, .int .i64 0, .int .i64 0, .string ⟨#[]⟩]), 4, 40) := by kernel_rfl
theorem wpList_append_tok {ops : Array Oper} {rest : List Oper} {o : Oper} {a : Act} {Q : Exit → Act → World → Prop} (w : World) (hgd : o.guard = none) (s x : Operand)
    (ho : o.op = .call { callee := .builtin .append, args := #[s, x], argTypes := #[53, 53] }) (base : Nat) (v : Value) (ts : List Tok) (t : Tok) (k l y z : Value) (hk : [k, l, y, z] = tkc t)
    (hs : a.eval s = v) (hx : a.eval x = .slice (some ⟨w.heap.size, 0, none⟩) 1 1) (hown : w.ownsRow base 90 4 v ts.length (tks ts)) (hlen : ts.length ≤ 1000000) (hbase : base ≤ w.heap.size)
    (h : ∀ v' w', w'.ownsRow base 90 4 v' (ts ++ [t]).length (tks (ts ++ [t])) → w.grownBy w' v.ownBlock → wpList Try.prog ops Q rest (a.put o.dst v') w') :
    wpList Try.prog ops Q (o :: rest) a (w.alloc (.cells #[k, l, y, z] 90)) := by
  obtain ⟨i, hi, hz, hsz, hby⟩ := info_parts infoTok
  refine wpList_append_own _ hgd s x _ ho base 90 i _ 4 40 Try.underlying53 hi hz hsz hby rfl (by decide) v ts.length (tks ts) hs (hown.alloc _) ⟨w.heap.size, 0, none⟩ 1 1 [k, l, y, z] hx (by simp) ?_ ?_ (by unfold maxLen; omega) (by omega) (by simp; omega) fun v' w' h1 h2 _ => h v' w' ?_ ((World.grownBy_alloc _ _ _).trans h2)
  · intro j u hu
    rw [Addr.add_lit, Nat.zero_add]
    exact (cell_of_row _ _ _ _ _ _ (heap_alloc_new w _)).trans (by simpa using hu)
  · rw [hk]
    intro u hu
    exact tks_one [t] u (by simpa [tks] using hu)
  · rw [hk] at h1
    simpa [tks_append, tks] using h1
theorem str_of {s : ByteArray} {l : Bytes} (h : s.data.toList = l) : Value.string s = .string ⟨l.toArray⟩ := by
  subst h
  rfl
theorem scan_blk0 (ts : List Tok) (r : ByteArray) (line : Nat) : ext ts (scan line r.data.toList) = ext ts (scan (line + lns r.data.toList (blk false r.data.toList)) (r.extract (blk false r.data.toList) r.size).data.toList) := by
  have := scan_blk r.data.toList false line
  simp only [Bool.false_eq_true, if_false] at this
  rw [ext_drop, this]
theorem blk_head0 (r : ByteArray) (c : UInt8) (x : Bytes) (h : (r.extract (blk false r.data.toList) r.size).data.toList = c :: x) : c.toNat ≠ 10 ∧ ¬(c.toNat = 32 ∨ c.toNat = 9) ∧ c.toNat ≠ 35 := blk_head r.data.toList false c x (by rw [← h, ext_drop])
theorem scan_next {s r : ByteArray} {ts : List Tok} {line : Nat} {q : Nat × Nat} (hsc : scan 1 s.data.toList = ext ts (scan line r.data.toList)) (h0 : 0 < r.size)
    (hh : ∀ c x, r.data.toList = c :: x → c.toNat ≠ 10 ∧ ¬(c.toNat = 32 ∨ c.toNat = 9) ∧ c.toNat ≠ 35) (hm : pmean (r.data.toList.take (plen r.data.toList)) = some q) :
    scan 1 s.data.toList = ext (ts ++ [⟨q.1, line, q.2, r.data.toList.take (plen r.data.toList)⟩]) (scan line (r.extract (plen r.data.toList) r.size).data.toList) := by
  have hd := drop_at r 0 h0
  rw [List.drop_zero] at hd
  have hk := scan_tok (r := r.data.toList.drop (0 + 1)) (line := line) (hh _ _ hd)
  rw [← hd, hm] at hk
  rw [hsc, hk, ext_drop]
  simp only []
  rw [ext_ext]
theorem plen_pos {l : Bytes} {q : Nat × Nat} (hm : pmean (l.take (plen l)) = some q) : 0 < plen l := by
  cases h : plen l with
  | zero => rw [h] at hm; cases hm
  | succ n => omega
end Go.Proofs.Ytjmbllbnlnjanaa
