/-
  The walk of token.Scan: a text's tokens, or the line at which there is none. Conditions: at most 65536 bytes, or more; the library's two errors lie where they were laid.
-/
import Derived.Test.YtmpnkbhlagalkaaGreatDoorTok2
import Derived.Laws.AppendOwn
namespace Go.Proofs.YtmpnkbhlagalkaaGreatDoor
open Go.RowKit

/-- A token as cells. -/
def tkc (t : Tok) : List Value := [.int .i64 (t.kind : Int), .int .i64 (t.line : Int), .int .i64 (t.value : Int), .string ⟨t.text.toArray⟩]
def tks (l : List Tok) : List Value := l.flatMap tkc
theorem tks_length : ∀ l : List Tok, (tks l).length = l.length * 4
  | [] => rfl
  | t :: r => by
    have := tks_length r
    simp only [tks, List.flatMap_cons, List.length_append, List.length_cons] at this ⊢
    rw [this]
    simp [tkc]; omega
theorem tks_append (a b : List Tok) : tks (a ++ b) = tks a ++ tks b := by simp [tks]
theorem tks_one (l : List Tok) : ∀ u ∈ tks l, u.oneCell' = true := by
  intro u hu
  obtain ⟨t, _, h⟩ := List.mem_flatMap.1 hu
  simp only [tkc, List.mem_cons, List.not_mem_nil, or_false] at h
  rcases h with rfl | rfl | rfl | rfl <;> rfl
/-- The cell of a captured string. -/
def Box (w : World) (g : Nat) (s : ByteArray) : Prop := w.heap[g]? = some (.cells #[.string s] 9 (0, 0))
theorem Box.cell {w : World} {g : Nat} {s : ByteArray} (h : Box w g s) : w.cell? ⟨g, 0, none⟩ = some (.string s) := by rw [cell_of_row w g 0 _ _ _ h]; rfl
theorem Box.frozen {w : World} {g : Nat} {s : ByteArray} (h : Box w g s) : w.frozen? ⟨g, 0, none⟩ = false := by
  have h' : w.heap[g]? = some (.cells #[.string s] 9 (0, 0)) := h
  simp [World.frozen?, h']
theorem Box.lt {w : World} {g : Nat} {s : ByteArray} (h : Box w g s) : g < w.heap.size := (Array.getElem?_eq_some_iff.1 h).1
theorem Box.set {w : World} {g : Nat} {s : ByteArray} (h : Box w g s) (s' : ByteArray) : Box (w.setCell ⟨g, 0, none⟩ (.string s')) g s' := by
  have := heap_setCell_same w g 0 _ _ (.string s') h
  simpa [Box] using this
theorem Box.grown {w w' : World} {g : Nat} {s : ByteArray} (h : Box w g s) {row : Option Nat} (hg : w.grownBy w' row) (hne : some g ≠ row) : Box w' g s := (hg.block g h.lt hne).trans h
theorem Box.below {w w' : World} {g : Nat} {s : ByteArray} (h : Box w g s) (hb : Below w.heap.size w w') : Box w' g s := (hb.block g h.lt).trans h
/-- What the cut leaves: the string's head is handed back, its rest stays in the box. -/
def CutPost (g : Nat) (s : ByteArray) (n : Nat) (w : World) (e : Ending) (w' : World) : Prop :=
  e = .returned (.string (s.extract 0 n)) ∧ w' = w.setCell ⟨g, 0, none⟩ (.string (s.extract n s.size))
set_option maxRecDepth 10000 in
theorem cut_any (g : Nat) (s : ByteArray) (n : Nat) (w : World) (hb : Box w g s) (hn : n ≤ s.size) :
    Calls Tryz.prog 39 #[.int .i64 (n : Int), .pointer (some ⟨g, 0, none⟩)] w (CutPost g s n w) := by
  have hc := hb.cell
  have hf := hb.frozen
  have H := Lib.hid hb
  clear hb
  go_enter Tryz.func39, Tryz.ntmps39
  go_wp2_with fail
  go_ret
  exact ⟨rfl, rfl⟩
/-- How long the boxed string is. -/
def boxLen (w : World) (g : Nat) : Nat := match w.cell? ⟨g, 0, none⟩ with | some (.string s) => s.size | _ => 0
theorem Box.len {w : World} {g : Nat} {s : ByteArray} (h : Box w g s) : boxLen w g = s.size := by simp [boxLen, h.cell]
theorem set_grown (w : World) (a : Addr) (u : Value) : w.grownBy (w.setCell a u) (some a.block) := ⟨rfl, rfl, rfl, by simp [World.setCell], fun i _ hne => Below.heap_setCell w _ _ i (fun he => hne (by rw [he]))⟩
/-- What scanning a text answers: tokens, or a line and an error's number. -/
def scanT (l : Bytes) : Except (Nat × Nat) (List Tok) := if 65536 < l.length then .error (0, 5) else match scan 1 l with | .error n => .error (n, 6) | .ok ts => .ok ts
/-- Tokens in memory of their own, or the error. -/
def ScanPost (x : Except (Nat × Nat) (List Tok)) (w : World) (e : Ending) (w' : World) : Prop :=
  match x with
  | .ok ts => ∃ v, e = .returned (.tuple #[v, .int .i64 0, .int .i64 0]) ∧ w'.ownsRow w.heap.size 67 4 v ts.length (tks ts) ∧ Below w.heap.size w w'
  | .error (n, c) => e = .returned (.tuple #[.slice none 0 0, .int .i64 (n : Int), .int .i64 (c : Int)]) ∧ Below w.heap.size w w'
theorem plen_le (l : Bytes) : plen l ≤ l.length := by
  match l with
  | [] => exact Nat.le_refl _
  | c :: r =>
    simp only [plen]
    split
    · exact (List.takeWhile_sublist _).length_le
    · split
      · rename_i h
        simp only [Bool.and_eq_true, decide_eq_true_eq] at h
        exact h.1
      · split <;> simp
/-- Scanning where a token begins. -/
theorem scan_tok {c : UInt8} {r : Bytes} {line : Nat} (h : c.toNat ≠ 10 ∧ ¬(c.toNat = 32 ∨ c.toNat = 9) ∧ c.toNat ≠ 35) :
    scan line (c :: r) = match pmean ((c :: r).take (plen (c :: r))) with | none => .error line | some q => ext [⟨q.1, line, q.2, (c :: r).take (plen (c :: r))⟩] (scan line ((c :: r).drop (plen (c :: r)))) := by
  rw [scan, if_neg h.1, if_neg h.2.1, if_neg h.2.2, next_eq]
  cases e : pmean ((c :: r).take (plen (c :: r))) with
  | none => rfl
  | some q =>
    cases hp : plen (c :: r) with
    | zero => rw [hp] at e; cases e
    | succ n =>
      simp only [Option.map_some, Nat.add_sub_cancel, List.drop_succ_cons]
      cases scan line (r.drop n) <;> rfl
theorem ext_ext (a b : List Tok) (x : Except Nat (List Tok)) : ext a (ext b x) = ext (a ++ b) x := by cases x <;> simp [ext]
/-- Scan under way. -/
structure ScanSt (w0 : World) (g bw nw bs ns : Nat) (s r : ByteArray) (ts : List Tok) (line : Nat) (v : Value) (wr : World) : Prop where
  box : Box wr g r
  own : wr.ownsRow w0.heap.size 67 4 v ts.length (tks ts)
  mw : MapB wr bw nw isW
  ms : MapB wr bs ns isS
  er : Errs wr
  bel : Below w0.heap.size w0 wr
  len : ts.length + r.size ≤ s.size
  lin : line + r.size ≤ 1 + s.size
section
variable {w w' : World} {base n : Nat} {T : TypeId} {size : Nat} {v : Value} {xs : List Value}
theorem own_ne_box {g : Nat} {s : ByteArray} (h : w.ownsRow base 67 size v n xs) (hb : Box w g s) : some g ≠ v.ownBlock := by
  rcases h.2 with ⟨rfl, _⟩ | ⟨g', cap, cur, rfl, _, hg, _⟩
  · simp [Value.ownBlock]
  · simp only [Value.ownBlock]
    intro he
    injection he with he
    subst he
    have hb' : w.heap[g]? = some (.cells #[.string s] 9 (0, 0)) := hb
    rw [hg] at hb'
    injection hb' with hb'
    injection hb' with _ hb'
    cases hb'
theorem own_ne_map {b m : Nat} {f : Bytes → Bool} (h : w.ownsRow base T size v n xs) (hb : MapB w b m f) : some b ≠ v.ownBlock := by
  rcases h.2 with ⟨rfl, _⟩ | ⟨g', cap, cur, rfl, _, hg, _⟩
  · simp [Value.ownBlock]
  · simp only [Value.ownBlock]
    intro he
    injection he with he
    subst he
    obtain ⟨D, ⟨es, clock, h0, _⟩, _⟩ := hb
    rw [hg] at h0
    cases h0
theorem box_ne_map {b g m : Nat} {f : Bytes → Bool} {s : ByteArray} (h : Box w g s) (hb : MapB w b m f) : b ≠ g := by
  rintro rfl
  obtain ⟨D, ⟨es, clock, h0, _⟩, _⟩ := hb
  rw [show w.heap[b]? = _ from h] at h0
  cases h0
end
theorem errs_ne {w : World} {g : Nat} {s : ByteArray} (h : Box w g s) (he : Errs w) : some g ≠ some 2 ∧ some g ≠ some 3 := by
  obtain ⟨⟨a, b, h1⟩, c, d, h2⟩ := he
  refine ⟨fun e => ?_, fun e => ?_⟩
  · injection e with e; subst e
    rw [h.cell] at h1
    cases h1
  · injection e with e; subst e
    rw [h.cell] at h2
    cases h2
theorem own_base {w : World} {base n size : Nat} {T : TypeId} {v : Value} {xs : List Value} (h : w.ownsRow base T size v n xs) : ∀ k, v.ownBlock = some k → base ≤ k := fun k hk => by
  rcases h.2 with ⟨rfl, _⟩ | ⟨g', cap, cur, rfl, hb, _⟩
  · simp [Value.ownBlock] at hk
  · simp [Value.ownBlock] at hk
    omega
theorem own_errs {w : World} {base n size : Nat} {T : TypeId} {v : Value} {xs : List Value} (h : w.ownsRow base T size v n xs) (hb : 2 < base ∧ 3 < base) : v.ownBlock ≠ some 2 ∧ v.ownBlock ≠ some 3 := by
  rcases h.2 with ⟨rfl, _⟩ | ⟨g', cap, cur, rfl, hg, _⟩
  · simp [Value.ownBlock]
  · simp only [Value.ownBlock]
    exact ⟨fun e => by injection e; omega, fun e => by injection e; omega⟩
theorem Errs.lt {w : World} (h : Errs w) : 2 < w.heap.size ∧ 3 < w.heap.size := by
  obtain ⟨⟨a, b, h1⟩, c, d, h2⟩ := h
  exact ⟨World.block_lt_of_cell? w _ h1, World.block_lt_of_cell? w _ h2⟩
/-- The blanks are cut off. -/
theorem ScanSt.blank {w0 : World} {g bw nw bs ns : Nat} {s r : ByteArray} {ts : List Tok} {line : Nat} {v : Value} {wr : World} (h : ScanSt w0 g bw nw bs ns s r ts line v wr) (hg : w0.heap.size ≤ g) :
    ScanSt w0 g bw nw bs ns s (r.extract (blk false r.data.toList) r.size) ts (line + lns r.data.toList (blk false r.data.toList)) v (wr.setCell ⟨g, 0, none⟩ (.string (r.extract (blk false r.data.toList) r.size))) := by
  have hgr := set_grown wr ⟨g, 0, none⟩ (.string (r.extract (blk false r.data.toList) r.size))
  have hle := blk_le r.data.toList false
  have hsz : r.data.toList.length = r.size := by simp
  have hc : lns r.data.toList (blk false r.data.toList) ≤ blk false r.data.toList := Nat.le_trans List.count_le_length (List.length_take_le _ _)
  have hn := errs_ne h.box h.er
  have hlen := h.len
  have hlin := h.lin
  refine ⟨h.box.set _, h.own.kept hgr (.inr (own_ne_box h.own h.box).symm), h.mw.grown hgr (fun e => box_ne_map h.box h.mw (by injection e)), h.ms.grown hgr (fun e => box_ne_map h.box h.ms (by injection e)), h.er.grown hgr hn.1 hn.2, h.bel.grown hgr h.bel.size (fun k hk => by injection hk with hk; exact hk ▸ hg), ?_, ?_⟩
  · have : (r.extract (blk false r.data.toList) r.size).size ≤ r.size := by simp
    omega
  · have : (r.extract (blk false r.data.toList) r.size).size = r.size - blk false r.data.toList := by simp
    omega
theorem infoTok : (Tryz.prog.info? 67).map (fun i => (i.zero, i.size, i.bytes)) = some (some (.agg #[.int .i64 0, .int .i64 0, .int .i64 0, .string ⟨#[]⟩]), 4, 40) := by kernel_rfl
theorem wpList_append_tok {ops : Array Oper} {rest : List Oper} {o : Oper} {a : Act} {Q : Exit → Act → World → Prop} (w : World) (hgd : o.guard = none) (s x : Operand)
    (ho : o.op = .call { callee := .builtin .append, args := #[s, x], argTypes := #[52, 52] }) (base : Nat) (v : Value) (ts : List Tok) (t : Tok) (k l y z : Value) (hk : [k, l, y, z] = tkc t)
    (hs : a.eval s = v) (hx : a.eval x = .slice (some ⟨w.heap.size, 0, none⟩) 1 1) (hown : w.ownsRow base 67 4 v ts.length (tks ts)) (hlen : ts.length ≤ 1000000) (hbase : base ≤ w.heap.size)
    (h : ∀ v' w', w'.ownsRow base 67 4 v' (ts ++ [t]).length (tks (ts ++ [t])) → w.grownBy w' v.ownBlock → wpList Tryz.prog ops Q rest (a.put o.dst v') w') :
    wpList Tryz.prog ops Q (o :: rest) a (w.alloc (.cells #[k, l, y, z] 67)) := by
  obtain ⟨i, hi, hz, hsz, hby⟩ := info_parts infoTok
  refine wpList_append_own _ hgd s x _ ho base 67 i _ 4 40 Tryz.underlying52 hi hz hsz hby rfl (by decide) v ts.length (tks ts) hs (hown.alloc _) ⟨w.heap.size, 0, none⟩ 1 1 [k, l, y, z] hx (by simp) ?_ ?_ (by unfold maxLen; omega) (by omega) (by simp; omega) fun v' w' h1 h2 _ => h v' w' ?_ ((World.grownBy_alloc _ _ _).trans h2)
  · intro j u hu
    rw [Addr.add_lit, Nat.zero_add]
    exact (cell_of_row _ _ _ _ _ _ (heap_alloc_new w _)).trans (by simpa using hu)
  · rw [hk]
    intro u hu
    exact tks_one [t] u (by simpa [tks] using hu)
  · rw [hk] at h1
    simpa [tks_append, tks] using h1
/-- A step that only makes memory. -/
theorem ScanSt.below {w0 : World} {g bw nw bs ns : Nat} {s r : ByteArray} {ts : List Tok} {line : Nat} {v : Value} {wr w' : World} (h : ScanSt w0 g bw nw bs ns s r ts line v wr) (hb : Below wr.heap.size wr w') : ScanSt w0 g bw nw bs ns s r ts line v w' :=
  ⟨h.box.below hb, by
    rcases h.own.2 with hn | ⟨g', cap, cur, e, hb', hg, rest⟩
    · exact ⟨h.own.1, .inl hn⟩
    · exact ⟨h.own.1, .inr ⟨g', cap, cur, e, hb', (hb.block g' (Array.getElem?_eq_some_iff.1 hg).1).trans hg, rest⟩⟩, h.mw.below h.mw.lt hb, h.ms.below h.ms.lt hb, h.er.below hb, below_next h.bel hb, h.len, h.lin⟩
/-- The box holds another string. -/
theorem ScanSt.set {w0 : World} {g bw nw bs ns : Nat} {s r : ByteArray} {ts : List Tok} {line : Nat} {v : Value} {wr : World} (h : ScanSt w0 g bw nw bs ns s r ts line v wr) (hg : w0.heap.size ≤ g) (r' : ByteArray) (hsz : r'.size ≤ r.size) :
    ScanSt w0 g bw nw bs ns s r' ts line v (wr.setCell ⟨g, 0, none⟩ (.string r')) := by
  have hgr := set_grown wr ⟨g, 0, none⟩ (.string r')
  have hn := errs_ne h.box h.er
  have hlen := h.len
  have hlin := h.lin
  exact ⟨h.box.set _, h.own.kept hgr (.inr (own_ne_box h.own h.box).symm), h.mw.grown hgr (fun e => box_ne_map h.box h.mw (by injection e)), h.ms.grown hgr (fun e => box_ne_map h.box h.ms (by injection e)), h.er.grown hgr hn.1 hn.2, h.bel.grown hgr h.bel.size (fun k hk => by injection hk with hk; exact hk ▸ hg), by omega, by omega⟩
theorem str_of {s : ByteArray} {l : Bytes} (h : s.data.toList = l) : Value.string s = .string ⟨l.toArray⟩ := by
  subst h
  rfl
/-- A token is added. -/
theorem ScanSt.app {w0 : World} {g bw nw bs ns : Nat} {s r : ByteArray} {ts : List Tok} {t : Tok} {line : Nat} {v v' : Value} {wr w' : World} (h : ScanSt w0 g bw nw bs ns s r ts line v wr) (hown : w'.ownsRow w0.heap.size 67 4 v' (ts ++ [t]).length (tks (ts ++ [t]))) (hg : wr.grownBy w' v.ownBlock) (hl : ts.length + 1 + r.size ≤ s.size) (hlt : 2 < w0.heap.size ∧ 3 < w0.heap.size) :
    ScanSt w0 g bw nw bs ns s r (ts ++ [t]) line v' w' := by
  have hn := own_errs h.own hlt
  exact ⟨h.box.grown hg (own_ne_box h.own h.box), hown, h.mw.grown hg (own_ne_map h.own h.mw), h.ms.grown hg (own_ne_map h.own h.ms), h.er.grown hg hn.1 hn.2, h.bel.grown hg h.bel.size (own_base h.own), by simp; omega, h.lin⟩
/-- The end of a text. -/
theorem scanPost_end {w0 : World} {g bw nw bs ns : Nat} {s r : ByteArray} {ts : List Tok} {line : Nat} {v v' : Value} {wr w' : World} (hst : ScanSt w0 g bw nw bs ns s r ts line v wr) (hsc : scan 1 s.data.toList = ext ts (scan line r.data.toList)) (hs : s.size ≤ 65536) (hr : r.data.toList = [])
    (hown : w'.ownsRow w0.heap.size 67 4 v' (ts ++ [(⟨0, line, 0, []⟩ : Tok)]).length (tks (ts ++ [(⟨0, line, 0, []⟩ : Tok)]))) (hg : wr.grownBy w' v.ownBlock) :
    ScanPost (scanT s.data.toList) w0 (.returned (.tuple #[v', .int .i64 0, .int .i64 0])) w' := by
  have hl : s.data.toList.length = s.size := by simp
  have e : scanT s.data.toList = .ok (ts ++ [⟨0, line, 0, []⟩]) := by
    rw [scanT, if_neg (by omega), hsc, hr, scan]
    rfl
  rw [e]
  exact ⟨v', rfl, hown, hst.bel.grown hg hst.bel.size (own_base hst.own)⟩
theorem scanSt_start {w w1 w2 : World} {s : ByteArray} {bw nw bs ns : Nat} (he : Errs w) (hw : MapB w1 bw nw isW) (h1 : Below (w.alloc (.cells #[.string s] 9)).heap.size (w.alloc (.cells #[.string s] 9)) w1) (hs : MapB w2 bs ns isS) (h2 : Below w1.heap.size w1 w2) :
    ScanSt w w.heap.size bw nw bs ns s s [] 1 (.slice none 0 0) w2 := by
  have hb0 : Box (w.alloc (.cells #[.string s] 9)) w.heap.size s := heap_alloc_new w _
  have h01 : Below w.heap.size w w1 := ((Below.refl _ w).alloc (Nat.le_refl _) _).trans (h1.mono (by simp))
  have h02 := below_next h01 h2
  exact ⟨(hb0.below h1).below h2, World.ownsRow_nil _ _ _ _, hw.below hw.lt h2, hs, he.below h02, h02, by simp, by simp⟩
theorem count_any (r : ByteArray) (n : Nat) (w : World) : Calls Tryz.prog 40 #[.string (r.extract 0 n), .string { data := #[10] }] w (RetN (lns r.data.toList n) w) :=
  (Tryz.strings_Count_one (r.extract 0 n) 10 w).mono fun e w' ⟨h1, h2⟩ => ⟨by rw [h1, ext_take]; rfl, h2.symm⟩
theorem scan_blk0 (ts : List Tok) (r : ByteArray) (line : Nat) : ext ts (scan line r.data.toList) = ext ts (scan (line + lns r.data.toList (blk false r.data.toList)) (r.extract (blk false r.data.toList) r.size).data.toList) := by
  have := scan_blk r.data.toList false line
  simp only [Bool.false_eq_true, if_false] at this
  rw [ext_drop, this]
theorem blk_head0 (r : ByteArray) (c : UInt8) (x : Bytes) (h : (r.extract (blk false r.data.toList) r.size).data.toList = c :: x) : c.toNat ≠ 10 ∧ ¬(c.toNat = 32 ∨ c.toNat = 9) ∧ c.toNat ≠ 35 := blk_head r.data.toList false c x (by rw [← h, ext_drop])
/-- No token begins here. -/
theorem scanPost_no {w0 : World} {g bw nw bs ns : Nat} {s r r' : ByteArray} {ts : List Tok} {line : Nat} {v : Value} {w' : World} (hst : ScanSt w0 g bw nw bs ns s r' ts line v w') (hsc : scan 1 s.data.toList = ext ts (scan line r.data.toList)) (hs : s.size ≤ 65536) (h0 : 0 < r.size)
    (hh : ∀ c x, r.data.toList = c :: x → c.toNat ≠ 10 ∧ ¬(c.toNat = 32 ∨ c.toNat = 9) ∧ c.toNat ≠ 35) (hm : pmean (r.data.toList.take (plen r.data.toList)) = none) :
    ScanPost (scanT s.data.toList) w0 (.returned (.tuple #[.slice none 0 0, .int .i64 (line : Int), .int .i64 6])) w' := by
  have hl : s.data.toList.length = s.size := by simp
  have hd := drop_at r 0 h0
  rw [List.drop_zero] at hd
  have hk := scan_tok (r := r.data.toList.drop (0 + 1)) (line := line) (hh _ _ hd)
  rw [← hd, hm] at hk
  have e : scanT s.data.toList = .error (line, 6) := by
    rw [scanT, if_neg (by omega), hsc, hk]
    rfl
  rw [e]
  exact ⟨rfl, hst.bel⟩
theorem scan_next {s r : ByteArray} {ts : List Tok} {line : Nat} {q : Nat × Nat} (hsc : scan 1 s.data.toList = ext ts (scan line r.data.toList)) (h0 : 0 < r.size)
    (hh : ∀ c x, r.data.toList = c :: x → c.toNat ≠ 10 ∧ ¬(c.toNat = 32 ∨ c.toNat = 9) ∧ c.toNat ≠ 35) (hm : pmean (r.data.toList.take (plen r.data.toList)) = some q) :
    scan 1 s.data.toList = ext (ts ++ [⟨q.1, line, q.2, r.data.toList.take (plen r.data.toList)⟩]) (scan line (r.extract (plen r.data.toList) r.size).data.toList) := by
  have hd := drop_at r 0 h0
  rw [List.drop_zero] at hd
  have hk := scan_tok (r := r.data.toList.drop (0 + 1)) (line := line) (hh _ _ hd)
  rw [← hd, hm] at hk
  rw [hsc, hk, ext_drop]
  simp only []
  rw [ext_ext]
theorem plen_pos {l : Bytes} {q : Nat × Nat} (hm : pmean (l.take (plen l)) = some q) : 0 < plen l := by
  cases h : plen l with
  | zero => rw [h] at hm; cases hm
  | succ n => omega
/-- At the loop's head. -/
def ScanRel (w0 : World) (bw nw bs ns : Nat) (s : ByteArray) (v ln : Value) (wr : World) : Prop :=
  ∃ (r : ByteArray) (ts : List Tok) (line : Nat), ln = .int .i64 (line : Int) ∧ scan 1 s.data.toList = ext ts (scan line r.data.toList) ∧ ScanSt w0 w0.heap.size bw nw bs ns s r ts line v wr
set_option maxRecDepth 10000 in
set_option maxHeartbeats 2000000 in
theorem scan_any (s : ByteArray) (w : World) (hs : s.size ≤ 65536) (he : Errs w) : Calls Tryz.prog 19 #[.string s] w (ScanPost (scanT s.data.toList) w) := by
  have He := Lib.hid he
  clear he
  go_enter Tryz.func19, Tryz.ntmps19
  go_wp2_with fail
  refine (words_any _).mono ?_
  rintro e w1 ⟨bw, nw, rfl, _, hw1, hb1⟩
  have Hw1 := Lib.hid hw1
  have Hb1 := Lib.hid hb1
  clear hw1 hb1
  go_wp2_with fail
  refine (signs_any _).mono ?_
  rintro e w2 ⟨bs, ns, rfl, _, hs2, hb2⟩
  have hst := scanSt_start He.out Hw1.out Hb1.out hs2 hb2
  have Hst := Lib.hid hst
  clear hst hs2 hb2 Hb1 Hw1
  go_wp2_with fail
  go_loopw [2, 3] (fun v ln wr => ScanRel w bw nw bs ns s v ln wr) (fun _ _ wr => boxLen wr w.heap.size)
  case atStart => exact ⟨s, [], 1, rfl, (ext_nil _).symm, Hst.out⟩
  case round =>
    clear Hst
    obtain ⟨r, ts, line, rfl, hsc, hst⟩ := hrel
    have hsc2 := hsc
    rw [scan_blk0] at hsc2
    have Hsc := Lib.hid hsc2
    have Hst := Lib.hid hst
    clear hsc hsc2
    have hc := hst.box.cell
    have hr : r.size ≤ 65536 := by have := hst.len; omega
    clear hst
    have hbl := blk_le r.data.toList false
    have hrl : r.data.toList.length = r.size := by simp
    have hbr : blk false r.data.toList ≤ r.size := by omega
    clear hbl hrl
    go_wp2_with fail
    refine (blank_any r _ (by omega)).mono ?_
    rintro e w3 ⟨rfl, rfl⟩
    go_wp2_with fail
    refine (cut_any _ r _ _ Hst.out.box hbr).mono ?_
    rintro e w3 ⟨rfl, hw3⟩
    have hst := Hst.out.blank (Nat.le_refl _)
    rw [← hw3] at hst
    clear hw3 hc
    have hlt : (r.extract (blk false r.data.toList) r.size).data.toList = r.data.toList.drop (blk false r.data.toList) := ext_drop r _
    have Hlt := Lib.hid hlt
    clear hlt
    go_wp2_with fail
    refine (count_any _ _ _).mono ?_
    rintro e w4 ⟨rfl, rfl⟩
    have hlin := hst.lin
    have hts := hst.len
    have hc := hst.box.cell
    have hbel := hst.bel.size
    have Hst2 := Lib.hid hst
    clear hst
    generalize lns r.data.toList (blk false r.data.toList) = c at *
    have hr1 : (r.extract (blk false r.data.toList) r.size).size ≤ r.size := by simp
    have hmeas : Hid (boxLen wr w.heap.size = r.size) := Lib.hid Hst.out.box.len
    have Hh := Lib.hid (blk_head0 r)
    by_cases h0 : (r.extract (blk false r.data.toList) r.size).size = 0
    · have hl : (r.extract (blk false r.data.toList) r.size).data.toList = [] := List.eq_nil_of_length_eq_zero (by simpa using h0)
      have hem : (r.extract (blk false r.data.toList) r.size).toList.isEmpty = true := by rw [Lib.toList_data, hl]; rfl
      have HL := Lib.hid hl
      clear hl h0
      generalize r.extract (blk false r.data.toList) r.size = r1 at *
      go_wp2_with (at_builtin; refine Pause.out ?_)
      refine Pause.of (wpList_append_tok w3 rfl (.tmp 27) (.tmp 30) rfl w.heap.size u2 ts ⟨0, line + c, 0, []⟩ _ _ _ _ rfl rfl rfl Hst2.out.own (by omega) hbel ?_)
      intro v' w' hown hg
      have Hown := Lib.hid hown
      have Hg := Lib.hid hg
      clear hown hg
      go_wp2_with fail
      go_ret3
      exact scanPost_end Hst2.out Hsc.out hs HL.out Hown.out Hg.out
    · have h0 : 0 < (r.extract (blk false r.data.toList) r.size).size := by omega
      have hem := empty_no h0
      clear Hlt
      generalize r.extract (blk false r.data.toList) r.size = r1 at *
      go_wp2_with fail
      refine (length_any r1 bs ns _ (by omega) h0 Hst2.out.ms).mono ?_
      rintro e w4 ⟨rfl, rfl⟩
      have hp := plen_le r1.data.toList
      have hsz : r1.data.toList.length = r1.size := by simp
      have hpl : plen r1.data.toList ≤ r1.size := by omega
      clear hp hsz
      go_wp2_with fail
      refine (cut_any _ r1 _ _ Hst2.out.box hpl).mono ?_
      rintro e w4 ⟨rfl, hw4⟩
      have hst := Hst2.out.set (Nat.le_refl _) (r1.extract (plen r1.data.toList) r1.size) (by simp)
      rw [← hw4] at hst
      clear hw4 hc
      have hmw := hst.mw
      have hms := hst.ms
      have her := hst.er
      have hmn := Lib.hid (meaning_any (r1.extract 0 (plen r1.data.toList)) bw nw bs ns w4 (by simp; omega) hmw hms her)
      have Hst4 := Lib.hid hst
      clear hst hmw hms her
      go_wp2_with fail
      refine hmn.out.mono ?_
      rintro e w5 ⟨k, x, rfl, hx, hb5⟩
      have hst := Hst4.out.below hb5
      have hbel5 := hst.bel.size
      have Hst5 := Lib.hid hst
      have Hx := Lib.hid hx
      clear hst hx hb5
      rw [ext_take]
      cases hm : pmean (r1.data.toList.take (plen r1.data.toList)) with
      | none =>
        have Hm := Lib.hid hm
        clear hm
        go_wp2_with fail
        go_ret3
        exact scanPost_no Hst5.out Hsc.out hs h0 Hh.out Hm.out
      | some q =>
        have hpos := plen_pos hm
        obtain ⟨hk, hxx⟩ := Hx.out q (by rw [ext_take]; exact hm)
        subst hk hxx
        have Hm := Lib.hid hm
        clear hm Hx
        go_wp2_with (at_builtin; refine Pause.out ?_)
        refine Pause.of (wpList_append_tok w5 rfl (.tmp 48) (.tmp 54) rfl w.heap.size u2 ts ⟨q.1, line + c, q.2, r1.data.toList.take (plen r1.data.toList)⟩ _ _ _ _ (by rw [str_of (ext_take r1 (plen r1.data.toList))]; rfl) rfl rfl Hst5.out.own (by omega) hbel5 ?_)
        intro v' w6 hown hg
        have hr2 : (r1.extract (plen r1.data.toList) r1.size).size = r1.size - plen r1.data.toList := by simp
        have hst := Hst5.out.app hown hg (by omega) He.out.lt
        have Hst6 := Lib.hid hst
        have Hn := Lib.hid (scan_next Hsc.out h0 Hh.out Hm.out)
        clear hst hown hg hr2
        go_wp2_with fail
        go_roundw
        case rel => exact ⟨_, _, line + c, by go_num, Hn.out, Hst6.out⟩
        case measure =>
          rw [Hst6.out.box.len, hmeas.out]
          have hr2 : (r1.extract (plen r1.data.toList) r1.size).size = r1.size - plen r1.data.toList := by simp
          omega
end Go.Proofs.YtmpnkbhlagalkaaGreatDoor
