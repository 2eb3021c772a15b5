/-
  A map of strings to bools that the call makes: what a key is there for; and the two tables of words and signs. No condition.
-/
import Derived.Test.YtmpnkbhlagalkaaGreatDoorRows
import Derived.Test.YtmpnkbhlagalkaaGreatDoorTokMath
import Derived.Test.YtmpnkbhlagalkaaGreatDoorWords
import Derived.Maps.OwnSet
import Derived.StringKeys
import Derived.KernelRfl
import Derived.Lib.Hide
namespace Go.Proofs.YtmpnkbhlagalkaaGreatDoor
open Go.RowKit Go.WideMaps

theorem plain_bool {H : Type} {P : Program} {e : TypeId} {v : Value} {x : Bool} {ps : List MemPlace} (he : P.underlying e = some .bool) (h : plainElem (H := H) P e v = some (.lit (.bool x), ps)) : v = .bool x := by
  unfold plainElem at h
  rw [he] at h
  cases v <;> simp at h
  rw [h.1]
theorem wpList_look {P : Program} (w : World) {ops : Array Oper} {rest : List Oper} {o : Oper} {a : Act} {Q : Exit → Act → World → Prop} (hg : o.guard = none) (m x : Operand) (t : TypeId) (hop : o.op = Op.lookup t m x false) (vm vx v : Value)
    (hm : a.eval m = vm) (hx : a.eval x = vx) (hrun : (Instr.lookup t vm vx false).run P w = .ok v w) (hK : wpList P ops Q rest (a.put o.dst v) w) : wpList P ops Q (o :: rest) a w := by
  refine wpList_plain hg fun K' hK' => ?_
  unfold Oper.wp
  simp [execOp, hop, hm, hx, hrun, Result.andThen]
  exact hK' _ _ hK
theorem wpList_ins {P : Program} (w : World) {ops : Array Oper} {rest : List Oper} {o : Oper} {a : Act} {Q : Exit → Act → World → Prop} (hg : o.guard = none) (m x v : Operand) (t : TypeId) (hop : o.op = Op.insert t m x v) (vm vx vv : Value)
    (hm : a.eval m = vm) (hx : a.eval x = vx) (hv : a.eval v = vv) (w' : World) (hrun : (Instr.mapUpdate t vm vx vv).run P w = .ok () w') (hK : wpList P ops Q rest (a.put o.dst undef) w') : wpList P ops Q (o :: rest) a w := by
  refine wpList_plain hg fun K' hK' => ?_
  unfold Oper.wp
  simp [execOp, hop, hm, hx, hv, hrun, Result.andThen]
  exact hK' _ _ hK
theorem zeroB (w : World) : (zeroValue 4).run Tryz.prog w = .ok (.bool false) w := by kernel_rfl
theorem keyedS : Maps.Keyed Tryz.prog 9 := Maps.string_keyed Tryz.underlying9
/-- Block b is a map of at most n entries that says f of each string. -/
def MapB (w : World) (b n : Nat) (f : Bytes → Bool) : Prop :=
  ∃ D, w.ownsMap (H := Unit) Tryz.prog 9 (plainElem Tryz.prog 4) b n D ∧ Maps.IsMap D ∧ ∀ l : Bytes, D.atKey (.string l) (.lit (.bool false)) = .lit (.bool (f l))
section
variable {w w' : World} {b n : Nat} {f : Bytes → Bool}
theorem MapB.new (w : World) : MapB (w.alloc (.map #[] 0)) w.heap.size 0 (fun _ => false) := ⟨_, World.ownsMap_made _ _ _ _, Maps.isMap_empty, fun _ => rfl⟩
theorem MapB.lt (h : MapB w b n f) : b < w.heap.size := by obtain ⟨D, h, _⟩ := h; exact h.lt
theorem MapB.below (h : MapB w b n f) {B : Nat} (hB : b < B) (hb : Below B w w') : MapB w' b n f := by
  obtain ⟨D, ⟨es, clock, h0, F, hs, hD⟩, h2, h3⟩ := h
  exact ⟨D, ⟨es, clock, (hb.block b hB).trans h0, F, hs, hD⟩, h2, h3⟩
theorem MapB.alloc (h : MapB w b n f) (o : Obj) : MapB (w.alloc o) b n f := by
  obtain ⟨D, h1, h2, h3⟩ := h
  exact ⟨D, h1.alloc o, h2, h3⟩
theorem MapB.drew (h : MapB w b n f) : MapB w.drew b n f := h
theorem MapB.grown (h : MapB w b n f) {row : Option Nat} (hg : w.grownBy w' row) (hne : some b ≠ row) : MapB w' b n f := by
  obtain ⟨D, h1, h2, h3⟩ := h
  exact ⟨D, h1.kept hg hne, h2, h3⟩
theorem MapB.look (h : MapB w b n f) (s : ByteArray) (hs : s.size ≤ maxLen) : (Instr.lookup 82 (.map (some b)) (.string s) false).run Tryz.prog w = .ok (.bool (f s.data.toList)) w := by
  obtain ⟨D, h1, h2, h3⟩ := h
  obtain ⟨v, ps, hrun, hv⟩ := h1.lookup keyedS Tryz.underlying82 (zeroB w) (plainElem_bool Tryz.underlying4 false) (keyOf_string_mk Tryz.underlying9 hs)
  rw [hrun]
  rw [h3] at hv
  rw [plain_bool Tryz.underlying4 hv]
theorem MapB.put (h : MapB w b n f) (hn : n < maxLen) (s : ByteArray) (hs : s.size ≤ maxLen) : ∃ w', (Instr.mapUpdate 82 (.map (some b)) (.string s) (.bool true)).run Tryz.prog w = .ok () w' ∧ MapB w' b (n + 1) (fun l => f l || l == s.data.toList) ∧ w.grownBy w' (some b) := by
  obtain ⟨D, h1, h2, h3⟩ := h
  obtain ⟨w', hrun, h4, h5⟩ := h1.update keyedS Tryz.underlying82 hn (keyOf_string_mk Tryz.underlying9 hs) (plainElem_bool Tryz.underlying4 true)
  refine ⟨w', hrun, ⟨_, h4, h2.put _ _, fun l => ?_⟩, h5⟩
  by_cases hl : l = s.data.toList
  · subst hl
    rw [Maps.atKey_put_same h2 (by trivial)]
    simp
  · rw [Maps.atKey_put_other (by intro e; injection e with e; exact hl e), h3]
    have : (l == s.data.toList) = false := by simpa using hl
    simp only [this, Bool.or_false]
end
theorem wpList_lookB (w : World) {ops : Array Oper} {rest : List Oper} {o : Oper} {a : Act} {Q : Exit → Act → World → Prop} (hg : o.guard = none) (m x : Operand) (hop : o.op = Op.lookup 82 m x false) (b n : Nat) (f : Bytes → Bool)
    (hm : a.eval m = .map (some b)) (h : MapB w b n f) (s : ByteArray) (hx : a.eval x = .string s) (hs : s.size ≤ maxLen) (hK : wpList Tryz.prog ops Q rest (a.put o.dst (.bool (f s.data.toList))) w) : wpList Tryz.prog ops Q (o :: rest) a w :=
  wpList_look w hg m x _ hop _ _ _ hm hx (h.look s hs) hK
theorem wpList_putB (w : World) {ops : Array Oper} {rest : List Oper} {o : Oper} {a : Act} {Q : Exit → Act → World → Prop} (hg : o.guard = none) (m x v : Operand) (s : ByteArray) (hop : o.op = Op.insert 82 m x v) (b n : Nat) (f : Bytes → Bool)
    (hm : a.eval m = .map (some b)) (hx : a.eval x = .string s) (hv : a.eval v = .bool true) (h : MapB w b n f) (hn : n < maxLen) (hs : s.size ≤ maxLen) (hK : ∀ w', MapB w' b (n + 1) (fun l => f l || l == s.data.toList) → w.grownBy w' (some b) → wpList Tryz.prog ops Q rest (a.put o.dst undef) w') : wpList Tryz.prog ops Q (o :: rest) a w := by
  obtain ⟨w', hrun, r1, r2⟩ := h.put hn s hs
  exact wpList_ins w hg m x v _ hop _ _ _ hm hx hv w' hrun (hK w' r1 r2)
/-- A table under way: the map in block b says f, and nothing below it has changed. -/
def Tab (w : World) (b n : Nat) (f : Bytes → Bool) (w' : World) : Prop := MapB w' b n f ∧ Below b w w'
theorem Tab.put {w w' : World} {b n : Nat} {f : Bytes → Bool} (h : Tab w b n f w') (hn : n < 1000) {s : ByteArray} (hs : s.size ≤ 1000) :
    ∃ w2, (Instr.mapUpdate 82 (.map (some b)) (.string s) (.bool true)).run Tryz.prog w' = .ok () w2 ∧ Tab w b (n + 1) (fun l => f l || l == s.data.toList) w2 := by
  obtain ⟨w2, h1, h2, h3⟩ := h.1.put (by unfold maxLen; omega) s (by unfold maxLen; omega)
  exact ⟨w2, h1, h2, h.2.grown h3 (Nat.le_of_lt h.1.lt) (fun j hj => by injection hj with hj; omega)⟩
theorem MapB.of {w : World} {b n : Nat} {f g : Bytes → Bool} (h : MapB w b n f) (e : ∀ l, f l = g l) : MapB w b n g := by
  obtain rfl : f = g := funext e
  exact h
/-- A new table is handed back. -/
def TabPost (f : Bytes → Bool) (w : World) (e : Ending) (w' : World) : Prop := ∃ b n, e = .returned (.map (some b)) ∧ w.heap.size ≤ b ∧ MapB w' b n f ∧ Below w.heap.size w w'
set_option maxRecDepth 10000 in
theorem words_any (w : World) : Calls Tryz.prog 37 #[] w (TabPost isW w) := by
  have hmm := @run_makeMap Tryz.prog
  have h0 : Tab w w.heap.size 0 (fun _ => false) (w.alloc (.map #[] 0)) := ⟨MapB.new w, (Below.refl _ w).alloc (Nat.le_refl _) _⟩
  obtain ⟨w1, r1, h1⟩ := h0.put (by decide) (s := { data := #[102, 117, 110, 99] }) (by decide)
  obtain ⟨w2, r2, h2⟩ := h1.put (by decide) (s := { data := #[103, 108, 111, 98, 97, 108] }) (by decide)
  obtain ⟨w3, r3, h3⟩ := h2.put (by decide) (s := { data := #[118, 97, 114] }) (by decide)
  obtain ⟨w4, r4, h4⟩ := h3.put (by decide) (s := { data := #[105, 102] }) (by decide)
  obtain ⟨w5, r5, h5⟩ := h4.put (by decide) (s := { data := #[101, 108, 115, 101] }) (by decide)
  obtain ⟨w6, r6, h6⟩ := h5.put (by decide) (s := { data := #[119, 104, 105, 108, 101] }) (by decide)
  obtain ⟨w7, r7, h7⟩ := h6.put (by decide) (s := { data := #[114, 101, 116, 117, 114, 110] }) (by decide)
  obtain ⟨w8, r8, h8⟩ := h7.put (by decide) (s := { data := #[112, 114, 105, 110, 116] }) (by decide)
  obtain ⟨w9, r9, h9⟩ := h8.put (by decide) (s := { data := #[99, 97, 108, 108] }) (by decide)
  obtain ⟨w10, r10, h10⟩ := h9.put (by decide) (s := { data := #[114, 101, 97, 100] }) (by decide)
  have H := Lib.hid h10
  clear h10 h9 h8 h7 h6 h5 h4 h3 h2 h1 h0
  go_enter Tryz.func37, Tryz.ntmps37
  go_wp2_with fail
  go_ret
  exact ⟨_, _, rfl, Nat.le_refl _, H.out.1.of (fun l => by rw [Bool.eq_iff_iff]; simp [isW, wordsL, or_assoc]), H.out.2⟩
set_option maxRecDepth 10000 in
theorem signs_any (w : World) : Calls Tryz.prog 38 #[] w (TabPost isS w) := by
  have hmm := @run_makeMap Tryz.prog
  have h0 : Tab w w.heap.size 0 (fun _ => false) (w.alloc (.map #[] 0)) := ⟨MapB.new w, (Below.refl _ w).alloc (Nat.le_refl _) _⟩
  obtain ⟨w1, r1, h1⟩ := h0.put (by decide) (s := { data := #[40] }) (by decide)
  obtain ⟨w2, r2, h2⟩ := h1.put (by decide) (s := { data := #[41] }) (by decide)
  obtain ⟨w3, r3, h3⟩ := h2.put (by decide) (s := { data := #[123] }) (by decide)
  obtain ⟨w4, r4, h4⟩ := h3.put (by decide) (s := { data := #[125] }) (by decide)
  obtain ⟨w5, r5, h5⟩ := h4.put (by decide) (s := { data := #[91] }) (by decide)
  obtain ⟨w6, r6, h6⟩ := h5.put (by decide) (s := { data := #[93] }) (by decide)
  obtain ⟨w7, r7, h7⟩ := h6.put (by decide) (s := { data := #[44] }) (by decide)
  obtain ⟨w8, r8, h8⟩ := h7.put (by decide) (s := { data := #[59] }) (by decide)
  obtain ⟨w9, r9, h9⟩ := h8.put (by decide) (s := { data := #[61] }) (by decide)
  obtain ⟨w10, r10, h10⟩ := h9.put (by decide) (s := { data := #[43] }) (by decide)
  obtain ⟨w11, r11, h11⟩ := h10.put (by decide) (s := { data := #[45] }) (by decide)
  obtain ⟨w12, r12, h12⟩ := h11.put (by decide) (s := { data := #[42] }) (by decide)
  obtain ⟨w13, r13, h13⟩ := h12.put (by decide) (s := { data := #[47] }) (by decide)
  obtain ⟨w14, r14, h14⟩ := h13.put (by decide) (s := { data := #[37] }) (by decide)
  obtain ⟨w15, r15, h15⟩ := h14.put (by decide) (s := { data := #[60] }) (by decide)
  obtain ⟨w16, r16, h16⟩ := h15.put (by decide) (s := { data := #[60, 61] }) (by decide)
  obtain ⟨w17, r17, h17⟩ := h16.put (by decide) (s := { data := #[61, 61] }) (by decide)
  obtain ⟨w18, r18, h18⟩ := h17.put (by decide) (s := { data := #[33, 61] }) (by decide)
  obtain ⟨w19, r19, h19⟩ := h18.put (by decide) (s := { data := #[38, 38] }) (by decide)
  obtain ⟨w20, r20, h20⟩ := h19.put (by decide) (s := { data := #[124, 124] }) (by decide)
  obtain ⟨w21, r21, h21⟩ := h20.put (by decide) (s := { data := #[33] }) (by decide)
  obtain ⟨w22, r22, h22⟩ := h21.put (by decide) (s := { data := #[38] }) (by decide)
  have H := Lib.hid h22
  clear h22 h21 h20 h19 h18 h17 h16 h15 h14 h13 h12 h11 h10 h9 h8 h7 h6 h5 h4 h3 h2 h1 h0
  go_enter Tryz.func38, Tryz.ntmps38
  go_wp2_with fail
  go_ret
  exact ⟨_, _, rfl, Nat.le_refl _, H.out.1.of (fun l => by rw [Bool.eq_iff_iff]; simp [isS, signsL, or_assoc]), H.out.2⟩
end Go.Proofs.YtmpnkbhlagalkaaGreatDoor
