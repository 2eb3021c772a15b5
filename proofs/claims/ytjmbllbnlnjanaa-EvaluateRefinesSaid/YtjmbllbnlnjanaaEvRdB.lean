/-
  numbers.stmt and numbers.block on statements of numbers and operations without blocks. Conditions: a million at most; what is read lies below; the map of locals is empty.
-/
import Derived.Test.YtjmbllbnlnjanaaEvRdA
import Derived.Maps.OwnSet
import Derived.StringKeys
import Derived.Deep.CutRange
import Derived.Test.YtjmbllbnlnjanaaEvB
import Derived.Test.YtjmbllbnlnjanaaScB
namespace Go.Proofs.Ytjmbllbnlnjanaa
open Go.RowKit Go.WideMaps

theorem zeroI (w : World) : (zeroValue 3).run Try.prog w = .ok (.int .i64 0) w := by kernel_rfl
theorem keyedI : Maps.Keyed Try.prog 9 := Maps.string_keyed Try.underlying9
/-- Block b is a map of at most n entries from strings to numbers that reads as D. -/
def MapI (w : World) (b n : Nat) (D : DataW Unit) : Prop := w.ownsMap (H := Unit) Try.prog 9 (plainElem Try.prog 3) b n D
section
variable {w w' : World} {b n : Nat} {D : DataW Unit}
theorem MapI.new (w : World) : MapI (w.alloc (.map #[] 0)) w.heap.size 0 (.map []) := World.ownsMap_made _ _ _ _
theorem MapI.lt (h : MapI w b n D) : b < w.heap.size := World.ownsMap.lt h
theorem MapI.grown (h : MapI w b n D) {row : Option Nat} (hg : w.grownBy w' row) (hne : some b ≠ row) : MapI w' b n D := World.ownsMap.kept h hg hne
theorem MapI.below (h : MapI w b n D) {B : Nat} (hB : b < B) (hb : Below B w w') : MapI w' b n D := by
  obtain ⟨es, clock, h0, F, hs, hD⟩ := h
  exact ⟨es, clock, (hb.block b hB).trans h0, F, hs, hD⟩
set_option maxRecDepth 100000 in
theorem MapI.look (h : MapI w b n D) (s : ByteArray) (hs : s.size ≤ maxLen) : ∃ c : Int, ∀ w', MapI w' b n D → (Instr.lookup 108 (.map (some b)) (.string s) false).run Try.prog w' = .ok (.int .i64 c) w' := by
  obtain ⟨c, _, hat, _⟩ := World.ownsMap.lookup_int h keyedI Try.underlying108 Try.underlying3 (zeroI w) (keyOf_string_mk Try.underlying9 hs)
  refine ⟨c, fun w' h' => ?_⟩
  obtain ⟨c', hr, hat', _⟩ := World.ownsMap.lookup_int h' keyedI Try.underlying108 Try.underlying3 (zeroI w') (keyOf_string_mk Try.underlying9 hs)
  rw [hat] at hat'
  injection hat' with hat'
  injection hat' with _ hat'
  rw [hat']
  exact hr
set_option maxRecDepth 100000 in
theorem MapI.none (h : MapI w b 0 (.map [])) (s : ByteArray) (hs : s.size ≤ maxLen) : (Instr.lookup 108 (.map (some b)) (.string s) true).run Try.prog w = .ok (.tuple #[.int .i64 0, .bool false]) w := by
  obtain ⟨v, ps, hr, hv⟩ := World.ownsMap.look_ok h keyedI Try.underlying108 (zeroI w) (plainElem_int Try.underlying3 (a := 0) (by decide)) (keyOf_string_mk Try.underlying9 hs)
  obtain ⟨a, rfl, ha, _⟩ := plainElem_int_inv Try.underlying3 hv
  injection ha with ha _
  injection ha with ha
  injection ha with _ ha
  subst ha
  exact hr
theorem MapI.len0 (h : MapI w b 0 (.map [])) (ty : TypeId) : (Builtin.len_ #[108] ty #[.map (some b)]).run Try.prog w = .ok (.int .i64 0) w := World.ownsMap.len h Try.underlying108 ty
end
/-- What stays while stmt runs: the numbers and the statement in their boxes, the result's block, the maps. -/
structure Sn (w : World) (bl bo n : Nat) (D : DataW Unit) (row : Array Value) (wr : World) : Prop where
  p : wr.heap[w.heap.size]? = some (.cells #[.map (some bl), .map (some bo)] 110 (0, 0))
  q : wr.heap[w.heap.size + 1]? = some (.cells row 101 (0, 0))
  z : wr.heap[w.heap.size + 2]? = some (.cells #[.int .i64 0, .int .i64 0, .slice none 0 0, .slice none 0 0, .slice none 0 0] 125 (0, 0))
  e : MapI wr bl 0 (.map [])
  o : MapI wr bo n D
  lo : Below w.heap.size w wr
  bl : bl < w.heap.size
  bo : bo < w.heap.size
section
variable {w wr wd : World} {bl bo n : Nat} {D : DataW Unit} {row : Array Value}
theorem Sn.below (h : Sn w bl bo n D row wr) (hb : Below wr.heap.size wr wd) : Sn w bl bo n D row wd :=
  ⟨(hb.block _ (Array.getElem?_eq_some_iff.1 h.p).1).trans h.p, (hb.block _ (Array.getElem?_eq_some_iff.1 h.q).1).trans h.q, (hb.block _ (Array.getElem?_eq_some_iff.1 h.z).1).trans h.z, h.e.below (Nat.lt_of_lt_of_le h.bl h.lo.size) hb, h.o.below (Nat.lt_of_lt_of_le h.bo h.lo.size) hb, h.lo.trans (hb.mono h.lo.size), h.bl, h.bo⟩
theorem Sn.alloc (h : Sn w bl bo n D row wr) (o : Obj) : Sn w bl bo n D row (wr.alloc o) := h.below ((Below.refl _ _).alloc (Nat.le_refl _) o)
theorem Sn.drew (h : Sn w bl bo n D row wr) : Sn w bl bo n D row wr.drew := h.below (below_drew (Below.refl _ _))
theorem Sn.grown {b' : Nat} (h : Sn w bl bo n D row wr) (hg : wr.grownBy wd (some b')) (hb : w.heap.size + 3 ≤ b') : Sn w bl bo n D row wd :=
  ⟨blk_keep hg (by omega) h.p, blk_keep hg (by omega) h.q, blk_keep hg (by omega) h.z, h.e.grown hg (fun e => by injection e with e; have := h.bl; omega), h.o.grown hg (fun e => by injection e with e; have := h.bo; omega), h.lo.trans (grown_any hg (fun k hk => by injection hk with hk; omega) h.lo.size), h.bl, h.bo⟩
theorem Sn.size (h : Sn w bl bo n D row wr) : w.heap.size + 3 ≤ wr.heap.size := (Array.getElem?_eq_some_iff.1 h.z).1
theorem sn_of {z k l : Int} {s : ByteArray} {v3 v4 v5 : Value} (hz : ∀ w', MapI w' bo n D → (Instr.lookup 108 (.map (some bo)) (.string s) false).run Try.prog w' = .ok (.int .i64 z) w') (h : Sn w bl bo n D #[.int .i64 k, .int .i64 l, .string s, v3, v4, v5] wr) :
    wr.cell? ⟨w.heap.size, 0, none⟩ = some (.map (some bl)) ∧ wr.cell? ⟨w.heap.size, 1, none⟩ = some (.map (some bo)) ∧ wr.cell? ⟨w.heap.size + 1, 0, none⟩ = some (.int .i64 k) ∧ wr.cell? ⟨w.heap.size + 1, 2, none⟩ = some (.string s) ∧ wr.cell? ⟨w.heap.size + 1, 3, none⟩ = some v3 ∧ wr.cell? ⟨w.heap.size + 1, 4, none⟩ = some v4 ∧ wr.cell? ⟨w.heap.size + 1, 5, none⟩ = some v5 ∧ (Instr.lookup 108 (.map (some bo)) (.string s) false).run Try.prog wr = .ok (.int .i64 z) wr ∧ Sn w bl bo n D #[.int .i64 k, .int .i64 l, .string s, v3, v4, v5] wr :=
  ⟨cell_of_row _ _ 0 _ _ _ h.p, cell_of_row _ _ 1 _ _ _ h.p, cell_of_row _ _ 0 _ _ _ h.q, cell_of_row _ _ 2 _ _ _ h.q, cell_of_row _ _ 3 _ _ _ h.q, cell_of_row _ _ 4 _ _ _ h.q, cell_of_row _ _ 5 _ _ _ h.q, hz _ h.o, h⟩
end
/-- A row of expressions that the call has made. -/
def RowX (w : World) (d : Nat) (es : List Ex) (A : Option Addr) (c : Nat) (wr : World) : Prop := RowE (fun b => w.heap.size ≤ b ∧ b < wr.heap.size) wr d es A c
/-- A row of expressions in blocks from lo to hi. -/
structure RowR (w : World) (lo hi d : Nat) (es : List Ex) (A : Option Addr) (c : Nat) (wr : World) : Prop where
  row : RowE (fun b => lo ≤ b ∧ b < hi) wr d es A c
  lo : w.heap.size + 3 ≤ lo
  hi : hi ≤ wr.heap.size
theorem RowR.below {w wr wd : World} {lo hi d : Nat} {es : List Ex} {A : Option Addr} {c : Nat} (h : RowR w lo hi d es A c wr) (hb : Below wr.heap.size wr wd) : RowR w lo hi d es A c wd :=
  ⟨RowE.keep (fun _ h => h) (fun b hb' => hb.block b (Nat.lt_of_lt_of_le hb'.2 h.hi)) h.row, h.lo, Nat.le_trans h.hi hb.size⟩
theorem RowR.alloc {w wr : World} {lo hi d : Nat} {es : List Ex} {A : Option Addr} {c : Nat} (h : RowR w lo hi d es A c wr) (o : Obj) : RowR w lo hi d es A c (wr.alloc o) := h.below ((Below.refl _ _).alloc (Nat.le_refl _) o)
theorem RowR.wide {w wr : World} {lo hi d : Nat} {es : List Ex} {A : Option Addr} {c : Nat} (h : RowR w lo hi d es A c wr) : RowE (fun b => w.heap.size + 3 ≤ b ∧ b < wr.heap.size) wr d es A c :=
  RowE.keep (fun _ hb' => ⟨Nat.le_trans h.lo hb'.1, Nat.lt_of_lt_of_le hb'.2 h.hi⟩) (fun _ _ => rfl) h.row
set_option maxRecDepth 10000 in
theorem nb_0 (bl bo : Nat) (A : Option Addr) (c : Nat) (w : World) : Calls Try.prog 49 #[.agg #[.map (some bl), .map (some bo)], .slice A 0 c] w fun e w' => e = .returned (.slice none 0 0) ∧ Below w.heap.size w w' := by
  have hb := (Below.refl _ w).alloc (Nat.le_refl _) (.cells #[.map (some bl), .map (some bo)] 110)
  go_enter Try.func49, Try.ntmps49
  go_wp2_with fail
  obtain ⟨W, hW⟩ : ∃ W, W = w.alloc (.cells #[.map (some bl), .map (some bo)] 110) := ⟨_, rfl⟩
  rw [← hW] at hb ⊢
  clear hW
  go_loopw [4, 9] (fun v i wr => v = .slice none 0 0 ∧ i = .int .i64 0 ∧ wr = W) (fun _ _ _ => 0)
  case atStart => exact ⟨rfl, rfl, rfl⟩
  case round =>
    obtain ⟨rfl, rfl, hwr⟩ := hrel
    rw [hwr]
    go_wp2_with fail
    go_ret
    exact ⟨rfl, hb⟩
/-- exprs, with what stays. -/
theorem sn_exprs {F : Nat → Prop} {d : Nat} {w W : World} {bl bo n m : Nat} {D : DataW Unit} {row : Array Value} {es : List Ex} {eA : Option Addr} {ec : Nat} (hr : RowE F w d es eA ec) (hm : m = es.length) (ha : arL es = true) (hp : plL es = true) (hm2 : m ≤ 1000000) (hF : ∀ b, F b → b < w.heap.size) (h : Sn w bl bo n D row W) :
    Calls Try.prog 69 #[.agg #[.map (some bl), .map (some bo)], .slice eA m ec] W fun e w3 => ∃ A c, e = .returned (.slice A m c) ∧ RowR w W.heap.size w3.heap.size d es A c w3 ∧ Sn w bl bo n D row w3 ∧ Below W.heap.size W w3 := by
  refine (nx_all d F bl bo es eA m ec W (hr.keep (fun _ h => h) (fun b hb => h.lo.block b (hF b hb))) hm ha hp hm2 (fun b hb => Nat.lt_of_lt_of_le (hF b hb) h.lo.size)).mono ?_
  rintro e w3 ⟨A, m', c, rfl, hm', hr3, hb3⟩
  exact ⟨A, c, by rw [hm', hm], ⟨hr3, h.size, Nat.le_refl _⟩, h.below hb3, hb3⟩
theorem sn_block {w W : World} {bl bo n : Nat} {D : DataW Unit} {row : Array Value} {A : Option Addr} {c : Nat} (h : Sn w bl bo n D row W) :
    Calls Try.prog 49 #[.agg #[.map (some bl), .map (some bo)], .slice A 0 c] W fun e w3 => e = .returned (.slice none 0 0) ∧ Sn w bl bo n D row w3 ∧ Below W.heap.size W w3 := by
  refine (nb_0 bl bo A c W).mono ?_
  rintro e w3 ⟨rfl, hb⟩
  exact ⟨rfl, h.below hb, hb⟩
/-- The result's block as its alloc has left it. -/
def Z5 (w0 : World) (b : Nat) (w : World) : Prop := w.heap[b]? = some (.cells #[.int .i64 0, .int .i64 0, .slice none 0 0, .slice none 0 0, .slice none 0 0] 125 (0, 0)) ∧ w0.heap.size + 3 ≤ b
theorem Z5.new {w0 w wd : World} (hs : w0.heap.size + 3 ≤ w.heap.size) (hb : Below (w.alloc (.cells #[.int .i64 0, .int .i64 0, .slice none 0 0, .slice none 0 0, .slice none 0 0] 125)).heap.size (w.alloc (.cells #[.int .i64 0, .int .i64 0, .slice none 0 0, .slice none 0 0, .slice none 0 0] 125)) wd) : Z5 w0 w.heap.size wd :=
  ⟨(hb.block _ (by simp)).trans (heap_alloc_new w _), hs⟩
theorem Z5.newd {w0 w wd : World} (hs : w0.heap.size + 3 ≤ w.heap.size) (hb : Below (w.alloc (.cells #[.int .i64 0, .int .i64 0, .slice none 0 0, .slice none 0 0, .slice none 0 0] 125)).drew.heap.size (w.alloc (.cells #[.int .i64 0, .int .i64 0, .slice none 0 0, .slice none 0 0, .slice none 0 0] 125)).drew wd) : Z5 w0 w.heap.size wd := Z5.new hs ((below_drew (Below.refl _ _)).trans hb)
theorem Z5.below {b : Nat} {w0 w wd : World} (h : Z5 w0 b w) (hb : Below w.heap.size w wd) : Z5 w0 b wd := ⟨(hb.block _ (Array.getElem?_eq_some_iff.1 h.1).1).trans h.1, h.2⟩
theorem set5_row {w : World} {b : Nat} {a0 a1 a2 a3 a4 : Value} {T : TypeId} (v0 v1 v2 v3 v4 : Value) (h : w.heap[b]? = some (.cells #[a0, a1, a2, a3, a4] T (0, 0))) :
    (((((w.setCell ⟨b, 0, none⟩ v0).setCell ⟨b, 1, none⟩ v1).setCell ⟨b, 2, none⟩ v2).setCell ⟨b, 3, none⟩ v3).setCell ⟨b, 4, none⟩ v4).heap[b]? = some (.cells #[v0, v1, v2, v3, v4] T (0, 0)) :=
  row_set (i := 4) v4 (row_set (i := 3) v3 (row_set (i := 2) v2 (row_set (i := 1) v1 (row_set (i := 0) v0 h))))
theorem set5_grown (w : World) (b : Nat) (v0 v1 v2 v3 v4 : Value) : w.grownBy (((((w.setCell ⟨b, 0, none⟩ v0).setCell ⟨b, 1, none⟩ v1).setCell ⟨b, 2, none⟩ v2).setCell ⟨b, 3, none⟩ v3).setCell ⟨b, 4, none⟩ v4) (some b) :=
  ((((set_grown w ⟨b, 0, none⟩ v0).trans (set_grown _ ⟨b, 1, none⟩ v1)).trans (set_grown _ ⟨b, 2, none⟩ v2)).trans (set_grown _ ⟨b, 3, none⟩ v3)).trans (set_grown _ ⟨b, 4, none⟩ v4)
/-- A numbered statement stands in its block. -/
def StQ (w : World) (bl bo n : Nat) (D : DataW Unit) (row : Array Value) (d : Nat) (k : Int) (es : List Ex) (m : Nat) (v : Value) (wc : World) : Prop :=
  ∃ b z A c, v = .pointer (some ⟨b, 0, none⟩) ∧ w.heap.size + 3 ≤ b ∧ wc.heap[b]? = some (.cells #[.int .i64 k, .int .i64 z, .slice A m c, .slice none 0 0, .slice none 0 0] 125 (0, 0)) ∧ RowE (fun b => w.heap.size + 3 ≤ b ∧ b < wc.heap.size) wc d es A c ∧ Sn w bl bo n D row wc
theorem stq_new {w w4 : World} {bl bo n lo hi d m c : Nat} {D : DataW Unit} {row : Array Value} {k z : Int} {es : List Ex} {A : Option Addr} (hx : RowR w lo hi d es A c w4) (hs : Sn w bl bo n D row w4) :
    StQ w bl bo n D row d k es m (.pointer (some ⟨w4.heap.size, 0, none⟩)) (w4.alloc (.cells #[.int .i64 k, .int .i64 z, .slice A m c, .slice none 0 0, .slice none 0 0] 125)) :=
  ⟨_, z, A, c, rfl, hs.size, heap_alloc_new w4 _, (hx.alloc _).wide, hs.alloc _⟩
theorem stq_set {w w4 : World} {b bl bo n lo hi d m c : Nat} {D : DataW Unit} {row : Array Value} {k z : Int} {es : List Ex} {A : Option Addr} (hz : Z5 w b w4) (hx : RowR w lo hi d es A c w4) (hs : Sn w bl bo n D row w4) (hne : b < lo ∨ hi ≤ b) :
    StQ w bl bo n D row d k es m (.pointer (some ⟨b, 0, none⟩)) (((((w4.setCell ⟨b, 0, none⟩ (.int .i64 k)).setCell ⟨b, 1, none⟩ (.int .i64 z)).setCell ⟨b, 2, none⟩ (.slice A m c)).setCell ⟨b, 3, none⟩ (.slice none 0 0)).setCell ⟨b, 4, none⟩ (.slice none 0 0)) := by
  have hg := set5_grown w4 b (.int .i64 k) (.int .i64 z) (.slice A m c) (.slice none 0 0) (.slice none 0 0)
  refine ⟨b, z, A, c, rfl, hz.2, set5_row _ _ _ _ _ hz.1, ?_, hs.grown hg hz.2⟩
  exact RowE.keep (fun x hb' => ⟨Nat.le_trans hx.lo hb'.1, Nat.lt_of_lt_of_le hb'.2 (Nat.le_trans hx.hi hg.size)⟩) (fun x hb' => hg.block x (Nat.lt_of_lt_of_le hb'.2 hx.hi) (fun e => by injection e with e; omega)) hx.row
/-- A numbered statement is handed back. -/
def StN (d : Nat) (k : Int) (es : List Ex) (m : Nat) (w : World) (e : Ending) (w' : World) : Prop :=
  ∃ z A c, e = .returned (.agg #[.int .i64 k, .int .i64 z, .slice A m c, .slice none 0 0, .slice none 0 0]) ∧ RowX w d es A c w' ∧ Below w.heap.size w w'
theorem rq_pause {P : Program} {w : World} {ops : Array Oper} {rest : List Oper} {d : Option Tmp} {ty : TypeId} {x y : Operand} {pos : String} {af : Array Edge} {gd : Option (Nat × Bool)} {a : Act} {Q : Exit → Act → World → Prop}
    (h : Pause (wpList P ops Q ({ dst := d, op := .store 125 x y, type := ty, pos := pos, after := af, guard := gd } :: rest) a w)) : wpList P ops Q ({ dst := d, op := .store 125 x y, type := ty, pos := pos, after := af, guard := gd } :: rest) a w := h
set_option maxRecDepth 100000 in
set_option maxHeartbeats 4000000 in
theorem st_n {F : Nat → Prop} {d bl bo n m : Nat} {D : DataW Unit} {k l : Int} {s : ByteArray} {es : List Ex} {eA tA uA : Option Addr} {ec tc uc : Nat} (w : World) (hs : s.size ≤ maxLen) (he : MapI w bl 0 (.map [])) (ho : MapI w bo n D) (hr : RowE F w d es eA ec) (hm : m = es.length) (ha : arL es = true) (hp : plL es = true) (hm2 : m ≤ 1000000) (hF : ∀ b, F b → b < w.heap.size) :
    Calls Try.prog 65 #[.agg #[.map (some bl), .map (some bo)], .agg #[.int .i64 k, .int .i64 l, .string s, .slice eA m ec, .slice tA 0 tc, .slice uA 0 uc]] w (StN d k es m w) := by
  obtain ⟨z, hz⟩ := ho.look s hs
  have h0 : Sn w bl bo n D #[.int .i64 k, .int .i64 l, .string s, .slice eA m ec, .slice tA 0 tc, .slice uA 0 uc] (((w.alloc (.cells #[.map (some bl), .map (some bo)] 110)).alloc (.cells #[.int .i64 k, .int .i64 l, .string s, .slice eA m ec, .slice tA 0 tc, .slice uA 0 uc] 101)).alloc (.cells #[.int .i64 0, .int .i64 0, .slice none 0 0, .slice none 0 0, .slice none 0 0] 125)) := by
    have hb : Below w.heap.size w (((w.alloc (.cells #[.map (some bl), .map (some bo)] 110)).alloc (.cells #[.int .i64 k, .int .i64 l, .string s, .slice eA m ec, .slice tA 0 tc, .slice uA 0 uc] 101)).alloc (.cells #[.int .i64 0, .int .i64 0, .slice none 0 0, .slice none 0 0, .slice none 0 0] 125)) :=
      (((Below.refl _ w).alloc (Nat.le_refl _) _).alloc (by simp) _).alloc (by simp; omega) _
    refine ⟨?_, ?_, ?_, he.below he.lt hb, ho.below ho.lt hb, hb, he.lt, ho.lt⟩
    · rw [heap_alloc_old _ _ (by simp; omega)]
      exact alloc2_old w _ _
    · rw [heap_alloc_old _ _ (by simp)]
      exact alloc2_new w _ _
    · have := heap_alloc_new ((w.alloc (.cells #[.map (some bl), .map (some bo)] 110)).alloc (.cells #[.int .i64 k, .int .i64 l, .string s, .slice eA m ec, .slice tA 0 tc, .slice uA 0 uc] 101)) (.cells #[.int .i64 0, .int .i64 0, .slice none 0 0, .slice none 0 0, .slice none 0 0] 125)
      simpa using this
  have HX := Lib.hid (fun W hW => sn_exprs (W := W) (bl := bl) (bo := bo) (n := n) (D := D) (row := #[.int .i64 k, .int .i64 l, .string s, .slice eA m ec, .slice tA 0 tc, .slice uA 0 uc]) hr hm ha hp hm2 hF hW)
  have HZ := Lib.hid hz
  have H0 := Lib.hid h0
  clear hz h0 he ho hr ha hp hF hm
  go_enter Try.func65, Try.ntmps65
  go_upto_region 1 with fail
  obtain ⟨W0, hW0⟩ : ∃ W0, W0 = (((w.alloc (.cells #[.map (some bl), .map (some bo)] 110)).alloc (.cells #[.int .i64 k, .int .i64 l, .string s, .slice eA m ec, .slice tA 0 tc, .slice uA 0 uc] 101)).alloc (.cells #[.int .i64 0, .int .i64 0, .slice none 0 0, .slice none 0 0, .slice none 0 0] 125)) := ⟨_, rfl⟩
  rw [← hW0] at H0 ⊢
  clear hW0
  go_cut [5] from 8 (fun v wc => StQ w bl bo n D #[.int .i64 k, .int .i64 l, .string s, .slice eA m ec, .slice tA 0 tc, .slice uA 0 uc] d k es m v wc)
  case first =>
    rename_i hJ hK
    have hsn0 := H0.out
    have hsz0 : w.heap.size + 3 ≤ W0.heap.size := hsn0.size
    have hS0 := sn_of HZ.out hsn0.drew
    go_region_held3 (fun w' => w'.cell? ⟨w.heap.size, 0, none⟩ = some (.map (some bl)) ∧ w'.cell? ⟨w.heap.size, 1, none⟩ = some (.map (some bo)) ∧ w'.cell? ⟨w.heap.size + 1, 0, none⟩ = some (.int .i64 k) ∧ w'.cell? ⟨w.heap.size + 1, 2, none⟩ = some (.string s) ∧ w'.cell? ⟨w.heap.size + 1, 3, none⟩ = some (.slice eA m ec) ∧ w'.cell? ⟨w.heap.size + 1, 4, none⟩ = some (.slice tA 0 tc) ∧ w'.cell? ⟨w.heap.size + 1, 5, none⟩ = some (.slice uA 0 uc) ∧ (Instr.lookup 108 (.map (some bo)) (.string s) false).run Try.prog w' = .ok (.int .i64 z) w' ∧ Sn w bl bo n D #[.int .i64 k, .int .i64 l, .string s, .slice eA m ec, .slice tA 0 tc, .slice uA 0 uc] w')
      (first | (with_reducible exact hS0) | ((with_reducible refine sn_of HZ.out ?_); (repeat (first | (with_reducible assumption) | (with_reducible refine Sn.alloc ?_ _) | (with_reducible refine Sn.drew ?_))); done) | ((with_reducible refine sn_of HZ.out (Sn.grown ?_ (set5_grown _ _ _ _ _ _ _) ?_)); (repeat (first | (with_reducible assumption) | (with_reducible refine Sn.alloc ?_ _))); (try exact hz5.2); done))
      (first | (go_at_call 69; (with_reducible refine (HX.out _ ?_).mono ?_); (repeat (first | (with_reducible assumption) | (with_reducible refine Sn.alloc ?_ _) | (with_reducible refine Sn.drew ?_))); rintro e w3 ⟨A3, c3, rfl, hx, hsn, hb3⟩; (first | (have hz5 := Z5.newd (w := W0) hsz0 hb3) | skip); have hsz := hsn.size; (try (have kk0 := cell_of_row _ _ 0 _ _ _ hz5.1; have kk1 := cell_of_row _ _ 1 _ _ _ hz5.1; have kk2 := cell_of_row _ _ 2 _ _ _ hz5.1; have kk3 := cell_of_row _ _ 3 _ _ _ hz5.1; have kk4 := cell_of_row _ _ 4 _ _ _ hz5.1; have kf0 := rp_fz hz5.1 0; have kf1 := rp_fz hz5.1 1; have kf2 := rp_fz hz5.1 2; have kf3 := rp_fz hz5.1 3; have kf4 := rp_fz hz5.1 4))) | (go_at_call 49; (with_reducible refine (sn_block (w := w) (n := n) (D := D) (row := #[.int .i64 k, .int .i64 l, .string s, .slice eA m ec, .slice tA 0 tc, .slice uA 0 uc]) ?_).mono ?_); (repeat (first | (with_reducible assumption) | (with_reducible refine Sn.alloc ?_ _) | (with_reducible refine Sn.drew ?_))); rintro e w4 ⟨rfl, hsn, hb4⟩; (first | (have hx := RowR.below hx hb4) | (have hx := RowR.below (RowR.alloc hx _) hb4)); have hs4 := hb4.size; (first | (have hz5 := Z5.below hz5 hb4) | (have hz5 := Z5.new (by with_reducible assumption) hb4) | skip); have hsz := hsn.size; (try (have kk0 := cell_of_row _ _ 0 _ _ _ hz5.1; have kk1 := cell_of_row _ _ 1 _ _ _ hz5.1; have kk2 := cell_of_row _ _ 2 _ _ _ hz5.1; have kk3 := cell_of_row _ _ 3 _ _ _ hz5.1; have kk4 := cell_of_row _ _ 4 _ _ _ hz5.1; have kf0 := rp_fz hz5.1 0; have kf1 := rp_fz hz5.1 1; have kf2 := rp_fz hz5.1 2; have kf3 := rp_fz hz5.1 3; have kf4 := rp_fz hz5.1 4))))
    all_goals
      dsimp only [Exit.then]
      refine hK _ _ (Met.intro (hJ _ _ ?_))
      (repeat apply Exists.intro)
      refine ⟨?rel, rfl⟩
      case rel => first | (with_reducible exact stq_new hx hsn) | (with_reducible exact stq_set hz5 hx hsn (.inr (Nat.le_refl _))) | (with_reducible exact stq_set hz5 hx hsn (.inr hs4)) | (refine stq_set hz5 hx hsn ?_; first | omega | (left; simp))
  case rest =>
    obtain ⟨b, z2, A3, c3, rfl, hbs, hrow, hx, hsn⟩ := hcut
    have hlk := hsn.e.none s hs
    have p0 := cell_of_row _ _ 0 _ _ _ hsn.p
    have q2 := cell_of_row _ _ 2 _ _ _ hsn.q
    have a0 := cell_of_row _ _ 0 _ _ _ hrow
    have a1 := cell_of_row _ _ 1 _ _ _ hrow
    have a2 := cell_of_row _ _ 2 _ _ _ hrow
    have a3 := cell_of_row _ _ 3 _ _ _ hrow
    have a4 := cell_of_row _ _ 4 _ _ _ hrow
    have HXR := Lib.hid hx
    have HS := Lib.hid hsn
    clear hx hsn hrow HX HZ H0
    go_wp2_with (with_reducible refine rq_pause ?_)
    refine Pause.of (wpList_store_new _ rfl _ _ _ rfl (w.heap.size + 2) _ rfl (by rfl) _ _ HS.out.z (by kernel_rfl) (by rfl) (by simp [Value.oneCell']) ?_)
    intro w9 hrow9 hg9
    have j0 := cell_of_row _ _ 0 _ _ _ hrow9
    have j1 := cell_of_row _ _ 1 _ _ _ hrow9
    have j2 := cell_of_row _ _ 2 _ _ _ hrow9
    have j3 := cell_of_row _ _ 3 _ _ _ hrow9
    have j4 := cell_of_row _ _ 4 _ _ _ hrow9
    have HH : Hid (StN d k es m w (.returned (.agg #[.int .i64 k, .int .i64 z2, .slice A3 m c3, .slice none 0 0, .slice none 0 0])) w9) := Lib.hid ⟨z2, A3, c3, rfl, RowE.keep (fun x hb' => ⟨by omega, Nat.lt_of_lt_of_le hb'.2 hg9.size⟩) (fun x hb' => hg9.block x hb'.2 (fun e => by injection e with e; omega)) HXR.out, HS.out.lo.trans (grown_any hg9 (fun k hk => by injection hk with hk; omega) HS.out.lo.size)⟩
    clear hrow9 hg9 a0 a1 a2 a3 a4
    go_wp2_with fail
    exact bodyPost_ret (by simp [results, Try.results65, go_sem, j0, j1, j2, j3, j4]) rfl HH.out
end Go.Proofs.Ytjmbllbnlnjanaa
namespace Go.Proofs.Ytjmbllbnlnjanaa
open Go.RowKit

/-- A statement's kind and expressions. -/
def numS : St → Int × List Ex
  | .mk k _ _ es _ _ => (k, es)
def okN : St → Bool
  | .mk _ _ s es _ _ => decide (s.size ≤ 1000) && arL es
def okL (l : List St) : Bool := l.all okN
/-- A numbered statement's five cells. -/
def MNm (D : Nat) : Means (Int × List Ex) := fun F w y cs => ∃ z A c, cs = [.int .i64 y.1, .int .i64 z, .slice A y.2.length c, .slice none 0 0, .slice none 0 0] ∧ RowE F w D y.2 A c
theorem mnm_keeps (D : Nat) : (MNm D).Keeps := fun _ _ _ _ _ _ h1 h2 h => by
  obtain ⟨z, A, c, rfl, hr⟩ := h
  exact ⟨z, A, c, rfl, hr.keep h1 h2⟩
theorem infoNmR : (Try.prog.info? 125).map (fun i => (i.zero, i.size, i.bytes)) = some (some (.agg #[.int .i64 0, .int .i64 0, .slice none 0 0, .slice none 0 0, .slice none 0 0]), 5, 88) := by kernel_rfl
def BnG (D : Nat) (ts : List St) (w : World) (e : Ending) (w' : World) : Prop := ∃ A m c, e = .returned (.slice A m c) ∧ m = ts.length ∧ RowG 5 (MNm D) (fun b => w.heap.size ≤ b ∧ b < w'.heap.size) w' (ts.map numS) A c ∧ Below w.heap.size w w'
def BnR (D : Nat) (ts : List St) (w : World) (v i : Value) (wr : World) : Prop := ∃ ys zs L, ts = ys ++ zs ∧ i = .int .i64 (ys.length : Int) ∧ GRow 5 125 (MNm D) w.heap.size wr v (ys.map numS) L ∧ Below w.heap.size w wr
set_option maxRecDepth 100000 in
set_option maxHeartbeats 4000000 in
theorem block_n {F : Nat → Prop} {D d bl bo nm : Nat} {M : DataW Unit} (ts : List St) (A : Option Addr) (n c : Nat) (w : World) (hn : n = ts.length) (h : RowS F w D d ts A c) (hF : ∀ b, F b → b < w.heap.size) (hf : flL ts = true) (hk : okL ts = true) (hn2 : n ≤ 1000000) (he : MapI w bl 0 (.map [])) (ho : MapI w bo nm M) :
    Calls Try.prog 49 #[.agg #[.map (some bl), .map (some bo)], .slice A n c] w (BnG D ts w) := by
  have hc : n ≤ c := by rw [hn]; exact h.1
  have hb0 := (Below.refl _ w).alloc (Nat.le_refl _) (.cells #[.map (some bl), .map (some bo)] 110)
  have hrow0 := heap_alloc_new w (.cells #[.map (some bl), .map (some bo)] 110)
  have hlt0 := (Array.getElem?_eq_some_iff.1 hrow0).1
  have Hn := Lib.hid hn
  have H := Lib.hid (RowS.keep (G := F) (fun _ h => h) (fun b hb => hb0.block b (hF b hb)) h)
  have HF := Lib.hid (fun b hb => Nat.lt_of_lt_of_le (hF b hb) hb0.size)
  have Hf := Lib.hid hf
  have Hk := Lib.hid hk
  have hbl := Nat.lt_of_lt_of_le he.lt hb0.size
  have hbo := Nat.lt_of_lt_of_le ho.lt hb0.size
  have HE := Lib.hid (he.below he.lt hb0)
  have HO := Lib.hid (ho.below ho.lt hb0)
  have HRow0 := Lib.hid hrow0
  have HB0 := Lib.hid hb0
  have hs0 := hb0.size
  clear hn h hf hF hk he ho hb0 hrow0
  go_enter Try.func49, Try.ntmps49
  go_wp2_with fail
  obtain ⟨W, hW⟩ : ∃ W, W = w.alloc (.cells #[.map (some bl), .map (some bo)] 110) := ⟨_, rfl⟩
  rw [← hW] at H HF HE HO HRow0 HB0 hs0 hlt0 hbl hbo ⊢
  clear hW
  go_loopw [4, 9] (fun v i wr => BnR D ts W v i wr) (fun _ i _ => n - (intOf i).toNat)
  case atStart => exact ⟨[], ts, [], rfl, rfl, GRow.nil, Below.refl _ _⟩
  case round =>
    obtain ⟨wo, rfl⟩ : ∃ wo : World, wo = wr := ⟨_, rfl⟩
    obtain ⟨ys, zs, L, hts, rfl, hgr, hb⟩ := hrel
    obtain ⟨vA, vc, rfl⟩ := own_slice hgr
    have hlm : (ys.map numS).length = ys.length := by simp
    rw [hlm] at hgr ⊢
    clear hlm
    have hyn : ys.length ≤ n := by rw [Hn.out, hts]; simp
    have HB := Lib.hid hb
    have HGR := Lib.hid hgr
    have HTS := Lib.hid hts
    have hszB := hb.size
    clear hb hgr
    cases zs with
    | nil =>
      have hyn2 : n ≤ ys.length := by rw [Hn.out, hts]; simp
      have HR : Hid (BnG D ts w (.returned (.slice vA ys.length vc)) wo) := Lib.hid ⟨vA, _, vc, rfl, by rw [hts]; simp, by
        have hg := HGR.out
        rw [show ys.length = (ys.map numS).length by simp] at hg
        have := (hg.row (mnm_keeps _)).2
        rw [hts, List.append_nil]
        exact this.keep (mnm_keeps _) (fun b hb => ⟨Nat.le_trans hs0 hb.1, hb.2⟩) (fun _ _ => rfl), HB0.out.trans (HB.out.mono hs0)⟩
      clear hts HGR
      go_wp2_with fail
      go_ret
      exact HR.out
    | cons z zs =>
      have hlt : ys.length < n := by rw [Hn.out, hts]; simp
      have hz : ts[ys.length]? = some z := by rw [hts]; simp
      obtain ⟨g, off, k, l, s, es, rfl, rfl, hFg, hat⟩ := flS_at H.out Hf.out hz
      have hkz : okN (.mk k l s es [] []) = true := List.all_eq_true.1 Hk.out _ (List.mem_of_getElem? hz)
      unfold okN at hkz
      simp only [Bool.and_eq_true, decide_eq_true_eq] at hkz
      have hat1 : AtS F wo D g (off + ys.length * 6) k l s es := hat.keep hFg (fun b hb => HB.out.block b (HF.out b hb))
      have hpl := hat1.pl
      have hlen := hat1.len
      obtain ⟨eA, ec, tA, tc, uA, uc, e0, e1, e2, e3, e4, e5, hre⟩ := hat1.ex
      have hb1 := (Below.refl _ wo).alloc (Nat.le_refl _) (.cells #[.int .i64 k, .int .i64 l, .string s, .slice eA es.length ec, .slice tA 0 tc, .slice uA 0 uc] 101)
      have hX1 := heap_alloc_new wo (.cells #[.int .i64 k, .int .i64 l, .string s, .slice eA es.length ec, .slice tA 0 tc, .slice uA 0 uc] 101)
      have hre1 := RowE.keep (G := F) (fun _ h => h) (fun b hb => hb1.block b (Nat.lt_of_lt_of_le (HF.out b hb) hszB)) hre
      have hN1 := (hb1.block _ (Nat.lt_of_lt_of_le hlt0 hszB)).trans ((HB.out.block _ hlt0).trans HRow0.out)
      have n0 := cell_of_row _ _ 0 _ _ _ hN1
      have n1 := cell_of_row _ _ 1 _ _ _ hN1
      have HC := Lib.hid (st_n (F := F) (d := D) (m := es.length) (k := k) (l := l) (s := s) (tA := tA) (uA := uA) (tc := tc) (uc := uc) (wo.alloc (.cells #[.int .i64 k, .int .i64 l, .string s, .slice eA es.length ec, .slice tA 0 tc, .slice uA 0 uc] 101)) (by have := hkz.1; unfold maxLen; omega) ((HE.out.below hbl HB.out).below (Nat.lt_of_lt_of_le hbl hszB) hb1) ((HO.out.below hbo HB.out).below (Nat.lt_of_lt_of_le hbo hszB) hb1) hre1 rfl hkz.2 hpl hlen (fun b hb => Nat.lt_of_lt_of_le (Nat.lt_of_lt_of_le (HF.out b hb) hszB) hb1.size))
      have x0 := cell_of_row _ _ 0 _ _ _ hX1
      have x1 := cell_of_row _ _ 1 _ _ _ hX1
      have x2 := cell_of_row _ _ 2 _ _ _ hX1
      have x3 := cell_of_row _ _ 3 _ _ _ hX1
      have x4 := cell_of_row _ _ 4 _ _ _ hX1
      have x5 := cell_of_row _ _ 5 _ _ _ hX1
      have hsz1 : wo.heap.size ≤ (wo.alloc (.cells #[.int .i64 k, .int .i64 l, .string s, .slice eA es.length ec, .slice tA 0 tc, .slice uA 0 uc] 101)).heap.size := hb1.size
      have HB1 := Lib.hid hb1
      have hec := hre.1
      obtain ⟨m, hm⟩ : ∃ m, m = es.length := ⟨_, rfl⟩
      rw [← hm] at e3 hX1 HC hsz1 HB1 hec hlen x0 x1 x2 x3 x4 x5 n0 n1
      have Hm := Lib.hid hm
      clear hts hz hat hat1 hre hre1 hb1 hX1 hm hFg hN1 hkz hpl
      go_upto_region 4 with fail
      obtain ⟨W1, hW1⟩ : ∃ W1, W1 = wo.alloc (.cells #[.int .i64 k, .int .i64 l, .string s, .slice eA m ec, .slice tA 0 tc, .slice uA 0 uc] 101) := ⟨_, rfl⟩
      rw [← hW1] at HC hsz1 HB1 x0 x1 x2 x3 x4 x5 n0 n1 ⊢
      clear hW1 e0 e1 e2 e3 e4 e5
      go_wp2_with fail
      refine HC.out.mono ?_
      rintro e w3 ⟨z3, A3, c3, rfl, hx3, hb3⟩
      have hs3 := hb3.size
      have HB3 := Lib.hid (HB1.out.trans (hb3.mono hsz1))
      have hown := HGR.out.own
      have HOU := Lib.hid (fun b hb => (hown.lt b hb).2)
      have HGR3 := Lib.hid (HGR.out.below (mnm_keeps D) HB3.out)
      have HV3 : Hid (MNm D (fun b => wo.heap.size ≤ b ∧ b < w3.heap.size) w3 (k, es) [.int .i64 k, .int .i64 z3, .slice A3 m c3, .slice none 0 0, .slice none 0 0]) := Lib.hid ⟨z3, A3, c3, by rw [Hm.out], RowE.keep (fun b hb => ⟨Nat.le_trans hsz1 hb.1, hb.2⟩) (fun _ _ => rfl) hx3⟩
      have HB4 := Lib.hid (HB.out.trans (HB3.out.mono hszB))
      clear hx3 hb3 hown HC HGR HB HB1 HB3 x0 x1 x2 x3 x4 x5 n0 n1
      go_wp2_with (at_builtin; refine Pause.out ?_)
      refine Pause.of (wpList_append_g (k := 5) (T := 125) (S := 111) (V := MNm D) w3 rfl (.tmp 13) (.tmp 17) rfl (mnm_keeps _) _ _ Try.underlying111 infoNmR rfl (by decide) (by decide) W.heap.size (.slice vA ys.length vc) (ys.map numS) L (k, es) [.int .i64 k, .int .i64 z3, .slice A3 m c3, .slice none 0 0, .slice none 0 0] (fun b => wo.heap.size ≤ b ∧ b < w3.heap.size) rfl rfl HGR3.out (by simp; omega) (by omega) rfl (by simp [Value.oneCell']) HV3.out (fun b hb => ⟨by omega, hb.2, fun e => by have := HOU.out b e; omega⟩) ?_)
      intro g9 cap9 w9 har9 hg9
      have hlm : (ys.map numS).length = ys.length := by simp
      rw [hlm] at har9 ⊢
      have HS9 : Hid (BnR D ts W (.slice (some ⟨g9, 0, none⟩) (ys.length + 1) cap9) (.int .i64 ((ys.length : Int) + 1)) w9) := Lib.hid ⟨ys ++ [.mk k l s es [] []], zs, _, by rw [HTS.out]; simp, by simp, by rw [List.map_append]; exact har9, HB4.out.trans (below_own HGR3.out.own hg9 (by omega))⟩
      clear har9 hg9 HGR3 HB4 HV3 HOU hlm
      go_wp2_with fail
      exact ⟨HS9.out, by simp [intOf]; omega⟩
end Go.Proofs.Ytjmbllbnlnjanaa
