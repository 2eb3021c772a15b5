/-
  The walk of the drawing helper Code. Condition: at most a million codes.
-/
import Derived.Test.YtebmmdafmgphdaaDoorIntD
import Derived.Test.YtebmmdafmgphdaaDoorMacD
import Derived.Test.YtebmmdafmgphdaaDoorRegT
import Derived.Deep.RegionLaw
import Derived.Deep.AppendLies
import Derived.Deep.CutRange
import Derived.Deep.CutBlock
namespace Go.Proofs.YtebmmdafmgphdaaDoor
open Go.RowKit

def kRow (op ari dst a b val : Int) (wide : Bool) (v : Value) : Array Value := #[.int .i64 op, .int .i64 ari, .int .i64 dst, .int .i64 a, .int .i64 b, .int .i64 val, .bool wide, v]
/-- An instruction under way: its block, its operands, the result's block, the codes. -/
structure KS (w : World) (g : Nat) (l : List Nat) (p : Nat) (row : Array Value) (v : Value) (n : Nat) (xs : List Nat) (wr : World) : Prop where
  cod : ∃ k, Codes wr g l k
  gro : w.grownBy wr (some g)
  row : wr.heap[p]? = some (.cells row 26 (0, 0))
  own : wr.ownsRow (p + 1) 3 1 v n (xs.map nv)
  res : wr.heap[w.heap.size]? = some (.cells (kRow 0 0 0 0 0 0 false (.slice none 0 0)) 26 (0, 0))
  hp : w.heap.size < p
  hg : g < w.heap.size
section
variable {w wr w' : World} {g p n : Nat} {l : List Nat} {row : Array Value} {v : Value} {xs : List Nat}
theorem KS.plt (h : KS w g l p row v n xs wr) : p < wr.heap.size := (Array.getElem?_eq_some_iff.1 h.row).1
theorem KS.rlt (h : KS w g l p row v n xs wr) : w.heap.size < wr.heap.size := (Array.getElem?_eq_some_iff.1 h.res).1
theorem KS.low (h : KS w g l p row v n xs wr) (hb : Below wr.heap.size wr w') : KS w g l p row v n xs w' := by
  obtain ⟨k, hc⟩ := h.cod
  exact ⟨⟨k, codes_below hc hb⟩, h.gro.trans (grown_of_below hb _), (hb.block p h.plt).trans h.row, h.own.kept (row := none) (grown_of_below hb none) (by cases hv : v.ownBlock <;> simp), (hb.block _ h.rlt).trans h.res, h.hp, h.hg⟩
theorem KS.drew (h : KS w g l p row v n xs wr) : KS w g l p row v n xs wr.drew := ⟨h.cod, only_drewN' h.gro 1, h.row, h.own, h.res, h.hp, h.hg⟩
theorem KS.other (h : KS w g l p row v n xs wr) (hc : ∃ k, Codes w' g l k) (hg : wr.grownBy w' (some g)) : KS w g l p row v n xs w' :=
  ⟨hc, h.gro.trans hg, (hg.block p h.plt (fun e => by injection e with e; have := h.hp; have := h.hg; omega)).trans h.row,
    h.own.kept hg (.inr (fun e => by have := own_lo h.own g e; have := h.hp; have := h.hg; omega)), (hg.block _ h.rlt (fun e => by injection e with e; have := h.hg; omega)).trans h.res, h.hp, h.hg⟩
theorem KS.next (h : KS w g l p row v n xs wr) (z : Int) (m : Nat) (hz : z = (m : Int)) (hn : m ≤ 1000000000) (h1 : 1 ≤ m) (hlen : l.length ≤ 1000000) (hl : ∀ x ∈ l, x < 256) :
    Calls Tryd.prog 13 #[.pointer (some ⟨g, 0, none⟩), .int .i64 z] wr fun e w' => ∃ r : Nat, e = .returned (.int .i64 (r : Int)) ∧ r < m ∧ KS w g l p row v n xs w' ∧ wr.grownBy w' (some g) := by
  subst hz
  obtain ⟨k, hc⟩ := h.cod
  refine (drawn_any g l k m wr hc hn hlen hl).mono ?_
  rintro e w' ⟨r, k', rfl, hr, _, hc', hg'⟩
  exact ⟨r, rfl, by have := hr (by omega); omega, h.other ⟨k', hc'⟩ hg', hg'⟩
theorem KS.int (h : KS w g l p row v n xs wr) (hlen : l.length ≤ 1000000) (hl : ∀ x ∈ l, x < 256) :
    Calls Tryd.prog 15 #[.pointer (some ⟨g, 0, none⟩)] wr fun e w' => ∃ r : Int, e = .returned (.int .i64 r) ∧ i64C r ∧ KS w g l p row v n xs w' := by
  obtain ⟨k, hc⟩ := h.cod
  refine (int_any g l k wr hc hlen hl).mono ?_
  rintro e w' ⟨r, rfl, hr, hc', hg'⟩
  exact ⟨r, rfl, hr, h.other hc' hg'⟩
theorem KS.set (h : KS w g l p row v n xs wr) (i : Nat) (u : Value) : KS w g l p (row.setIfInBounds i u) v n xs (wr.setCell ⟨p, i, none⟩ u) := by
  obtain ⟨k, hc⟩ := h.cod
  have hpg : g < p := by have := h.hp; have := h.hg; omega
  have hgs : wr.grownBy (wr.setCell ⟨p, i, none⟩ u) (some p) := ⟨rfl, rfl, rfl, by simp [World.setCell], fun j _ hne => Below.heap_setCell wr _ _ j (fun he => hne (by rw [he]))⟩
  refine ⟨⟨k, codes_low hc (grown_any hgs (fun k hk => by injection hk with hk; omega) (Nat.le_of_lt h.plt)) hpg⟩, grown_low h.gro (grown_any hgs (fun k hk => by injection hk with hk; omega) (Nat.le_of_lt h.plt)) (Nat.le_of_lt h.hp), ?_, h.own.kept hgs (.inr (fun e => by have := own_lo h.own p e; omega)), (hgs.block _ h.rlt (fun e => by injection e with e; have := h.hp; omega)).trans h.res, h.hp, h.hg⟩
  have := heap_setCell_same wr p i _ _ u h.row
  simpa using this
end
/-- .. whatever its fields are. -/
def KX (w : World) (g : Nat) (l : List Nat) (p m : Nat) (wr : World) : Prop :=
  ∃ (op ari dst a b val : Int) (wide : Bool) (v : Value) (n : Nat) (xs : List Nat), (i64C op ∧ i64C ari ∧ i64C dst ∧ i64C a ∧ i64C b ∧ i64C val) ∧ xs.length = n ∧ n ≤ m ∧ (∀ x ∈ xs, x < 8) ∧ KS w g l p (kRow op ari dst a b val wide v) v n xs wr
/-- A drawn instruction. -/
def CdP (g : Nat) (l : List Nat) (w : World) (e : Ending) (w' : World) : Prop :=
  ∃ (x : Cd) (v : Value) (n : Nat), e = .returned (cdv x v) ∧ x.args.length = n ∧ n ≤ 3 ∧ (i64C x.op ∧ i64C x.ari ∧ i64C x.dst ∧ i64C x.a ∧ i64C x.b ∧ i64C x.val) ∧ (∀ z ∈ x.args, 0 ≤ z ∧ z < 8) ∧ RdT w' 3 v (x.args.map iz) n ∧ (∃ k, Codes w' g l k) ∧ w.grownBy w' (some g)
theorem step_append_nt {ops : Array Oper} {o : Oper} {a : Act} {K : Act → World → Prop} {Q : Exit → Act → World → Prop} {E : Prop} (w : World) (hgd : o.guard = none) (s x : Operand)
    (ho : o.op = .call { callee := .builtin .append, args := #[s, x], argTypes := #[24, 24] }) (base : Nat) (v : Value) (ts : List Nat) (n : Nat) (t : Nat)
    (hs : a.eval s = v) (hx : a.eval x = .slice (some ⟨w.heap.size, 0, none⟩) 1 1) (hown : w.ownsRow base 3 1 v n (ts.map nv)) (hlen : n ≤ 1000000) (hbase : base ≤ w.heap.size)
    (hk : ∀ v' w', w'.ownsRow base 3 1 v' (n + 1) ((ts ++ [t]).map nv) → w.grownBy w' v.ownBlock → (∃ A c, v' = .slice A (n + 1) c) → K (a.put o.dst v') w') :
    if Region.wanted o (yielded ops a.tmps) = true then Oper.wp Tryd.prog o a (w.alloc (.cells #[.int .i64 (t : Int)] 3)) K Q else E := by
  obtain ⟨i, hi, hz, hsz, hby⟩ := info_parts infoI
  refine step_append_lies _ hgd s x _ ho base 3 i _ 1 8 Tryd.underlying24 hi hz hsz hby rfl (by decide) v n (ts.map nv) hs (hown.alloc _) ⟨w.heap.size, 0, none⟩ 1 1 [nv t] hx (by simp) ?_ ?_ (by decide) (by unfold maxLen; omega) (by omega) (by simp; omega) _ rfl fun g cap w' h1 h2 h3 _ => hk _ w' (by simpa using h1) ((World.grownBy_alloc _ _ _).trans h2) ⟨_, _, rfl⟩
  · intro j u hu
    rw [Addr.add_lit, Nat.zero_add]
    exact (cell_of_row _ _ _ _ _ _ (heap_alloc_new w _)).trans (by simpa [nv] using hu)
  · intro u hu
    exact nv_one [t] u (by simpa using hu)
/-- The operands' cell. -/
def KT (p : Nat) (v : Value) (w : World) : Prop := w.cell? ⟨p, 7, none⟩ = some v
def KE (_ : World) : Prop := True
theorem kRow_cells {w : World} {p : Nat} {op ari dst a b val : Int} {wide : Bool} {v : Value} {T : TypeId} (h : w.heap[p]? = some (.cells (kRow op ari dst a b val wide v) T (0, 0))) :
    w.cell? ⟨p, 0, none⟩ = some (.int .i64 op) ∧ w.cell? ⟨p, 1, none⟩ = some (.int .i64 ari) ∧ w.cell? ⟨p, 2, none⟩ = some (.int .i64 dst) ∧ w.cell? ⟨p, 3, none⟩ = some (.int .i64 a) ∧ w.cell? ⟨p, 4, none⟩ = some (.int .i64 b) ∧ w.cell? ⟨p, 5, none⟩ = some (.int .i64 val) ∧ w.cell? ⟨p, 6, none⟩ = some (.bool wide) ∧ w.cell? ⟨p, 7, none⟩ = some v :=
  ⟨cell_of_row _ _ 0 _ _ _ h, cell_of_row _ _ 1 _ _ _ h, cell_of_row _ _ 2 _ _ _ h, cell_of_row _ _ 3 _ _ _ h, cell_of_row _ _ 4 _ _ _ h, cell_of_row _ _ 5 _ _ _ h, cell_of_row _ _ 6 _ _ _ h, cell_of_row _ _ 7 _ _ _ h⟩
theorem KS.app {w wr w' : World} {g p n : Nat} {l : List Nat} {row : Array Value} {v v' : Value} {xs ys : List Nat} (h : KS w g l p row v n xs wr) (ho : w'.ownsRow (p + 1) 3 1 v' (n + 1) (ys.map nv)) (hg : wr.grownBy w' v.ownBlock) :
    KS w g l p row v' (n + 1) ys w' ∧ KS w g l p (row.setIfInBounds 7 v') v' (n + 1) ys (w'.setCell ⟨p, 7, none⟩ v') := by
  have hb : Below (p + 1) wr w' := grown_any hg (own_lo h.own) (by have := h.plt; omega)
  obtain ⟨k, hc⟩ := h.cod
  have h1 : KS w g l p row v' (n + 1) ys w' := ⟨⟨k, codes_low hc hb (by have := h.hp; have := h.hg; omega)⟩, grown_low h.gro hb (by have := h.hp; omega), (hb.block p (by omega)).trans h.row, ho, (hb.block _ (by have := h.hp; omega)).trans h.res, h.hp, h.hg⟩
  exact ⟨h1, h1.set 7 v'⟩
theorem pause_cd {P : Program} {w : World} {ops : Array Oper} {rest : List Oper} {d : Option Tmp} {ty : TypeId} {x y : Operand} {pos : String} {af : Array Edge} {gd : Option (Nat × Bool)} {a : Act} {Q : Exit → Act → World → Prop}
    (h : Pause (wpList P ops Q ({ dst := d, op := .store 26 x y, type := ty, pos := pos, after := af, guard := gd } :: rest) a w)) : wpList P ops Q ({ dst := d, op := .store 26 x y, type := ty, pos := pos, after := af, guard := gd } :: rest) a w := h
/-- A struct stored over a whole block. -/
theorem store_all {P : Program} {ops : Array Oper} {rest : List Oper} {o : Oper} {a : Act} (w : World) {Q : Exit → Act → World → Prop} (hgd : o.guard = none) (ty : TypeId) (x y : Operand) (ho : o.op = .store ty x y)
    (b : Nat) (cells : Array Value) (hx : a.eval x = .pointer (some ⟨b, 0, none⟩)) (hy : a.eval y = .agg cells) (t : TypeId) (old : Array Value) (hg : w.heap[b]? = some (.cells old t (0, 0))) (hi : (P.info? ty).map (·.size) = some cells.size)
    (hold : old.size = cells.size) (h1 : cells.all (·.oneCell') = true)
    (h : ∀ w', w'.heap[b]? = some (.cells cells t (0, 0)) → w.grownBy w' (some b) → wpList P ops Q rest (a.put o.dst undef) w') : wpList P ops Q (o :: rest) a w :=
  wpList_store_row hgd ty x y ho b cells hx hy t old hg hi hold h1 (h _ (setRow_heap w b old cells t (0, 0) hg) ⟨rfl, rfl, rfl, by simp, fun i _ hne => setRow_other w b i _ (fun e => hne (by rw [e]))⟩)
def row13 : Array Value := #[.int .i64 (-128), .int .i64 (-129), .int .i64 127, .int .i64 128, .int .i64 (-2147483648), .int .i64 2147483647, .int .i64 2147483648, .int .i64 31, .int .i64 32, .int .i64 63, .int .i64 64, .int .i64 4095, .int .i64 4096]
theorem row13_at (r : Nat) (h : r < 13) : ∃ n : Int, row13[r]? = some (.int .i64 n) ∧ i64C n := by
  have : r = 0 ∨ r = 1 ∨ r = 2 ∨ r = 3 ∨ r = 4 ∨ r = 5 ∨ r = 6 ∨ r = 7 ∨ r = 8 ∨ r = 9 ∨ r = 10 ∨ r = 11 ∨ r = 12 := by omega
  rcases this with rfl | rfl | rfl | rfl | rfl | rfl | rfl | rfl | rfl | rfl | rfl | rfl | rfl <;> exact ⟨_, rfl, by decide, by decide⟩
theorem cd_end {w wr w' : World} {g p n : Nat} {l : List Nat} {op ari dst a b val : Int} {wide : Bool} {v : Value} {xs : List Nat} (h : KS w g l p (kRow op ari dst a b val wide v) v n xs wr) (hi : i64C op ∧ i64C ari ∧ i64C dst ∧ i64C a ∧ i64C b ∧ i64C val) (hn : xs.length = n) (hm : n ≤ 3) (hx : ∀ x ∈ xs, x < 8) (hg : wr.grownBy w' (some w.heap.size)) :
    CdP g l w (.returned (.agg #[.int .i64 op, .int .i64 ari, .int .i64 dst, .int .i64 a, .int .i64 b, .int .i64 val, .bool wide, v])) w' := by
  have hb : Below w.heap.size wr w' := grown_any hg (fun k hk => by injection hk with hk; omega) h.gro.size
  obtain ⟨k, hk⟩ := h.cod
  have ho := h.own.kept hg (.inr (fun e => by have := own_lo h.own _ e; have := h.hp; omega))
  refine ⟨⟨op, ari, dst, a, b, val, wide, xs.map Int.ofNat⟩, v, n, rfl, by simpa using hn, hm, hi, ?_, ?_, ⟨k, codes_low hk hb h.hg⟩, grown_low h.gro hb (Nat.le_refl _)⟩
  · intro z hz
    obtain ⟨x, hx2, rfl⟩ := List.mem_map.1 hz
    have := hx x hx2
    simp only [Int.ofNat_eq_natCast]
    omega
  · have e : (xs.map Int.ofNat).map iz = xs.map nv := by rw [List.map_map]; rfl
    show RdT w' _ v ((xs.map Int.ofNat).map iz) n
    rw [e]
    exact own_formT ho
theorem sizeC : (Tryd.prog.info? 26).map (·.size) = some 8 := by kernel_rfl
theorem i64_small (r : Nat) (h : r ≤ 1000) : i64C (r : Int) := ⟨by omega, by omega⟩
set_option linter.unusedSimpArgs false in
set_option maxRecDepth 100000 in
set_option maxHeartbeats 4000000 in
theorem code_any (g : Nat) (l : List Nat) (k : Nat) (w : World) (hc : Codes w g l k) (hlen : l.length ≤ 1000000) (hl : ∀ x ∈ l, x < 256) :
    Calls Tryd.prog 8 #[.pointer (some ⟨g, 0, none⟩)] w (CdP g l w) := by
  have Hl := Lib.hid hl; clear hl
  have hc0 : Codes (w.alloc (.cells (kRow 0 0 0 0 0 0 false (.slice none 0 0)) 26)) g l k := codes_below hc ((Below.refl _ _).alloc (Nat.le_refl _) _)
  have Hc0 := Lib.hid hc0
  have Hlt := Lib.hid (codes_lt hc)
  clear hc hc0
  go_enter Tryd.func8, Tryd.ntmps8
  go_wp2_with fail
  refine (drawn_any g l k 18 _ Hc0.out (by decide) hlen Hl.out).mono ?_
  rintro e w1 ⟨r1, k1, rfl, h1, _, hc1, hg1⟩
  have h1' : r1 < 18 := by have := h1 (by omega); omega
  have Hc1 := Lib.hid hc1
  have Hg1 := Lib.hid hg1
  clear h1 hc1 hg1
  go_wp2_with fail
  refine (drawn_any g l k1 12 _ Hc1.out (by decide) hlen Hl.out).mono ?_
  rintro e w2 ⟨r2, k2, rfl, h2, _, hc2, hg2⟩
  have h2' : r2 < 12 := by have := h2 (by omega); omega
  have Hc2 := Lib.hid hc2
  have Hg2 := Lib.hid (Hg1.out.trans hg2)
  clear h2 hc2 hg2
  go_wp2_with fail
  refine (drawn_any g l k2 8 _ Hc2.out (by decide) hlen Hl.out).mono ?_
  rintro e w3 ⟨r3, k3, rfl, h3, _, hc3, hg3⟩
  have h3' : r3 < 8 := by have := h3 (by omega); omega
  have Hc3 := Lib.hid hc3
  have Hg3 := Lib.hid (Hg2.out.trans hg3)
  clear h3 hc3 hg3
  go_wp2_with fail
  refine (drawn_any g l k3 8 _ Hc3.out (by decide) hlen Hl.out).mono ?_
  rintro e w4 ⟨r4, k4, rfl, h4, _, hc4, hg4⟩
  have h4' : r4 < 8 := by have := h4 (by omega); omega
  have Hc4 := Lib.hid hc4
  have Hg4 := Lib.hid (Hg3.out.trans hg4)
  clear h4 hc4 hg4
  go_wp2_with fail
  refine (drawn_any g l k4 8 _ Hc4.out (by decide) hlen Hl.out).mono ?_
  rintro e w5 ⟨r5, k5, rfl, h5, _, hc5, hg5⟩
  have h5' : r5 < 8 := by have := h5 (by omega); omega
  have Hc5 := Lib.hid hc5
  have Hg5 := Lib.hid (Hg4.out.trans hg5)
  clear h5 hc5 hg5
  go_wp2_with fail
  refine (drawn_any g l k5 30 _ Hc5.out (by decide) hlen Hl.out).mono ?_
  rintro e w6 ⟨r6, k6, rfl, h6, _, hc6, hg6⟩
  have h6' : r6 < 30 := by have := h6 (by omega); omega
  have hg6' := Hg5.out.trans hg6
  have hsz : w.heap.size < w6.heap.size := Nat.lt_of_lt_of_le (by simp) hg6'.size
  have hK : ∀ row : Array Value, KS w g l w6.heap.size row (.slice none 0 0) 0 [] (w6.alloc (.cells row 26)) := fun row => by
    have hb : Below w6.heap.size w6 (w6.alloc (.cells row 26)) := (Below.refl _ _).alloc (Nat.le_refl _) _
    refine ⟨⟨k6, codes_below hc6 hb⟩, ?_, heap_alloc_new w6 _, World.ownsRow_nil _ _ _ _, ?_, hsz, Hlt.out⟩
    · exact (World.grownBy_alloc _ _ _).trans (hg6'.trans (grown_of_below hb _))
    · refine (hb.block _ hsz).trans ((hg6'.block _ (by simp) (fun e => by injection e with e; have := Hlt.out; omega)).trans (heap_alloc_new w _))
  have HKS := Lib.hid hK
  clear h6 hc6 hg6 hg6' hK Hg1 Hg2 Hg3 Hg4 Hg5 Hc1 Hc2 Hc3 Hc4 Hc5 Hc0
  go_wp2_with fail
  obtain ⟨w7, hw7⟩ : ∃ w7, w6.alloc (.cells #[.int .i64 (1 + (r1 : Int)), .int .i64 (r2 : Int), .int .i64 (r3 : Int), .int .i64 (r4 : Int), .int .i64 (r5 : Int), .int .i64 (r6 : Int), .bool false, .slice none 0 0] 26) = w7 := ⟨_, rfl⟩
  rw [hw7]
  have H7 : Hid (KX w g l w6.heap.size 0 w7) := Lib.hid (by
    rw [← hw7]
    exact ⟨1 + (r1 : Int), r2, r3, r4, r5, r6, false, .slice none 0 0, 0, [], ⟨⟨by omega, by omega⟩, ⟨by omega, by omega⟩, ⟨by omega, by omega⟩, ⟨by omega, by omega⟩, ⟨by omega, by omega⟩, ⟨by omega, by omega⟩⟩, rfl, Nat.le_refl _, by simp, HKS.out _⟩)
  obtain ⟨p, hp⟩ : ∃ p, w6.heap.size = p := ⟨_, rfl⟩
  rw [hp] at H7 ⊢
  clear hp hw7 HKS hsz h1' h2' h3' h4' h5' h6'
  obtain ⟨op, ari, dst, a, b, val, wide, v, n, xs, hi, hn, hm, hx, hks⟩ := H7.out
  refine (hks.next 4 4 rfl (by decide) (by decide) hlen Hl.out).mono ?_
  rintro e w8 ⟨r8, rfl, h8, hks8, _⟩
  have H8 : Hid (KX w g l p (3 - r8) w8) := Lib.hid ⟨op, ari, dst, a, b, val, wide, v, n, xs, hi, hn, by omega, hx, hks8⟩
  clear hi hn hm hx hks hks8 H7
  go_wp2_with fail
  go_loopw [4] (fun v wr => ∃ j : Nat, v = .int .i64 (j : Int) ∧ j ≤ 3 ∧ KX w g l p (3 - j) wr) (fun v _ => (intOf v).toNat)
  case atStart => exact ⟨r8, rfl, by omega, H8.out⟩
  case round =>
    obtain ⟨j, rfl, hj, op, ari, dst, a, b, val, wide, v, n, xs, hi, hn, hm, hx, hks⟩ := hrel
    have Hi := Lib.hid hi
    have Hn := Lib.hid hn
    have Hx := Lib.hid hx
    have Hks := Lib.hid hks
    clear hi hn hx
    by_cases h0 : 0 < j
    · obtain ⟨q0, q1, q2, q3, q4, q5, q6, q7⟩ := kRow_cells hks.row
      clear hks
      go_upto_region 5 with fail
      refine GoT.region (S := KE) (T := KT p v) (z := 7) (by kernel_rfl) trivial q7 (fun _ => ?_)
      simp only [List.size_toArray, List.length_cons, List.length_nil, Nat.zero_add, Nat.reduceAdd]
      have hT0 : KT p v wr.drew := q7
      clear q0 q1 q2 q3 q4 q5 q6 q7
      refine GoT.take (i := 0) (v := ?_) rfl rfl (by decide +kernel) (by kernel_rfl) (by decide +kernel) (by decide +kernel) (fun _ _ _ h => h) (Or.inl ⟨by rfl, ?_⟩) ⟨trivial, (by first | exact .inr (by assumption) | exact .inl (by decide +kernel))⟩ ?_
      rotate_left
      · intro w hSw
        go_simp
        (try with_reducible rfl)
      try simp only [List.getElem_toArray, List.getElem_cons_zero, List.getElem_cons_succ, Act.put, List.setIfInBounds_toArray, List.set_cons_zero, List.set_cons_succ]
      refine GoT.takeT (i := 1) (v := ?_) rfl rfl (by decide +kernel) (by kernel_rfl) (by decide +kernel) (by decide +kernel) (fun _ _ _ h => h) (Or.inl ⟨by rfl, ?_⟩) ⟨trivial, .inr (by assumption)⟩ ?_
      rotate_left
      · intro w hSw
        unfold KT at hSw
        go_simp
        (try with_reducible rfl)
      try simp only [List.getElem_toArray, List.getElem_cons_zero, List.getElem_cons_succ, Act.put, List.setIfInBounds_toArray, List.set_cons_zero, List.set_cons_succ]
      refine GoT.take (i := 2) (v := ?_) rfl rfl (by decide +kernel) (by kernel_rfl) (by decide +kernel) (by decide +kernel) (fun _ _ _ h => h) (Or.inl ⟨by rfl, ?_⟩) ⟨trivial, (by first | exact .inr (by assumption) | exact .inl (by decide +kernel))⟩ ?_
      rotate_left
      · intro w hSw
        go_simp
        (try with_reducible rfl)
      try simp only [List.getElem_toArray, List.getElem_cons_zero, List.getElem_cons_succ, Act.put, List.setIfInBounds_toArray, List.set_cons_zero, List.set_cons_succ]
      refine GoT.next (rs := [3]) (by decide +kernel) (by simp) (AllT.cons rfl (fun K hK => ?_) AllT.nil)
      dsimp only [List.getElem_toArray, List.getElem_cons_zero, List.getElem_cons_succ]
      go_simp
      go_at_call 13
      (with_reducible refine (Hks.out.drew.next 8 8 rfl (by decide) (by decide) hlen Hl.out).mono ?_)
      rintro e w2 ⟨r, rfl, hr, hks2, _⟩
      have hT2 : KT p v w2 := (kRow_cells hks2.row).2.2.2.2.2.2.2
      have Hks2 := Lib.hid hks2
      clear hks2
      dsimp only
      refine hK.out _ _ ⟨trivial, .inr hT2⟩ (fun _ => ?_)
      clear hK K
      try simp only [Act.put, List.setIfInBounds_toArray, List.set_cons_zero, List.set_cons_succ]
      refine GoT.next (rs := [4]) (by decide +kernel) (by simp) (AllT.cons rfl (fun K hK => ?_) AllT.nil)
      have hTa : KT p v (w2.alloc (.cells #[.int .i64 (r : Int)] 3)) := (kRow_cells (Hks2.out.low ((Below.refl _ _).alloc (Nat.le_refl _) _)).row).2.2.2.2.2.2.2
      dsimp only [List.getElem_toArray, List.getElem_cons_zero, List.getElem_cons_succ]
      go_simp
      refine hK.out _ _ ⟨trivial, .inr hTa⟩ (fun _ => ?_)
      clear hK K hTa hT2
      try simp only [Act.put, List.setIfInBounds_toArray, List.set_cons_zero, List.set_cons_succ]
      refine GoT.next (rs := [5]) (by decide +kernel) (by simp) (AllT.cons rfl (fun K hK => ?_) AllT.nil)
      refine step_append_nt w2 ?_ (.tmp 26) (.tmp 29) ?_ (p + 1) v xs n r ?_ ?_ Hks2.out.own (by omega) (by have := Hks2.out.plt; omega) ?_
      · rfl
      · rfl
      · rfl
      · rfl
      rintro v' w3 hown hg ⟨A', c', rfl⟩
      obtain ⟨hk3, hk4⟩ := Hks2.out.app hown hg
      have hT3 : KT p v w3 := (kRow_cells hk3.row).2.2.2.2.2.2.2
      have c3 : w3.cell? ⟨p, 7, none⟩ = some v := hT3
      have f3 := codes_frozen hk3.row 7
      have hp3 := hk3.plt
      have HE : Hid (KX w g l p (3 - (j - 1)) (w3.setCell ⟨p, 7, none⟩ (.slice A' (n + 1) c'))) := Lib.hid ⟨op, ari, dst, a, b, val, wide, _, n + 1, xs ++ [r], Hi.out, by rw [List.length_append, Hn.out]; rfl, by omega, (by
        intro x hx
        rcases List.mem_append.1 hx with h | h
        · exact Hx.out x h
        · simp at h; omega), hk4⟩
      clear hk3 hk4 hown hg
      refine hK.out _ _ ⟨trivial, .inr hT3⟩ (fun _ => ?_)
      clear hK K
      try simp only [List.getElem_toArray, List.getElem_cons_zero, List.getElem_cons_succ, Act.put, List.setIfInBounds_toArray, List.set_cons_zero, List.set_cons_succ]
      refine GoT.take (i := 6) (v := ?_) rfl rfl (by decide +kernel) (by kernel_rfl) (by decide +kernel) (by decide +kernel) (fun _ _ _ h => h) (Or.inl ⟨by rfl, ?_⟩) ⟨trivial, (by first | exact .inr (by assumption) | exact .inl (by decide +kernel))⟩ ?_
      rotate_left
      · intro w hSw
        go_simp
        (try with_reducible rfl)
      try simp only [List.getElem_toArray, List.getElem_cons_zero, List.getElem_cons_succ, Act.put, List.setIfInBounds_toArray, List.set_cons_zero, List.set_cons_succ]
      refine GoT.next (rs := [7]) (by decide +kernel) (by simp) (AllT.cons rfl (fun K hK => ?_) AllT.nil)
      dsimp only [List.getElem_toArray, List.getElem_cons_zero, List.getElem_cons_succ]
      go_simp
      refine hK.out _ _ ⟨trivial, .inl (by decide +kernel)⟩ (fun _ => ?_)
      clear hK K
      try simp only [Act.put, List.setIfInBounds_toArray, List.set_cons_zero, List.set_cons_succ]
      refine GoT.done (by decide +kernel) ?_ _
      clear hT3 c3 f3
      go_wp2_with fail
      exact ⟨⟨j - 1, by go_num, by omega, HE.out⟩, by simp [intOf]; omega⟩
    · obtain rfl : j = 0 := by omega
      have H9 : Hid (KX w g l p 3 wr) := Lib.hid ⟨op, ari, dst, a, b, val, wide, v, n, xs, Hi.out, Hn.out, hm, Hx.out, hks⟩
      clear hks Hi Hn Hx Hks hm
      obtain ⟨op, ari, dst, a, b, val, wide, v, n, xs, hi, hn, hm, hx, hks⟩ := H9.out
      obtain ⟨q0, q1, q2, q3, q4, q5, q6, q7⟩ := kRow_cells hks.row
      go_upto_if 34 with fail
      go_cut [] from 32 (fun wd => KX w g l p 3 wd)
      case first =>
        by_cases h3 : op = 3
        · subst h3
          go_wp2_with fail
          refine (hks.next 2 2 rfl (by decide) (by decide) hlen Hl.out).mono ?_
          rintro e w2 ⟨r, rfl, hr, hks2, _⟩
          obtain ⟨c0, c1, c2, c3, c4, c5, c6, c7⟩ := kRow_cells hks2.row
          have f3 := codes_frozen hks2.row 1
          have HE : Hid (KX w g l p 3 (w2.setCell ⟨p, 1, none⟩ (.int .i64 (1 + (r : Int))))) := Lib.hid ⟨3, 1 + (r : Int), dst, a, b, val, wide, v, n, xs, ⟨hi.1, ⟨by omega, by omega⟩, hi.2.2⟩, hn, hm, hx, hks2.set 1 _⟩
          clear hi hn hm hx hks hks2
          go_wp2_with fail
          go_meet
          case rel => exact HE.out
        · have e3 : ((op : Int) == 3) = false := by simp; omega
          clear hi hn hm hx hks
          go_wp2_with fail
          go_meet
          case rel => exact H9.out
      case rest =>
        have H10 := Lib.hid hcut
        clear hcut H9
        obtain ⟨op, ari, dst, a, b, val, wide, v, n, xs, hi, hn, hm, hx, hks⟩ := H10.out
        obtain ⟨q0, q1, q2, q3, q4, q5, q6, q7⟩ := kRow_cells hks.row
        go_upto_if 41 with fail
        go_cut [] from 39 (fun wd => KX w g l p 3 wd)
        case first =>
          by_cases h3 : op = 4
          · subst h3
            go_wp2_with fail
            refine (hks.next 9 9 rfl (by decide) (by decide) hlen Hl.out).mono ?_
            rintro e w2 ⟨r, rfl, hr, hks2, _⟩
            obtain ⟨c0, c1, c2, c3, c4, c5, c6, c7⟩ := kRow_cells hks2.row
            have f3 := codes_frozen hks2.row 1
            have HE : Hid (KX w g l p 3 (w2.setCell ⟨p, 1, none⟩ (.int .i64 (3 + (r : Int))))) := Lib.hid ⟨4, 3 + (r : Int), dst, a, b, val, wide, v, n, xs, ⟨hi.1, ⟨by omega, by omega⟩, hi.2.2⟩, hn, hm, hx, hks2.set 1 _⟩
            clear hi hn hm hx hks hks2
            go_wp2_with fail
            go_meet
            case rel => exact HE.out
          · have e3 : ((op : Int) == 4) = false := by simp; omega
            clear hi hn hm hx hks
            go_wp2_with fail
            go_meet
            case rel => exact H10.out
        case rest =>
          have H11 := Lib.hid hcut
          clear hcut H10 hi hn hm hx hks q0 q1 q2 q3 q4 q5 q6 q7 op ari dst a b val wide v n xs
          obtain ⟨op, ari, dst, a, b, val, wide, v, n, xs, hi, hn, hm, hx, hks⟩ := H11.out
          obtain ⟨q0, q1, q2, q3, q4, q5, q6, q7⟩ := kRow_cells hks.row
          go_upto_region 10 with fail
          go_cut [] from 46 (fun wd => KX w g l p 3 wd)
          case first =>
            by_cases h3 : op = 13 ∨ op = 14 ∨ op = 15
            · have HC := Lib.hid (hks.next 2 2 rfl (by decide) (by decide) hlen Hl.out)
              have HE : Hid (∀ w2 r, KS w g l p (kRow op ari dst a b val wide v) v n xs w2 → KX w g l p 3 (w2.setCell ⟨p, 6, none⟩ (.bool r))) := Lib.hid (fun w2 r h => ⟨op, ari, dst, a, b, val, r, v, n, xs, hi, hn, hm, hx, h.set 6 _⟩)
              clear hi hn hm hx hks
              rcases h3 with rfl | rfl | rfl
              all_goals
                go_wp2_with fail
                refine HC.out.mono ?_
                rintro e w2 ⟨r, rfl, hr, hks2, _⟩
                obtain ⟨c0, c1, c2, c3, c4, c5, c6, c7⟩ := kRow_cells hks2.row
                have f3 := codes_frozen hks2.row 6
                have Hks2 := Lib.hid hks2
                clear hks2
                go_wp2_with fail
                go_meet
                case rel => exact HE.out _ _ Hks2.out
            · have e13 : ((op : Int) == 13) = false := by simp; omega
              have e14 : ((op : Int) == 14) = false := by simp; omega
              have e15 : ((op : Int) == 15) = false := by simp; omega
              have f3 := codes_frozen hks.row 6
              have HE : Hid (KX w g l p 3 (wc.setCell ⟨p, 6, none⟩ (.bool false))) := Lib.hid ⟨op, ari, dst, a, b, val, false, v, n, xs, hi, hn, hm, hx, hks.set 6 _⟩
              clear hi hn hm hx hks h3
              go_wp2_with fail
              go_meet
              case rel => exact HE.out
          case rest =>
            have H12 := Lib.hid hcut
            clear hcut H11 hi hn hm hx hks q0 q1 q2 q3 q4 q5 q6 q7 op ari dst a b val wide v n xs
            obtain ⟨op, ari, dst, a, b, val, wide, v, n, xs, hi, hn, hm, hx, hks⟩ := H12.out
            go_wp2_with fail
            refine (hks.next 10 10 rfl (by decide) (by decide) hlen Hl.out).mono ?_
            rintro e w13 ⟨r13, rfl, h13, hks13, _⟩
            have H13 : Hid (KX w g l p 3 w13) := Lib.hid ⟨op, ari, dst, a, b, val, wide, v, n, xs, hi, hn, hm, hx, hks13⟩
            clear H12 hi hn hm hx hks hks13 op ari dst a b val wide v n xs
            go_upto_block 2 with fail
            go_cut [] from 67 (fun wd => KX w g l p 3 wd)
            case first =>
              obtain ⟨op, ari, dst, a, b, val, wide, v, n, xs, hi, hn, hm, hx, hks⟩ := H13.out
              obtain ⟨i1, i2, i3, i4, i5, i6⟩ := id hi
              have HE5 : Hid (∀ w2 z, i64C z → KS w g l p (kRow op ari dst a b val wide v) v n xs w2 → KX w g l p 3 (w2.setCell ⟨p, 5, none⟩ (.int .i64 z))) := Lib.hid (fun w2 z hz h => ⟨op, ari, dst, a, b, z, wide, v, n, xs, ⟨i1, i2, i3, i4, i5, hz⟩, hn, hm, hx, h.set 5 _⟩)
              have HE7 : Hid (∀ w2 z y, i64C z → i64C y → KS w g l p (kRow op ari dst a b val wide v) v n xs w2 → KX w g l p 3 ((w2.setCell ⟨p, 2, none⟩ (.int .i64 z)).setCell ⟨p, 3, none⟩ (.int .i64 y))) := Lib.hid (fun w2 z y hz hy h => ⟨op, ari, z, y, b, val, wide, v, n, xs, ⟨i1, i2, hz, hy, i5, i6⟩, hn, hm, hx, (h.set 2 _).set 3 _⟩)
              have HE8 : Hid (∀ w2 z y, i64C z → KS w g l p (kRow op ari dst a b val wide v) v n xs w2 → KX w g l p 3 ((w2.setCell ⟨p, 0, none⟩ (.int .i64 z)).setCell ⟨p, 6, none⟩ (.bool y))) := Lib.hid (fun w2 z y hz h => ⟨z, ari, dst, a, b, val, y, v, n, xs, ⟨hz, i2, i3, i4, i5, i6⟩, hn, hm, hx, (h.set 0 _).set 6 _⟩)
              have HKS := Lib.hid hks
              clear hi hn hm hx hks i1 i2 i3 i4 i5 i6
              by_cases h6 : r13 = 6
              · subst h6
                go_wp2_with fail
                refine (HKS.out.int hlen Hl.out).mono ?_
                rintro e w2 ⟨z, rfl, hz, hk2⟩
                obtain ⟨c0, c1, c2, c3, c4, c5, c6, c7⟩ := kRow_cells hk2.row
                have f3 := codes_frozen hk2.row 5
                have HF := Lib.hid (HE5.out w2 z hz hk2)
                clear hz hk2
                go_wp2_with fail
                go_meet
                case rel => exact HF.out
              by_cases h7 : r13 = 7
              · subst h7
                go_wp2_with fail
                refine (HKS.out.int hlen Hl.out).mono ?_
                rintro e w2 ⟨z, rfl, hz, hk2⟩
                have HK2 := Lib.hid hk2
                have HZ := Lib.hid hz
                clear hz hk2
                go_wp2_with fail
                refine (HK2.out.int hlen Hl.out).mono ?_
                rintro e w3 ⟨y, rfl, hy, hk3⟩
                obtain ⟨c0, c1, c2, c3, c4, c5, c6, c7⟩ := kRow_cells hk3.row
                have f2 := codes_frozen hk3.row 2
                have f3 := codes_frozen hk3.row 3
                have HF := Lib.hid (HE7.out w3 z y HZ.out hy hk3)
                clear hy hk3
                go_wp2_with fail
                go_meet
                case rel => exact HF.out
              by_cases h8 : r13 = 8
              · subst h8
                go_wp2_with fail
                refine (HKS.out.next 24 24 rfl (by decide) (by decide) hlen Hl.out).mono ?_
                rintro e w2 ⟨r, rfl, hr, hk2, _⟩
                have HK2 := Lib.hid hk2
                clear hk2
                go_wp2_with fail
                refine (HK2.out.next 2 2 rfl (by decide) (by decide) hlen Hl.out).mono ?_
                rintro e w3 ⟨s, rfl, hs, hk3, _⟩
                obtain ⟨c0, c1, c2, c3, c4, c5, c6, c7⟩ := kRow_cells hk3.row
                have f2 := codes_frozen hk3.row 0
                have f3 := codes_frozen hk3.row 6
                have HF : Hid (∀ y, KX w g l p 3 ((w3.setCell ⟨p, 0, none⟩ (.int .i64 ((r : Int) - 1))).setCell ⟨p, 6, none⟩ (.bool y))) := Lib.hid (fun y => HE8.out w3 _ y ⟨by omega, by omega⟩ hk3)
                clear hk3
                go_wp2_with fail
                go_meet
                case rel => exact HF.out _
              by_cases h9 : r13 = 9
              · subst h9
                have HKA := Lib.hid (HKS.out.low ((Below.refl _ w13).alloc (Nat.le_refl _) (.cells row13 3)))
                have hlt := HKS.out.plt
                unfold row13 at HKA
                go_wp2_with fail
                refine (HKA.out.next 13 13 rfl (by decide) (by decide) hlen Hl.out).mono ?_
                rintro e w2 ⟨r, rfl, hr, hk2, hg2⟩
                obtain ⟨z, hz, hzi⟩ := row13_at r hr
                have hcell : w2.cell? ⟨w13.heap.size, r, none⟩ = some (.int .i64 z) := by
                  have hgw := HKS.out.hg
                  have hgw2 := HKS.out.gro.size
                  exact (cell_of_row _ _ _ _ _ _ ((hg2.block w13.heap.size (by simp) (fun e => by injection e with e; omega)).trans (heap_alloc_new w13 _))).trans hz
                obtain ⟨c0, c1, c2, c3, c4, c5, c6, c7⟩ := kRow_cells hk2.row
                have f3 := codes_frozen hk2.row 5
                have HF := Lib.hid (HE5.out w2 z hzi hk2)
                clear hz hzi hk2 hg2
                go_wp2_with fail
                go_meet
                case rel => exact HF.out
              · have e6 : ((r13 : Int) == 6) = false := by simp; omega
                have e7 : ((r13 : Int) == 7) = false := by simp; omega
                have e8 : ((r13 : Int) == 8) = false := by simp; omega
                have e9 : ((r13 : Int) == 9) = false := by simp; omega
                clear h6 h7 h8 h9 HKS HE5 HE7 HE8
                go_wp2_with fail
                go_meet
                case rel => exact H13.out
            case rest =>
              have H14 := Lib.hid hcut
              clear hcut H13
              obtain ⟨op, ari, dst, a, b, val, wide, v, n, xs, hi, hn, hm, hx, hks⟩ := H14.out
              obtain ⟨q0, q1, q2, q3, q4, q5, q6, q7⟩ := kRow_cells hks.row
              go_wp2_with (with_reducible refine pause_cd ?_)
              refine Pause.of (store_all _ rfl _ _ _ rfl w.heap.size (kRow op ari dst a b val wide v) rfl (by rfl) _ _ hks.res sizeC rfl ?_ ?_)
              · obtain ⟨A, c, rfl, _, _⟩ := own_form hks.own
                simp [kRow, Value.oneCell']
              intro w14 hrow14 hg14
              obtain ⟨j0, j1, j2, j3, j4, j5, j6, j7⟩ := kRow_cells hrow14
              have HE := Lib.hid (cd_end hks hi hn hm hx hg14)
              clear hg14 hrow14 hi hn hm hx hks q0 q1 q2 q3 q4 q5 q6 q7
              go_wp2_with fail
              refine bodyPost_ret ?_ rfl HE.out
              simp [results, Tryd.results8, go_sem, j0, j1, j2, j3, j4, j5, j6, j7]
end Go.Proofs.YtebmmdafmgphdaaDoor
