/-
  SyntaxPrecedence: the law's walk. Condition: the library's two errors lie where they were laid.
-/
import Derived.Test.YtnmgmfjoifglbaaDoorPsLaw2
import Derived.Deep.CutRange
import Derived.Deep.RegionLaw
namespace Go.Proofs.YtnmgmfjoifglbaaDoor
open Go.RowKit

theorem not_far {n m : Nat} (h : n ≤ m) (hm : m ≤ 9223372036854775807) : (9223372036854775807 < n) = False := by simp; omega
theorem s_drew {w : World} {a b : Addr} {u v : Value} (h : w.cell? a = some u ∧ w.cell? b = some v) : w.drew.cell? a = some u ∧ w.drew.cell? b = some v := h
theorem s_alloc {w : World} {a b : Addr} {u v : Value} (h : w.cell? a = some u ∧ w.cell? b = some v) (o : Obj) : (w.alloc o).cell? a = some u ∧ (w.alloc o).cell? b = some v := ⟨hold ((Below.refl _ w).alloc (Nat.le_refl _) o) h.1, hold ((Below.refl _ w).alloc (Nat.le_refl _) o) h.2⟩
theorem set6g (w' : World) (b : Nat) (v0 v1 v2 v3 v4 v5 : Value) : w'.grownBy ((((((w'.setCell ⟨b, 0, none⟩ v0).setCell ⟨b, 1, none⟩ v1).setCell ⟨b, 2, none⟩ v2).setCell ⟨b, 3, none⟩ v3).setCell ⟨b, 4, none⟩ v4).setCell ⟨b, 5, none⟩ v5) (some b) := (((((set_grown w' ⟨b, 0, none⟩ v0).trans (set_grown _ ⟨b, 1, none⟩ v1)).trans (set_grown _ ⟨b, 2, none⟩ v2)).trans (set_grown _ ⟨b, 3, none⟩ v3)).trans (set_grown _ ⟨b, 4, none⟩ v4)).trans (set_grown _ ⟨b, 5, none⟩ v5)
theorem s_set6 {w : World} {g i k b : Nat} {u v : Value} (hne : g ≠ b) (v0 v1 v2 v3 v4 v5 : Value) (h : w.cell? ⟨g, i, none⟩ = some u ∧ w.cell? ⟨g, k, none⟩ = some v) : ((((((w.setCell ⟨b, 0, none⟩ v0).setCell ⟨b, 1, none⟩ v1).setCell ⟨b, 2, none⟩ v2).setCell ⟨b, 3, none⟩ v3).setCell ⟨b, 4, none⟩ v4).setCell ⟨b, 5, none⟩ v5).cell? ⟨g, i, none⟩ = some u ∧ ((((((w.setCell ⟨b, 0, none⟩ v0).setCell ⟨b, 1, none⟩ v1).setCell ⟨b, 2, none⟩ v2).setCell ⟨b, 3, none⟩ v3).setCell ⟨b, 4, none⟩ v4).setCell ⟨b, 5, none⟩ v5).cell? ⟨g, k, none⟩ = some v := ⟨cell_grown (set6g w b v0 v1 v2 v3 v4 v5) hne h.1, cell_grown (set6g w b v0 v1 v2 v3 v4 v5) hne h.2⟩
theorem sg_size {i : Nat} (h : i < 11) : (nmB (sg i)).size ≤ 2 := by
  have hh : ∀ i < 11, (nmB (sg i)).size ≤ 2 := by decide
  exact hh i h
/-- The law's two tables, and what it reads in them. -/
structure PL (w0 : World) (b0 i k : Nat) (W : World) : Prop where
  s1 : W.cell? ⟨b0, i, none⟩ = some (.string (nmB (sg i)))
  s2 : W.cell? ⟨b0, k, none⟩ = some (.string (nmB (sg k)))
  v1 : W.cell? ⟨b0 + 1, i, none⟩ = some (.int .i64 ((lv i : Nat) : Int))
  v2 : W.cell? ⟨b0 + 1, k, none⟩ = some (.int .i64 ((lv k : Nat) : Int))
  er : Errs W
  lo : Below w0.heap.size w0 W
  hb : w0.heap.size ≤ b0 ∧ b0 + 1 < W.heap.size
theorem PL.below {w0 W W' : World} {b0 i k : Nat} (h : PL w0 b0 i k W) (hb : Below W.heap.size W W') : PL w0 b0 i k W' :=
  ⟨hold hb h.s1, hold hb h.s2, hold hb h.v1, hold hb h.v2, h.er.below hb, below_next h.lo hb, h.hb.1, Nat.lt_of_lt_of_le h.hb.2 hb.size⟩
theorem sg_at {i : Nat} (h : i < 11) : (#[.string { data := #[124, 124] }, .string { data := #[38, 38] }, .string { data := #[60] }, .string { data := #[60, 61] }, .string { data := #[61, 61] }, .string { data := #[33, 61] }, .string { data := #[43] }, .string { data := #[45] }, .string { data := #[42] }, .string { data := #[47] }, .string { data := #[37] }] : Array Value)[i]? = some (.string (nmB (sg i))) := by
  match i, h with
  | 0, _ => rfl
  | 1, _ => rfl
  | 2, _ => rfl
  | 3, _ => rfl
  | 4, _ => rfl
  | 5, _ => rfl
  | 6, _ => rfl
  | 7, _ => rfl
  | 8, _ => rfl
  | 9, _ => rfl
  | 10, _ => rfl
theorem lv_at {i : Nat} (h : i < 11) : (#[.int .i64 0, .int .i64 1, .int .i64 2, .int .i64 2, .int .i64 2, .int .i64 2, .int .i64 3, .int .i64 3, .int .i64 4, .int .i64 4, .int .i64 4] : Array Value)[i]? = some (.int .i64 ((lv i : Nat) : Int)) := by
  match i, h with
  | 0, _ => rfl
  | 1, _ => rfl
  | 2, _ => rfl
  | 3, _ => rfl
  | 4, _ => rfl
  | 5, _ => rfl
  | 6, _ => rfl
  | 7, _ => rfl
  | 8, _ => rfl
  | 9, _ => rfl
  | 10, _ => rfl
theorem pl_start {w0 w1 : World} {i k : Nat} (hi : i < 11) (hk : k < 11) (he : Errs w1) (hb : Below w0.heap.size w0 w1) : PL w0 w1.heap.size i k ((w1.alloc (.cells #[.string { data := #[124, 124] }, .string { data := #[38, 38] }, .string { data := #[60] }, .string { data := #[60, 61] }, .string { data := #[61, 61] }, .string { data := #[33, 61] }, .string { data := #[43] }, .string { data := #[45] }, .string { data := #[42] }, .string { data := #[47] }, .string { data := #[37] }] 9)).alloc (.cells #[.int .i64 0, .int .i64 1, .int .i64 2, .int .i64 2, .int .i64 2, .int .i64 2, .int .i64 3, .int .i64 3, .int .i64 4, .int .i64 4, .int .i64 4] 3)) := by
  have hb2 := ((Below.refl _ w1).alloc (Nat.le_refl _) (.cells #[.string { data := #[124, 124] }, .string { data := #[38, 38] }, .string { data := #[60] }, .string { data := #[60, 61] }, .string { data := #[61, 61] }, .string { data := #[33, 61] }, .string { data := #[43] }, .string { data := #[45] }, .string { data := #[42] }, .string { data := #[47] }, .string { data := #[37] }] 9)).alloc (by simp) (.cells #[.int .i64 0, .int .i64 1, .int .i64 2, .int .i64 2, .int .i64 2, .int .i64 2, .int .i64 3, .int .i64 3, .int .i64 4, .int .i64 4, .int .i64 4] 3)
  have r1 := alloc2_old w1 (.cells #[.string { data := #[124, 124] }, .string { data := #[38, 38] }, .string { data := #[60] }, .string { data := #[60, 61] }, .string { data := #[61, 61] }, .string { data := #[33, 61] }, .string { data := #[43] }, .string { data := #[45] }, .string { data := #[42] }, .string { data := #[47] }, .string { data := #[37] }] 9) (.cells #[.int .i64 0, .int .i64 1, .int .i64 2, .int .i64 2, .int .i64 2, .int .i64 2, .int .i64 3, .int .i64 3, .int .i64 4, .int .i64 4, .int .i64 4] 3)
  have r2 := alloc2_new w1 (.cells #[.string { data := #[124, 124] }, .string { data := #[38, 38] }, .string { data := #[60] }, .string { data := #[60, 61] }, .string { data := #[61, 61] }, .string { data := #[33, 61] }, .string { data := #[43] }, .string { data := #[45] }, .string { data := #[42] }, .string { data := #[47] }, .string { data := #[37] }] 9) (.cells #[.int .i64 0, .int .i64 1, .int .i64 2, .int .i64 2, .int .i64 2, .int .i64 2, .int .i64 3, .int .i64 3, .int .i64 4, .int .i64 4, .int .i64 4] 3)
  exact ⟨(cell_of_row _ _ i _ _ _ r1).trans (sg_at hi), (cell_of_row _ _ k _ _ _ r1).trans (sg_at hk), (cell_of_row _ _ i _ _ _ r2).trans (lv_at hi), (cell_of_row _ _ k _ _ _ r2).trans (lv_at hk), he.below hb2, below_next hb hb2, hb.size, by simp⟩
/-- A tree in a variable of the law's own, with the line and the error beside it. -/
def TV (lo hi : Nat) (e : Int) (x : Ex) (v9 v10 v11 : Value) (W : World) : Prop := ∃ b ln k o a l nm A n c, v9 = .pointer (some ⟨b, 0, none⟩) ∧ v10 = .int .i64 ln ∧ v11 = .int .i64 e ∧ lo ≤ b ∧ b < hi ∧ hi ≤ W.heap.size ∧ W.heap[b]? = some (.cells #[.int .i64 k, .int .i64 o, .int .i64 a, .int .i64 l, .string nm, .slice A n c] 27 (0, 0)) ∧
  Hid (e = 0 → ∃ d, ExV (fun q => lo ≤ q ∧ q < hi) W d x (.agg #[.int .i64 k, .int .i64 o, .int .i64 a, .int .i64 l, .string nm, .slice A n c]))
theorem TV.keep {lo hi : Nat} {e : Int} {x : Ex} {v9 v10 v11 : Value} {W W' : World} (h : TV lo hi e x v9 v10 v11 W) (hs : W.heap.size ≤ W'.heap.size) (hk : ∀ q, lo ≤ q → q < hi → W'.heap[q]? = W.heap[q]?) : TV lo hi e x v9 v10 v11 W' := by
  obtain ⟨b, ln, k, o, a, l, nm, A, n, c, h1, h2, h3, h4, h5, h6, h7, h8⟩ := h
  exact ⟨b, ln, k, o, a, l, nm, A, n, c, h1, h2, h3, h4, h5, Nat.le_trans h6 hs, (hk b h4 h5).trans h7, Lib.hid (fun he => by
    obtain ⟨d, hd⟩ := h8.out he
    exact ⟨d, hd.keep (fun _ h => h) (fun q hq => hk q hq.1 hq.2)⟩)⟩
theorem TV.below {lo hi : Nat} {e : Int} {x : Ex} {v9 v10 v11 : Value} {W W' : World} (h : TV lo hi e x v9 v10 v11 W) (hb : Below W.heap.size W W') : TV lo hi e x v9 v10 v11 W' := by
  have hhi : hi ≤ W.heap.size := by
    obtain ⟨b, ln, k, o, a, l, nm, A, n, c, h1, h2, h3, h4, h5, h6, _⟩ := h
    exact h6
  exact h.keep hb.size (fun q _ hq => hb.block q (by omega))
theorem zed_at {w3 W0 : World} {Z : Obj} {n : Nat} (hb : Below (W0.alloc Z).drew.heap.size (W0.alloc Z).drew w3) (hn : W0.heap.size = n) : w3.heap[n]? = some Z := by
  subst hn
  exact (hb.block _ (by simp [World.drew])).trans (heap_alloc_new W0 Z)
theorem tv_mk {lo s b : Nat} {e ln k o a l : Int} {nm : ByteArray} {A : Option Addr} {n c : Nat} {x : Ex} {w3 W : World} (hlo : lo ≤ s) (hx : e = 0 → ∃ d, ExV (fun q => s ≤ q ∧ q < w3.heap.size) w3 d x (.agg #[.int .i64 k, .int .i64 o, .int .i64 a, .int .i64 l, .string nm, .slice A n c])) (hs : w3.heap.size ≤ W.heap.size) (hk : ∀ q, s ≤ q → q < w3.heap.size → W.heap[q]? = w3.heap[q]?) (hb : lo ≤ b)
    (hrow : W.heap[b]? = some (.cells #[.int .i64 k, .int .i64 o, .int .i64 a, .int .i64 l, .string nm, .slice A n c] 27 (0, 0))) : TV lo W.heap.size e x (.pointer (some ⟨b, 0, none⟩)) (.int .i64 ln) (.int .i64 e) W :=
  ⟨b, ln, k, o, a, l, nm, A, n, c, rfl, rfl, rfl, hb, (Array.getElem?_eq_some_iff.1 hrow).1, Nat.le_refl _, hrow, Lib.hid (fun he => by
    obtain ⟨d, hd⟩ := hx he
    exact ⟨d, hd.keep (fun q hq => ⟨by omega, by omega⟩) (fun q hq => hk q hq.1 hq.2)⟩)⟩
theorem rel_new {w0 W0 w3 : World} {b0 i k lo : Nat} {e ln3 k3 o3 a3 l3 : Int} {nm3 : ByteArray} {A3 : Option Addr} {n3 c3 : Nat} {x : Ex} (h : PL w0 b0 i k W0) (hlo : lo ≤ W0.heap.size) (hb3 : Below W0.drew.heap.size W0.drew w3)
    (hx : Hid (e = 0 → ∃ d, ExV (fun q => W0.drew.heap.size ≤ q ∧ q < w3.heap.size) w3 d x (.agg #[.int .i64 k3, .int .i64 o3, .int .i64 a3, .int .i64 l3, .string nm3, .slice A3 n3 c3]))) :
    PL w0 b0 i k (w3.alloc (.cells #[.int .i64 k3, .int .i64 o3, .int .i64 a3, .int .i64 l3, .string nm3, .slice A3 n3 c3] 27)) ∧ Below W0.heap.size W0 (w3.alloc (.cells #[.int .i64 k3, .int .i64 o3, .int .i64 a3, .int .i64 l3, .string nm3, .slice A3 n3 c3] 27)) ∧ TV lo (w3.alloc (.cells #[.int .i64 k3, .int .i64 o3, .int .i64 a3, .int .i64 l3, .string nm3, .slice A3 n3 c3] 27)).heap.size e x (.pointer (some ⟨w3.heap.size, 0, none⟩)) (.int .i64 ln3) (.int .i64 e) (w3.alloc (.cells #[.int .i64 k3, .int .i64 o3, .int .i64 a3, .int .i64 l3, .string nm3, .slice A3 n3 c3] 27)) := by
  have h0 : Below W0.heap.size W0 w3 := ((Below.refl _ W0).drew).trans hb3
  have h1 := (Below.refl _ w3).alloc (Nat.le_refl _) (.cells #[.int .i64 k3, .int .i64 o3, .int .i64 a3, .int .i64 l3, .string nm3, .slice A3 n3 c3] 27)
  have hb := h0.alloc h0.size (.cells #[.int .i64 k3, .int .i64 o3, .int .i64 a3, .int .i64 l3, .string nm3, .slice A3 n3 c3] 27)
  have hs := h0.size
  exact ⟨h.below hb, hb, tv_mk (s := W0.heap.size) hlo hx.out h1.size (fun q _ hq => h1.block q hq) (by omega) (heap_alloc_new w3 _)⟩
theorem rel_old {w0 W0 w3 : World} {b0 i k lo n : Nat} {e ln3 k3 o3 a3 l3 : Int} {nm3 : ByteArray} {A3 : Option Addr} {n3 c3 : Nat} {x : Ex} {Z : Array Value} (h : PL w0 b0 i k W0) (hlo : lo ≤ W0.heap.size) (hn : W0.heap.size = n) (hb3 : Below (W0.alloc (.cells Z 27)).drew.heap.size (W0.alloc (.cells Z 27)).drew w3) (hZ : Z.size = 6)
    (hx : Hid (e = 0 → ∃ d, ExV (fun q => (W0.alloc (.cells Z 27)).drew.heap.size ≤ q ∧ q < w3.heap.size) w3 d x (.agg #[.int .i64 k3, .int .i64 o3, .int .i64 a3, .int .i64 l3, .string nm3, .slice A3 n3 c3]))) :
    PL w0 b0 i k ((((((w3.setCell ⟨n, 0, none⟩ (.int .i64 k3)).setCell ⟨n, 1, none⟩ (.int .i64 o3)).setCell ⟨n, 2, none⟩ (.int .i64 a3)).setCell ⟨n, 3, none⟩ (.int .i64 l3)).setCell ⟨n, 4, none⟩ (.string nm3)).setCell ⟨n, 5, none⟩ (.slice A3 n3 c3)) ∧ Below W0.heap.size W0 ((((((w3.setCell ⟨n, 0, none⟩ (.int .i64 k3)).setCell ⟨n, 1, none⟩ (.int .i64 o3)).setCell ⟨n, 2, none⟩ (.int .i64 a3)).setCell ⟨n, 3, none⟩ (.int .i64 l3)).setCell ⟨n, 4, none⟩ (.string nm3)).setCell ⟨n, 5, none⟩ (.slice A3 n3 c3)) ∧ TV lo ((((((w3.setCell ⟨n, 0, none⟩ (.int .i64 k3)).setCell ⟨n, 1, none⟩ (.int .i64 o3)).setCell ⟨n, 2, none⟩ (.int .i64 a3)).setCell ⟨n, 3, none⟩ (.int .i64 l3)).setCell ⟨n, 4, none⟩ (.string nm3)).setCell ⟨n, 5, none⟩ (.slice A3 n3 c3)).heap.size e x (.pointer (some ⟨n, 0, none⟩)) (.int .i64 ln3) (.int .i64 e) ((((((w3.setCell ⟨n, 0, none⟩ (.int .i64 k3)).setCell ⟨n, 1, none⟩ (.int .i64 o3)).setCell ⟨n, 2, none⟩ (.int .i64 a3)).setCell ⟨n, 3, none⟩ (.int .i64 l3)).setCell ⟨n, 4, none⟩ (.string nm3)).setCell ⟨n, 5, none⟩ (.slice A3 n3 c3)) := by
  have h0 : Below W0.heap.size W0 w3 := below_next (((Below.refl _ W0).alloc (Nat.le_refl _) _).drew) hb3
  have hz := zed_at hb3 hn
  have hg := set6g w3 n (.int .i64 k3) (.int .i64 o3) (.int .i64 a3) (.int .i64 l3) (.string nm3) (.slice A3 n3 c3)
  have hb : Below W0.heap.size W0 ((((((w3.setCell ⟨n, 0, none⟩ (.int .i64 k3)).setCell ⟨n, 1, none⟩ (.int .i64 o3)).setCell ⟨n, 2, none⟩ (.int .i64 a3)).setCell ⟨n, 3, none⟩ (.int .i64 l3)).setCell ⟨n, 4, none⟩ (.string nm3)).setCell ⟨n, 5, none⟩ (.slice A3 n3 c3)) := h0.trans (grown_any hg (fun k hk => by injection hk with hk; omega) h0.size)
  have hs : (W0.alloc (.cells Z 27)).drew.heap.size = n + 1 := by rw [← hn]; simp [World.drew]
  rw [hs] at hx
  have hrow : ((((((w3.setCell ⟨n, 0, none⟩ (.int .i64 k3)).setCell ⟨n, 1, none⟩ (.int .i64 o3)).setCell ⟨n, 2, none⟩ (.int .i64 a3)).setCell ⟨n, 3, none⟩ (.int .i64 l3)).setCell ⟨n, 4, none⟩ (.string nm3)).setCell ⟨n, 5, none⟩ (.slice A3 n3 c3)).heap[n]? = some (.cells #[.int .i64 k3, .int .i64 o3, .int .i64 a3, .int .i64 l3, .string nm3, .slice A3 n3 c3] 27 (0, 0)) := by
    match Z, hZ, hz with
    | ⟨[z0, z1, z2, z3, z4, z5]⟩, _, hz => exact (row_set6 _ _ _ _ _ _ hz).1
  exact ⟨h.below hb, hb, tv_mk (s := n + 1) (by omega) hx.out hg.size (fun q hq hq2 => hg.block q hq2 (fun e => by injection e with e; omega)) (by omega) hrow⟩
set_option maxRecDepth 100000 in
set_option maxHeartbeats 4000000 in
theorem prec_any (x0 x1 : Int) (i k : Nat) (e0 : Int) (x l r : Ex) (w : World) (he : Errs w) (h0 : 0 ≤ x0 ∧ x0 < 256) (h1 : 0 ≤ x1 ∧ x1 < 256) (hi : x0 % 11 = (i : Int)) (hk : x1 % 11 = (k : Int)) (hil : i < 11) (hkl : k < 11)
    (hP0 : ∀ (S : ByteArray) (W : World), S.data.toList = tx0 i k → Errs W → Calls Tryd.prog 5 #[.string S] W (PG e0 x W)) (hP1 : ∀ (S : ByteArray) (W : World), S.data.toList = tx1 i k → Errs W → Calls Tryd.prog 5 #[.string S] W (PG 0 l W)) (hP2 : ∀ (S : ByteArray) (W : World), S.data.toList = tx2 i k → Errs W → Calls Tryd.prog 5 #[.string S] W (PG 0 r W))
    (hsl : smB 4 [l] = true) (hsr : smB 4 [r] = true) (hlr : eqX false 4 [l] [r] = false) (hcs : (lv i = 2 ∧ lv k = 2 ∧ e0 = 7) ∨ (¬(lv i = 2 ∧ lv k = 2) ∧ e0 = 0 ∧ smB 4 [x] = true ∧ eqX false 4 [x] [if lv i < lv k then r else l] = true)) :
    Calls Tryd.prog 3 #[.int .u8 x0, .int .u8 x1] w (RetG true w) := by
  have HA := Lib.hid (awake_4 w he)
  have He := Lib.hid he
  have Hi := Lib.hid hil
  have Hk := Lib.hid hkl
  have h00 := h0.1
  have h01 := h0.2
  have h10 := h1.1
  have h11 := h1.2
  have hi9 : (i : Int) < 11 := by omega
  have hk9 : (k : Int) < 11 := by omega
  have HSl := Lib.hid hsl
  have HSr := Lib.hid hsr
  have HLR := Lib.hid hlr
  have HCS := Lib.hid hcs
  clear hsl hsr hlr hcs
  have HP0 := Lib.hid hP0
  have HP1 := Lib.hid hP1
  have HP2 := Lib.hid hP2
  have z1 : (nmB (sg i)).size ≤ 2 := sg_size hil
  have z2 : (nmB (sg k)).size ≤ 2 := sg_size hkl
  clear he h0 h1 hil hkl hP0 hP1 hP2
  go_enter Tryd.func3, Tryd.ntmps3
  go_wp2_with fail
  refine HA.out.mono ?_
  rintro e w1 ⟨rfl, hb⟩
  have hpl := pl_start (i := i) (k := k) Hi.out Hk.out (He.out.below hb) hb
  have HPL := Lib.hid hpl
  have hS0 := And.intro hpl.s1 hpl.s2
  clear hb HA hpl
  go_wp2_with fail
  rw [hi, hk]
  have hf1 := not_far (show 2 + (nmB (sg i)).size ≤ 20 by omega) (by decide)
  have hf2 := not_far (show 2 + (nmB (sg i)).size + 3 ≤ 20 by omega) (by decide)
  have hf3 := not_far (show 2 + (nmB (sg i)).size + 3 + (nmB (sg k)).size ≤ 20 by omega) (by decide)
  have hf4 := not_far (show 2 + (nmB (sg i)).size + 3 + (nmB (sg k)).size + 2 ≤ 20 by omega) (by decide)
  have hS1 : ∀ S : ByteArray, S = (⟨#[49, 32]⟩ ++ nmB (sg i) ++ ⟨#[32, 50, 32]⟩ ++ nmB (sg k) ++ ⟨#[32, 51]⟩ : ByteArray) → S.data.toList = tx0 i k := fun S hS => by
    subst hS
    simp [tx0, nmB]
  have HC0 := Lib.hid (fun (W : World) (hW : Errs W) => HP0.out _ W (hS1 _ rfl) hW)
  have He0 := Lib.hid (HPL.out.below (Below.refl _ _).drew).er
  have He1 := Lib.hid (HPL.out.below ((Below.refl _ _).alloc (Nat.le_refl _) (.cells #[.int .i64 0, .int .i64 0, .int .i64 0, .int .i64 0, .string { data := #[] }, .slice none 0 0] 27)).drew).er
  clear hS1
  go_upto_region 6 with fail
  go_cut [9, 10, 11] from 18 (fun u v y wd => PL w w1.heap.size i k wd ∧  TV (w1.heap.size + 2) wd.heap.size e0 x u v y wd)
  case first =>
    rename_i hJ hK
    go_region_held3 (fun w' => w'.cell? ⟨w1.heap.size, i, none⟩ = some (.string (nmB (sg i))) ∧ w'.cell? ⟨w1.heap.size, k, none⟩ = some (.string (nmB (sg k))))
      (first | ((repeat (first | (with_reducible exact hS0) | (with_reducible exact hS3) | (with_reducible refine s_drew ?_) | (with_reducible refine s_alloc ?_ _) | (with_reducible refine s_set6 (by omega) _ _ _ _ _ _ ?_))); done))
      (first | (go_at_call 5; (with_reducible refine (HC0.out _ He0.out).mono ?_); rintro e w3 ⟨ln3, k3, o3, a3, l3, nm3, A3, n3, c3, rfl, hx3, hb3⟩; have hS3 := And.intro (hold hb3 (s_drew hS0).1) (hold hb3 (s_drew hS0).2); have HB3 := Lib.hid hb3; have HX3 := Lib.hid hx3; clear hb3 hx3; dsimp only) |
        (go_at_call 5; (with_reducible refine (HC0.out _ He1.out).mono ?_); rintro e w3 ⟨ln3, k3, o3, a3, l3, nm3, A3, n3, c3, rfl, hx3, hb3⟩; have hS3 := And.intro (hold hb3 (s_drew (s_alloc hS0 _)).1) (hold hb3 (s_drew (s_alloc hS0 _)).2); have hz3 := zed_at hb3 (n := w1.heap.size + 1 + 1) (by simp); have y0 := cell_of_row _ _ 0 _ _ _ hz3; have y1 := cell_of_row _ _ 1 _ _ _ hz3; have y2 := cell_of_row _ _ 2 _ _ _ hz3; have y3 := cell_of_row _ _ 3 _ _ _ hz3; have y4 := cell_of_row _ _ 4 _ _ _ hz3; have y5 := cell_of_row _ _ 5 _ _ _ hz3; have f0 := codes_fz hz3 0; have f1 := codes_fz hz3 1; have f2 := codes_fz hz3 2; have f3 := codes_fz hz3 3; have f4 := codes_fz hz3 4; have f5 := codes_fz hz3 5; clear hz3; have HB3 := Lib.hid hb3; have HX3 := Lib.hid hx3; clear hb3 hx3; dsimp only))
    · have HR := Lib.hid (rel_new (ln3 := ln3) (lo := (w1.heap.size + 2)) HPL.out (by simp) HB3.out HX3.out)
      dsimp only [Exit.then]
      refine hK _ _ (Met.intro (hJ _ _ ?_))
      (repeat apply Exists.intro)
      refine ⟨?rel, rfl⟩
      case rel => exact ⟨HR.out.1, HR.out.2.2⟩
    · have HR := Lib.hid (rel_old (ln3 := ln3) (n := w1.heap.size + 1 + 1) (lo := (w1.heap.size + 2)) HPL.out (by simp) (by simp) HB3.out rfl HX3.out)
      dsimp only [Exit.then]
      refine hK _ _ (Met.intro (hJ _ _ ?_))
      (repeat apply Exists.intro)
      refine ⟨?rel, rfl⟩
      case rel => exact ⟨HR.out.1, HR.out.2.2⟩
  case rest =>
    obtain ⟨hpl, b9, ln9, k9, o9, a9, l9, nm9, A9, n9, c9, rfl, rfl, rfl, hb9, hb9', hs9, hr9, hx9⟩ := hcut
    obtain ⟨wa, hwa⟩ : ∃ u, u = wc := ⟨_, rfl⟩
    subst hwa
    have hza := hpl.hb.2
    have HPL := Lib.hid hpl
    have hS0 := And.intro hpl.s1 hpl.s2
    have HR9 := Lib.hid hr9
    clear hpl hr9 He0 He1 HC0 hf1 hf2 hf3 hf4 He
    have hf1 := not_far (show 3 + (nmB (sg i)).size ≤ 20 by omega) (by decide)
    have hf2 := not_far (show 3 + (nmB (sg i)).size + 4 ≤ 20 by omega) (by decide)
    have hf3 := not_far (show 3 + (nmB (sg i)).size + 4 + (nmB (sg k)).size ≤ 20 by omega) (by decide)
    have hf4 := not_far (show 3 + (nmB (sg i)).size + 4 + (nmB (sg k)).size + 2 ≤ 20 by omega) (by decide)
    have hS1 : ∀ S : ByteArray, S = (⟨#[40, 49, 32]⟩ ++ nmB (sg i) ++ ⟨#[32, 50, 41, 32]⟩ ++ nmB (sg k) ++ ⟨#[32, 51]⟩ : ByteArray) → S.data.toList = tx1 i k := fun S hS => by
      subst hS
      simp [tx1, nmB]
    have HC0 := Lib.hid (fun (W : World) (hW : Errs W) => HP1.out _ W (hS1 _ rfl) hW)
    have He0 := Lib.hid (HPL.out.below (Below.refl _ _).drew).er
    have He1 := Lib.hid (HPL.out.below ((Below.refl _ _).alloc (Nat.le_refl _) (.cells #[.int .i64 0, .int .i64 0, .int .i64 0, .int .i64 0, .string { data := #[] }, .slice none 0 0] 27)).drew).er
    clear hS1
    go_upto_region 7 with fail
    go_cut [12, 13, 14] from 18 (fun u v y wd => PL w w1.heap.size i k wd ∧ Below wa.heap.size wa wd ∧ TV wa.heap.size wd.heap.size 0 l u v y wd)
    case first =>
      rename_i hJ hK
      go_region_held3 (fun w' => w'.cell? ⟨w1.heap.size, i, none⟩ = some (.string (nmB (sg i))) ∧ w'.cell? ⟨w1.heap.size, k, none⟩ = some (.string (nmB (sg k))))
        (first | ((repeat (first | (with_reducible exact hS0) | (with_reducible exact hS3) | (with_reducible refine s_drew ?_) | (with_reducible refine s_alloc ?_ _) | (with_reducible refine s_set6 (by omega) _ _ _ _ _ _ ?_))); done))
        (first | (go_at_call 5; (with_reducible refine (HC0.out _ He0.out).mono ?_); rintro e w3 ⟨ln3, k3, o3, a3, l3, nm3, A3, n3, c3, rfl, hx3, hb3⟩; have hS3 := And.intro (hold hb3 (s_drew hS0).1) (hold hb3 (s_drew hS0).2); have HB3 := Lib.hid hb3; have HX3 := Lib.hid hx3; clear hb3 hx3; dsimp only) |
          (go_at_call 5; (with_reducible refine (HC0.out _ He1.out).mono ?_); rintro e w3 ⟨ln3, k3, o3, a3, l3, nm3, A3, n3, c3, rfl, hx3, hb3⟩; have hS3 := And.intro (hold hb3 (s_drew (s_alloc hS0 _)).1) (hold hb3 (s_drew (s_alloc hS0 _)).2); have hz3 := zed_at hb3 (n := wa.heap.size) (by rfl); have y0 := cell_of_row _ _ 0 _ _ _ hz3; have y1 := cell_of_row _ _ 1 _ _ _ hz3; have y2 := cell_of_row _ _ 2 _ _ _ hz3; have y3 := cell_of_row _ _ 3 _ _ _ hz3; have y4 := cell_of_row _ _ 4 _ _ _ hz3; have y5 := cell_of_row _ _ 5 _ _ _ hz3; have f0 := codes_fz hz3 0; have f1 := codes_fz hz3 1; have f2 := codes_fz hz3 2; have f3 := codes_fz hz3 3; have f4 := codes_fz hz3 4; have f5 := codes_fz hz3 5; clear hz3; have HB3 := Lib.hid hb3; have HX3 := Lib.hid hx3; clear hb3 hx3; dsimp only))
      · have HR := Lib.hid (rel_new (ln3 := ln3) (lo := wa.heap.size) HPL.out (Nat.le_refl _) HB3.out HX3.out)
        dsimp only [Exit.then]
        refine hK _ _ (Met.intro (hJ _ _ ?_))
        (repeat apply Exists.intro)
        refine ⟨?rel, rfl⟩
        case rel => exact HR.out
      · have HR := Lib.hid (rel_old (ln3 := ln3) (n := wa.heap.size) (lo := wa.heap.size) HPL.out (Nat.le_refl _) (by rfl) HB3.out rfl HX3.out)
        dsimp only [Exit.then]
        refine hK _ _ (Met.intro (hJ _ _ ?_))
        (repeat apply Exists.intro)
        refine ⟨?rel, rfl⟩
        case rel => exact HR.out
    case rest =>
      obtain ⟨hpl, hba, b12, ln12, k12, o12, a12, l12, nm12, A12, n12, c12, rfl, rfl, rfl, hb12, hb12', hs12, hr12, hx12⟩ := hcut
      obtain ⟨wb, hwb⟩ : ∃ u, u = wc := ⟨_, rfl⟩
      subst hwb
      have hzb := hpl.hb.2
      have HPL := Lib.hid hpl
      have hS0 := And.intro hpl.s1 hpl.s2
      have HR12 := Lib.hid hr12
      have HBA := Lib.hid hba
      clear hpl hr12 hba He0 He1 HC0 hf1 hf2 hf3 hf4
      have hf1 := not_far (show 2 + (nmB (sg i)).size ≤ 20 by omega) (by decide)
      have hf2 := not_far (show 2 + (nmB (sg i)).size + 4 ≤ 20 by omega) (by decide)
      have hf3 := not_far (show 2 + (nmB (sg i)).size + 4 + (nmB (sg k)).size ≤ 20 by omega) (by decide)
      have hf4 := not_far (show 2 + (nmB (sg i)).size + 4 + (nmB (sg k)).size + 3 ≤ 20 by omega) (by decide)
      have hS1 : ∀ S : ByteArray, S = (⟨#[49, 32]⟩ ++ nmB (sg i) ++ ⟨#[32, 40, 50, 32]⟩ ++ nmB (sg k) ++ ⟨#[32, 51, 41]⟩ : ByteArray) → S.data.toList = tx2 i k := fun S hS => by
        subst hS
        simp [tx2, nmB]
      have HC0 := Lib.hid (fun (W : World) (hW : Errs W) => HP2.out _ W (hS1 _ rfl) hW)
      have He0 := Lib.hid (HPL.out.below (Below.refl _ _).drew).er
      have He1 := Lib.hid (HPL.out.below ((Below.refl _ _).alloc (Nat.le_refl _) (.cells #[.int .i64 0, .int .i64 0, .int .i64 0, .int .i64 0, .string { data := #[] }, .slice none 0 0] 27)).drew).er
      clear hS1
      go_upto_region 8 with fail
      go_cut [15, 16, 17] from 18 (fun u v y wd => PL w w1.heap.size i k wd ∧ Below wb.heap.size wb wd ∧ TV wb.heap.size wd.heap.size 0 r u v y wd)
      case first =>
        rename_i hJ hK
        go_region_held3 (fun w' => w'.cell? ⟨w1.heap.size, i, none⟩ = some (.string (nmB (sg i))) ∧ w'.cell? ⟨w1.heap.size, k, none⟩ = some (.string (nmB (sg k))))
          (first | ((repeat (first | (with_reducible exact hS0) | (with_reducible exact hS3) | (with_reducible refine s_drew ?_) | (with_reducible refine s_alloc ?_ _) | (with_reducible refine s_set6 (by omega) _ _ _ _ _ _ ?_))); done))
          (first | (go_at_call 5; (with_reducible refine (HC0.out _ He0.out).mono ?_); rintro e w3 ⟨ln3, k3, o3, a3, l3, nm3, A3, n3, c3, rfl, hx3, hb3⟩; have hS3 := And.intro (hold hb3 (s_drew hS0).1) (hold hb3 (s_drew hS0).2); have HB3 := Lib.hid hb3; have HX3 := Lib.hid hx3; clear hb3 hx3; dsimp only) |
            (go_at_call 5; (with_reducible refine (HC0.out _ He1.out).mono ?_); rintro e w3 ⟨ln3, k3, o3, a3, l3, nm3, A3, n3, c3, rfl, hx3, hb3⟩; have hS3 := And.intro (hold hb3 (s_drew (s_alloc hS0 _)).1) (hold hb3 (s_drew (s_alloc hS0 _)).2); have hz3 := zed_at hb3 (n := wb.heap.size) (by rfl); have y0 := cell_of_row _ _ 0 _ _ _ hz3; have y1 := cell_of_row _ _ 1 _ _ _ hz3; have y2 := cell_of_row _ _ 2 _ _ _ hz3; have y3 := cell_of_row _ _ 3 _ _ _ hz3; have y4 := cell_of_row _ _ 4 _ _ _ hz3; have y5 := cell_of_row _ _ 5 _ _ _ hz3; have f0 := codes_fz hz3 0; have f1 := codes_fz hz3 1; have f2 := codes_fz hz3 2; have f3 := codes_fz hz3 3; have f4 := codes_fz hz3 4; have f5 := codes_fz hz3 5; clear hz3; have HB3 := Lib.hid hb3; have HX3 := Lib.hid hx3; clear hb3 hx3; dsimp only))
        · have HR := Lib.hid (rel_new (ln3 := ln3) (lo := wb.heap.size) HPL.out (Nat.le_refl _) HB3.out HX3.out)
          dsimp only [Exit.then]
          refine hK _ _ (Met.intro (hJ _ _ ?_))
          (repeat apply Exists.intro)
          refine ⟨?rel, rfl⟩
          case rel => exact HR.out
        · have HR := Lib.hid (rel_old (ln3 := ln3) (n := wb.heap.size) (lo := wb.heap.size) HPL.out (Nat.le_refl _) (by rfl) HB3.out rfl HX3.out)
          dsimp only [Exit.then]
          refine hK _ _ (Met.intro (hJ _ _ ?_))
          (repeat apply Exists.intro)
          refine ⟨?rel, rfl⟩
          case rel => exact HR.out
      case rest =>
        obtain ⟨hpl, hbb, b15, ln15, k15, o15, a15, l15, nm15, A15, n15, c15, rfl, rfl, rfl, hb15, hb15', hs15, hr15, hx15⟩ := hcut
        obtain ⟨wd, hwd⟩ : ∃ u, u = wc := ⟨_, rfl⟩
        subst hwd
        have hza2 := HBA.out.size
        have hzb2 := hbb.size
        have hab : Below wa.heap.size wa wd := below_next HBA.out hbb
        have hr9d := (hab.block b9 (by omega)).trans HR9.out
        have hr12d := (hbb.block b12 (by omega)).trans HR12.out
        obtain ⟨d12, hv12⟩ := hx12.out rfl
        obtain ⟨d15, hv15⟩ := hx15.out rfl
        have hv12d := hv12.keep (G := fun q => wa.heap.size ≤ q ∧ q < wb.heap.size) (w' := wd) (fun _ h => h) (fun q hq => hbb.block q hq.2)
        have HX9 : Hid (e0 = 0 → ∃ d, ExV (fun q => w1.heap.size + 2 ≤ q ∧ q < wa.heap.size) wd d x (.agg #[.int .i64 k9, .int .i64 o9, .int .i64 a9, .int .i64 l9, .string nm9, .slice A9 n9 c9])) := Lib.hid (fun h => by
          obtain ⟨d, hd⟩ := hx9.out h
          exact ⟨d, hd.keep (fun _ h => h) (fun q hq => hab.block q hq.2)⟩)
        have HSE := Lib.hid (sameExpr_any wd d12 d15 l r k12 o12 a12 l12 k15 o15 a15 l15 nm12 nm15 A12 A15 n12 c12 n15 c15 false hv12d hv15 (fun q hq => by omega) (fun q hq => hq.2) HSl.out HSr.out HLR.out)
        have HV12 := Lib.hid hv12d
        have HV15 := Lib.hid hv15
        have HPL := Lib.hid hpl
        have HR9d := Lib.hid hr9d
        have HR12d := Lib.hid hr12d
        have HR15d := Lib.hid hr15
        have p0 := cell_of_row _ _ 0 _ _ _ hr12d
        have p1 := cell_of_row _ _ 1 _ _ _ hr12d
        have p2 := cell_of_row _ _ 2 _ _ _ hr12d
        have p3 := cell_of_row _ _ 3 _ _ _ hr12d
        have p4 := cell_of_row _ _ 4 _ _ _ hr12d
        have p5 := cell_of_row _ _ 5 _ _ _ hr12d
        have q0 := cell_of_row _ _ 0 _ _ _ hr15
        have q1 := cell_of_row _ _ 1 _ _ _ hr15
        have q2 := cell_of_row _ _ 2 _ _ _ hr15
        have q3 := cell_of_row _ _ 3 _ _ _ hr15
        have q4 := cell_of_row _ _ 4 _ _ _ hr15
        have q5 := cell_of_row _ _ 5 _ _ _ hr15
        clear hpl hbb hr15 hr9d hr12d hab hv12 hv12d hv15 hx9 hx12 hx15 He0 He1 HC0 hf1 hf2 hf3 hf4 hS0 HR9 HR12 HBA HP0 HP1 HP2
        go_wp2_with fail
        refine HSE.out.mono ?_
        rintro e w5 ⟨rfl, hb5⟩
        have hv1 := hold hb5 HPL.out.v1
        have hv2 := hold hb5 HPL.out.v2
        have HB5 := Lib.hid hb5
        clear HSE hb5 p0 p1 p2 p3 p4 p5 q0 q1 q2 q3 q4 q5
        rcases HCS.out with ⟨hli, hlk, rfl⟩ | ⟨hnl, rfl, hsx, heq⟩
        · rw [hli] at hv1
          rw [hlk] at hv2
          clear hli hlk
          go_wp2_with fail
          go_ret
          exact ⟨rfl, below_next HPL.out.lo HB5.out⟩
        · by_cases hli : lv i = 2
          · have hne2 : ((lv k : Int) == 2) = false := by rw [show (2 : Int) = ((2 : Nat) : Int) from rfl, kindB]; simp; omega
            have hgi : ((lv i : Int) == 2) = true := by rw [show (2 : Int) = ((2 : Nat) : Int) from rfl, kindB]; simp; omega
            clear hnl hli
            go_wp2_with fail
            go_quiet (fail)
            by_cases hlt : lv i < lv k
            · have hlt2 : (lv i : Int) < (lv k : Int) := by omega
              rw [if_pos hlt] at heq
              have HEQ := Lib.hid heq
              have HSx := Lib.hid hsx
              have hr12q : (w5.drewN nq).heap[b12]? = some (.cells #[.int .i64 k12, .int .i64 o12, .int .i64 a12, .int .i64 l12, .string nm12, .slice A12 n12 c12] 27 (0, 0)) := (HB5.out.block b12 (by omega)).trans HR12d.out
              have hr15q : (w5.drewN nq).heap[b15]? = some (.cells #[.int .i64 k15, .int .i64 o15, .int .i64 a15, .int .i64 l15, .string nm15, .slice A15 n15 c15] 27 (0, 0)) := (HB5.out.block b15 (by omega)).trans HR15d.out
              have hr9q : (w5.drewN nq).heap[b9]? = some (.cells #[.int .i64 k9, .int .i64 o9, .int .i64 a9, .int .i64 l9, .string nm9, .slice A9 n9 c9] 27 (0, 0)) := (HB5.out.block b9 (by omega)).trans HR9d.out
              have q0 : w5.cell? ⟨b15, 0, none⟩ = some (.int .i64 k15) := cell_of_row _ _ 0 _ _ _ hr15q
              have q1 : w5.cell? ⟨b15, 1, none⟩ = some (.int .i64 o15) := cell_of_row _ _ 1 _ _ _ hr15q
              have q2 : w5.cell? ⟨b15, 2, none⟩ = some (.int .i64 a15) := cell_of_row _ _ 2 _ _ _ hr15q
              have q3 : w5.cell? ⟨b15, 3, none⟩ = some (.int .i64 l15) := cell_of_row _ _ 3 _ _ _ hr15q
              have q4 : w5.cell? ⟨b15, 4, none⟩ = some (.string nm15) := cell_of_row _ _ 4 _ _ _ hr15q
              have q5 : w5.cell? ⟨b15, 5, none⟩ = some (.slice A15 n15 c15) := cell_of_row _ _ 5 _ _ _ hr15q
              have HR12q := Lib.hid hr12q
              have HR9q := Lib.hid hr9q
              clear hr12q hr15q hr9q heq hsx hlt hv1 hv2
              go_wp2_with (with_reducible refine pause_ex ?_)
              refine Pause.of (wpList_store_new _ rfl _ _ _ rfl _ _ rfl (by rfl) _ _ HR12q.out (by kernel_rfl) (by rfl) (by simp [Value.oneCell']) ?_)
              intro w6 hrow6 hg6
              have hsz5 := HB5.out.size
              have hr9e := (hg6.block b9 (by simp [World.drewN]; omega) (fun e => by injection e with e; omega)).trans HR9q.out
              obtain ⟨d9, hv9⟩ := HX9.out (by first | trivial | rfl)
              have hw01 := HPL.out.hb.1
              have hv9e := hv9.keep (G := fun q => w1.heap.size + 2 ≤ q ∧ q < wa.heap.size) (w' := w6) (fun _ h => h) (fun q hq => (hg6.block q (by simp [World.drewN]; omega) (fun e => by injection e with e; omega)).trans (HB5.out.block q (by omega)))
              have hv15e := HV15.out.keep (G := fun q => wb.heap.size ≤ q ∧ q < wd.heap.size) (w' := w6) (fun _ h => h) (fun q hq => (hg6.block q (by simp [World.drewN]; omega) (fun e => by injection e with e; omega)).trans (HB5.out.block q (by omega)))
              have hs6 := hg6.size
              have HSE2 := Lib.hid (sameExpr_any w6 d9 d15 x r k9 o9 a9 l9 k15 o15 a15 l15 nm9 nm15 A9 A15 n9 c9 n15 c15 true hv9e hv15e (fun q hq => by simp [World.drewN] at hs6; omega) (fun q hq => by simp [World.drewN] at hs6; omega) HSx.out HSr.out HEQ.out)
              have HB6 := Lib.hid (((below_next HPL.out.lo HB5.out).trans (⟨rfl, rfl, rfl, Nat.le_refl _, fun _ _ => rfl⟩ : Below w.heap.size w5 (w5.drewN nq))).trans (grown_any hg6 (fun k hk => by injection hk with hk; omega) (by show w.heap.size ≤ w5.heap.size; omega)))
              have e0 := cell_of_row _ _ 0 _ _ _ hr9e
              have e1 := cell_of_row _ _ 1 _ _ _ hr9e
              have e2 := cell_of_row _ _ 2 _ _ _ hr9e
              have e3 := cell_of_row _ _ 3 _ _ _ hr9e
              have e4 := cell_of_row _ _ 4 _ _ _ hr9e
              have e5 := cell_of_row _ _ 5 _ _ _ hr9e
              have m0 := cell_of_row _ _ 0 _ _ _ hrow6
              have m1 := cell_of_row _ _ 1 _ _ _ hrow6
              have m2 := cell_of_row _ _ 2 _ _ _ hrow6
              have m3 := cell_of_row _ _ 3 _ _ _ hrow6
              have m4 := cell_of_row _ _ 4 _ _ _ hrow6
              have m5 := cell_of_row _ _ 5 _ _ _ hrow6
              clear hrow6 hg6 hr9e hv9 hv9e hv15e q0 q1 q2 q3 q4 q5 hs6 hlt2
              go_wp2_with fail
              refine HSE2.out.mono ?_
              rintro e w7 ⟨rfl, hb7⟩
              have HB7 := Lib.hid (below_next HB6.out hb7)
              clear HSE2 hb7
              go_wp2_with fail
              go_ret
              exact ⟨rfl, HB7.out⟩
            · have hlt2 : (lv k : Int) ≤ (lv i : Int) := by omega
              rw [if_neg hlt] at heq
              have hr12q : (w5.drewN nq).heap[b12]? = some (.cells #[.int .i64 k12, .int .i64 o12, .int .i64 a12, .int .i64 l12, .string nm12, .slice A12 n12 c12] 27 (0, 0)) := (HB5.out.block b12 (by omega)).trans HR12d.out
              have hr9q : (w5.drewN nq).heap[b9]? = some (.cells #[.int .i64 k9, .int .i64 o9, .int .i64 a9, .int .i64 l9, .string nm9, .slice A9 n9 c9] 27 (0, 0)) := (HB5.out.block b9 (by omega)).trans HR9d.out
              obtain ⟨d9, hv9⟩ := HX9.out (by first | trivial | rfl)
              have hw01 := HPL.out.hb.1
              have hv9e := hv9.keep (G := fun q => w1.heap.size + 2 ≤ q ∧ q < wa.heap.size) (w' := w5.drewN nq) (fun _ h => h) (fun q hq => HB5.out.block q (by omega))
              have hv12e := HV12.out.keep (G := fun q => wa.heap.size ≤ q ∧ q < wb.heap.size) (w' := w5.drewN nq) (fun _ h => h) (fun q hq => HB5.out.block q (by omega))
              have hs6 := HB5.out.size
              have HSE2 := Lib.hid (sameExpr_any (w5.drewN nq) d9 d12 x l k9 o9 a9 l9 k12 o12 a12 l12 nm9 nm12 A9 A12 n9 c9 n12 c12 true hv9e hv12e (fun q hq => by show q < w5.heap.size; omega) (fun q hq => by show q < w5.heap.size; omega) hsx HSl.out heq)
              have HB6 := Lib.hid (below_next HPL.out.lo HB5.out)
              have e0 : w5.cell? ⟨b9, 0, none⟩ = some (.int .i64 k9) := cell_of_row _ _ 0 _ _ _ hr9q
              have e1 : w5.cell? ⟨b9, 1, none⟩ = some (.int .i64 o9) := cell_of_row _ _ 1 _ _ _ hr9q
              have e2 : w5.cell? ⟨b9, 2, none⟩ = some (.int .i64 a9) := cell_of_row _ _ 2 _ _ _ hr9q
              have e3 : w5.cell? ⟨b9, 3, none⟩ = some (.int .i64 l9) := cell_of_row _ _ 3 _ _ _ hr9q
              have e4 : w5.cell? ⟨b9, 4, none⟩ = some (.string nm9) := cell_of_row _ _ 4 _ _ _ hr9q
              have e5 : w5.cell? ⟨b9, 5, none⟩ = some (.slice A9 n9 c9) := cell_of_row _ _ 5 _ _ _ hr9q
              have m0 : w5.cell? ⟨b12, 0, none⟩ = some (.int .i64 k12) := cell_of_row _ _ 0 _ _ _ hr12q
              have m1 : w5.cell? ⟨b12, 1, none⟩ = some (.int .i64 o12) := cell_of_row _ _ 1 _ _ _ hr12q
              have m2 : w5.cell? ⟨b12, 2, none⟩ = some (.int .i64 a12) := cell_of_row _ _ 2 _ _ _ hr12q
              have m3 : w5.cell? ⟨b12, 3, none⟩ = some (.int .i64 l12) := cell_of_row _ _ 3 _ _ _ hr12q
              have m4 : w5.cell? ⟨b12, 4, none⟩ = some (.string nm12) := cell_of_row _ _ 4 _ _ _ hr12q
              have m5 : w5.cell? ⟨b12, 5, none⟩ = some (.slice A12 n12 c12) := cell_of_row _ _ 5 _ _ _ hr12q
              clear hr12q hr9q hv9 hv9e hv12e hs6 heq hsx hlt hv1 hv2
              go_wp2_with fail
              refine HSE2.out.mono ?_
              rintro e w7 ⟨rfl, hb7⟩
              have HB7 := Lib.hid (below_next (HB6.out.trans (⟨rfl, rfl, rfl, Nat.le_refl _, fun _ _ => rfl⟩ : Below w.heap.size w5 (w5.drewN nq))) hb7)
              clear HSE2 hb7
              go_wp2_with fail
              go_ret
              exact ⟨rfl, HB7.out⟩
          · have hne2 : ((lv i : Int) == 2) = false := by rw [show (2 : Int) = ((2 : Nat) : Int) from rfl, kindB]; simp; omega
            clear hnl hli
            go_wp2_with fail
            go_quiet (fail)
            by_cases hlt : lv i < lv k
            · have hlt2 : (lv i : Int) < (lv k : Int) := by omega
              rw [if_pos hlt] at heq
              have HEQ := Lib.hid heq
              have HSx := Lib.hid hsx
              have hr12q : (w5.drewN nq).heap[b12]? = some (.cells #[.int .i64 k12, .int .i64 o12, .int .i64 a12, .int .i64 l12, .string nm12, .slice A12 n12 c12] 27 (0, 0)) := (HB5.out.block b12 (by omega)).trans HR12d.out
              have hr15q : (w5.drewN nq).heap[b15]? = some (.cells #[.int .i64 k15, .int .i64 o15, .int .i64 a15, .int .i64 l15, .string nm15, .slice A15 n15 c15] 27 (0, 0)) := (HB5.out.block b15 (by omega)).trans HR15d.out
              have hr9q : (w5.drewN nq).heap[b9]? = some (.cells #[.int .i64 k9, .int .i64 o9, .int .i64 a9, .int .i64 l9, .string nm9, .slice A9 n9 c9] 27 (0, 0)) := (HB5.out.block b9 (by omega)).trans HR9d.out
              have q0 : w5.cell? ⟨b15, 0, none⟩ = some (.int .i64 k15) := cell_of_row _ _ 0 _ _ _ hr15q
              have q1 : w5.cell? ⟨b15, 1, none⟩ = some (.int .i64 o15) := cell_of_row _ _ 1 _ _ _ hr15q
              have q2 : w5.cell? ⟨b15, 2, none⟩ = some (.int .i64 a15) := cell_of_row _ _ 2 _ _ _ hr15q
              have q3 : w5.cell? ⟨b15, 3, none⟩ = some (.int .i64 l15) := cell_of_row _ _ 3 _ _ _ hr15q
              have q4 : w5.cell? ⟨b15, 4, none⟩ = some (.string nm15) := cell_of_row _ _ 4 _ _ _ hr15q
              have q5 : w5.cell? ⟨b15, 5, none⟩ = some (.slice A15 n15 c15) := cell_of_row _ _ 5 _ _ _ hr15q
              have HR12q := Lib.hid hr12q
              have HR9q := Lib.hid hr9q
              clear hr12q hr15q hr9q heq hsx hlt hv1 hv2
              go_wp2_with (with_reducible refine pause_ex ?_)
              refine Pause.of (wpList_store_new _ rfl _ _ _ rfl _ _ rfl (by rfl) _ _ HR12q.out (by kernel_rfl) (by rfl) (by simp [Value.oneCell']) ?_)
              intro w6 hrow6 hg6
              have hsz5 := HB5.out.size
              have hr9e := (hg6.block b9 (by simp [World.drewN]; omega) (fun e => by injection e with e; omega)).trans HR9q.out
              obtain ⟨d9, hv9⟩ := HX9.out (by first | trivial | rfl)
              have hw01 := HPL.out.hb.1
              have hv9e := hv9.keep (G := fun q => w1.heap.size + 2 ≤ q ∧ q < wa.heap.size) (w' := w6) (fun _ h => h) (fun q hq => (hg6.block q (by simp [World.drewN]; omega) (fun e => by injection e with e; omega)).trans (HB5.out.block q (by omega)))
              have hv15e := HV15.out.keep (G := fun q => wb.heap.size ≤ q ∧ q < wd.heap.size) (w' := w6) (fun _ h => h) (fun q hq => (hg6.block q (by simp [World.drewN]; omega) (fun e => by injection e with e; omega)).trans (HB5.out.block q (by omega)))
              have hs6 := hg6.size
              have HSE2 := Lib.hid (sameExpr_any w6 d9 d15 x r k9 o9 a9 l9 k15 o15 a15 l15 nm9 nm15 A9 A15 n9 c9 n15 c15 true hv9e hv15e (fun q hq => by simp [World.drewN] at hs6; omega) (fun q hq => by simp [World.drewN] at hs6; omega) HSx.out HSr.out HEQ.out)
              have HB6 := Lib.hid (((below_next HPL.out.lo HB5.out).trans (⟨rfl, rfl, rfl, Nat.le_refl _, fun _ _ => rfl⟩ : Below w.heap.size w5 (w5.drewN nq))).trans (grown_any hg6 (fun k hk => by injection hk with hk; omega) (by show w.heap.size ≤ w5.heap.size; omega)))
              have e0 := cell_of_row _ _ 0 _ _ _ hr9e
              have e1 := cell_of_row _ _ 1 _ _ _ hr9e
              have e2 := cell_of_row _ _ 2 _ _ _ hr9e
              have e3 := cell_of_row _ _ 3 _ _ _ hr9e
              have e4 := cell_of_row _ _ 4 _ _ _ hr9e
              have e5 := cell_of_row _ _ 5 _ _ _ hr9e
              have m0 := cell_of_row _ _ 0 _ _ _ hrow6
              have m1 := cell_of_row _ _ 1 _ _ _ hrow6
              have m2 := cell_of_row _ _ 2 _ _ _ hrow6
              have m3 := cell_of_row _ _ 3 _ _ _ hrow6
              have m4 := cell_of_row _ _ 4 _ _ _ hrow6
              have m5 := cell_of_row _ _ 5 _ _ _ hrow6
              clear hrow6 hg6 hr9e hv9 hv9e hv15e q0 q1 q2 q3 q4 q5 hs6 hlt2
              go_wp2_with fail
              refine HSE2.out.mono ?_
              rintro e w7 ⟨rfl, hb7⟩
              have HB7 := Lib.hid (below_next HB6.out hb7)
              clear HSE2 hb7
              go_wp2_with fail
              go_ret
              exact ⟨rfl, HB7.out⟩
            · have hlt2 : (lv k : Int) ≤ (lv i : Int) := by omega
              rw [if_neg hlt] at heq
              have hr12q : (w5.drewN nq).heap[b12]? = some (.cells #[.int .i64 k12, .int .i64 o12, .int .i64 a12, .int .i64 l12, .string nm12, .slice A12 n12 c12] 27 (0, 0)) := (HB5.out.block b12 (by omega)).trans HR12d.out
              have hr9q : (w5.drewN nq).heap[b9]? = some (.cells #[.int .i64 k9, .int .i64 o9, .int .i64 a9, .int .i64 l9, .string nm9, .slice A9 n9 c9] 27 (0, 0)) := (HB5.out.block b9 (by omega)).trans HR9d.out
              obtain ⟨d9, hv9⟩ := HX9.out (by first | trivial | rfl)
              have hw01 := HPL.out.hb.1
              have hv9e := hv9.keep (G := fun q => w1.heap.size + 2 ≤ q ∧ q < wa.heap.size) (w' := w5.drewN nq) (fun _ h => h) (fun q hq => HB5.out.block q (by omega))
              have hv12e := HV12.out.keep (G := fun q => wa.heap.size ≤ q ∧ q < wb.heap.size) (w' := w5.drewN nq) (fun _ h => h) (fun q hq => HB5.out.block q (by omega))
              have hs6 := HB5.out.size
              have HSE2 := Lib.hid (sameExpr_any (w5.drewN nq) d9 d12 x l k9 o9 a9 l9 k12 o12 a12 l12 nm9 nm12 A9 A12 n9 c9 n12 c12 true hv9e hv12e (fun q hq => by show q < w5.heap.size; omega) (fun q hq => by show q < w5.heap.size; omega) hsx HSl.out heq)
              have HB6 := Lib.hid (below_next HPL.out.lo HB5.out)
              have e0 : w5.cell? ⟨b9, 0, none⟩ = some (.int .i64 k9) := cell_of_row _ _ 0 _ _ _ hr9q
              have e1 : w5.cell? ⟨b9, 1, none⟩ = some (.int .i64 o9) := cell_of_row _ _ 1 _ _ _ hr9q
              have e2 : w5.cell? ⟨b9, 2, none⟩ = some (.int .i64 a9) := cell_of_row _ _ 2 _ _ _ hr9q
              have e3 : w5.cell? ⟨b9, 3, none⟩ = some (.int .i64 l9) := cell_of_row _ _ 3 _ _ _ hr9q
              have e4 : w5.cell? ⟨b9, 4, none⟩ = some (.string nm9) := cell_of_row _ _ 4 _ _ _ hr9q
              have e5 : w5.cell? ⟨b9, 5, none⟩ = some (.slice A9 n9 c9) := cell_of_row _ _ 5 _ _ _ hr9q
              have m0 : w5.cell? ⟨b12, 0, none⟩ = some (.int .i64 k12) := cell_of_row _ _ 0 _ _ _ hr12q
              have m1 : w5.cell? ⟨b12, 1, none⟩ = some (.int .i64 o12) := cell_of_row _ _ 1 _ _ _ hr12q
              have m2 : w5.cell? ⟨b12, 2, none⟩ = some (.int .i64 a12) := cell_of_row _ _ 2 _ _ _ hr12q
              have m3 : w5.cell? ⟨b12, 3, none⟩ = some (.int .i64 l12) := cell_of_row _ _ 3 _ _ _ hr12q
              have m4 : w5.cell? ⟨b12, 4, none⟩ = some (.string nm12) := cell_of_row _ _ 4 _ _ _ hr12q
              have m5 : w5.cell? ⟨b12, 5, none⟩ = some (.slice A12 n12 c12) := cell_of_row _ _ 5 _ _ _ hr12q
              clear hr12q hr9q hv9 hv9e hv12e hs6 heq hsx hlt hv1 hv2
              go_wp2_with fail
              refine HSE2.out.mono ?_
              rintro e w7 ⟨rfl, hb7⟩
              have HB7 := Lib.hid (below_next (HB6.out.trans (⟨rfl, rfl, rfl, Nat.le_refl _, fun _ _ => rfl⟩ : Below w.heap.size w5 (w5.drewN nq))) hb7)
              clear HSE2 hb7
              go_wp2_with fail
              go_ret
              exact ⟨rfl, HB7.out⟩
theorem sg_len {i : Nat} (h : i < 11) : (sg i).length ≤ 2 := by
  have hh : ∀ i < 11, (sg i).length ≤ 2 := by decide
  exact hh i h
theorem prec_law (x0 x1 : Int) (i k : Nat) (w : World) (he : Errs w) (h0 : 0 ≤ x0 ∧ x0 < 256) (h1 : 0 ≤ x1 ∧ x1 < 256) (hi : x0 % 11 = (i : Int)) (hk : x1 % 11 = (k : Int)) (hil : i < 11) (hkl : k < 11) :
    Calls Tryd.prog 3 #[.int .u8 x0, .int .u8 x1] w (RetG true w) := by
  obtain ⟨l, r, g1, g2, sl, sr, hne, hc⟩ := prec_at hil hkl
  have z1 := sg_len hil
  have z2 := sg_len hkl
  have n0 : (tx0 i k).length ≤ 65536 := by simp [tx0]; omega
  have n1 : (tx1 i k).length ≤ 65536 := by simp [tx1]; omega
  have n2 : (tx2 i k).length ≤ 65536 := by simp [tx2]; omega
  rcases hc with ⟨a, b, N, hN⟩ | ⟨hn, x, hx, sx, heq⟩
  · exact prec_any x0 x1 i k 7 l l r w he h0 h1 hi hk hil hkl (fun S W hS hE => bad_pg l hN S W hS n0 hE) (fun S W hS hE => good_pg g1 S W hS n1 hE) (fun S W hS hE => good_pg g2 S W hS n2 hE) sl sr hne (.inl ⟨a, b, rfl⟩)
  · exact prec_any x0 x1 i k 0 x l r w he h0 h1 hi hk hil hkl (fun S W hS hE => good_pg hx S W hS n0 hE) (fun S W hS hE => good_pg g1 S W hS n1 hE) (fun S W hS hE => good_pg g2 S W hS n2 hE) sl sr hne (.inr ⟨hn, rfl, sx, heq⟩)
end Go.Proofs.YtnmgmfjoifglbaaDoor
