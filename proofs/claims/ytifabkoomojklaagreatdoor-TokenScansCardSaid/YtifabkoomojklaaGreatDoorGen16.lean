/-
  The maker of sources: what is carried through a loop that counts. Condition: at most a million codes.
-/
import Derived.Test.YtifabkoomojklaaGreatDoorGen14
namespace Go.Proofs.YtifabkoomojklaaGreatDoor
open Go.RowKit

/-- A block that holds something all along. -/
structure R9 (W : World) (m g : Nat) (l : List Nat) (E : Env) (bud : Int) (base q8 : Nat) (s : ByteArray) (w5 w' : World) : Prop where
  ss : SS W m g l E bud base w'
  row8 : w'.heap[q8]? = some (.cells #[.int .i64 13, .int .i64 0, .int .i64 0, .int .i64 0, .string s, .slice none 0 0] 90 (0, 0))
  lb5 : lb w' m = lb w5 m
  sz : w5.heap.size ≤ w'.heap.size
  low : ∀ b, lb w5 m = some b → b < w5.heap.size
  q8W : W.heap.size ≤ q8
  q85 : q8 < w5.heap.size
  lb8 : lb w5 m ≠ some q8
theorem R9.below {W w5 w' w2 : World} {m g base q8 : Nat} {l : List Nat} {E : Env} {bud : Int} {s : ByteArray} (h : R9 W m g l E bud base q8 s w5 w') (hb : Below w'.heap.size w' w2) : R9 W m g l E bud base q8 s w5 w2 :=
  ⟨(h.ss.below hb).1, (hb.block _ (Array.getElem?_eq_some_iff.1 h.row8).1).trans h.row8, (lb_of (World.cell?_of_block (hb.block m (Nat.lt_of_lt_of_le h.ss.mW h.ss.chg.size)))).trans h.lb5, Nat.le_trans h.sz hb.size, h.low, h.q8W, h.q85, h.lb8⟩
theorem R9.alloc {W w5 w' : World} {m g base q8 : Nat} {l : List Nat} {E : Env} {bud : Int} {s : ByteArray} (h : R9 W m g l E bud base q8 s w5 w') (o : Obj) : R9 W m g l E bud base q8 s w5 (w'.alloc o) := h.below ((Below.refl _ _).alloc (Nat.le_refl _) o)
theorem R9.drew {W w5 w' : World} {m g base q8 : Nat} {l : List Nat} {E : Env} {bud : Int} {s : ByteArray} (h : R9 W m g l E bud base q8 s w5 w') : R9 W m g l E bud base q8 s w5 w'.drew := h.below (Below.refl _ _).drew
theorem R9.grown {W w5 w' w2 : World} {m g base q8 : Nat} {l : List Nat} {E : Env} {bud : Int} {s : ByteArray} (h : R9 W m g l E bud base q8 s w5 w') (h2 : GS w2 m g l E bud) (hg : w'.grownBy w2 (some g)) : R9 W m g l E bud base q8 s w5 w2 := by
  have hm := Nat.lt_of_lt_of_le h.ss.mW h.ss.chg.size
  have hq := h.q8W
  have hgW := h.ss.gW
  exact ⟨(h.ss.grown h2 hg).1, blk_keep hg (by omega) h.row8, (lb_of (World.cell?_of_block (hg.block m hm (fun e => h.ss.ls.gs.ne (by injection e))))).trans h.lb5, Nat.le_trans h.sz hg.size, h.low, h.q8W, h.q85, h.lb8⟩
def N9 (W : World) (m g : Nat) (l : List Nat) (E : Env) (bud : Int) (base q8 : Nat) (s : ByteArray) (w5 : World) (n : Nat) (wn : World) (e : Ending) (w2 : World) : Prop :=
  ∃ r : Nat, e = .returned (.int .i64 (r : Int)) ∧ r < n ∧ R9 W m g l E bud base q8 s w5 w2 ∧ wn.grownBy w2 (some g)
theorem r9_next {W w5 wn : World} {m g base q8 : Nat} {l : List Nat} {E : Env} {bud : Int} {s : ByteArray} (h : R9 W m g l E bud base q8 s w5 wn) (n : Nat) (z : Int) (hz : z = (n : Int)) (hn : 1 ≤ n) (hn2 : n ≤ 1000000000) :
    Calls Tryz.prog 20 #[.pointer (some ⟨g, 0, none⟩), .int .i64 z] wn (N9 W m g l E bud base q8 s w5 n wn) :=
  (next_gs n z h.ss.ls.gs hz hn2).mono fun _ _ ⟨r, he, h1, _, h3, h4⟩ => ⟨r, he, h1 hn, h.grown h3 h4, h4⟩
/-- The tree of a comparison or a sum of a name and a number. -/
theorem exV_bin {G : Nat → Prop} {w' : World} {b : Nat} {o a : Int} {s : ByteArray} {t : TypeId} (hb : G b) (h : w'.heap[b]? = some (.cells #[.int .i64 13, .int .i64 0, .int .i64 0, .int .i64 0, .string s, .slice none 0 0, .int .i64 1, .int .i64 0, .int .i64 a, .int .i64 0, .string ⟨#[]⟩, .slice none 0 0] t (0, 0))) :
    ExV G w' 3 (.mk 6 o 0 0 ⟨#[]⟩ [.mk 13 0 0 0 s [], .mk 1 0 a 0 ⟨#[]⟩ []]) (.agg #[.int .i64 6, .int .i64 o, .int .i64 0, .int .i64 0, .string ⟨#[]⟩, .slice (some ⟨b, 0, none⟩) 2 2]) :=
  ⟨some ⟨b, 0, none⟩, 2, rfl, row_two (d := 2) exV_leaf exV_leaf hb h⟩
theorem ge_bin {o a : Int} {s : ByteArray} (ho : 3 ≤ o ∧ o ≤ 11) (ha : 0 ≤ a ∧ a < 9223372036854775808) (hs : GoodN s) : GE 2 (.mk 6 o 0 0 ⟨#[]⟩ [.mk 13 0 0 0 s [], .mk 1 0 a 0 ⟨#[]⟩ []]) :=
  ⟨rfl, by omega, ho.2, by decide, by decide, by decide, .inr ⟨by
    intro x hx
    simp only [List.mem_cons, List.not_mem_nil, or_false] at hx
    rcases hx with rfl | rfl
    · exact ge_leaf (by decide) (by decide) hs.1 (.inr (.inl ⟨rfl, hs⟩))
    · exact ge_leaf (by decide) ha (by decide) (.inr (.inr (.inl rfl))), .inr (.inl ⟨rfl, ho.1, rfl⟩)⟩⟩
/-- The loop's own block is filled with its condition. -/
def LoMid (W : World) (m g : Nat) (l : List Nat) (E : Env) (bud : Int) (base q8 : Nat) (s : ByteArray) (v : Value) (wd : World) : Prop :=
  ∃ q b cnd, v = .pointer (some ⟨q, 0, none⟩) ∧ IfSt W m g l E bud base q #[.int .i64 5, .int .i64 0, .string ⟨#[]⟩, .slice (some ⟨b, 0, none⟩) 1 1, .slice none 0 0, .slice none 0 0] wd ∧ RowE (Mad m W q wd) wd 3 [cnd] (some ⟨b, 0, none⟩) 1 ∧ GE 2 cnd ∧
    wd.heap[q8]? = some (.cells #[.int .i64 13, .int .i64 0, .int .i64 0, .int .i64 0, .string s, .slice none 0 0] 90 (0, 0)) ∧ q8 ≠ q ∧ W.heap.size ≤ q8 ∧ lb wd m ≠ some q8
theorem loMid_core {W w5 w4 w9 : World} {m g base q8 q a2 b : Nat} {l : List Nat} {E : Env} {bud : Int} {s : ByteArray} {a : Int} {t2 t3 : TypeId} (h : R9 W m g l E bud base q8 s w5 w4) (hs : GoodN s) (ha : 0 ≤ a ∧ a < 9223372036854775808)
    (h2 : w4.heap[a2]? = some (.cells #[.int .i64 13, .int .i64 0, .int .i64 0, .int .i64 0, .string s, .slice none 0 0, .int .i64 1, .int .i64 0, .int .i64 a, .int .i64 0, .string ⟨#[]⟩, .slice none 0 0] t2 (0, 0))) (ha2 : w5.heap.size ≤ a2)
    (h3 : w4.heap[b]? = some (.cells #[.int .i64 6, .int .i64 8, .int .i64 0, .int .i64 0, .string ⟨#[]⟩, .slice (some ⟨a2, 0, none⟩) 2 2] t3 (0, 0))) (hb : w5.heap.size ≤ b)
    (h2q : a2 ≠ q) (h3q : b ≠ q) (hg6 : w4.grownBy w9 (some q)) (hr6 : w9.heap[q]? = some (.cells #[.int .i64 5, .int .i64 0, .string ⟨#[]⟩, .slice (some ⟨b, 0, none⟩) 1 1, .slice none 0 0, .slice none 0 0] 84 (0, 0))) (hq5 : w5.heap.size ≤ q) : LoMid W m g l E bud base q8 s (.pointer (some ⟨q, 0, none⟩)) w9 := by
  have hq85 := h.q85
  have hq8W := h.q8W
  have hlow := h.low
  have hsz := h.sz
  have hmW := h.ss.mW
  have hWw := h.ss.chg.size
  have hbW := h.ss.bw
  have hgt := hg6.size
  have hl9 : lb w9 m = lb w5 m := (lb_of (World.cell?_of_block (hg6.block m (by omega) (fun e => absurd (show m = q by injection e) (by omega))))).trans h.lb5
  have hne : ∀ b, w5.heap.size ≤ b → lb w9 m ≠ some b := fun b hb e => by rw [hl9] at e; have := hlow b e; omega
  have hne4 : ∀ b, w5.heap.size ≤ b → lb w4 m ≠ some b := fun b hb e => by rw [h.lb5] at e; have := hlow b e; omega
  have k2 := blk_keep hg6 h2q h2
  have k3 := blk_keep hg6 h3q h3
  have l2 := (Array.getElem?_eq_some_iff.1 k2).1
  have l3 := (Array.getElem?_eq_some_iff.1 k3).1
  have hW5 : W.heap.size ≤ w5.heap.size := by omega
  have hss : SS W m g l E bud base w9 := ⟨h.ss.ls.far hg6 (fun c e => (show q = c by injection e) ▸ ⟨by omega, hne4 q hq5⟩), h.ss.chg.far hg6 (fun c e => (show q = c by injection e) ▸ Nat.le_trans hW5 hq5) hmW, hbW⟩
  refine ⟨q, b, _, rfl, ⟨hss, hr6, Nat.le_trans hW5 hq5, hne q hq5⟩, row_one (exV_bin (o := 8) (a := a) (s := s) (G := Mad m W q w9) ⟨⟨by omega, l2, hne a2 ha2⟩, h2q⟩ k2) (fun _ h => h) (fun _ _ => rfl) ⟨⟨by omega, l3, hne b hb⟩, h3q⟩ k3, ge_bin (by omega) ha hs, blk_keep hg6 (by omega) h.row8, by omega, hq8W, by rw [hl9]; exact h.lb8⟩
theorem loMid_of {W w5 w4 : World} {m g base q8 q a2 b : Nat} {l : List Nat} {E : Env} {bud : Int} {s : ByteArray} {a : Int} {t2 t3 : TypeId} (h : R9 W m g l E bud base q8 s w5 w4) (hs : GoodN s) (ha : 0 ≤ a ∧ a < 9223372036854775808)
    (h2 : w4.heap[a2]? = some (.cells #[.int .i64 13, .int .i64 0, .int .i64 0, .int .i64 0, .string s, .slice none 0 0, .int .i64 1, .int .i64 0, .int .i64 a, .int .i64 0, .string ⟨#[]⟩, .slice none 0 0] t2 (0, 0))) (ha2 : w5.heap.size ≤ a2)
    (h3 : w4.heap[b]? = some (.cells #[.int .i64 6, .int .i64 8, .int .i64 0, .int .i64 0, .string ⟨#[]⟩, .slice (some ⟨a2, 0, none⟩) 2 2] t3 (0, 0))) (hb : w5.heap.size ≤ b)
    (hq : w4.heap[q]? = some (.cells #[.int .i64 0, .int .i64 0, .string ⟨#[]⟩, .slice none 0 0, .slice none 0 0, .slice none 0 0] 84 (0, 0))) (hq5 : w5.heap.size ≤ q) :
    LoMid W m g l E bud base q8 s (.pointer (some ⟨q, 0, none⟩)) ((((((w4.setCell ⟨q, 0, none⟩ (.int .i64 5)).setCell ⟨q, 1, none⟩ (.int .i64 0)).setCell ⟨q, 2, none⟩ (.string ⟨#[]⟩)).setCell ⟨q, 3, none⟩ (.slice (some ⟨b, 0, none⟩) 1 1)).setCell ⟨q, 4, none⟩ (.slice none 0 0)).setCell ⟨q, 5, none⟩ (.slice none 0 0)) :=
  have h6 := row_set6 (.int .i64 5) (.int .i64 0) (.string ⟨#[]⟩) (.slice (some ⟨b, 0, none⟩) 1 1) (.slice none 0 0) (.slice none 0 0) hq
  loMid_core h hs ha h2 ha2 h3 hb (fun e => by rw [e, hq] at h2; simp at h2) (fun e => by rw [e, hq] at h3; simp at h3) h6.2 h6.1 hq5
theorem loMid_new {W w5 w4 : World} {m g base q8 a2 b : Nat} {l : List Nat} {E : Env} {bud : Int} {s : ByteArray} {a : Int} {t2 t3 : TypeId} (h : R9 W m g l E bud base q8 s w5 w4) (hs : GoodN s) (ha : 0 ≤ a ∧ a < 9223372036854775808)
    (h2 : w4.heap[a2]? = some (.cells #[.int .i64 13, .int .i64 0, .int .i64 0, .int .i64 0, .string s, .slice none 0 0, .int .i64 1, .int .i64 0, .int .i64 a, .int .i64 0, .string ⟨#[]⟩, .slice none 0 0] t2 (0, 0))) (ha2 : w5.heap.size ≤ a2)
    (h3 : w4.heap[b]? = some (.cells #[.int .i64 6, .int .i64 8, .int .i64 0, .int .i64 0, .string ⟨#[]⟩, .slice (some ⟨a2, 0, none⟩) 2 2] t3 (0, 0))) (hb : w5.heap.size ≤ b)
: LoMid W m g l E bud base q8 s (.pointer (some ⟨w4.heap.size, 0, none⟩)) (w4.alloc (.cells #[.int .i64 5, .int .i64 0, .string ⟨#[]⟩, .slice (some ⟨b, 0, none⟩) 1 1, .slice none 0 0, .slice none 0 0] 84)) :=
  loMid_core h hs ha h2 ha2 h3 hb (fun e => by have := (Array.getElem?_eq_some_iff.1 h2).1; omega) (fun e => by have := (Array.getElem?_eq_some_iff.1 h3).1; omega) (World.grownBy_alloc w4 _ _) (heap_alloc_new w4 _) h.sz
theorem new_at {w : World} {o : Obj} {n : Nat} (h : w.heap.size = n) : (w.alloc o).heap[n]? = some o := by subst h; exact heap_alloc_new w o
theorem R9.set6 {W w5 w' : World} {m g base q8 q : Nat} {l : List Nat} {E : Env} {bud : Int} {s : ByteArray} {v0 v1 v2 v3 v4 v5 : Value} (h : R9 W m g l E bud base q8 s w5 w') (hq5 : w5.heap.size ≤ q) :
    R9 W m g l E bud base q8 s w5 ((((((w'.setCell ⟨q, 0, none⟩ v0).setCell ⟨q, 1, none⟩ v1).setCell ⟨q, 2, none⟩ v2).setCell ⟨q, 3, none⟩ v3).setCell ⟨q, 4, none⟩ v4).setCell ⟨q, 5, none⟩ v5) := by
  have hg6 : w'.grownBy ((((((w'.setCell ⟨q, 0, none⟩ v0).setCell ⟨q, 1, none⟩ v1).setCell ⟨q, 2, none⟩ v2).setCell ⟨q, 3, none⟩ v3).setCell ⟨q, 4, none⟩ v4).setCell ⟨q, 5, none⟩ v5) (some q) := ((((((set_grown w' ⟨q, 0, none⟩ v0).trans (set_grown _ ⟨q, 1, none⟩ v1)).trans (set_grown _ ⟨q, 2, none⟩ v2)).trans (set_grown _ ⟨q, 3, none⟩ v3)).trans (set_grown _ ⟨q, 4, none⟩ v4)).trans (set_grown _ ⟨q, 5, none⟩ v5))
  generalize ((((((w'.setCell ⟨q, 0, none⟩ v0).setCell ⟨q, 1, none⟩ v1).setCell ⟨q, 2, none⟩ v2).setCell ⟨q, 3, none⟩ v3).setCell ⟨q, 4, none⟩ v4).setCell ⟨q, 5, none⟩ v5) = w9 at *
  have hq85 := h.q85
  have hq8W := h.q8W
  have hlow := h.low
  have hsz := h.sz
  have hmW := h.ss.mW
  have hWw := h.ss.chg.size
  have hbW := h.ss.bw
  have hgt := hg6.size
  have hl9 : lb w9 m = lb w5 m := (lb_of (World.cell?_of_block (hg6.block m (by omega) (fun e => absurd (show m = q by injection e) (by omega))))).trans h.lb5
  have hne4 : lb w' m ≠ some q := fun e => by rw [h.lb5] at e; have := hlow q e; omega
  exact ⟨⟨h.ss.ls.far hg6 (fun c e => (show q = c by injection e) ▸ ⟨by omega, hne4⟩), h.ss.chg.far hg6 (fun c e => (show q = c by injection e) ▸ by omega) hmW, hbW⟩, blk_keep hg6 (by omega) h.row8, hl9, by omega, hlow, hq8W, hq85, h.lb8⟩
/-- What is read while the condition is made. -/
theorem s9_of {W w5 w' : World} {m g base q8 : Nat} {l : List Nat} {E : Env} {bud : Int} {s : ByteArray} (h : R9 W m g l E bud base q8 s w5 w') : w'.cell? ⟨q8, 0, none⟩ = some (.int .i64 13) ∧ w'.cell? ⟨q8, 1, none⟩ = some (.int .i64 0) ∧ w'.cell? ⟨q8, 2, none⟩ = some (.int .i64 0) ∧ w'.cell? ⟨q8, 3, none⟩ = some (.int .i64 0) ∧ w'.cell? ⟨q8, 4, none⟩ = some (.string s) ∧ w'.cell? ⟨q8, 5, none⟩ = some (.slice none 0 0) ∧ w'.cell? ⟨m, 0, none⟩ = some (.pointer (some ⟨g, 0, none⟩)) ∧ R9 W m g l E bud base q8 s w5 w' := by
  obtain ⟨_, _, _, _, _, _, y0, _⟩ := h.ss.ls.gs.cells
  exact ⟨cell_of_row _ _ 0 _ _ _ h.row8, cell_of_row _ _ 1 _ _ _ h.row8, cell_of_row _ _ 2 _ _ _ h.row8, cell_of_row _ _ 3 _ _ _ h.row8, cell_of_row _ _ 4 _ _ _ h.row8, cell_of_row _ _ 5 _ _ _ h.row8, y0, h⟩
/-- node, while it is made: a2 the block of its operands. -/
theorem node9 {W w5 wn : World} {m g base q8 a2 n c : Nat} {l : List Nat} {E : Env} {bud : Int} {s : ByteArray} {row : Array Value} {t : TypeId} (k o : Int) (h : R9 W m g l E bud base q8 s w5 wn) (hrow : wn.heap[a2]? = some (.cells row t (0, 0))) :
    Calls Tryz.prog 74 #[.int .i64 k, .int .i64 o, .slice (some ⟨a2, 0, none⟩) n c] wn fun e w2 => e = .returned (.agg #[.int .i64 k, .int .i64 o, .int .i64 0, .int .i64 0, .string ⟨#[]⟩, .slice (some ⟨a2, 0, none⟩) n c]) ∧ R9 W m g l E bud base q8 s w5 w2 ∧ w2.heap[a2]? = some (.cells row t (0, 0)) ∧ Below wn.heap.size wn w2 :=
  (node_any k o (some ⟨a2, 0, none⟩) n c wn).mono fun _ _ ⟨he, hb⟩ => ⟨he, h.below hb, (hb.block _ (Array.getElem?_eq_some_iff.1 hrow).1).trans hrow, hb⟩
theorem one9 {W w5 wn : World} {m g base q8 a2 n c : Nat} {l : List Nat} {E : Env} {bud : Int} {s : ByteArray} {row : Array Value} {t : TypeId} (k : Int) (nm : ByteArray) (k' o : Int) (h : R9 W m g l E bud base q8 s w5 wn) (hrow : wn.heap[a2]? = some (.cells row t (0, 0))) :
    Calls Tryz.prog 56 #[.int .i64 k, .string nm, .agg #[.int .i64 k', .int .i64 o, .int .i64 0, .int .i64 0, .string ⟨#[]⟩, .slice (some ⟨a2, 0, none⟩) n c]] wn fun e w2 => ∃ b, e = .returned (.agg #[.int .i64 k, .int .i64 0, .string nm, .slice (some ⟨b, 0, none⟩) 1 1, .slice none 0 0, .slice none 0 0]) ∧ wn.heap.size ≤ b ∧
      w2.heap[b]? = some (.cells #[.int .i64 k', .int .i64 o, .int .i64 0, .int .i64 0, .string ⟨#[]⟩, .slice (some ⟨a2, 0, none⟩) n c] 90 (0, 0)) ∧ R9 W m g l E bud base q8 s w5 w2 ∧ w2.heap[a2]? = some (.cells row t (0, 0)) ∧ Below wn.heap.size wn w2 :=
  (one_any k nm k' o 0 0 ⟨#[]⟩ (some ⟨a2, 0, none⟩) n c wn).mono fun _ _ ⟨b, h1, _, he, hr, hb⟩ => ⟨b, he, h1, hr, h.below hb, (hb.block _ (Array.getElem?_eq_some_iff.1 hrow).1).trans hrow, hb⟩
/-- A block of an expression that stays. -/
structure O8 (W : World) (m q8 : Nat) (s : ByteArray) (wc : World) : Prop where
  row : wc.heap[q8]? = some (.cells #[.int .i64 13, .int .i64 0, .int .i64 0, .int .i64 0, .string s, .slice none 0 0] 90 (0, 0))
  qW : W.heap.size ≤ q8
  qlb : lb wc m ≠ some q8
theorem O8.step {W wc w2 : World} {m g base q8 : Nat} {l : List Nat} {E : Env} {bud : Int} {s : ByteArray} (h : O8 W m q8 s wc) (hs : SS W m g l E bud base wc) (hc : Chg m g wc w2) : O8 W m q8 s w2 := by
  have h1 := h.qW
  have h2 := hs.mW
  have h3 := hs.gW
  have hl := (Array.getElem?_eq_some_iff.1 h.row).1
  exact ⟨(hc.block q8 hl (by omega) (by omega) h.qlb).trans h.row, h1, lb_chg hc hl h.qlb⟩
theorem O8.set {W wc w2 : World} {m q q8 : Nat} {s : ByteArray} (h : O8 W m q8 s wc) (hg : wc.grownBy w2 (some q)) (hq : q8 ≠ q) (hl : lb w2 m = lb wc m) : O8 W m q8 s w2 := ⟨blk_keep hg hq h.row, h.qW, by rw [hl]; exact h.qlb⟩
theorem StRow.set {m base D d q : Nat} {w w' : World} {v : Value} {ts : List St} {L : List Value} (h : StRow m base D d w v ts L) (hg : w.grownBy w' (some q)) (hq : q < base) (hl : lb w' m = lb w m) : StRow m base D d w' v ts L := by
  have hne : ∀ b, base ≤ b → some b ≠ some q := fun b hb e => by injection e with e; omega
  refine ⟨own_kept h.own (fun b hb => hg.block b (h.own.lt b hb).2 (hne b (h.own.lt b hb).1)), fun b hb => by rw [hl]; exact h.sep b hb, fun j x hj => ?_⟩
  obtain ⟨c0, c1, c2, c3, c4, c5, e0, e1, e2, e3, e4, e5, hx⟩ := h.at_ j x hj
  exact ⟨c0, c1, c2, c3, c4, c5, e0, e1, e2, e3, e4, e5, hx.keep (fun k hk => ⟨hk.1, Nat.lt_of_lt_of_le hk.2.1 hg.size, hk.2.2.1, by rw [hl]; exact hk.2.2.2⟩) (fun k hk => hg.block k hk.2.1 (hne k hk.1))⟩
theorem lb_set {W wc : World} {m g base q i : Nat} {l : List Nat} {E : Env} {bud : Int} {row : Array Value} (h : IfSt W m g l E bud base q row wc) (v : Value) : lb (wc.setCell ⟨q, i, none⟩ v) m = lb wc m := by
  have h1 := h.qW
  have h2 := h.ss.mW
  have h4 := h.ss.chg.size
  have hg := set_grown wc ⟨q, i, none⟩ v
  exact lb_of (World.cell?_of_block (hg.block m (by omega) (fun e => absurd (show m = q by injection e) (by omega))))
/-- The condition's row, below what is made later. -/
def Low6 (m : Nat) (W : World) (q n6 : Nat) (wc : World) (b : Nat) : Prop := Mad m W q wc b ∧ b < n6
theorem step_append_st {ops : Array Oper} {o : Oper} {a : Act} {K : Act → World → Prop} {Q : Exit → Act → World → Prop} {E : Prop} (w : World) (hgd : o.guard = none) (s x : Operand)
    (ho : o.op = .call { callee := .builtin .append, args := #[s, x], argTypes := #[62, 62] }) (m base D d : Nat) (v : Value) (ts : List St) (L : List Value) (y : St) (k l : Int) (t : ByteArray) (eA tA uA : Option Addr) (en ec tn tc un uc : Nat) (F : Nat → Prop)
    (hs : a.eval s = v) (hx : a.eval x = .slice (some ⟨w.heap.size, 0, none⟩) 1 1) (h : StRow m base D d w v ts L) (hlen : ts.length ≤ 1000000) (hbase : base ≤ w.heap.size) (hm : m < base) (hlb : ∀ b, lb w m = some b → b < w.heap.size)
    (hy : StV F w D d y (.agg #[.int .i64 k, .int .i64 l, .string t, .slice eA en ec, .slice tA tn tc, .slice uA un uc])) (hF : ∀ b, F b → base ≤ b ∧ b < w.heap.size ∧ v.ownBlock ≠ some b ∧ lb w m ≠ some b)
    (hk : ∀ g cap w', StRow m base D d w' (.slice (some ⟨g, 0, none⟩) (ts.length + 1) cap) (ts ++ [y]) (L ++ [.int .i64 k, .int .i64 l, .string t, .slice eA en ec, .slice tA tn tc, .slice uA un uc]) → w.grownBy w' v.ownBlock → K (a.put o.dst (.slice (some ⟨g, 0, none⟩) (ts.length + 1) cap)) w') :
    if Region.wanted o (yielded ops a.tmps) = true then Oper.wp Tryz.prog o a (w.alloc (.cells #[.int .i64 k, .int .i64 l, .string t, .slice eA en ec, .slice tA tn tc, .slice uA un uc] 84)) K Q else E := by
  obtain ⟨i, hi, hz, hsz, hby⟩ := info_parts infoStmt
  refine step_append_lies _ hgd s x _ ho base 84 i _ 6 104 Tryz.underlying62 hi hz hsz hby rfl (by decide) v ts.length L hs (h.own.alloc _) ⟨w.heap.size, 0, none⟩ 1 1 [.int .i64 k, .int .i64 l, .string t, .slice eA en ec, .slice tA tn tc, .slice uA un uc] hx (by simp) ?_ ?_ (by decide) (by unfold maxLen; omega) (by omega) (by simp; omega) _ rfl fun g cap w' h1 h2 h3 _ => hk g cap w' (h.push hy hF hm (by omega) hlb h1 ((Below.refl _ w).alloc (Nat.le_refl _) _) h2 h3) ((World.grownBy_alloc _ _ _).trans h2)
  · intro j u hu
    rw [Addr.add_lit, Nat.zero_add]
    exact (cell_of_row _ _ _ _ _ _ (heap_alloc_new w _)).trans (by simpa using hu)
  · intro u hu
    simp at hu
    rcases hu with rfl | rfl | rfl | rfl | rfl | rfl <;> rfl
theorem IfSt.app {W w w' : World} {m g base q n6 : Nat} {l : List Nat} {E : Env} {bud : Int} {row : Array Value} {v : Value} (h : IfSt W m g l E bud base q row w) (hq : q < n6) (hv : ∀ b, v.ownBlock = some b → n6 ≤ b ∧ lb w m ≠ some b) (hg : w.grownBy w' v.ownBlock) :
    IfSt W m g l E bud base q row w' ∧ lb w' m = lb w m ∧ ∀ b, Low6 m W q n6 w b → Low6 m W q n6 w' b ∧ w'.heap[b]? = w.heap[b]? := by
  have h1 := h.qW
  have h2 := h.ss.mW
  have h3 := h.ss.bw
  have h4 := h.ss.chg.size
  have hl : lb w' m = lb w m := lb_of (World.cell?_of_block (hg.block m (by omega) (fun e => by have := (hv m e.symm).1; omega)))
  refine ⟨⟨⟨h.ss.ls.far hg (fun b e => ⟨by have := (hv b e).1; omega, (hv b e).2⟩), h.ss.chg.far hg (fun b e => by have := (hv b e).1; omega) h2, h3⟩, (hg.block q h.lt (fun e => by have := (hv q e.symm).1; omega)).trans h.row, h1, by rw [hl]; exact h.qlb⟩, hl, fun b hb => ⟨⟨⟨⟨hb.1.1.1, Nat.lt_of_lt_of_le hb.1.1.2.1 hg.size, by rw [hl]; exact hb.1.1.2.2⟩, hb.1.2⟩, hb.2⟩, hg.block b hb.1.1.2.1 (fun e => by have := (hv b e.symm).1; have := hb.2; omega)⟩⟩
end Go.Proofs.YtifabkoomojklaaGreatDoor
