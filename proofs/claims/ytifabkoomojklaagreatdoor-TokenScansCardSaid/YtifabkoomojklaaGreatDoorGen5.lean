/-
  The maker of sources: calls, given expressions. Condition: at most a million codes.
-/
import Derived.Test.YtifabkoomojklaaGreatDoorArgRow
import Derived.Deep.CutRange
namespace Go.Proofs.YtifabkoomojklaaGreatDoor
open Go.RowKit

/-- What stays while a function is chosen. -/
theorem callS_alloc {W0 w' : World} {m g nf fc fr : Nat} {l : List Nat} {E : Env} {bud : Int} {sn : Nat → ByteArray} {ln : Nat → Int} {pA bA : Nat → Option Addr} {np pc bn bc : Nat → Nat} (o : Obj) (h : w'.cell? ⟨m, 0, none⟩ = some (.pointer (some ⟨g, 0, none⟩)) ∧ w'.cell? ⟨m, 2, none⟩ = some (.slice (some ⟨fr, 0, none⟩) nf fc) ∧ (∀ q, q < nf → w'.cell? ⟨fr, q * 4, none⟩ = some (.string (sn q))) ∧ (∀ q, q < nf → w'.cell? ⟨fr, q * 4 + 1, none⟩ = some (.int .i64 (ln q))) ∧ (∀ q, q < nf → w'.cell? ⟨fr, q * 4 + 2, none⟩ = some (.slice (pA q) (np q) (pc q))) ∧ (∀ q, q < nf → w'.cell? ⟨fr, q * 4 + 3, none⟩ = some (.slice (bA q) (bn q) (bc q))) ∧ GS w' m g l E bud ∧ W0.grownBy w' (some g)) : (w'.alloc o).cell? ⟨m, 0, none⟩ = some (.pointer (some ⟨g, 0, none⟩)) ∧ (w'.alloc o).cell? ⟨m, 2, none⟩ = some (.slice (some ⟨fr, 0, none⟩) nf fc) ∧ (∀ q, q < nf → (w'.alloc o).cell? ⟨fr, q * 4, none⟩ = some (.string (sn q))) ∧ (∀ q, q < nf → (w'.alloc o).cell? ⟨fr, q * 4 + 1, none⟩ = some (.int .i64 (ln q))) ∧ (∀ q, q < nf → (w'.alloc o).cell? ⟨fr, q * 4 + 2, none⟩ = some (.slice (pA q) (np q) (pc q))) ∧ (∀ q, q < nf → (w'.alloc o).cell? ⟨fr, q * 4 + 3, none⟩ = some (.slice (bA q) (bn q) (bc q))) ∧ GS (w'.alloc o) m g l E bud ∧ W0.grownBy (w'.alloc o) (some g) := by
  have hb := (Below.refl _ w').alloc (Nat.le_refl _) o
  exact ⟨hold hb h.1, hold hb h.2.1, fun q hq => hold hb (h.2.2.1 q hq), fun q hq => hold hb (h.2.2.2.1 q hq), fun q hq => hold hb (h.2.2.2.2.1 q hq), fun q hq => hold hb (h.2.2.2.2.2.1 q hq), h.2.2.2.2.2.2.1.below hb, h.2.2.2.2.2.2.2.trans (grown_of_below hb _)⟩
theorem callS_adrew {W0 w' : World} {m g nf fc fr : Nat} {l : List Nat} {E : Env} {bud : Int} {sn : Nat → ByteArray} {ln : Nat → Int} {pA bA : Nat → Option Addr} {np pc bn bc : Nat → Nat} (o : Obj) (h : w'.cell? ⟨m, 0, none⟩ = some (.pointer (some ⟨g, 0, none⟩)) ∧ w'.cell? ⟨m, 2, none⟩ = some (.slice (some ⟨fr, 0, none⟩) nf fc) ∧ (∀ q, q < nf → w'.cell? ⟨fr, q * 4, none⟩ = some (.string (sn q))) ∧ (∀ q, q < nf → w'.cell? ⟨fr, q * 4 + 1, none⟩ = some (.int .i64 (ln q))) ∧ (∀ q, q < nf → w'.cell? ⟨fr, q * 4 + 2, none⟩ = some (.slice (pA q) (np q) (pc q))) ∧ (∀ q, q < nf → w'.cell? ⟨fr, q * 4 + 3, none⟩ = some (.slice (bA q) (bn q) (bc q))) ∧ GS w' m g l E bud ∧ W0.grownBy w' (some g)) : (w'.alloc o).drew.cell? ⟨m, 0, none⟩ = some (.pointer (some ⟨g, 0, none⟩)) ∧ (w'.alloc o).drew.cell? ⟨m, 2, none⟩ = some (.slice (some ⟨fr, 0, none⟩) nf fc) ∧ (∀ q, q < nf → (w'.alloc o).drew.cell? ⟨fr, q * 4, none⟩ = some (.string (sn q))) ∧ (∀ q, q < nf → (w'.alloc o).drew.cell? ⟨fr, q * 4 + 1, none⟩ = some (.int .i64 (ln q))) ∧ (∀ q, q < nf → (w'.alloc o).drew.cell? ⟨fr, q * 4 + 2, none⟩ = some (.slice (pA q) (np q) (pc q))) ∧ (∀ q, q < nf → (w'.alloc o).drew.cell? ⟨fr, q * 4 + 3, none⟩ = some (.slice (bA q) (bn q) (bc q))) ∧ GS (w'.alloc o).drew m g l E bud ∧ W0.grownBy (w'.alloc o).drew (some g) := by
  have hb := ((Below.refl _ w').alloc (Nat.le_refl _) o).drew
  exact ⟨hold hb h.1, hold hb h.2.1, fun q hq => hold hb (h.2.2.1 q hq), fun q hq => hold hb (h.2.2.2.1 q hq), fun q hq => hold hb (h.2.2.2.2.1 q hq), fun q hq => hold hb (h.2.2.2.2.2.1 q hq), h.2.2.2.2.2.2.1.below hb, h.2.2.2.2.2.2.2.trans (grown_of_below hb _)⟩
theorem set4_grown (w' : World) (b : Nat) (v0 v1 v2 v3 : Value) : w'.grownBy ((((w'.setCell ⟨b, 0, none⟩ v0).setCell ⟨b, 1, none⟩ v1).setCell ⟨b, 2, none⟩ v2).setCell ⟨b, 3, none⟩ v3) (some b) := (((set_grown w' ⟨b, 0, none⟩ v0).trans (set_grown _ ⟨b, 1, none⟩ v1)).trans (set_grown _ ⟨b, 2, none⟩ v2)).trans (set_grown _ ⟨b, 3, none⟩ v3)
theorem row_set4 {w' : World} {b : Nat} {c0 c1 c2 c3 : Value} {t : TypeId} (v0 v1 v2 v3 : Value) (h : w'.heap[b]? = some (.cells #[c0, c1, c2, c3] t (0, 0))) : (((((w'.setCell ⟨b, 0, none⟩ v0).setCell ⟨b, 1, none⟩ v1).setCell ⟨b, 2, none⟩ v2).setCell ⟨b, 3, none⟩ v3)).heap[b]? = some (.cells #[v0, v1, v2, v3] t (0, 0)) := row_set v3 (row_set v2 (row_set v1 (row_set v0 h)))
theorem callS_set4 {W0 w' : World} {b : Nat} {v0 v1 v2 v3 : Value} {m g nf fc fr : Nat} {l : List Nat} {E : Env} {bud : Int} {sn : Nat → ByteArray} {ln : Nat → Int} {pA bA : Nat → Option Addr} {np pc bn bc : Nat → Nat} (h0 : GS W0 m g l E bud) (hb : W0.heap.size ≤ b) (hm : m ≠ b) (hfr : fr ≠ b) (h : w'.cell? ⟨m, 0, none⟩ = some (.pointer (some ⟨g, 0, none⟩)) ∧ w'.cell? ⟨m, 2, none⟩ = some (.slice (some ⟨fr, 0, none⟩) nf fc) ∧ (∀ q, q < nf → w'.cell? ⟨fr, q * 4, none⟩ = some (.string (sn q))) ∧ (∀ q, q < nf → w'.cell? ⟨fr, q * 4 + 1, none⟩ = some (.int .i64 (ln q))) ∧ (∀ q, q < nf → w'.cell? ⟨fr, q * 4 + 2, none⟩ = some (.slice (pA q) (np q) (pc q))) ∧ (∀ q, q < nf → w'.cell? ⟨fr, q * 4 + 3, none⟩ = some (.slice (bA q) (bn q) (bc q))) ∧ GS w' m g l E bud ∧ W0.grownBy w' (some g)) : ((((w'.setCell ⟨b, 0, none⟩ v0).setCell ⟨b, 1, none⟩ v1).setCell ⟨b, 2, none⟩ v2).setCell ⟨b, 3, none⟩ v3).cell? ⟨m, 0, none⟩ = some (.pointer (some ⟨g, 0, none⟩)) ∧ ((((w'.setCell ⟨b, 0, none⟩ v0).setCell ⟨b, 1, none⟩ v1).setCell ⟨b, 2, none⟩ v2).setCell ⟨b, 3, none⟩ v3).cell? ⟨m, 2, none⟩ = some (.slice (some ⟨fr, 0, none⟩) nf fc) ∧ (∀ q, q < nf → ((((w'.setCell ⟨b, 0, none⟩ v0).setCell ⟨b, 1, none⟩ v1).setCell ⟨b, 2, none⟩ v2).setCell ⟨b, 3, none⟩ v3).cell? ⟨fr, q * 4, none⟩ = some (.string (sn q))) ∧ (∀ q, q < nf → ((((w'.setCell ⟨b, 0, none⟩ v0).setCell ⟨b, 1, none⟩ v1).setCell ⟨b, 2, none⟩ v2).setCell ⟨b, 3, none⟩ v3).cell? ⟨fr, q * 4 + 1, none⟩ = some (.int .i64 (ln q))) ∧ (∀ q, q < nf → ((((w'.setCell ⟨b, 0, none⟩ v0).setCell ⟨b, 1, none⟩ v1).setCell ⟨b, 2, none⟩ v2).setCell ⟨b, 3, none⟩ v3).cell? ⟨fr, q * 4 + 2, none⟩ = some (.slice (pA q) (np q) (pc q))) ∧ (∀ q, q < nf → ((((w'.setCell ⟨b, 0, none⟩ v0).setCell ⟨b, 1, none⟩ v1).setCell ⟨b, 2, none⟩ v2).setCell ⟨b, 3, none⟩ v3).cell? ⟨fr, q * 4 + 3, none⟩ = some (.slice (bA q) (bn q) (bc q))) ∧ GS ((((w'.setCell ⟨b, 0, none⟩ v0).setCell ⟨b, 1, none⟩ v1).setCell ⟨b, 2, none⟩ v2).setCell ⟨b, 3, none⟩ v3) m g l E bud ∧ W0.grownBy ((((w'.setCell ⟨b, 0, none⟩ v0).setCell ⟨b, 1, none⟩ v1).setCell ⟨b, 2, none⟩ v2).setCell ⟨b, 3, none⟩ v3) (some g) := by
  have hg := set4_grown w' b v0 v1 v2 v3
  have h2 := GS.own h0 h.2.2.2.2.2.2.1 h.2.2.2.2.2.2.2 hb hg
  exact ⟨cell_grown hg hm h.1, cell_grown hg hm h.2.1, fun q hq => cell_grown hg hfr (h.2.2.1 q hq), fun q hq => cell_grown hg hfr (h.2.2.2.1 q hq), fun q hq => cell_grown hg hfr (h.2.2.2.2.1 q hq), fun q hq => cell_grown hg hfr (h.2.2.2.2.2.1 q hq), h2.1, h2.2⟩
theorem callS_call {W0 w' w2 : World} {m g nf fc fr : Nat} {l : List Nat} {E : Env} {bud : Int} {sn : Nat → ByteArray} {ln : Nat → Int} {pA bA : Nat → Option Addr} {np pc bn bc : Nat → Nat} (hr : fr ≠ g) (h2 : GS w2 m g l E bud) (hg : w'.grownBy w2 (some g)) (h : w'.cell? ⟨m, 0, none⟩ = some (.pointer (some ⟨g, 0, none⟩)) ∧ w'.cell? ⟨m, 2, none⟩ = some (.slice (some ⟨fr, 0, none⟩) nf fc) ∧ (∀ q, q < nf → w'.cell? ⟨fr, q * 4, none⟩ = some (.string (sn q))) ∧ (∀ q, q < nf → w'.cell? ⟨fr, q * 4 + 1, none⟩ = some (.int .i64 (ln q))) ∧ (∀ q, q < nf → w'.cell? ⟨fr, q * 4 + 2, none⟩ = some (.slice (pA q) (np q) (pc q))) ∧ (∀ q, q < nf → w'.cell? ⟨fr, q * 4 + 3, none⟩ = some (.slice (bA q) (bn q) (bc q))) ∧ GS w' m g l E bud ∧ W0.grownBy w' (some g)) : w2.cell? ⟨m, 0, none⟩ = some (.pointer (some ⟨g, 0, none⟩)) ∧ w2.cell? ⟨m, 2, none⟩ = some (.slice (some ⟨fr, 0, none⟩) nf fc) ∧ (∀ q, q < nf → w2.cell? ⟨fr, q * 4, none⟩ = some (.string (sn q))) ∧ (∀ q, q < nf → w2.cell? ⟨fr, q * 4 + 1, none⟩ = some (.int .i64 (ln q))) ∧ (∀ q, q < nf → w2.cell? ⟨fr, q * 4 + 2, none⟩ = some (.slice (pA q) (np q) (pc q))) ∧ (∀ q, q < nf → w2.cell? ⟨fr, q * 4 + 3, none⟩ = some (.slice (bA q) (bn q) (bc q))) ∧ GS w2 m g l E bud ∧ W0.grownBy w2 (some g) :=
  ⟨cell_grown hg h2.ne h.1, cell_grown hg h2.ne h.2.1, fun q hq => cell_grown hg hr (h.2.2.1 q hq), fun q hq => cell_grown hg hr (h.2.2.2.1 q hq), fun q hq => cell_grown hg hr (h.2.2.2.2.1 q hq), fun q hq => cell_grown hg hr (h.2.2.2.2.2.1 q hq), h2, h.2.2.2.2.2.2.2.trans hg⟩
theorem funs_fn {F : Nat → Prop} {w : World} {fl : List (ByteArray × List ByteArray)} {fr c : Nat} (hF : FunsAt F w fl (some ⟨fr, 0, none⟩) c) : ∃ (sn : Nat → ByteArray) (ln : Nat → Int) (pA : Nat → Option Addr) (np pc : Nat → Nat) (bA : Nat → Option Addr) (bn bc : Nat → Nat),
    (∀ q, q < fl.length → w.cell? ⟨fr, q * 4, none⟩ = some (.string (sn q))) ∧ (∀ q, q < fl.length → w.cell? ⟨fr, q * 4 + 1, none⟩ = some (.int .i64 (ln q))) ∧ (∀ q, q < fl.length → w.cell? ⟨fr, q * 4 + 2, none⟩ = some (.slice (pA q) (np q) (pc q))) ∧ (∀ q, q < fl.length → w.cell? ⟨fr, q * 4 + 3, none⟩ = some (.slice (bA q) (bn q) (bc q))) ∧ (∀ q, q < fl.length → ∃ f ∈ fl, sn q = f.1 ∧ np q = f.2.length) := by
  have key : ∀ q (hq : q < fl.length), ∃ pA pc bA bn bc, ∃ ln : Int, w.cell? ⟨fr, q * 4, none⟩ = some (.string fl[q].1) ∧ w.cell? ⟨fr, q * 4 + 1, none⟩ = some (.int .i64 ln) ∧ w.cell? ⟨fr, q * 4 + 2, none⟩ = some (.slice pA fl[q].2.length pc) ∧ w.cell? ⟨fr, q * 4 + 3, none⟩ = some (.slice bA bn bc) := fun q hq => by
    obtain ⟨r, pA, pc, bA, bn, bc, ln, hA, hr, e0, e1, e2, e3⟩ := hF.2 q _ (List.getElem?_eq_getElem hq)
    injection hA with hA
    injection hA with hA
    subst hA
    exact ⟨pA, pc, bA, bn, bc, ln, e0, e1, e2, e3⟩
  refine ⟨fun q => match w.cell? ⟨fr, q * 4, none⟩ with | some (.string s) => s | _ => ⟨#[]⟩, fun q => match w.cell? ⟨fr, q * 4 + 1, none⟩ with | some (.int .i64 z) => z | _ => 0,
    fun q => match w.cell? ⟨fr, q * 4 + 2, none⟩ with | some (.slice a _ _) => a | _ => none, fun q => match w.cell? ⟨fr, q * 4 + 2, none⟩ with | some (.slice _ n _) => n | _ => 0, fun q => match w.cell? ⟨fr, q * 4 + 2, none⟩ with | some (.slice _ _ c) => c | _ => 0,
    fun q => match w.cell? ⟨fr, q * 4 + 3, none⟩ with | some (.slice a _ _) => a | _ => none, fun q => match w.cell? ⟨fr, q * 4 + 3, none⟩ with | some (.slice _ n _) => n | _ => 0, fun q => match w.cell? ⟨fr, q * 4 + 3, none⟩ with | some (.slice _ _ c) => c | _ => 0, fun q hq => ?_, fun q hq => ?_, fun q hq => ?_, fun q hq => ?_, fun q hq => ?_⟩
  all_goals obtain ⟨pA, pc, bA, bn, bc, ln, e0, e1, e2, e3⟩ := key q hq
  · simp only [e0]
  · simp only [e1]
  · simp only [e2]
  · simp only [e3]
  · exact ⟨_, List.getElem_mem hq, by simp only [e0], by simp only [e2]⟩
/-- A function chosen. -/
def CallPre (w : World) (m g : Nat) (l : List Nat) (E : Env) (bud : Int) (v : Value) (wc : World) : Prop :=
  ∃ b5 f pA pc bA bn bc, ∃ ln : Int, v = .pointer (some ⟨b5, 0, none⟩) ∧ f ∈ E.funs ∧ wc.heap[b5]? = some (.cells #[.string f.1, .int .i64 ln, .slice pA f.2.length pc, .slice bA bn bc] 64 (0, 0)) ∧ w.heap.size < b5 ∧ GS wc m g l E bud ∧ w.grownBy wc (some g) ∧
    wc.heap[w.heap.size]? = some (.cells #[.int .i64 0, .int .i64 0, .int .i64 0, .int .i64 0, .string { data := #[] }, .slice none 0 0] 90 (0, 0))
/-- A call under way. -/
structure CallSt (w : World) (m g : Nat) (l : List Nat) (E : Env) (bud : Int) (b5 : Nat) (row : Array Value) (wc : World) : Prop where
  row5 : wc.heap[b5]? = some (.cells row 64 (0, 0))
  gs : GS wc m g l E bud
  grown : w.grownBy wc (some g)
  res : wc.heap[w.heap.size]? = some (.cells #[.int .i64 0, .int .i64 0, .int .i64 0, .int .i64 0, .string { data := #[] }, .slice none 0 0] 90 (0, 0))
theorem CallSt.step {w wc w2 : World} {m g b5 : Nat} {l : List Nat} {E : Env} {bud : Int} {row : Array Value} (h : CallSt w m g l E bud b5 row wc) (hb : b5 ≠ g) (hw : w.heap.size ≠ g) (h2 : GS w2 m g l E bud) (hg : wc.grownBy w2 (some g)) : CallSt w m g l E bud b5 row w2 :=
  ⟨blk_keep hg hb h.row5, h2, h.grown.trans hg, blk_keep hg hw h.res⟩
theorem GS.low {w0 w w' : World} {m g B : Nat} {l : List Nat} {E : Env} {bud : Int} (h : GS w0 m g l E bud) (h2 : GS w m g l E bud) (h1 : w0.grownBy w (some g)) (hb : Below B w w') (hB : w0.heap.size ≤ B) : GS w' m g l E bud ∧ w0.grownBy w' (some g) := by
  have hgr : w0.grownBy w' (some g) := grown_low h1 hb hB
  have hglt := h.glt
  refine ⟨⟨h.ne, h.mka.grown hgr h.ne, ?_, h.len, h.lb⟩, hgr⟩
  obtain ⟨k, hk⟩ := h2.co
  exact ⟨k, codes_low hk hb (by omega)⟩
theorem CallSt.low {w wc w2 : World} {m g b5 B : Nat} {l : List Nat} {E : Env} {bud : Int} {row : Array Value} (h : CallSt w m g l E bud b5 row wc) (h0 : GS w m g l E bud) (hb : Below B wc w2) (h5 : b5 < B) (hw : w.heap.size < B) : CallSt w m g l E bud b5 row w2 :=
  have hh := h0.low h.gs h.grown hb (by omega)
  ⟨(hb.block _ h5).trans h.row5, hh.1, hh.2, (hb.block _ hw).trans h.res⟩
/-- The operands of a call under way. -/
def CallRel (w : World) (m g : Nat) (l : List Nat) (E : Env) (bud : Int) (d b5 : Nat) (row : Array Value) (base n : Nat) (v i : Value) (wr : World) : Prop :=
  ∃ (k : Nat) (xs : List Ex) (L : List Value), k ≤ n ∧ i = .int .i64 (k : Int) ∧ xs.length = k ∧ (∀ x ∈ xs, GE d x) ∧ ArgRow base (d + 1) wr v xs L ∧ CallSt w m g l E bud b5 row wr ∧ base ≤ wr.heap.size
/-- The value that is called, ahead of the last choice. -/
def CallTail (w : World) (m g : Nat) (l : List Nat) (E : Env) (bud : Int) (d b5 : Nat) (row : Array Value) (base G : Nat) (va : Value) (xs : List Ex) (L : List Value) (v : Value) (wd : World) : Prop :=
  ∃ x k o a lf s A n c, v = .pointer (some ⟨G, 0, none⟩) ∧ wd.heap[G]? = some (.cells #[.int .i64 k, .int .i64 o, .int .i64 a, .int .i64 lf, .string s, .slice A n c] 90 (0, 0)) ∧ GE d x ∧
    ExV (fun b => G < b ∧ b < wd.heap.size) wd (d + 1) x (.agg #[.int .i64 k, .int .i64 o, .int .i64 a, .int .i64 lf, .string s, .slice A n c]) ∧ CallSt w m g l E bud b5 row wd ∧ ArgRow base (d + 1) wd va xs L
theorem ge_name {d : Nat} {x : Ex} {F : Nat → Prop} {w : World} {o a lf : Int} {s : ByteArray} {A : Option Addr} {n c : Nat} (h : GE d x) (hx : ExV F w (d + 1) x (.agg #[.int .i64 13, .int .i64 o, .int .i64 a, .int .i64 lf, .string s, .slice A n c])) : GoodN s := by
  match x, h, hx with
  | .mk k' o' a' l' s' xs, h, ⟨A', c', hv, _⟩ =>
    injection hv with hv
    injection hv with hv
    injection hv with h0 hv
    injection h0 with _ h0
    injection hv with _ hv
    injection hv with _ hv
    injection hv with _ hv
    injection hv with h4 _
    injection h4 with h4
    subst h0 h4
    cases d with
    | zero =>
      obtain ⟨_, _, _, _, _, _, _, hk⟩ := h
      rcases hk with hk | ⟨_, hk⟩ | hk | ⟨hk, _⟩
      · cases hk
      · exact hk
      · cases hk
      · cases hk
    | succ d =>
      obtain ⟨_, _, _, _, _, _, hk⟩ := h
      rcases hk with ⟨_, hk⟩ | ⟨_, hk⟩
      · rcases hk with hk | ⟨_, hk⟩ | hk | ⟨hk, _⟩
        · cases hk
        · exact hk
        · cases hk
        · cases hk
      · omega
set_option maxRecDepth 100000 in
set_option maxHeartbeats 2000000 in
theorem call_step (m g : Nat) (l : List Nat) (E : Env) (bud : Int) (d : Nat) (hd : d ≤ 5) (hE : EnvOk E) (ihE : ExprCt m g l E bud d) : CallCt m g l E bud d := by
  intro w z hz h
  have Hgs := Lib.hid h
  have HE := Lib.hid hE
  have hglt := h.glt
  have hmlt := h.mka.lt
  have hmg := h.ne
  have hgs0 := h.below ((Below.refl _ w).alloc (Nat.le_refl _) (.cells #[.int .i64 0, .int .i64 0, .int .i64 0, .int .i64 0, .string { data := #[] }, .slice none 0 0] 90))
  obtain ⟨_, _, fA, fc, _, _, c0, z1, c2, z3, z4, z5, z6, z7⟩ := hgs0.cells
  obtain ⟨fr, _, _, _, _, _, _, rfl, hrg, z8⟩ := z6.2 0 _ (List.getElem?_eq_getElem hE.fn.1)
  obtain ⟨sn, ln, pA, np, pc, bA, bn, bc, f0, f1, f2, f3, hff⟩ := funs_fn z6
  have hfc := z6.1
  have hfn := hE.fn
  obtain ⟨nf, hnf⟩ : ∃ nf, nf = E.funs.length := ⟨_, rfl⟩
  have Hnf := Lib.hid hnf
  rw [← hnf] at c2 hfc hfn f0 f1 f2 f3 hff
  have Hff := Lib.hid hff
  clear z1 z3 z4 z5 z6 z7 z8 hnf hff
  have Hgs0 := Lib.hid hgs0
  have hz1 : 1 ≤ z := by omega
  have hz6 : z ≤ 6 := by omega
  have Hz := Lib.hid hz
  have IHE := Lib.hid ihE
  have HB0 := Lib.hid (heap_alloc_new w (.cells #[.int .i64 0, .int .i64 0, .int .i64 0, .int .i64 0, .string { data := #[] }, .slice none 0 0] 90))
  have Hg00 := Lib.hid (World.grownBy_alloc w (.cells #[.int .i64 0, .int .i64 0, .int .i64 0, .int .i64 0, .string { data := #[] }, .slice none 0 0] 90) (some g))
  clear hgs0 h hE hz ihE
  have hw0 : w.heap.size < (w.alloc (.cells #[.int .i64 0, .int .i64 0, .int .i64 0, .int .i64 0, .string { data := #[] }, .slice none 0 0] 90)).heap.size := by simp
  go_enter Tryz.func60, Tryz.ntmps60
  go_upto_region 1 with fail
  generalize w.alloc (.cells #[.int .i64 0, .int .i64 0, .int .i64 0, .int .i64 0, .string { data := #[] }, .slice none 0 0] 90) = W0 at *
  go_cut [5] from 11 (fun v wc => CallPre w m g l E bud v wc)
  case first =>
    have HNX : Hid (∀ W, GS W m g l E bud → Calls Tryz.prog 20 #[.pointer (some ⟨g, 0, none⟩), .int .i64 (nf : Int)] W (NextG m g l E bud nf W)) := Lib.hid (fun W hW => next_gs nf nf hW rfl (by omega))
    have hS0 : W0.drew.cell? ⟨m, 0, none⟩ = some (.pointer (some ⟨g, 0, none⟩)) ∧ W0.drew.cell? ⟨m, 2, none⟩ = some (.slice (some ⟨fr, 0, none⟩) nf fc) ∧ (∀ q, q < nf → W0.drew.cell? ⟨fr, q * 4, none⟩ = some (.string (sn q))) ∧ (∀ q, q < nf → W0.drew.cell? ⟨fr, q * 4 + 1, none⟩ = some (.int .i64 (ln q))) ∧ (∀ q, q < nf → W0.drew.cell? ⟨fr, q * 4 + 2, none⟩ = some (.slice (pA q) (np q) (pc q))) ∧ (∀ q, q < nf → W0.drew.cell? ⟨fr, q * 4 + 3, none⟩ = some (.slice (bA q) (bn q) (bc q))) ∧ GS W0.drew m g l E bud ∧ W0.grownBy W0.drew (some g) := ⟨c0, c2, f0, f1, f2, f3, Hgs0.out.below (Below.refl _ W0).drew, grown_of_below (Below.refl _ W0).drew _⟩
    have hS0a : W0.cell? ⟨m, 0, none⟩ = some (.pointer (some ⟨g, 0, none⟩)) ∧ W0.cell? ⟨m, 2, none⟩ = some (.slice (some ⟨fr, 0, none⟩) nf fc) ∧ (∀ q, q < nf → W0.cell? ⟨fr, q * 4, none⟩ = some (.string (sn q))) ∧ (∀ q, q < nf → W0.cell? ⟨fr, q * 4 + 1, none⟩ = some (.int .i64 (ln q))) ∧ (∀ q, q < nf → W0.cell? ⟨fr, q * 4 + 2, none⟩ = some (.slice (pA q) (np q) (pc q))) ∧ (∀ q, q < nf → W0.cell? ⟨fr, q * 4 + 3, none⟩ = some (.slice (bA q) (bn q) (bc q))) ∧ GS W0 m g l E bud ∧ W0.grownBy W0 (some g) := ⟨c0, c2, f0, f1, f2, f3, Hgs0.out, grown_of_below (Below.refl _ W0) _⟩
    have hb0a : (W0.alloc (.cells #[.string { data := #[] }, .int .i64 0, .slice none 0 0, .slice none 0 0] 64)).drew.heap[W0.heap.size]? = some (.cells #[.string { data := #[] }, .int .i64 0, .slice none 0 0, .slice none 0 0] 64 (0, 0)) := heap_alloc_new W0 _
    have hg0ne : W0.heap.size ≠ g := by have := Hgs0.out.glt; omega
    have hm0ne : m ≠ W0.heap.size := by have := Hgs0.out.mka.lt; omega
    have hf0ne : fr ≠ W0.heap.size := by have hh : fr < W0.heap.size := World.block_lt_of_cell? _ _ (f0 0 (by omega)); omega
    clear f0 f1 f2 f3
    go_region_held3 (fun w' => w'.cell? ⟨m, 0, none⟩ = some (.pointer (some ⟨g, 0, none⟩)) ∧ w'.cell? ⟨m, 2, none⟩ = some (.slice (some ⟨fr, 0, none⟩) nf fc) ∧ (∀ q, q < nf → w'.cell? ⟨fr, q * 4, none⟩ = some (.string (sn q))) ∧ (∀ q, q < nf → w'.cell? ⟨fr, q * 4 + 1, none⟩ = some (.int .i64 (ln q))) ∧ (∀ q, q < nf → w'.cell? ⟨fr, q * 4 + 2, none⟩ = some (.slice (pA q) (np q) (pc q))) ∧ (∀ q, q < nf → w'.cell? ⟨fr, q * 4 + 3, none⟩ = some (.slice (bA q) (bn q) (bc q))) ∧ GS w' m g l E bud ∧ W0.grownBy w' (some g))
      (first | (with_reducible exact hS0) | (with_reducible exact hS2) | (with_reducible exact callS_adrew _ hS0a) | (with_reducible exact callS_alloc _ hS2) | (with_reducible exact callS_set4 Hgs0.out (Nat.le_refl _) hm0ne hf0ne hS2))
      (first | (go_at_call 20; (with_reducible refine (HNX.out _ ?_).mono ?_); (go_split_ands; assumption); rintro e w2 ⟨q, rfl, hq1, _, hgs2, hg2⟩; have hq : q < nf := (hq1 (by omega)); have hS2 := callS_call hrg hgs2 hg2 (by assumption : _); (try (have hblk := blk_keep hg2 hg0ne hb0a; have kk0 := cell_of_row _ _ 0 _ _ _ hblk; have kk1 := cell_of_row _ _ 1 _ _ _ hblk; have kk2 := cell_of_row _ _ 2 _ _ _ hblk; have kk3 := cell_of_row _ _ 3 _ _ _ hblk; have kf0 := codes_frozen hblk 0; have kf1 := codes_frozen hblk 1; have kf2 := codes_frozen hblk 2; have kf3 := codes_frozen hblk 3; have HBL := Lib.hid hblk; clear hblk)); clear hq1 hgs2))
    all_goals
      rename_i hH
      obtain ⟨f, hf, hs, hn⟩ := Hff.out q hq
      have hgr := hH.2.2.2.2.2.2.2
      have hHB := blk_keep hgr (by omega) HB0.out
    · have hres : CallPre w m g l E bud (.pointer (some ⟨w2.heap.size, 0, none⟩)) (w2.alloc (.cells #[.string (sn q), .int .i64 (ln q), .slice (pA q) (np q) (pc q), .slice (bA q) (bn q) (bc q)] 64)) :=
        ⟨w2.heap.size, f, pA q, pc q, bA q, bn q, bc q, ln q, rfl, hf, by rw [← hs, ← hn]; exact heap_alloc_new w2 _, by have := hg2.size; simp at this; omega, hH.2.2.2.2.2.2.1, Hg00.out.trans hgr, hHB⟩
      have HRES := Lib.hid hres
      clear hres hH hgr hHB hf hs hn
      go_wp2_with fail
      go_meet
      case rel => exact HRES.out
    · have hrow4 := row_set4 (.string (sn q)) (.int .i64 (ln q)) (.slice (pA q) (np q) (pc q)) (.slice (bA q) (bn q) (bc q)) HBL.out
      generalize ((((w2.setCell ⟨W0.heap.size, 0, none⟩ (.string (sn q))).setCell ⟨W0.heap.size, 1, none⟩ (.int .i64 (ln q))).setCell ⟨W0.heap.size, 2, none⟩ (.slice (pA q) (np q) (pc q))).setCell ⟨W0.heap.size, 3, none⟩ (.slice (bA q) (bn q) (bc q))) = w3 at *
      have hres : CallPre w m g l E bud (.pointer (some ⟨W0.heap.size, 0, none⟩)) w3 :=
        ⟨W0.heap.size, f, pA q, pc q, bA q, bn q, bc q, ln q, rfl, hf, by rw [← hs, ← hn]; exact hrow4, hw0, hH.2.2.2.2.2.2.1, Hg00.out.trans hgr, hHB⟩
      have HRES := Lib.hid hres
      clear hres hH hgr hHB hf hs hn hrow4
      go_wp2_with fail
      go_meet
      case rel => exact HRES.out
  case rest =>
    clear f0 f1 f2 f3 c0 c2
    obtain ⟨b5, f, pA, pc, bA, bn, bc, ln, rfl, hf, hrow, hb5, hgs, hg, hHB⟩ := hcut
    have hst : CallSt w m g l E bud b5 #[.string f.1, .int .i64 ln, .slice pA f.2.length pc, .slice bA bn bc] wc := ⟨hrow, hgs, hg, hHB⟩
    have Hst := Lib.hid hst
    have hf2 := (HE.out.fs f hf).2.1
    have hf1 := Lib.hid (HE.out.fs f hf).1
    obtain ⟨np, hnp⟩ : ∃ np, np = f.2.length := ⟨_, rfl⟩
    rw [← hnp] at hf2 hst Hst hrow
    have k2 := cell_of_row _ _ 2 _ _ _ hrow
    obtain ⟨_, _, _, _, _, _, x0, z1, z2, z3, z4, z5, z6, z7⟩ := hgs.cells
    have hn3 := Lib.hid (next_gs 3 3 hgs rfl (by omega))
    have hbg : b5 ≠ g := by omega
    have hwg : w.heap.size ≠ g := by omega
    generalize f.1 = fname at *
    clear z1 z2 z3 z4 z5 z6 z7 hrow hgs hg hHB hst hf hnp
    go_wp2_with fail
    refine hn3.out.mono ?_
    rintro e w3 ⟨q3, rfl, _, _, hgs3, hg3⟩
    have Hst3 := Lib.hid (Hst.out.step hbg hwg hgs3 hg3)
    obtain ⟨_, _, _, _, _, _, y0, z1, z2, z3, z4, z5, z6, z7⟩ := hgs3.cells
    clear z1 z2 z3 z4 z5 z6 z7 hgs3 hg3 hn3 x0 k2
    go_upto_region 4 with fail
    generalize ((q3 : Int) == 2) = val at *
    go_cut [46] from 11 (fun v wd => ∃ b : Bool, v = .bool b ∧ CallSt w m g l E bud b5 #[.string fname, .int .i64 ln, .slice pA np pc, .slice bA bn bc] wd)
    case first =>
      cases val with
      | false =>
        go_wp2_with fail
        go_meet
        case rel => exact ⟨_, rfl, Hst3.out⟩
      | true =>
        have hn8 := Lib.hid (next_gs 8 8 Hst3.out.gs rfl (by omega))
        go_wp2_with fail
        refine hn8.out.mono ?_
        rintro e w4 ⟨q4, rfl, _, _, hgs4, hg4⟩
        have Hst4 := Lib.hid (Hst3.out.step hbg hwg hgs4 hg4)
        clear hgs4 hg4 hn8
        go_wp2_with fail
        go_meet
        case rel => exact ⟨_, rfl, Hst4.out⟩
    case rest =>
      obtain ⟨vb, rfl, hst⟩ := hcut
      have Hst4 := Lib.hid hst
      obtain ⟨_, _, _, _, _, _, x0, z1, z2, z3, z4, z5, z6, z7⟩ := hst.gs.cells
      clear z1 z2 z3 z4 z5 z6 z7 hst y0
      go_upto_if 46 with fail
      go_cut [6] from 11 (fun v wd => ∃ n : Nat, v = .int .i64 (n : Int) ∧ n ≤ 2 ∧ CallSt w m g l E bud b5 #[.string fname, .int .i64 ln, .slice pA np pc, .slice bA bn bc] wd)
      case first =>
        cases vb with
        | false =>
          go_wp2_with fail
          go_meet
          case rel => exact ⟨np, rfl, hf2, Hst4.out⟩
        | true =>
          have hn5 := Lib.hid (next_gs 3 3 Hst4.out.gs rfl (by omega))
          go_wp2_with fail
          refine hn5.out.mono ?_
          rintro e w5 ⟨q5, rfl, hq5, _, hgs5, hg5⟩
          have Hst5 := Lib.hid (Hst4.out.step hbg hwg hgs5 hg5)
          have hq52 := hq5 (by omega)
          clear hgs5 hg5 hn5 hq5
          go_wp2_with fail
          go_meet
          case rel => exact ⟨q5, rfl, by omega, Hst5.out⟩
      case rest =>
        obtain ⟨n, rfl, hn2, hst⟩ := hcut
        have Hst5 := Lib.hid hst
        have h5w := (Array.getElem?_eq_some_iff.1 hst.row5).1
        have hww := (Array.getElem?_eq_some_iff.1 hst.res).1
        clear hst
        go_wp2_with fail
        go_loopw [8, 9] (fun v i wr => CallRel w m g l E bud d b5 #[.string fname, .int .i64 ln, .slice pA np pc, .slice bA bn bc] wc.heap.size n v i wr) (fun _ i _ => n - (intOf i).toNat)
        case atStart => exact ⟨0, [], [], Nat.zero_le _, rfl, rfl, by simp, ArgRow.nil _ _ _, Hst5.out, Nat.le_refl _⟩
        case round =>
          obtain ⟨k, xs, L, hk, rfl, hxk, hge, har, hst, hsz⟩ := hrel
          have Hxk := Lib.hid hxk
          have Hge := Lib.hid hge
          have Har := Lib.hid har
          have Hst6 := Lib.hid hst
          clear hxk hge har hst
          by_cases hlt : k < n
          · have hih := Lib.hid (IHE.out wr (z - 1) (by have := Hz.out; omega) Hst6.out.gs)
            go_wp2_with fail
            refine hih.out.mono ?_
            rintro e w7 ⟨x, v, rfl, hge, hx, hgs7, hg7⟩
            obtain ⟨kk, o, a, lf, s, A, nn, c, rfl, _⟩ := exV_agg hx
            have Har7 := Lib.hid (Har.out.grown hg7 (by omega))
            have Hst7 := Lib.hid (Hst6.out.step hbg hwg hgs7 hg7)
            have HX := Lib.hid hx
            have HG := Lib.hid hge
            have hsz7 := hg7.size
            have HF : Hid (∀ b, (wr.heap.size ≤ b ∧ b < w7.heap.size) → wc.heap.size ≤ b ∧ b < w7.heap.size ∧ u8.ownBlock ≠ some b) := Lib.hid (fun b hb => ⟨by omega, hb.2, fun e => by have := (Har.out.own.lt b e).2; omega⟩)
            clear hih hge hx hgs7 hg7
            go_wp2_with (at_builtin; refine Pause.out ?_)
            refine Pause.of (wpList_append_ex w7 rfl (.tmp 57) (.tmp 62) rfl wc.heap.size (d + 1) _ xs L x _ _ _ _ _ _ _ _ _ rfl rfl Har7.out (by rw [Hxk.out]; omega) (by omega) HX.out HF.out ?_)
            intro g8 cap8 w8 har8 hg8
            have hsz8 := hg8.size
            have hst8 := Hst7.out.low Hgs.out (grown_any hg8 (fun k hk => (Har7.out.own.lt k hk).1) (by omega)) h5w hww
            have hr : CallRel w m g l E bud d b5 #[.string fname, .int .i64 ln, .slice pA np pc, .slice bA bn bc] wc.heap.size n (.slice (some ⟨g8, 0, none⟩) (xs.length + 1) cap8) (.int .i64 ((k : Int) + 1)) w8 :=
              ⟨k + 1, xs ++ [x], _, by omega, by go_num, by simp [Hxk.out], fun y hy => by
                rcases List.mem_append.1 hy with h | h
                · exact Hge.out y h
                · simp at h
                  subst h
                  exact HG.out, har8, hst8, by omega⟩
            have Hr := Lib.hid hr
            clear hr hst8 har8 hg8
            go_wp2_with fail
            exact ⟨Hr.out, by simp [intOf]; omega⟩
          · obtain rfl : k = n := by omega
            obtain ⟨aA, aC, rfl⟩ := own_shape Har.out.own
            have kf := cell_of_row _ _ 0 _ _ _ Hst6.out.row5
            have hrow := Har.out.row
            rw [Hxk.out] at hrow
            cases val with
            | false =>
              have Hgs1 := Lib.hid Hst6.out.gs
              have Hg01 := Lib.hid Hst6.out.grown
              have HB := Lib.hid Hst6.out.res
              have HX : Hid (ExV (fun b => wc.heap.size ≤ b ∧ b < wr.heap.size) wr (d + 2) (.mk 9 0 0 0 fname xs) (.agg #[.int .i64 9, .int .i64 0, .int .i64 0, .int .i64 0, .string fname, .slice aA k aC])) := Lib.hid ⟨aA, aC, by rw [Hxk.out], hrow.2⟩
              have HF : Hid (∀ b, (wc.heap.size ≤ b ∧ b < wr.heap.size) → w.heap.size < b ∧ b < wr.heap.size) := Lib.hid (fun b hb => ⟨by omega, hb.2⟩)
              have HGE : Hid (GE (d + 1) (.mk 9 0 0 0 fname xs)) := Lib.hid ⟨rfl, by decide, by decide, by decide, by decide, hf1.out.1, .inr ⟨Hge.out, by simp [hf1.out, Hxk.out]; exact hn2⟩⟩
              clear hrow
              go_wp2_with (with_reducible refine wpList_pause_store ?_)
              refine Pause.of (wpList_store_new _ rfl _ _ _ rfl w.heap.size _ rfl (by rfl) _ _ HB.out (by kernel_rfl) (by rfl) (by simp [Value.oneCell']) ?_)
              intro w9 hrow hg9
              have H2 := Hgs.out.own Hgs1.out Hg01.out (Nat.le_refl _) hg9
              have HY := Lib.hid (exV_end HX.out HF.out hg9)
              have k0 := cell_of_row _ _ 0 _ _ _ hrow
              have k1 := cell_of_row _ _ 1 _ _ _ hrow
              have k2 := cell_of_row _ _ 2 _ _ _ hrow
              have k3 := cell_of_row _ _ 3 _ _ _ hrow
              have k4 := cell_of_row _ _ 4 _ _ _ hrow
              have k5 := cell_of_row _ _ 5 _ _ _ hrow
              have HH := Lib.hid H2
              clear hrow hg9 H2 HX HF
              go_wp2_with fail
              refine bodyPost_ret ?_ rfl ⟨_, _, rfl, HGE.out, HY.out, HH.out.1, HH.out.2⟩
              simp [results, Tryz.results60, go_sem, k0, k1, k2, k3, k4, k5]
              exact Hxk.out
            | true =>
              have hlow := (Below.refl _ wr).alloc (Nat.le_refl _) (.cells #[.int .i64 11, .int .i64 0, .int .i64 0, .int .i64 0, .string fname, .slice none 0 0] 90)
              have hst7 := Hst6.out.low Hgs.out (hlow.mono hsz) h5w hww
              have har7 : ArgRow wc.heap.size (d + 1) (wr.alloc (.cells #[.int .i64 11, .int .i64 0, .int .i64 0, .int .i64 0, .string fname, .slice none 0 0] 90)) (.slice aA xs.length aC) xs L := Har.out.grown (World.grownBy_alloc wr _ (some g)) (by omega)
              obtain ⟨_, _, _, _, _, _, x7, z1, z2, z3, z4, z5, z6, z7⟩ := hst7.gs.cells
              have hn4 := Lib.hid (next_gs 4 4 hst7.gs rfl (by omega))
              have Hst7 := Lib.hid hst7
              have Har7 := Lib.hid har7
              clear z1 z2 z3 z4 z5 z6 z7 hlow hst7 har7 hrow
              go_wp2_with fail
              refine hn4.out.mono ?_
              rintro e w8 ⟨q8, rfl, hq8, _, hgs8, hg8⟩
              have Hst8 := Lib.hid (Hst7.out.step hbg hwg hgs8 hg8)
              have Har8 := Lib.hid (Har7.out.grown hg8 (by omega))
              have Hgr8 := Lib.hid ((World.grownBy_alloc wr (.cells #[.int .i64 11, .int .i64 0, .int .i64 0, .int .i64 0, .string fname, .slice none 0 0] 90) (some g)).trans hg8)
              have HG8 := Lib.hid (blk_keep hg8 (by omega) (heap_alloc_new wr (.cells #[.int .i64 11, .int .i64 0, .int .i64 0, .int .i64 0, .string fname, .slice none 0 0] 90)))
              clear hn4 hgs8 hg8 hq8 x7
              go_upto_if 78 with fail
              go_cut [10] from 11 (fun v wd => CallTail w m g l E bud d b5 #[.string fname, .int .i64 ln, .slice pA np pc, .slice bA bn bc] wc.heap.size wr.heap.size (.slice aA xs.length aC) xs L v wd)
              case first =>
                by_cases hq : q8 = 3
                · subst hq
                  have hih := Lib.hid (IHE.out w8 (z - 1) (by have := Hz.out; omega) Hst8.out.gs)
                  go_wp2_with fail
                  refine hih.out.mono ?_
                  rintro e w9 ⟨x, v, rfl, hge, hx, hgs9, hg9⟩
                  obtain ⟨kk, o, a, lf, s, A, nn, c, rfl, _⟩ := exV_agg hx
                  have hG8 := (Array.getElem?_eq_some_iff.1 HG8.out).1
                  have Hst9 := Lib.hid (Hst8.out.step hbg hwg hgs9 hg9)
                  have Hgr9 := Lib.hid (Hgr8.out.trans hg9)
                  have HG9 := Lib.hid (blk_keep hg9 (by omega) HG8.out)
                  have HX := Lib.hid hx
                  have HGe := Lib.hid hge
                  clear hih hge hx hgs9 hg9
                  go_wp2_with (with_reducible refine wpList_pause_store ?_)
                  refine Pause.of (wpList_store_new _ rfl _ _ _ rfl wr.heap.size _ rfl (by rfl) _ _ HG9.out (by kernel_rfl) (by rfl) (by simp [Value.oneCell']) ?_)
                  intro wt hrow hgt
                  have hbl : Below wr.heap.size w9 wt := grown_any hgt (fun k hk => by injection hk with hk; omega) (by have := (Array.getElem?_eq_some_iff.1 HG9.out).1; omega)
                  have hres : CallTail w m g l E bud d b5 #[.string fname, .int .i64 ln, .slice pA np pc, .slice bA bn bc] wc.heap.size wr.heap.size (.slice aA xs.length aC) xs L (.pointer (some ⟨wr.heap.size, 0, none⟩)) wt :=
                    ⟨x, kk, o, a, lf, s, A, nn, c, rfl, hrow, HGe.out, exV_grown HX.out (fun b hb => ⟨⟨by omega, Nat.lt_of_lt_of_le hb.2 hgt.size⟩, hb.2, by omega⟩) hgt, Hst9.out.low Hgs.out (hbl.mono hsz) h5w hww, Har.out.grown (grown_new Hgr9.out hgt (Nat.le_refl _)) (by omega)⟩
                  have HRES := Lib.hid hres
                  clear hres hrow hgt hbl hG8
                  go_wp2_with fail
                  go_meet
                  case rel => exact HRES.out
                · have hq : ((q8 : Int) == 3) = false := by simp; omega
                  have hG8 := (Array.getElem?_eq_some_iff.1 HG8.out).1
                  have hres : CallTail w m g l E bud d b5 #[.string fname, .int .i64 ln, .slice pA np pc, .slice bA bn bc] wc.heap.size wr.heap.size (.slice aA xs.length aC) xs L (.pointer (some ⟨wr.heap.size, 0, none⟩)) w8 :=
                    ⟨.mk 11 0 0 0 fname [], 11, 0, 0, 0, fname, none, 0, 0, rfl, HG8.out, ge_leaf (by decide) (by decide) hf1.out.1 (.inr (.inr (.inr ⟨rfl, hf1.out⟩))), exV_leaf, Hst8.out, Har8.out⟩
                  have HRES := Lib.hid hres
                  clear hres hG8
                  go_wp2_with fail
                  go_meet
                  case rel => exact HRES.out
              case rest =>
                obtain ⟨x, kk, o, a, lf, s, A, nn, c, rfl, hrow, hge, hx, hst, har⟩ := hcut
                have hGw := (Array.getElem?_eq_some_iff.1 hrow).1
                have kg0 := cell_of_row _ _ 0 _ _ _ hrow
                have kg1 := cell_of_row _ _ 1 _ _ _ hrow
                have kg2 := cell_of_row _ _ 2 _ _ _ hrow
                have kg3 := cell_of_row _ _ 3 _ _ _ hrow
                have kg4 := cell_of_row _ _ 4 _ _ _ hrow
                have kg5 := cell_of_row _ _ 5 _ _ _ hrow
                have HGe := Lib.hid hge
                have HX0 := Lib.hid hx
                have Hst9 := Lib.hid hst
                have Har9 := Lib.hid har
                have h5c := (Array.getElem?_eq_some_iff.1 hst.row5).1
                have hwc := (Array.getElem?_eq_some_iff.1 hst.res).1
                clear hrow hge hx hst har kf
                by_cases h13 : kk = 13
                · subst h13
                  have hsn := ge_name HGe.out HX0.out
                  have Hgs1 := Lib.hid Hst9.out.gs
                  have Hg01 := Lib.hid Hst9.out.grown
                  have HB := Lib.hid Hst9.out.res
                  have HX : Hid (ExV (fun b => w.heap.size < b ∧ b < wc.heap.size) wc (d + 2) (.mk 9 0 0 0 s xs) (.agg #[.int .i64 9, .int .i64 0, .int .i64 0, .int .i64 0, .string s, .slice aA xs.length aC])) := Lib.hid ⟨aA, aC, rfl, Har9.out.row.2.keep (fun b hb => ⟨by omega, hb.2⟩) (fun _ _ => rfl)⟩
                  have HF : Hid (∀ b, (w.heap.size < b ∧ b < wc.heap.size) → w.heap.size < b ∧ b < wc.heap.size) := Lib.hid (fun b hb => hb)
                  have HGE : Hid (GE (d + 1) (.mk 9 0 0 0 s xs)) := Lib.hid ⟨rfl, by decide, by decide, by decide, by decide, hsn.1, .inr ⟨Hge.out, by simp [hsn, Hxk.out]; exact hn2⟩⟩
                  clear hsn
                  go_wp2_with (with_reducible refine wpList_pause_store ?_)
                  refine Pause.of (wpList_store_new _ rfl _ _ _ rfl w.heap.size _ rfl (by rfl) _ _ HB.out (by kernel_rfl) (by rfl) (by simp [Value.oneCell']) ?_)
                  intro w9 hrow hg9
                  have H2 := Hgs.out.own Hgs1.out Hg01.out (Nat.le_refl _) hg9
                  have HY := Lib.hid (exV_end HX.out HF.out hg9)
                  have k0 := cell_of_row _ _ 0 _ _ _ hrow
                  have k1 := cell_of_row _ _ 1 _ _ _ hrow
                  have k2 := cell_of_row _ _ 2 _ _ _ hrow
                  have k3 := cell_of_row _ _ 3 _ _ _ hrow
                  have k4 := cell_of_row _ _ 4 _ _ _ hrow
                  have k5 := cell_of_row _ _ 5 _ _ _ hrow
                  have HH := Lib.hid H2
                  clear hrow hg9 H2 HX HF
                  go_wp2_with fail
                  refine bodyPost_ret ?_ rfl ⟨_, _, rfl, HGE.out, HY.out, HH.out.1, HH.out.2⟩
                  simp [results, Tryz.results60, go_sem, k0, k1, k2, k3, k4, k5]
                · have h13b : (kk == 13) = false := by simpa using h13
                  have hF0 : Hid (∀ b, (wr.heap.size < b ∧ b < wc.heap.size) → _ ≤ b ∧ b < wc.heap.size) := Lib.hid (fun b hb => ⟨Nat.le_trans hsz (Nat.le_of_lt hb.1), hb.2⟩)
                  go_wp2_with (at_builtin; refine Pause.out ?_)
                  refine Pause.of (wpList_append_cons wc rfl (.tmp 91) (.tmp 92) rfl _ (d + 1) aA aC xs L x _ _ _ _ _ _ _ _ _ rfl rfl Har9.out (by rw [Hxk.out]; omega) (by omega) HX0.out hF0.out ?_)
                  intro A' c' wf hrow2 hb2
                  have hst10 := Hst9.out.low Hgs.out hb2 h5c hwc
                  have Hgs1 := Lib.hid hst10.gs
                  have Hg01 := Lib.hid hst10.grown
                  have HB := Lib.hid hst10.res
                  have HX : Hid (ExV (fun b => w.heap.size < b ∧ b < wf.heap.size) wf (d + 2) (.mk 10 0 0 0 ⟨#[]⟩ (x :: xs)) (.agg #[.int .i64 10, .int .i64 0, .int .i64 0, .int .i64 0, .string ⟨#[]⟩, .slice A' (1 + xs.length) c'])) := Lib.hid ⟨A', c', by rw [List.length_cons, Nat.add_comm], hrow2.keep (fun b hb => ⟨by omega, hb.2⟩) (fun _ _ => rfl)⟩
                  have HF : Hid (∀ b, (w.heap.size < b ∧ b < wf.heap.size) → w.heap.size < b ∧ b < wf.heap.size) := Lib.hid (fun b hb => hb)
                  have HGE : Hid (GE (d + 1) (.mk 10 0 0 0 ⟨#[]⟩ (x :: xs))) := Lib.hid ⟨rfl, by decide, by decide, by decide, by decide, by decide, .inr ⟨fun y hy => by
                    rcases List.mem_cons.1 hy with h | h
                    · subst h; exact HGe.out
                    · exact Hge.out y h, by simp [Hxk.out]; exact hn2⟩⟩
                  clear hst10 hrow2 hb2 kg0 kg1 kg2 kg3 kg4 kg5
                  go_wp2_with (with_reducible refine wpList_pause_store ?_)
                  refine Pause.of (wpList_store_new _ rfl _ _ _ rfl w.heap.size _ rfl (by rfl) _ _ HB.out (by kernel_rfl) (by rfl) (by simp [Value.oneCell']) ?_)
                  intro w9 hrow hg9
                  have H2 := Hgs.out.own Hgs1.out Hg01.out (Nat.le_refl _) hg9
                  have HY := Lib.hid (exV_end HX.out HF.out hg9)
                  have k0 := cell_of_row _ _ 0 _ _ _ hrow
                  have k1 := cell_of_row _ _ 1 _ _ _ hrow
                  have k2 := cell_of_row _ _ 2 _ _ _ hrow
                  have k3 := cell_of_row _ _ 3 _ _ _ hrow
                  have k4 := cell_of_row _ _ 4 _ _ _ hrow
                  have k5 := cell_of_row _ _ 5 _ _ _ hrow
                  have HH := Lib.hid H2
                  clear hrow hg9 H2 HX HF
                  go_wp2_with fail
                  refine bodyPost_ret ?_ rfl ⟨_, _, rfl, HGE.out, HY.out, HH.out.1, HH.out.2⟩
                  simp [results, Tryz.results60, go_sem, k0, k1, k2, k3, k4, k5]
end Go.Proofs.YtifabkoomojklaaGreatDoor
