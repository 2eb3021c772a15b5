/-
  The walks of the parser's small methods: next, refuse. No condition.
-/
import Derived.Test.YtmpnkbhlagalkaaGreatDoorPsWalk
namespace Go.Proofs.YtmpnkbhlagalkaaGreatDoor
open Go.RowKit

def tokV (t : Tok) : Value := .agg #[.int .i64 (t.kind : Int), .int .i64 (t.line : Int), .int .i64 (t.value : Int), .string (nmB t.text)]
/-- A token is handed back, and the parser stands at s'. -/
def NextG (p tb : Nat) (t : Tok) (s' : PS) (w : World) (e : Ending) (w' : World) : Prop := e = .returned (tokV t) ∧ PA w' p tb s' ∧ w.grownBy w' (some p)
theorem PR.keep {w w' : World} {p tb off c n : Nat} {s : PS} (h : PR w p tb off c n s) (hp : w'.heap[p]? = w.heap[p]?) (ht : w'.heap[tb]? = w.heap[tb]?) : PR w' p tb off c n s := by
  obtain ⟨T, hr⟩ := h.row
  exact ⟨h.wf, h.ne, h.len, h.cap, h.sm, ⟨T, hp.trans hr⟩, fun k t hk => (h.tok k t hk).keep ht⟩
theorem PR.low {w w' : World} {p tb off c n B : Nat} {s : PS} (h : PR w p tb off c n s) (hb : Below B w w') (h1 : p < B) (h2 : tb < B) : PR w' p tb off c n s := h.keep (hb.block _ h1) (hb.block _ h2)
theorem set4g (w' : World) (b : Nat) (v0 v1 v2 v3 : Value) : w'.grownBy ((((w'.setCell ⟨b, 0, none⟩ v0).setCell ⟨b, 1, none⟩ v1).setCell ⟨b, 2, none⟩ v2).setCell ⟨b, 3, none⟩ v3) (some b) := (((set_grown w' ⟨b, 0, none⟩ v0).trans (set_grown _ ⟨b, 1, none⟩ v1)).trans (set_grown _ ⟨b, 2, none⟩ v2)).trans (set_grown _ ⟨b, 3, none⟩ v3)
theorem alloc2_new (w : World) (a o : Obj) : ((w.alloc a).alloc o).heap[w.heap.size + 1]? = some o := by
  have := heap_alloc_new (w.alloc a) o
  simpa using this
theorem alloc2_old (w : World) (a o : Obj) : ((w.alloc a).alloc o).heap[w.heap.size]? = some a := by
  have h1 := heap_alloc_new w a
  have h2 := ((Below.refl _ (w.alloc a)).alloc (Nat.le_refl _) o).block w.heap.size (by simp)
  exact h2.trans h1
/-- A store of a token that stands still. -/
theorem pause_tok {P : Program} {w : World} {ops : Array Oper} {rest : List Oper} {d : Option Tmp} {ty : TypeId} {x y : Operand} {pos : String} {af : Array Edge} {gd : Option (Nat × Bool)} {a : Act} {Q : Exit → Act → World → Prop}
    (h : Pause (wpList P ops Q ({ dst := d, op := .store 67 x y, type := ty, pos := pos, after := af, guard := gd } :: rest) a w)) : wpList P ops Q ({ dst := d, op := .store 67 x y, type := ty, pos := pos, after := af, guard := gd } :: rest) a w := h
theorem PR.slice {w : World} {p tb off c n off' c' n' : Nat} {s : PS} (h : PR w p tb off c n s) : ∃ T, (w.setCell ⟨p, 0, none⟩ (.slice (some ⟨tb, off', none⟩) n' c')).heap[p]? = some (.cells #[.slice (some ⟨tb, off', none⟩) n' c', .int .i64 (s.ref : Int), .int .i64 (s.out : Int)] T (0, 0)) := by
  obtain ⟨T, hr⟩ := h.row
  exact ⟨T, row_set _ hr⟩
set_option maxRecDepth 100000 in
set_option maxHeartbeats 1000000 in
theorem next_any {p tb : Nat} {s : PS} (w : World) (h : PA w p tb s) (h2 : 2 ≤ s.rest.length) :
    Calls Tryz.prog 25 #[.pointer (some ⟨p, 0, none⟩)] w (NextG p tb (hdT s) (popP s) w) := by
  obtain ⟨off, c, m, h⟩ := h
  obtain ⟨n, rfl⟩ : ∃ n, m = n + 1 := ⟨m - 1, by have := h.len; omega⟩
  have hcap := h.cap
  have hp := h.plt
  have ht := h.tlt
  have hb1 := (Below.refl _ w).alloc (Nat.le_refl _) (.cells #[.int .i64 0, .int .i64 0, .int .i64 0, .string { data := #[] }] 67)
  have hb2 := hb1.alloc (by simp) (.cells #[.int .i64 0, .int .i64 0, .int .i64 0, .string { data := #[] }] 67)
  have hR := alloc2_new w (.cells #[.int .i64 0, .int .i64 0, .int .i64 0, .string { data := #[] }] 67) (.cells #[.int .i64 0, .int .i64 0, .int .i64 0, .string { data := #[] }] 67)
  have hS := alloc2_old w (.cells #[.int .i64 0, .int .i64 0, .int .i64 0, .string { data := #[] }] 67) (.cells #[.int .i64 0, .int .i64 0, .int .i64 0, .string { data := #[] }] 67)
  have P1 := h.low hb1 hp ht
  have P2 := h.low hb2 hp ht
  have a0 := P1.cells.1
  obtain ⟨k0, k1, k2, k3⟩ := P1.hd
  have HR := Lib.hid hR
  have HS := Lib.hid hS
  have HB2 := Lib.hid hb2
  have HP := Lib.hid h
  have HP2 := Lib.hid P2
  clear P1 P2 hR hS hb1 hb2 h h2
  go_enter Tryz.func25, Tryz.ntmps25
  go_wp2_with (with_reducible refine wpList_pause_store ?_)
  refine Pause.of (wpList_store_new _ rfl _ _ _ rfl _ _ rfl (by rfl) _ _ HR.out (by kernel_rfl) (by rfl) (by simp [Value.oneCell']) ?_)
  intro w3 hrow hg
  have hb3 := HB2.out.trans (grown_any hg (fun k hk => by injection hk with hk; omega) (by simp <;> omega) : Below w.heap.size _ w3)
  have P3 := HP.out.low hb3 hp ht
  have c0 := P3.cells.1
  have fz := P3.cells.2.2.2 0
  have hg4 := set_grown w3 ⟨p, 0, none⟩ (.slice (some ⟨tb, off + 4, none⟩) (n + 1) (c - 1))
  have P4 := P3.pop (P3.slice (off' := off + 4) (n' := n + 1) (c' := c - 1)) (hg4.block tb P3.tlt (fun e => by injection e with e; exact P3.ne e))
  have hrow4 := blk_keep hg4 (by simp; omega) hrow
  have r0 := cell_of_row _ _ 0 _ _ _ hrow4
  have r1 := cell_of_row _ _ 1 _ _ _ hrow4
  have r2 := cell_of_row _ _ 2 _ _ _ hrow4
  have r3 := cell_of_row _ _ 3 _ _ _ hrow4
  have hZ := blk_keep hg4 (by simp; omega) ((hg.block w.heap.size (by simp <;> omega) (fun e => by injection e with e; omega)).trans HS.out)
  have HZ := Lib.hid hZ
  have HP4 := Lib.hid P4
  have HG4 := Lib.hid ((grown_of_below hb3 (some p)).trans hg4)
  have hsz3 := hb3.size
  clear hg hZ P3 P4 hg4 hb3 HP2 hrow hrow4
  go_wp2_with (with_reducible refine pause_tok ?_)
  refine Pause.of (wpList_store_new _ rfl _ _ _ rfl _ _ rfl (by rfl) _ _ HZ.out (by kernel_rfl) (by rfl) (by simp [Value.oneCell']) ?_)
  intro w5 hrow5 hg5
  have j0 := cell_of_row _ _ 0 _ _ _ hrow5
  have j1 := cell_of_row _ _ 1 _ _ _ hrow5
  have j2 := cell_of_row _ _ 2 _ _ _ hrow5
  have j3 := cell_of_row _ _ 3 _ _ _ hrow5
  have HH : Hid (NextG p tb (hdT s) (popP s) w (.returned (tokV (hdT s))) w5) := Lib.hid ⟨rfl, PA.other ⟨_, _, _, HP4.out⟩ hg5 (by omega) (by omega), grown_new HG4.out hg5 (Nat.le_refl _)⟩
  clear hrow5 hg5
  go_wp2_with fail
  exact bodyPost_ret (by simp [results, Tryz.results25, go_sem, tokV, j0, j1, j2, j3]) rfl HH.out
end Go.Proofs.YtmpnkbhlagalkaaGreatDoor
