/-
  The walk of ParseExpr. Conditions: the text has at most api.MaxSource bytes; the library's two errors lie where they were laid.
-/
import Derived.Test.YtdnaknpifinfdaaGreatDoorPsCall6
namespace Go.Proofs.YtdnaknpifinfdaaGreatDoor
open Go.RowKit

/-- A tree is handed back. -/
def ParsedG (x : Ex) (w : World) (e : Ending) (w' : World) : Prop := ∃ d k o a l nm A n c, e = .returned (.tuple #[.agg #[.int .i64 k, .int .i64 o, .int .i64 a, .int .i64 l, .string nm, .slice A n c], .int .i64 0, .int .i64 0]) ∧ Hid (ExV (fun q => w.heap.size ≤ q ∧ q < w'.heap.size) w' d x (.agg #[.int .i64 k, .int .i64 o, .int .i64 a, .int .i64 l, .string nm, .slice A n c])) ∧ Below w.heap.size w w'
/-- A text is refused. -/
def RefusedG (n : Nat) (w : World) (e : Ending) (w' : World) : Prop := e = .returned (.tuple #[.agg #[.int .i64 0, .int .i64 0, .int .i64 0, .int .i64 0, .string { data := #[] }, .slice none 0 0], .int .i64 (n : Int), .int .i64 7]) ∧ Below w.heap.size w w'
theorem pa_start {w : World} {base : Nat} {v : Value} {ts : List Tok} (hown : w.ownsRow base 59 4 v ts.length (tks ts)) (hwf : WFt ts) (hlen : ts.length ≤ 1000000) : ∃ g c, v = .slice (some ⟨g, 0, none⟩) ts.length c ∧ base ≤ g ∧ g < w.heap.size ∧ ∀ T : TypeId, PA (w.alloc (.cells #[v, .int .i64 0, .int .i64 0] T)) w.heap.size g ⟨ts, 0, 0⟩ := by
  have hpos := hwf.pos
  obtain ⟨g, c, hv, hb, hc, hg, _⟩ := own_lit hown (k := 0) (List.getElem?_eq_getElem hpos)
  refine ⟨g, c, hv, hb, hg, fun T => ⟨0, c, ts.length - 1, hwf, by omega, ?_, ?_, ?_, ⟨T, ?_⟩, fun k t hk => ?_⟩⟩
  · show ts.length = ts.length - 1 + 1
    omega
  · omega
  · omega
  · rw [heap_alloc_new, hv]
    have e : ts.length = ts.length - 1 + 1 := by omega
    rw [← e]
    rfl
  · obtain ⟨g', c', hv', _, _, _, h0, h1, h2, h3⟩ := own_lit hown hk
    rw [hv] at hv'
    injection hv' with e1 e2 e3
    injection e1 with e1
    injection e1 with e1
    subst e1
    have hb := (Below.refl _ w).alloc (Nat.le_refl _) (.cells #[v, .int .i64 0, .int .i64 0] T)
    have hT : TokAt w g (k * 4) t := ⟨h0, h1, h2, h3⟩
    rw [Nat.zero_add]
    exact hT.keep (hb.block g hg)
/-- A store of an expression that stands still. -/
theorem pause_ex {P : Program} {w : World} {ops : Array Oper} {rest : List Oper} {d : Option Tmp} {ty : TypeId} {x y : Operand} {pos : String} {af : Array Edge} {gd : Option (Nat × Bool)} {a : Act} {Q : Exit → Act → World → Prop}
    (h : Pause (wpList P ops Q ({ dst := d, op := .store 31 x y, type := ty, pos := pos, after := af, guard := gd } :: rest) a w)) : wpList P ops Q ({ dst := d, op := .store 31 x y, type := ty, pos := pos, after := af, guard := gd } :: rest) a w := h
set_option maxRecDepth 100000 in
set_option maxHeartbeats 2000000 in
theorem whole_ok (s : ByteArray) (w : World) (hs : s.size ≤ 65536) (he : Errs w) (ts : List Tok) (d : Nat) (x : Ex) (s' : PS) (h1 : scan 1 s.data.toList = .ok ts) (h2 : exprP d ⟨ts, 0, 0⟩ = some (x, s')) (h3 : (hdT s').kind = 0) (h4 : s'.ref = 0) (h5 : s'.out = 0) :
    Calls Tryz.prog 11 #[.string s, .func (.func 12) #[] #[]] w (ParsedG x w) := by
  have hb1 := (Below.refl _ w).alloc (Nat.le_refl _) (.cells #[.int .i64 0, .int .i64 0, .int .i64 0, .int .i64 0, .string { data := #[] }, .slice none 0 0] 31)
  have hz := heap_alloc_new w (.cells #[.int .i64 0, .int .i64 0, .int .i64 0, .int .i64 0, .string { data := #[] }, .slice none 0 0] 31)
  have hl : s.data.toList.length = s.size := by simp
  have hsc : scanT s.data.toList = .ok ts := by rw [scanT, if_neg (by omega), h1]
  have HSC := Lib.hid (scan_any s _ hs (he.below hb1))
  rw [hsc] at HSC
  have hts : ts.length ≤ 1000000 := by have := (scan_size _ _ _ _ (Nat.le_refl _) h1).2; omega
  have HWF := Lib.hid (wft_scan h1)
  have HP := Lib.hid h2
  have HK := Lib.hid h3
  have HF := Lib.hid h4
  have HO := Lib.hid h5
  have HB1 := Lib.hid hb1
  have HZ := Lib.hid hz
  clear hb1 hz hl hsc h1 h2 h3 h4 h5 he
  go_enter Tryz.func11, Tryz.ntmps11
  go_wp2_with fail
  refine HSC.out.mono ?_
  rintro e w2 ⟨v, rfl, hown, hb2⟩
  obtain ⟨g, c, hv, hbg, hgl, hpa⟩ := pa_start hown HWF.out hts
  have h3 := hpa 54
  have hb3 := (Below.refl _ w2).alloc (Nat.le_refl _) (.cells #[v, .int .i64 0, .int .i64 0] 54)
  have hb02 := below_next HB1.out (hb2.mono (by simp))
  have hz2 := (hb2.block _ (by simp)).trans HZ.out
  rw [hv] at h3 hb3
  have HC := Lib.hid (expr_any d _ _ _ _ _ _ h3 HP.out)
  have HB3 := Lib.hid (below_next hb02 hb3)
  have HZ3 := Lib.hid ((hb3.block _ (Array.getElem?_eq_some_iff.1 hz2).1).trans hz2)
  have hsz := hb02.size
  have hsz2 := (Array.getElem?_eq_some_iff.1 hz2).1
  subst hv
  clear HSC hown hb2 hpa h3 hb3 hb02 hz2
  go_wp2_with fail
  refine HC.out.mono ?_
  rintro e w4 ⟨b, rfl, hx, hp, hg, _⟩
  obtain ⟨_, dx, kx, ox, ax, lx, sx, Ax, nx, cx, rx, vx⟩ := hx
  have hp' := hp
  obtain ⟨off', c', n', hr⟩ := hp'
  have c1 := hr.cells.2.1
  have c2 := hr.cells.2.2.1
  rw [HF.out] at c1
  rw [HO.out] at c2
  have HEN := Lib.hid (ended_any _ hp)
  rw [show decide ((hdT s').kind = 0) = true from by rw [HK.out]; rfl] at HEN
  have a0 := cell_of_row _ _ 0 _ _ _ rx
  have a1 := cell_of_row _ _ 1 _ _ _ rx
  have a2 := cell_of_row _ _ 2 _ _ _ rx
  have a3 := cell_of_row _ _ 3 _ _ _ rx
  have a4 := cell_of_row _ _ 4 _ _ _ rx
  have a5 := cell_of_row _ _ 5 _ _ _ rx
  have hz4 := blk_keep hg (by omega) HZ3.out
  have HB4 := Lib.hid (HB3.out.trans (grown_any hg (fun k hk => by injection hk with hk; omega) (by have := HB3.out.size; omega)))
  have hsz4 := hg.size
  have hsz3 : (w2.alloc (.cells #[.slice (some ⟨g, 0, none⟩) ts.length c, .int .i64 0, .int .i64 0] 54)).heap.size = w2.heap.size + 1 := by simp
  have HZ4 := Lib.hid hz4
  have HV := Lib.hid vx
  have H3 := Lib.hid hsz3
  clear HC hp hr hg vx rx hz4 hsz3
  go_wp2_with fail
  refine HEN.out.mono ?_
  rintro e w4' ⟨rfl, rfl⟩
  clear HEN
  go_wp2_with (with_reducible refine pause_ex ?_)
  refine Pause.of (wpList_store_new _ rfl _ _ _ rfl _ _ rfl (by rfl) _ _ HZ4.out (by kernel_rfl) (by rfl) (by simp [Value.oneCell']) ?_)
  intro w5 hrow5 hg5
  have j0 := cell_of_row _ _ 0 _ _ _ hrow5
  have j1 := cell_of_row _ _ 1 _ _ _ hrow5
  have j2 := cell_of_row _ _ 2 _ _ _ hrow5
  have j3 := cell_of_row _ _ 3 _ _ _ hrow5
  have j4 := cell_of_row _ _ 4 _ _ _ hrow5
  have j5 := cell_of_row _ _ 5 _ _ _ hrow5
  have HH : Hid (ParsedG x w (.returned (.tuple #[.agg #[.int .i64 kx, .int .i64 ox, .int .i64 ax, .int .i64 lx, .string sx, .slice Ax nx cx], .int .i64 0, .int .i64 0])) w5) := Lib.hid ⟨dx, _, _, _, _, _, _, _, _, rfl, Lib.hid (HV.out.keep (fun q hq => ⟨by have := H3.out; omega, Nat.lt_of_lt_of_le hq.2 hg5.size⟩) (fun q hq => hg5.block q hq.2 (fun e => by injection e with e; have := H3.out; omega))), HB4.out.trans (grown_any hg5 (fun k hk => by injection hk with hk; omega) (by have := HB4.out.size; omega))⟩
  clear hrow5 hg5
  go_wp2_with fail
  exact bodyPost_ret (by simp [results, Tryz.results11, go_sem, j0, j1, j2, j3, j4, j5]) rfl HH.out
end Go.Proofs.YtdnaknpifinfdaaGreatDoor
