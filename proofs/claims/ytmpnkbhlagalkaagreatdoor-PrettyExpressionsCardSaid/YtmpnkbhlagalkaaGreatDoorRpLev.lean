/-
  The walks of the reference reader's levels: operands with signs between them, given the walk of the operands. No condition.
-/
import Derived.Test.YtmpnkbhlagalkaaGreatDoorRpOp
import Derived.Test.YtmpnkbhlagalkaaGreatDoorPsUn
import Derived.Deep.RegionWith
namespace Go.Proofs.YtmpnkbhlagalkaaGreatDoor
open Go.RowKit

/-- A tree is handed back, and the reader stands at s'. -/
def XRG (p tb : Nat) (x : Ex) (s s' : RS) (w : World) (e : Ending) (w' : World) : Prop := ∃ d k o a l t A n c, e = .returned (.agg #[.int .i64 k, .int .i64 o, .int .i64 a, .int .i64 l, .string t, .slice A n c]) ∧
  ExV (fun q => w.heap.size ≤ q ∧ q < w'.heap.size) w' d x (.agg #[.int .i64 k, .int .i64 o, .int .i64 a, .int .i64 l, .string t, .slice A n c]) ∧ RA w' p tb s' ∧ w.grownBy w' (some p) ∧ s'.rest.length ≤ s.rest.length
/-- A method does on memory what the plain reader does. -/
def SubR (f : FuncId) (P : R1) : Prop := ∀ (p tb : Nat) (s s' : RS) (x : Ex) (w : World), RA w p tb s → P s = some (x, s') → Calls Tryz.prog f #[.pointer (some ⟨p, 0, none⟩)] w (XRG p tb x s s' w)
/-- How many tokens are left, as memory says it. -/
def restLenR (w : World) (p : Nat) : Nat := match w.cell? ⟨p, 0, none⟩, w.cell? ⟨p, 1, none⟩ with | some (.slice _ n _), some (.int _ a) => n - a.toNat | _, _ => 0
theorem RA.rest {w : World} {p tb : Nat} {s : RS} (h : RA w p tb s) : restLenR w p = s.rest.length := by
  obtain ⟨a, c, n, h⟩ := h
  have := h.len
  simp [restLenR, h.cells.1, h.cells.2.1]
  omega
theorem seesR_one (t : Bytes) (s : RS) : seesR [t] s = isR t s := by simp [seesR]
theorem loopR_yes {P : R1} {l : List Bytes} {n : Nat} {x xr : Ex} {s sr : RS} (h : loopR P l n x s = some (xr, sr)) (hs : seesR l s = true) : ∃ m y s2, n = m + 1 ∧ P (popR s) = some (y, s2) ∧ loopR P l m (binP (hdR s) x y) s2 = some (xr, sr) := by
  cases n with
  | zero => cases h
  | succ m =>
    simp only [loopR, hs, if_true] at h
    cases hp : P (popR s) with
    | none => rw [hp] at h; cases h
    | some q => rw [hp] at h; exact ⟨m, q.1, q.2, rfl, rfl, h⟩
theorem loopR_no {P : R1} {l : List Bytes} {n : Nat} {x xr : Ex} {s sr : RS} (h : loopR P l n x s = some (xr, sr)) (hs : seesR l s = false) : xr = x ∧ sr = s := by
  cases n with
  | zero => cases h
  | succ m =>
    simp only [loopR, hs] at h
    injection h with h
    injection h with h1 h2
    exact ⟨h1.symm, h2.symm⟩
theorem levelR_start {P : R1} {l : List Bytes} {xr : Ex} {s sr : RS} (h : levelR P l s = some (xr, sr)) : ∃ x1 s1 n, P s = some (x1, s1) ∧ loopR P l n x1 s1 = some (xr, sr) := by
  unfold levelR at h
  cases hp : P s with
  | none => rw [hp] at h; cases h
  | some q => rw [hp] at h; exact ⟨q.1, q.2, _, rfl, h⟩
theorem isR_text {t : Bytes} {s : RS} (h : isR t s = true) : (hdR s).text = t := by
  simp only [isR, Bool.and_eq_true, decide_eq_true_eq] at h
  exact h.2.2
def zeroE : Obj := .cells #[.int .i64 0, .int .i64 0, .int .i64 0, .int .i64 0, .string { data := #[] }, .slice none 0 0] 30
/-- A tree in its block b; its operands lie from lo on, not in b. -/
def XBox (lo : Nat) (w : World) (b : Nat) (x : Ex) : Prop := lo ≤ b ∧ ∃ d k o a l s A n c, w.heap[b]? = some (.cells #[.int .i64 k, .int .i64 o, .int .i64 a, .int .i64 l, .string s, .slice A n c] 30 (0, 0)) ∧ ExV (fun q => lo ≤ q ∧ q < w.heap.size ∧ q ≠ b) w d x (.agg #[.int .i64 k, .int .i64 o, .int .i64 a, .int .i64 l, .string s, .slice A n c])
theorem XBox.lt {lo : Nat} {w : World} {b : Nat} {x : Ex} (h : XBox lo w b x) : b < w.heap.size := by
  obtain ⟨_, d, k, o, a, l, s, A, n, c, hr, _⟩ := h
  exact (Array.getElem?_eq_some_iff.1 hr).1
theorem XBox.keep {lo : Nat} {w w' : World} {b : Nat} {x : Ex} (h : XBox lo w b x) (hs : w.heap.size ≤ w'.heap.size) (hk : ∀ q, lo ≤ q → q < w.heap.size → w'.heap[q]? = w.heap[q]?) : XBox lo w' b x := by
  have hlt := h.lt
  obtain ⟨h1, d, k, o, a, l, s, A, n, c, hr, hx⟩ := h
  exact ⟨h1, d, k, o, a, l, s, A, n, c, (hk b h1 hlt).trans hr, hx.keep (fun q hq => ⟨hq.1, Nat.lt_of_lt_of_le hq.2.1 hs, hq.2.2⟩) (fun q hq => hk q hq.1 hq.2.1)⟩
theorem XBox.below {lo : Nat} {w w' : World} {b : Nat} {x : Ex} (h : XBox lo w b x) (hb : Below w.heap.size w w') : XBox lo w' b x := h.keep hb.size (fun q _ hq => hb.block q hq)
theorem XBox.grown {lo p : Nat} {w w' : World} {b : Nat} {x : Ex} (h : XBox lo w b x) (hg : w.grownBy w' (some p)) (hp : p < lo) : XBox lo w' b x := h.keep hg.size (fun q hq hq2 => hg.block q hq2 (fun e => by injection e with e; omega))
/-- What a loop of a level carries: the result's block, the tree under way in its block. -/
def LevR (P : R1) (l : List Bytes) (p tb xb : Nat) (x : Ex) (s s' : RS) (w wr : World) : Prop :=
  ∃ n xx ss, loopR P l n xx ss = some (x, s') ∧ XBox (w.heap.size + 1) wr xb xx ∧ RA wr p tb ss ∧ w.grownBy wr (some p) ∧ wr.heap[w.heap.size]? = some zeroE ∧ ss.rest.length ≤ s.rest.length
theorem xat_new {lo d : Nat} {w : World} {x : Ex} {k o a l : Int} {t : ByteArray} {A : Option Addr} {n c : Nat} (hlo : lo ≤ w.heap.size) (h : ExV (fun q => lo ≤ q ∧ q < w.heap.size) w d x (.agg #[.int .i64 k, .int .i64 o, .int .i64 a, .int .i64 l, .string t, .slice A n c])) :
    XBox lo (w.alloc (.cells #[.int .i64 k, .int .i64 o, .int .i64 a, .int .i64 l, .string t, .slice A n c] 30)) w.heap.size x :=
  ⟨hlo, d, k, o, a, l, t, A, n, c, heap_alloc_new _ _, h.keep (fun q hq => ⟨hq.1, by simp; omega, by omega⟩) (fun q hq => ((Below.refl _ w).alloc (Nat.le_refl _) _).block q hq.2)⟩
/-- The first operand, laid into its block. -/
theorem lev_start {P : R1} {l : List Bytes} {p tb n d : Nat} {x x1 : Ex} {s s1 s' : RS} {w w1 : World} {k o a ln : Int} {t : ByteArray} {A : Option Addr} {m c : Nat} (hlp : loopR P l n x1 s1 = some (x, s')) (hp : p < w.heap.size)
    (hv : ExV (fun q => (w.alloc zeroE).heap.size ≤ q ∧ q < w1.heap.size) w1 d x1 (.agg #[.int .i64 k, .int .i64 o, .int .i64 a, .int .i64 ln, .string t, .slice A m c])) (h1 : RA w1 p tb s1) (hg : (w.alloc zeroE).grownBy w1 (some p)) (hl : s1.rest.length ≤ s.rest.length) :
    LevR P l p tb w1.heap.size x s s' w (w1.alloc (.cells #[.int .i64 k, .int .i64 o, .int .i64 a, .int .i64 ln, .string t, .slice A m c] 30)) := by
  have hz := hg.size
  simp at hz
  have hz1 := (hg.block w.heap.size (by simp) (fun e => by injection e with e; omega)).trans (heap_alloc_new w zeroE)
  refine ⟨n, x1, s1, hlp, xat_new (by omega) (hv.keep (fun q hq => ⟨by have := hq.1; simp at this; omega, hq.2⟩) (fun _ _ => rfl)), h1.alloc _, ((grown_of_below ((Below.refl _ w).alloc (Nat.le_refl _) _) (some p)).trans hg).trans (grown_of_below ((Below.refl _ w1).alloc (Nat.le_refl _) _) _), ?_, hl⟩
  exact (((Below.refl _ w1).alloc (Nat.le_refl _) _).block _ (by omega)).trans hz1
/-- The last store: the tree lies in the result's block. -/
theorem lev_end {p tb d xb : Nat} {x : Ex} {s s' : RS} {w wr w9 : World} {k o a ln : Int} {t : ByteArray} {A : Option Addr} {m c : Nat} (hx : ExV (fun q => w.heap.size + 1 ≤ q ∧ q < wr.heap.size ∧ q ≠ xb) wr d x (.agg #[.int .i64 k, .int .i64 o, .int .i64 a, .int .i64 ln, .string t, .slice A m c])) (h : RA wr p tb s') (hg : w.grownBy wr (some p)) (hl : s'.rest.length ≤ s.rest.length) (hp : p < w.heap.size) (ht : tb < w.heap.size) (hg9 : wr.grownBy w9 (some w.heap.size)) :
    XRG p tb x s s' w (.returned (.agg #[.int .i64 k, .int .i64 o, .int .i64 a, .int .i64 ln, .string t, .slice A m c])) w9 :=
  ⟨d, k, o, a, ln, t, A, m, c, rfl, exV_grown hx (fun q hq => ⟨⟨by omega, Nat.lt_of_lt_of_le hq.2.1 hg9.size⟩, hq.2.1, by omega⟩) hg9, h.other hg9 (by omega) (by omega), grown_new hg hg9 (Nat.le_refl _), hl⟩
/-- An operand and a sign more: the new tree is stored in the old one's block. -/
theorem lev_step {P : R1} {l : List Bytes} {p tb xb m d6 : Nat} {x x2 : Ex} {s s' s2 : RS} {w w6 w9 : World} {k o a ln : Int} {t : ByteArray} {A : Option Addr} {n c : Nat} (hlp : loopR P l m x2 s2 = some (x, s')) (hx : w.heap.size + 1 ≤ xb) (hp : p < w.heap.size) (ht : tb < w.heap.size)
    (hv : ExV (fun q => w.heap.size + 1 ≤ q ∧ q < w6.heap.size ∧ q ≠ xb) w6 d6 x2 (.agg #[.int .i64 k, .int .i64 o, .int .i64 a, .int .i64 ln, .string t, .slice A n c])) (h6 : RA w6 p tb s2) (hg6 : w.grownBy w6 (some p)) (hz6 : w6.heap[w.heap.size]? = some zeroE) (hl : s2.rest.length ≤ s.rest.length)
    (hrow : w9.heap[xb]? = some (.cells #[.int .i64 k, .int .i64 o, .int .i64 a, .int .i64 ln, .string t, .slice A n c] 30 (0, 0))) (hg9 : w6.grownBy w9 (some xb)) : LevR P l p tb xb x s s' w w9 ∧ restLenR w9 p = s2.rest.length :=
  ⟨⟨m, x2, s2, hlp, ⟨hx, d6, k, o, a, ln, t, A, n, c, hrow, exV_grown hv (fun q hq => ⟨⟨hq.1, Nat.lt_of_lt_of_le hq.2.1 hg9.size, hq.2.2⟩, hq.2.1, hq.2.2⟩) hg9⟩, h6.other hg9 (by omega) (by omega), grown_new hg6 hg9 (by omega), (hg9.block w.heap.size (Array.getElem?_eq_some_iff.1 hz6).1 (fun e => by injection e with e; omega)).trans hz6, hl⟩, (h6.other hg9 (by omega) (by omega)).rest⟩
/-- A store of a tree that stands still. -/
theorem grown_drew0 {w w' : World} {row : Option Nat} (h : w.drew.grownBy w' row) : w.grownBy w' row := ⟨h.os, h.tape, h.output, h.size, h.block⟩
theorem lev_x {lo d p xb : Nat} {w w' : World} {x : Ex} {v : Value} (hx : ExV (fun q => lo ≤ q ∧ q < w.heap.size ∧ q ≠ xb) w d x v) (hg : w.grownBy w' (some p)) (hp : p < lo) : ExV (fun q => lo ≤ q ∧ q < w'.heap.size ∧ q ≠ xb) w' d x v :=
  exV_grown hx (fun q hq => ⟨⟨hq.1, Nat.lt_of_lt_of_le hq.2.1 hg.size, hq.2.2⟩, hq.2.1, by omega⟩) hg
theorem lev_y {lo d xb n : Nat} {w' : World} {y : Ex} {v : Value} (hy : ExV (fun q => n ≤ q ∧ q < w'.heap.size) w' d y v) (hlo : lo ≤ n) (hxb : xb < n) : ExV (fun q => lo ≤ q ∧ q < w'.heap.size ∧ q ≠ xb) w' d y v :=
  hy.keep (fun q hq => ⟨by omega, hq.2, by omega⟩) (fun _ _ => rfl)
theorem lev_bin {t : Tok} {x y : Ex} {b : Bytes} {k o : Int} (h : t.text = b) (hk : binK b = k) (ho : binO b = o) : binP t x y = .mk k o 0 (t.line : Int) ⟨#[]⟩ [x, y] := by
  unfold binP
  rw [h, hk, ho]
theorem lev_two {lo d xb : Nat} {w5 w6 : World} {x : Ex} {v : Value} (h : ExV (fun q => (lo ≤ q ∧ q < w5.heap.size ∧ q ≠ xb) ∨ w5.heap.size ≤ q ∧ q < w6.heap.size) w6 d x v) (hs : w5.heap.size ≤ w6.heap.size) (hx : xb < w5.heap.size) (hlo : lo ≤ w5.heap.size) : ExV (fun q => lo ≤ q ∧ q < w6.heap.size ∧ q ≠ xb) w6 d x v :=
  h.keep (fun q hq => by
    rcases hq with hq | hq
    · exact ⟨hq.1, Nat.lt_of_lt_of_le hq.2.1 hs, hq.2.2⟩
    · exact ⟨by omega, hq.2, by omega⟩) (fun _ _ => rfl)
theorem rx_pause {P : Program} {w : World} {ops : Array Oper} {rest : List Oper} {d : Option Tmp} {ty : TypeId} {x y : Operand} {pos : String} {af : Array Edge} {gd : Option (Nat × Bool)} {a : Act} {Q : Exit → Act → World → Prop}
    (h : Pause (wpList P ops Q ({ dst := d, op := .store 30 x y, type := ty, pos := pos, after := af, guard := gd } :: rest) a w)) : wpList P ops Q ({ dst := d, op := .store 30 x y, type := ty, pos := pos, after := af, guard := gd } :: rest) a w := h
set_option maxRecDepth 100000 in
set_option maxHeartbeats 4000000 in
theorem expr_levR (P : R1) (hsub : SubR 33 P) : SubR 17 (levelR P [[124, 124]]) := by
  intro p tb s s' x w h hP
  obtain ⟨x1, s1, n1, hp1, hloop⟩ := levelR_start hP
  have HS := Lib.hid hsub
  have H1 := Lib.hid (hsub p tb s s1 x1 (w.alloc zeroE) (h.alloc _) hp1)
  have HL := Lib.hid hloop
  have plt := h.lt.1
  have tlt := h.lt.2.1
  unfold zeroE at H1
  clear hsub hP hp1 hloop h
  go_enter Tryz.func17, Tryz.ntmps17
  go_wp2_with fail
  refine H1.out.mono ?_
  rintro e w1 ⟨d1, k1, o1, a1, l1, t1, A1, n2, c1, rfl, hv1, hp1, hg1, hl1⟩
  have HR : Hid (LevR P [[124, 124]] p tb w1.heap.size x s s' w (w1.alloc (.cells #[.int .i64 k1, .int .i64 o1, .int .i64 a1, .int .i64 l1, .string t1, .slice A1 n2 c1] 30))) := Lib.hid (lev_start HL.out plt hv1 hp1 hg1 hl1)
  have hsz1 : w.heap.size + 1 ≤ w1.heap.size := by have := hg1.size; simpa using this
  clear H1 HL hv1 hp1 hg1 hl1
  go_wp2_with fail
  obtain ⟨xb, hxb⟩ : ∃ xb, xb = w1.heap.size := ⟨_, rfl⟩
  rw [← hxb] at HR hsz1 ⊢
  clear hxb
  go_loopw [4] (fun _ wr => LevR P [[124, 124]] p tb xb x s s' w wr) (fun _ wr => restLenR wr p)
  case atStart => exact HR.out
  case round =>
    obtain ⟨n, xx, ss, hloop, hx, hp, hg, hz, hl⟩ := hrel
    clear HR
    have HRL := Lib.hid hp.rest
    have HI := Lib.hid (is_r [124, 124] wr hp)
    have HX := Lib.hid hx
    have HP := Lib.hid hp
    have HG := Lib.hid hg
    have HZ := Lib.hid hz
    have Hl := Lib.hid hl
    have HLP := Lib.hid hloop
    have hszr := hg.size
    clear hloop hx hp hg hz hl
    go_wp2_with fail
    refine HI.out.mono ?_
    rintro e w2 ⟨rfl, hb2⟩
    have HP2 := Lib.hid (HP.out.below hb2)
    have HX2 := Lib.hid (HX.out.below hb2)
    have HG2 := Lib.hid (HG.out.trans (grown_of_below hb2 _))
    have HZ2 := Lib.hid ((hb2.block _ (Array.getElem?_eq_some_iff.1 HZ.out).1).trans HZ.out)
    clear hb2 HI HX HP HG HZ
    cases hs : isR [124, 124] ss with
    | true =>
      obtain ⟨m, y, s2, rfl, hsubp, hloop2⟩ := loopR_yes HLP.out (by rw [seesR_one]; exact hs)
      have HNow := Lib.hid (now_r w2 HP2.out)
      have HSP := Lib.hid hsubp
      rw [lev_bin (k := 8) (o := 0) (isR_text hs) rfl rfl] at hloop2
      have HL2 := Lib.hid hloop2
      have HV := Lib.hid hs
      clear hsubp hloop2 hs HLP
      go_wp2_with fail
      refine HNow.out.mono ?_
      rintro e w3 ⟨rfl, hb3⟩
      obtain ⟨a, c, N, hr⟩ := HP2.out.below hb3
      have e1 := hr.cells.2.1
      have f1 := hr.cells.2.2.2.2 1
      have hsm := hr.sm
      have hlt2 := hr.lt
      have hgs : w3.grownBy (w3.setCell ⟨p, 1, none⟩ (.int .i64 ((a : Int) + 1))) (some p) := set_grown w3 ⟨p, 1, none⟩ (.int .i64 ((a : Int) + 1))
      have h2 := isR_two hr.wf HV.out
      have HP4 := Lib.hid (show RA (w3.setCell ⟨p, 1, none⟩ (.int .i64 ((a : Int) + 1))) p tb (popR ss) from ⟨_, _, _, hr.popSet h2⟩)
      have HX4 := Lib.hid ((HX2.out.below hb3).grown hgs (by omega))
      have hg4 := (HG2.out.trans (grown_of_below hb3 _)).trans hgs
      have HG4 := Lib.hid hg4
      have HZ4 := Lib.hid (blk_keep hgs (by omega) ((hb3.block _ (Array.getElem?_eq_some_iff.1 HZ2.out).1).trans HZ2.out))
      have hsz4 := hg4.size
      have h2' : 2 ≤ ss.rest.length := h2
      have H2 := Lib.hid h2'
      unfold tokVR
      have hfd : ∀ w : World, (Instr.field 67 (.agg #[.int .i64 ((hdR ss).kind : Int), .int .i64 ((hdR ss).line : Int), .int .i64 ((hdR ss).value : Int), .string (nmB (hdR ss).text)]) 1).run Tryz.prog w = .ok (.int .i64 ((hdR ss).line : Int)) w := fun _ => by kernel_rfl
      clear hr hgs HNow hb3 h2 h2' hg4 HP2 HX2 HG2 HZ2
      go_upto_region 5 with fail
      clear e1 f1 hfd
      generalize w3.setCell ⟨p, 1, none⟩ (.int .i64 ((a : Int) + 1)) = w4 at *
      obtain ⟨hxlo, dx, kx, ox, ax, lx, tx, Ax, nx, cx, rx, vx⟩ := HX4.out
      have xlt := (Array.getElem?_eq_some_iff.1 rx).1
      have a0 := cell_of_row _ _ 0 _ _ _ rx
      have a1 := cell_of_row _ _ 1 _ _ _ rx
      have a2 := cell_of_row _ _ 2 _ _ _ rx
      have a3 := cell_of_row _ _ 3 _ _ _ rx
      have a4 := cell_of_row _ _ 4 _ _ _ rx
      have a5 := cell_of_row _ _ 5 _ _ _ rx
      have RX := Lib.hid rx
      have VX := Lib.hid vx
      have HC := Lib.hid (HS.out p tb (popR ss) s2 y w4.drew HP4.out.drew HSP.out)
      clear rx vx HX4
      go_region_with
        (first
          | (go_at_call 33; (with_reducible refine HC.out.mono ?_); rintro e w5 ⟨d5, k5, o5, a5', l5, t5, A5, n5, c5, rfl, hv5, hp5, hg5, hl5⟩; have hg5' := (grown_drew0 hg5); have rx5 := (blk_keep hg5' (by omega) RX.out); have b0 := (cell_of_row _ _ 0 _ _ _ rx5); have b1 := (cell_of_row _ _ 1 _ _ _ rx5); have b2 := (cell_of_row _ _ 2 _ _ _ rx5); have b3 := (cell_of_row _ _ 3 _ _ _ rx5); have b4 := (cell_of_row _ _ 4 _ _ _ rx5); have b5 := (cell_of_row _ _ 5 _ _ _ rx5); have HTW := Lib.hid (two_r (F := (fun q => w.heap.size + 1 ≤ q ∧ q < w5.heap.size ∧ q ≠ xb)) 8 0 ((hdR ss).line : Int) w5 (fun q hq => hq.2.1) (lev_x VX.out hg5' (by omega)) (lev_y hv5 (show w.heap.size + 1 ≤ w4.heap.size by omega) xlt)); have RX5 := Lib.hid rx5; have HP5 := Lib.hid hp5; have HG5 := Lib.hid (HG4.out.trans hg5'); have HZ5 := Lib.hid (blk_keep hg5' (by omega) HZ4.out); have Hl5 := Lib.hid hl5; have hszx : xb < w5.heap.size := Nat.lt_of_lt_of_le xlt hg5'.size; clear hg5 hg5' rx5 hv5 hp5 hl5)
          | (go_at_call 36; (with_reducible refine HTW.out.mono ?_); rintro e w6 ⟨d6, bb, rfl, hv6, hb6⟩; have rx6 := ((hb6.block _ (by omega)).trans RX5.out); have g0 := (rp_fz rx6 0); have g1 := (rp_fz rx6 1); have g2 := (rp_fz rx6 2); have g3 := (rp_fz rx6 3); have g4 := (rp_fz rx6 4); have g5 := (rp_fz rx6 5); have q0 := (cell_of_row _ _ 0 _ _ _ rx6); have q1 := (cell_of_row _ _ 1 _ _ _ rx6); have q2 := (cell_of_row _ _ 2 _ _ _ rx6); have q3 := (cell_of_row _ _ 3 _ _ _ rx6); have q4 := (cell_of_row _ _ 4 _ _ _ rx6); have q5 := (cell_of_row _ _ 5 _ _ _ rx6); have RX6 := Lib.hid rx6; have HV6 := Lib.hid hv6; have HB6 := Lib.hid hb6; clear rx6 hv6 hb6))
      all_goals
        have h6 := row_set6 (.int .i64 8) (.int .i64 0) (.int .i64 0) (.int .i64 ((hdR ss).line : Int)) (.string ⟨#[]⟩) (.slice (some ⟨bb, 0, none⟩) 2 2) RX6.out
        have hlen := Hl5.out
        rw [popR_len] at hlen
        have h2q := H2.out
        have hE := lev_step (P := P) (l := [[124, 124]]) (s := s) HL2.out hxlo plt tlt (lev_two HV6.out HB6.out.size hszx (by omega)) (HP5.out.below HB6.out) (HG5.out.trans (grown_of_below HB6.out _)) ((HB6.out.block _ (Array.getElem?_eq_some_iff.1 HZ5.out).1).trans HZ5.out) (by have := Hl.out; omega) h6.1 h6.2
        have HE := Lib.hid (And.intro hE.1 (Nat.lt_of_le_of_lt (Nat.le_of_eq hE.2) (show s2.rest.length < restLenR wr p by rw [HRL.out]; omega)))
        clear h6 hE hlen h2q
        clear q0 q1 q2 q3 q4 q5 g0 g1 g2 g3 g4 g5
        go_wp2_with fail
        exact HE.out
    | false =>
      obtain ⟨rfl, rfl⟩ := loopR_no HLP.out (by rw [seesR_one]; exact hs)
      obtain ⟨hxlo, dx, kx, ox, ax, lx, tx, Ax, nx, cx, rx, vx⟩ := HX2.out
      have a0 := cell_of_row _ _ 0 _ _ _ rx
      have a1 := cell_of_row _ _ 1 _ _ _ rx
      have a2 := cell_of_row _ _ 2 _ _ _ rx
      have a3 := cell_of_row _ _ 3 _ _ _ rx
      have a4 := cell_of_row _ _ 4 _ _ _ rx
      have a5 := cell_of_row _ _ 5 _ _ _ rx
      have VX := Lib.hid vx
      clear rx vx hs
      go_wp2_with (with_reducible refine rx_pause ?_)
      refine Pause.of (wpList_store_new _ rfl _ _ _ rfl w.heap.size _ rfl (by rfl) _ _ HZ2.out (by kernel_rfl) (by rfl) (by simp [Value.oneCell']) ?_)
      intro w9 hrow9 hg9
      have j0 := cell_of_row _ _ 0 _ _ _ hrow9
      have j1 := cell_of_row _ _ 1 _ _ _ hrow9
      have j2 := cell_of_row _ _ 2 _ _ _ hrow9
      have j3 := cell_of_row _ _ 3 _ _ _ hrow9
      have j4 := cell_of_row _ _ 4 _ _ _ hrow9
      have j5 := cell_of_row _ _ 5 _ _ _ hrow9
      have HH := Lib.hid (lev_end VX.out HP2.out HG2.out Hl.out plt tlt hg9)
      clear hrow9 hg9 a0 a1 a2 a3 a4 a5
      go_wp2_with fail
      exact bodyPost_ret (by simp [results, Tryz.results17, go_sem, j0, j1, j2, j3, j4, j5]) rfl HH.out
set_option maxRecDepth 100000 in
set_option maxHeartbeats 4000000 in
theorem and_levR (P : R1) (hsub : SubR 56 P) : SubR 33 (levelR P [[38, 38]]) := by
  intro p tb s s' x w h hP
  obtain ⟨x1, s1, n1, hp1, hloop⟩ := levelR_start hP
  have HS := Lib.hid hsub
  have H1 := Lib.hid (hsub p tb s s1 x1 (w.alloc zeroE) (h.alloc _) hp1)
  have HL := Lib.hid hloop
  have plt := h.lt.1
  have tlt := h.lt.2.1
  unfold zeroE at H1
  clear hsub hP hp1 hloop h
  go_enter Tryz.func33, Tryz.ntmps33
  go_wp2_with fail
  refine H1.out.mono ?_
  rintro e w1 ⟨d1, k1, o1, a1, l1, t1, A1, n2, c1, rfl, hv1, hp1, hg1, hl1⟩
  have HR : Hid (LevR P [[38, 38]] p tb w1.heap.size x s s' w (w1.alloc (.cells #[.int .i64 k1, .int .i64 o1, .int .i64 a1, .int .i64 l1, .string t1, .slice A1 n2 c1] 30))) := Lib.hid (lev_start HL.out plt hv1 hp1 hg1 hl1)
  have hsz1 : w.heap.size + 1 ≤ w1.heap.size := by have := hg1.size; simpa using this
  clear H1 HL hv1 hp1 hg1 hl1
  go_wp2_with fail
  obtain ⟨xb, hxb⟩ : ∃ xb, xb = w1.heap.size := ⟨_, rfl⟩
  rw [← hxb] at HR hsz1 ⊢
  clear hxb
  go_loopw [4] (fun _ wr => LevR P [[38, 38]] p tb xb x s s' w wr) (fun _ wr => restLenR wr p)
  case atStart => exact HR.out
  case round =>
    obtain ⟨n, xx, ss, hloop, hx, hp, hg, hz, hl⟩ := hrel
    clear HR
    have HRL := Lib.hid hp.rest
    have HI := Lib.hid (is_r [38, 38] wr hp)
    have HX := Lib.hid hx
    have HP := Lib.hid hp
    have HG := Lib.hid hg
    have HZ := Lib.hid hz
    have Hl := Lib.hid hl
    have HLP := Lib.hid hloop
    have hszr := hg.size
    clear hloop hx hp hg hz hl
    go_wp2_with fail
    refine HI.out.mono ?_
    rintro e w2 ⟨rfl, hb2⟩
    have HP2 := Lib.hid (HP.out.below hb2)
    have HX2 := Lib.hid (HX.out.below hb2)
    have HG2 := Lib.hid (HG.out.trans (grown_of_below hb2 _))
    have HZ2 := Lib.hid ((hb2.block _ (Array.getElem?_eq_some_iff.1 HZ.out).1).trans HZ.out)
    clear hb2 HI HX HP HG HZ
    cases hs : isR [38, 38] ss with
    | true =>
      obtain ⟨m, y, s2, rfl, hsubp, hloop2⟩ := loopR_yes HLP.out (by rw [seesR_one]; exact hs)
      have HNow := Lib.hid (now_r w2 HP2.out)
      have HSP := Lib.hid hsubp
      rw [lev_bin (k := 7) (o := 0) (isR_text hs) rfl rfl] at hloop2
      have HL2 := Lib.hid hloop2
      have HV := Lib.hid hs
      clear hsubp hloop2 hs HLP
      go_wp2_with fail
      refine HNow.out.mono ?_
      rintro e w3 ⟨rfl, hb3⟩
      obtain ⟨a, c, N, hr⟩ := HP2.out.below hb3
      have e1 := hr.cells.2.1
      have f1 := hr.cells.2.2.2.2 1
      have hsm := hr.sm
      have hlt2 := hr.lt
      have hgs : w3.grownBy (w3.setCell ⟨p, 1, none⟩ (.int .i64 ((a : Int) + 1))) (some p) := set_grown w3 ⟨p, 1, none⟩ (.int .i64 ((a : Int) + 1))
      have h2 := isR_two hr.wf HV.out
      have HP4 := Lib.hid (show RA (w3.setCell ⟨p, 1, none⟩ (.int .i64 ((a : Int) + 1))) p tb (popR ss) from ⟨_, _, _, hr.popSet h2⟩)
      have HX4 := Lib.hid ((HX2.out.below hb3).grown hgs (by omega))
      have hg4 := (HG2.out.trans (grown_of_below hb3 _)).trans hgs
      have HG4 := Lib.hid hg4
      have HZ4 := Lib.hid (blk_keep hgs (by omega) ((hb3.block _ (Array.getElem?_eq_some_iff.1 HZ2.out).1).trans HZ2.out))
      have hsz4 := hg4.size
      have h2' : 2 ≤ ss.rest.length := h2
      have H2 := Lib.hid h2'
      unfold tokVR
      have hfd : ∀ w : World, (Instr.field 67 (.agg #[.int .i64 ((hdR ss).kind : Int), .int .i64 ((hdR ss).line : Int), .int .i64 ((hdR ss).value : Int), .string (nmB (hdR ss).text)]) 1).run Tryz.prog w = .ok (.int .i64 ((hdR ss).line : Int)) w := fun _ => by kernel_rfl
      clear hr hgs HNow hb3 h2 h2' hg4 HP2 HX2 HG2 HZ2
      go_upto_region 5 with fail
      clear e1 f1 hfd
      generalize w3.setCell ⟨p, 1, none⟩ (.int .i64 ((a : Int) + 1)) = w4 at *
      obtain ⟨hxlo, dx, kx, ox, ax, lx, tx, Ax, nx, cx, rx, vx⟩ := HX4.out
      have xlt := (Array.getElem?_eq_some_iff.1 rx).1
      have a0 := cell_of_row _ _ 0 _ _ _ rx
      have a1 := cell_of_row _ _ 1 _ _ _ rx
      have a2 := cell_of_row _ _ 2 _ _ _ rx
      have a3 := cell_of_row _ _ 3 _ _ _ rx
      have a4 := cell_of_row _ _ 4 _ _ _ rx
      have a5 := cell_of_row _ _ 5 _ _ _ rx
      have RX := Lib.hid rx
      have VX := Lib.hid vx
      have HC := Lib.hid (HS.out p tb (popR ss) s2 y w4.drew HP4.out.drew HSP.out)
      clear rx vx HX4
      go_region_with
        (first
          | (go_at_call 56; (with_reducible refine HC.out.mono ?_); rintro e w5 ⟨d5, k5, o5, a5', l5, t5, A5, n5, c5, rfl, hv5, hp5, hg5, hl5⟩; have hg5' := (grown_drew0 hg5); have rx5 := (blk_keep hg5' (by omega) RX.out); have b0 := (cell_of_row _ _ 0 _ _ _ rx5); have b1 := (cell_of_row _ _ 1 _ _ _ rx5); have b2 := (cell_of_row _ _ 2 _ _ _ rx5); have b3 := (cell_of_row _ _ 3 _ _ _ rx5); have b4 := (cell_of_row _ _ 4 _ _ _ rx5); have b5 := (cell_of_row _ _ 5 _ _ _ rx5); have HTW := Lib.hid (two_r (F := (fun q => w.heap.size + 1 ≤ q ∧ q < w5.heap.size ∧ q ≠ xb)) 7 0 ((hdR ss).line : Int) w5 (fun q hq => hq.2.1) (lev_x VX.out hg5' (by omega)) (lev_y hv5 (show w.heap.size + 1 ≤ w4.heap.size by omega) xlt)); have RX5 := Lib.hid rx5; have HP5 := Lib.hid hp5; have HG5 := Lib.hid (HG4.out.trans hg5'); have HZ5 := Lib.hid (blk_keep hg5' (by omega) HZ4.out); have Hl5 := Lib.hid hl5; have hszx : xb < w5.heap.size := Nat.lt_of_lt_of_le xlt hg5'.size; clear hg5 hg5' rx5 hv5 hp5 hl5)
          | (go_at_call 36; (with_reducible refine HTW.out.mono ?_); rintro e w6 ⟨d6, bb, rfl, hv6, hb6⟩; have rx6 := ((hb6.block _ (by omega)).trans RX5.out); have g0 := (rp_fz rx6 0); have g1 := (rp_fz rx6 1); have g2 := (rp_fz rx6 2); have g3 := (rp_fz rx6 3); have g4 := (rp_fz rx6 4); have g5 := (rp_fz rx6 5); have q0 := (cell_of_row _ _ 0 _ _ _ rx6); have q1 := (cell_of_row _ _ 1 _ _ _ rx6); have q2 := (cell_of_row _ _ 2 _ _ _ rx6); have q3 := (cell_of_row _ _ 3 _ _ _ rx6); have q4 := (cell_of_row _ _ 4 _ _ _ rx6); have q5 := (cell_of_row _ _ 5 _ _ _ rx6); have RX6 := Lib.hid rx6; have HV6 := Lib.hid hv6; have HB6 := Lib.hid hb6; clear rx6 hv6 hb6))
      all_goals
        have h6 := row_set6 (.int .i64 7) (.int .i64 0) (.int .i64 0) (.int .i64 ((hdR ss).line : Int)) (.string ⟨#[]⟩) (.slice (some ⟨bb, 0, none⟩) 2 2) RX6.out
        have hlen := Hl5.out
        rw [popR_len] at hlen
        have h2q := H2.out
        have hE := lev_step (P := P) (l := [[38, 38]]) (s := s) HL2.out hxlo plt tlt (lev_two HV6.out HB6.out.size hszx (by omega)) (HP5.out.below HB6.out) (HG5.out.trans (grown_of_below HB6.out _)) ((HB6.out.block _ (Array.getElem?_eq_some_iff.1 HZ5.out).1).trans HZ5.out) (by have := Hl.out; omega) h6.1 h6.2
        have HE := Lib.hid (And.intro hE.1 (Nat.lt_of_le_of_lt (Nat.le_of_eq hE.2) (show s2.rest.length < restLenR wr p by rw [HRL.out]; omega)))
        clear h6 hE hlen h2q
        clear q0 q1 q2 q3 q4 q5 g0 g1 g2 g3 g4 g5
        go_wp2_with fail
        exact HE.out
    | false =>
      obtain ⟨rfl, rfl⟩ := loopR_no HLP.out (by rw [seesR_one]; exact hs)
      obtain ⟨hxlo, dx, kx, ox, ax, lx, tx, Ax, nx, cx, rx, vx⟩ := HX2.out
      have a0 := cell_of_row _ _ 0 _ _ _ rx
      have a1 := cell_of_row _ _ 1 _ _ _ rx
      have a2 := cell_of_row _ _ 2 _ _ _ rx
      have a3 := cell_of_row _ _ 3 _ _ _ rx
      have a4 := cell_of_row _ _ 4 _ _ _ rx
      have a5 := cell_of_row _ _ 5 _ _ _ rx
      have VX := Lib.hid vx
      clear rx vx hs
      go_wp2_with (with_reducible refine rx_pause ?_)
      refine Pause.of (wpList_store_new _ rfl _ _ _ rfl w.heap.size _ rfl (by rfl) _ _ HZ2.out (by kernel_rfl) (by rfl) (by simp [Value.oneCell']) ?_)
      intro w9 hrow9 hg9
      have j0 := cell_of_row _ _ 0 _ _ _ hrow9
      have j1 := cell_of_row _ _ 1 _ _ _ hrow9
      have j2 := cell_of_row _ _ 2 _ _ _ hrow9
      have j3 := cell_of_row _ _ 3 _ _ _ hrow9
      have j4 := cell_of_row _ _ 4 _ _ _ hrow9
      have j5 := cell_of_row _ _ 5 _ _ _ hrow9
      have HH := Lib.hid (lev_end VX.out HP2.out HG2.out Hl.out plt tlt hg9)
      clear hrow9 hg9 a0 a1 a2 a3 a4 a5
      go_wp2_with fail
      exact bodyPost_ret (by simp [results, Tryz.results33, go_sem, j0, j1, j2, j3, j4, j5]) rfl HH.out
end Go.Proofs.YtmpnkbhlagalkaaGreatDoor
