/-
  Trees that the parser makes; the walk of binary. No condition.
-/
import Derived.Test.YtmpnkbhlagalkaaGreatDoorPsAcc
namespace Go.Proofs.YtmpnkbhlagalkaaGreatDoor
open Go.RowKit

theorem ExV.succ {F : Nat → Prop} {w : World} : ∀ (d : Nat) (x : Ex) (v : Value), ExV F w d x v → ExV F w (d + 1) x v
  | 0, _, _, h => h.elim
  | d + 1, .mk k o a l s xs, v, ⟨A, c, hv, hc, h⟩ => ⟨A, c, hv, hc, fun i x hi => by
      obtain ⟨g, off, c0, c1, c2, c3, c4, c5, hA, hF, h0, h1, h2, h3, h4, h5, hx⟩ := h i x hi
      exact ⟨g, off, c0, c1, c2, c3, c4, c5, hA, hF, h0, h1, h2, h3, h4, h5, ExV.succ d x _ hx⟩⟩
theorem ExV.mono {F : Nat → Prop} {w : World} {d : Nat} {x : Ex} {v : Value} (h : ExV F w d x v) : ∀ n, ExV F w (d + n) x v
  | 0 => h
  | n + 1 => (h.mono n).succ
/-- A tree in its block b; its operands lie from lo on. -/
def XAt (lo : Nat) (w : World) (b : Nat) (x : Ex) : Prop := lo ≤ b ∧ ∃ d k o a l s A n c, w.heap[b]? = some (.cells #[.int .i64 k, .int .i64 o, .int .i64 a, .int .i64 l, .string s, .slice A n c] 30 (0, 0)) ∧ ExV (fun q => lo ≤ q ∧ q < w.heap.size) w d x (.agg #[.int .i64 k, .int .i64 o, .int .i64 a, .int .i64 l, .string s, .slice A n c])
theorem XAt.lt {lo : Nat} {w : World} {b : Nat} {x : Ex} (h : XAt lo w b x) : b < w.heap.size := by
  obtain ⟨_, d, k, o, a, l, s, A, n, c, hr, _⟩ := h
  exact (Array.getElem?_eq_some_iff.1 hr).1
theorem XAt.keep {lo lo' : Nat} {w w' : World} {b : Nat} {x : Ex} (h : XAt lo w b x) (hl : lo' ≤ lo) (hs : w.heap.size ≤ w'.heap.size) (hk : ∀ q, lo ≤ q → q < w.heap.size → w'.heap[q]? = w.heap[q]?) : XAt lo' w' b x := by
  have hlt := h.lt
  obtain ⟨h1, d, k, o, a, l, s, A, n, c, hr, hx⟩ := h
  exact ⟨by omega, d, k, o, a, l, s, A, n, c, (hk b h1 hlt).trans hr, hx.keep (fun q hq => ⟨by omega, by omega⟩) (fun q hq => hk q hq.1 hq.2)⟩
theorem XAt.below {lo : Nat} {w w' : World} {b : Nat} {x : Ex} (h : XAt lo w b x) (hb : Below w.heap.size w w') : XAt lo w' b x := h.keep (Nat.le_refl _) hb.size (fun q _ hq => hb.block q hq)
theorem XAt.grown {lo p : Nat} {w w' : World} {b : Nat} {x : Ex} (h : XAt lo w b x) (hg : w.grownBy w' (some p)) (hp : p < lo) : XAt lo w' b x := h.keep (Nat.le_refl _) hg.size (fun q hq hq2 => hg.block q hq2 (fun e => by injection e with e; omega))
/-- A tree is handed back in a block of its own; memory has grown at most. -/
def BinG (lo : Nat) (x : Ex) (w : World) (e : Ending) (w' : World) : Prop := ∃ b, e = .returned (.pointer (some ⟨b, 0, none⟩)) ∧ XAt lo w' b x ∧ Below w.heap.size w w'
theorem cmpS (a b : Bytes) : ((nmB a).toList == (nmB b).toList) = decide (a = b) := by
  rw [Lib.toList_data, Lib.toList_data, Bool.eq_iff_iff]
  simp [nmB]
def signsE : List Bytes := [[124, 124], [38, 38], [60], [60, 61], [61, 61], [33, 61], [43], [45], [42], [47], [37]]
theorem bin_out {lo b1 b2 : Nat} {w W : World} {x y : Ex} {k o l : Int} {dx dy : Nat} {c0 c1 c2 c3 c4 c5 e0 e1 e2 e3 e4 e5 : Value} {t : TypeId} (hlo : lo ≤ w.heap.size) (hb : Below w.heap.size w W) (hb1 : w.heap.size ≤ b1) (hb2 : w.heap.size ≤ b2)
    (hx : ExV (fun q => lo ≤ q ∧ q < w.heap.size) w dx x (.agg #[c0, c1, c2, c3, c4, c5])) (hy : ExV (fun q => lo ≤ q ∧ q < w.heap.size) w dy y (.agg #[e0, e1, e2, e3, e4, e5]))
    (h1 : W.heap[b1]? = some (.cells #[c0, c1, c2, c3, c4, c5, e0, e1, e2, e3, e4, e5] t (0, 0)))
    (h2 : W.heap[b2]? = some (.cells #[.int .i64 k, .int .i64 o, .int .i64 0, .int .i64 l, .string ⟨#[]⟩, .slice (some ⟨b1, 0, none⟩) 2 2] 30 (0, 0))) :
    XAt lo W b2 (.mk k o 0 l ⟨#[]⟩ [x, y]) := by
  have hb1' := (Array.getElem?_eq_some_iff.1 h1).1
  have X := (hx.keep (G := fun q => lo ≤ q ∧ q < W.heap.size) (w' := W) (fun q hq => ⟨hq.1, Nat.lt_of_lt_of_le hq.2 hb.size⟩) (fun q hq => hb.block q hq.2)).mono dy
  have Y := (hy.keep (G := fun q => lo ≤ q ∧ q < W.heap.size) (w' := W) (fun q hq => ⟨hq.1, Nat.lt_of_lt_of_le hq.2 hb.size⟩) (fun q hq => hb.block q hq.2)).mono dx
  rw [Nat.add_comm dy dx] at Y
  exact ⟨by omega, dx + dy + 1, k, o, 0, l, ⟨#[]⟩, _, _, _, h2, _, _, rfl, row_two X Y ⟨by omega, hb1'⟩ h1⟩
set_option maxRecDepth 100000 in
set_option maxHeartbeats 2000000 in
theorem binary_any (t : Tok) {lo bx by_ : Nat} {x y : Ex} (w : World) (ht : t.text ∈ signsE) (hlo : lo ≤ w.heap.size) (hx : XAt lo w bx x) (hy : XAt lo w by_ y) :
    Calls Tryz.prog 24 #[tokV t, .pointer (some ⟨bx, 0, none⟩), .pointer (some ⟨by_, 0, none⟩)] w (BinG lo (binP t x y) w) := by
  have hbx := hx.lt
  have hby := hy.lt
  obtain ⟨_, dx, kx, ox, ax, lx, sx, Ax, nx, cx, rx, vx⟩ := hx
  obtain ⟨_, dy, ky, oy, ay, ly, sy, Ay, ny, cy, ry, vy⟩ := hy
  obtain ⟨T, hT⟩ : ∃ T, T = nmB t.text := ⟨_, rfl⟩
  have hO : Hid (∀ W : World, Below w.heap.size w W → ∀ b1 b2 : Nat, w.heap.size ≤ b1 → w.heap.size ≤ b2 → W.heap[b1]? = some (.cells #[.int .i64 kx, .int .i64 ox, .int .i64 ax, .int .i64 lx, .string sx, .slice Ax nx cx, .int .i64 ky, .int .i64 oy, .int .i64 ay, .int .i64 ly, .string sy, .slice Ay ny cy] 30 (0, 0)) →
      W.heap[b2]? = some (.cells #[.int .i64 (binK t.text), .int .i64 (binO t.text), .int .i64 0, .int .i64 (t.line : Int), .string ⟨#[]⟩, .slice (some ⟨b1, 0, none⟩) 2 2] 30 (0, 0)) → BinG lo (binP t x y) w (.returned (.pointer (some ⟨b2, 0, none⟩))) W) :=
    Lib.hid (fun W hb b1 b2 h1 h2 r1 r2 => ⟨b2, rfl, bin_out hlo hb h1 h2 vx vy r1 r2, hb⟩)
  have hO2 : BinG lo (binP t x y) w (.returned (.pointer (some ⟨w.heap.size + 1 + 1, 0, none⟩))) (((w.alloc (.cells #[.int .i64 (t.kind : Int), .int .i64 (t.line : Int), .int .i64 (t.value : Int), .string T] 67)).alloc (.cells #[.int .i64 kx, .int .i64 ox, .int .i64 ax, .int .i64 lx, .string sx, .slice Ax nx cx, .int .i64 ky, .int .i64 oy, .int .i64 ay, .int .i64 ly, .string sy, .slice Ay ny cy] 30)).alloc (.cells #[.int .i64 (binK t.text), .int .i64 (binO t.text), .int .i64 0, .int .i64 (t.line : Int), .string ⟨#[]⟩, .slice (some ⟨w.heap.size + 1, 0, none⟩) 2 2] 30)).drew := by
    have hb2 := ((Below.refl _ w).alloc (Nat.le_refl _) (.cells #[.int .i64 (t.kind : Int), .int .i64 (t.line : Int), .int .i64 (t.value : Int), .string T] 67)).alloc (by simp) (.cells #[.int .i64 kx, .int .i64 ox, .int .i64 ax, .int .i64 lx, .string sx, .slice Ax nx cx, .int .i64 ky, .int .i64 oy, .int .i64 ay, .int .i64 ly, .string sy, .slice Ay ny cy] 30)
    have hb3 := (hb2.alloc (by simp; omega) (.cells #[.int .i64 (binK t.text), .int .i64 (binO t.text), .int .i64 0, .int .i64 (t.line : Int), .string ⟨#[]⟩, .slice (some ⟨w.heap.size + 1, 0, none⟩) 2 2] 30)).drew
    have r1 := alloc2_old (w.alloc (.cells #[.int .i64 (t.kind : Int), .int .i64 (t.line : Int), .int .i64 (t.value : Int), .string T] 67)) (.cells #[.int .i64 kx, .int .i64 ox, .int .i64 ax, .int .i64 lx, .string sx, .slice Ax nx cx, .int .i64 ky, .int .i64 oy, .int .i64 ay, .int .i64 ly, .string sy, .slice Ay ny cy] 30) (.cells #[.int .i64 (binK t.text), .int .i64 (binO t.text), .int .i64 0, .int .i64 (t.line : Int), .string ⟨#[]⟩, .slice (some ⟨w.heap.size + 1, 0, none⟩) 2 2] 30)
    have r2 := alloc2_new (w.alloc (.cells #[.int .i64 (t.kind : Int), .int .i64 (t.line : Int), .int .i64 (t.value : Int), .string T] 67)) (.cells #[.int .i64 kx, .int .i64 ox, .int .i64 ax, .int .i64 lx, .string sx, .slice Ax nx cx, .int .i64 ky, .int .i64 oy, .int .i64 ay, .int .i64 ly, .string sy, .slice Ay ny cy] 30) (.cells #[.int .i64 (binK t.text), .int .i64 (binO t.text), .int .i64 0, .int .i64 (t.line : Int), .string ⟨#[]⟩, .slice (some ⟨w.heap.size + 1, 0, none⟩) 2 2] 30)
    have hs : (w.alloc (.cells #[.int .i64 (t.kind : Int), .int .i64 (t.line : Int), .int .i64 (t.value : Int), .string T] 67)).heap.size = w.heap.size + 1 := by simp
    rw [hs] at r1 r2
    exact hO.out _ hb3 _ _ (by omega) (by omega) r1 r2
  have hTL : T.toList = t.text := by
    rw [hT, Lib.toList_data]
    simp [nmB]
  unfold tokV
  rw [← hT]
  clear hT hO
  have a0 := cell_of_row _ _ 0 _ _ _ rx
  have a1 := cell_of_row _ _ 1 _ _ _ rx
  have a2 := cell_of_row _ _ 2 _ _ _ rx
  have a3 := cell_of_row _ _ 3 _ _ _ rx
  have a4 := cell_of_row _ _ 4 _ _ _ rx
  have a5 := cell_of_row _ _ 5 _ _ _ rx
  have e0 := cell_of_row _ _ 0 _ _ _ ry
  have e1 := cell_of_row _ _ 1 _ _ _ ry
  have e2 := cell_of_row _ _ 2 _ _ _ ry
  have e3 := cell_of_row _ _ 3 _ _ _ ry
  have e4 := cell_of_row _ _ 4 _ _ _ ry
  have e5 := cell_of_row _ _ 5 _ _ _ ry
  clear rx ry vx vy
  have HL := Lib.hid hTL
  have HO := Lib.hid hO2
  have Ht := Lib.hid ht
  clear hTL hO2 ht
  go_enter Tryz.func24, Tryz.ntmps24
  go_wp2_with fail
  go_region
  all_goals
    have ht := Ht.out
    simp only [signsE, List.mem_cons, List.not_mem_nil, or_false] at ht
    rcases ht with ht | ht | ht | ht | ht | ht | ht | ht | ht | ht | ht
    all_goals
      have hTL := HL.out
      have hO := HO.out
      rw [ht] at hTL hO
      have HO2 := Lib.hid hO
      clear hO ht HO HL Ht
      go_wp2_with fail
      go_ret
      exact HO2.out
end Go.Proofs.YtmpnkbhlagalkaaGreatDoor
