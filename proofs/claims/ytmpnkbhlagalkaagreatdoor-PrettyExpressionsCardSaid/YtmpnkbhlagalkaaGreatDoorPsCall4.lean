/-
  The walk of the program's call by a name, given the walk of expr. No condition.
-/
import Derived.Test.YtmpnkbhlagalkaaGreatDoorPsCall3
namespace Go.Proofs.YtmpnkbhlagalkaaGreatDoor
open Go.RowKit

/-- A call was read: its tree lies above lo. -/
def CallG (lo p tb : Nat) (x : Ex) (s s' : PS) (w : World) (e : Ending) (w' : World) : Prop := ∃ b, e = .returned (.pointer (some ⟨b, 0, none⟩)) ∧ XAt lo w' b x ∧ PA w' p tb s' ∧ w.grownBy w' (some p) ∧ s'.rest.length < s.rest.length
theorem call_named {E : P1} {x y : Ex} {s s' : PS} (h : callP E x true s = some (y, s')) : ∃ k o a l nm xs ys, x = .mk k o a l nm xs ∧ listP E [] (popP s) = some (ys, s') ∧ y = .mk 9 0 0 ((hdT s).line : Int) nm ys := by
  unfold callP at h
  rw [if_pos rfl] at h
  cases hq : listP E [] (popP s) with
  | none => rw [hq] at h; cases h
  | some q =>
    obtain ⟨ys, s2⟩ := q
    rw [hq] at h
    obtain ⟨k, o, a, l, nm, xs⟩ := x
    simp only at h
    injection h with h
    injection h with h1 h2
    subst h1 h2
    exact ⟨k, o, a, l, nm, xs, ys, rfl, rfl, rfl⟩
theorem below_blk {w w' : World} {o' : Obj} {q : Nat} (hb : Below w.heap.size w w') (h : w.heap[q]? = some o') : w'.heap[q]? = some o' := (hb.block q (Array.getElem?_eq_some_iff.1 h).1).trans h
set_option maxRecDepth 100000 in
set_option maxHeartbeats 2000000 in
theorem callN_any (E : P1) (he : SubCt 12 E) {p tb b1 lo : Nat} {s s' : PS} {x y : Ex} (w : World) (h : PA w p tb s) (hx : XAt lo w b1 x) (hlo : p < lo) (h40 : seesP [[40]] s = true) (hC : callP E x true s = some (y, s')) :
    Calls Tryz.prog 110 #[.pointer (some ⟨p, 0, none⟩), .pointer (some ⟨b1, 0, none⟩), .bool true] w (CallG lo p tb y s s' w) := by
  obtain ⟨kx, ox, ax, lx, nm, xx, ys, rfl, hL, rfl⟩ := call_named hC
  have h2 := sees_two h.wf (by decide) h40
  obtain ⟨hb1lo, dx, k1, o1, a1, l1, t1, A1, n1, c1, hrx, hvx⟩ := hx
  have hnm : t1 = nm := by
    cases dx with
    | zero => exact hvx.elim
    | succ D =>
      obtain ⟨A', c', hv, _⟩ := exV_iff.1 hvx
      injection hv with hv
      injection hv with hv
      injection hv with _ hv
      injection hv with _ hv
      injection hv with _ hv
      injection hv with _ hv
      injection hv with hv _
      injection hv
  subst hnm
  have hb0 := (Below.refl _ w).alloc (Nat.le_refl _) (.cells #[.pointer (some ⟨p, 0, none⟩)] 42)
  have hbx := heap_alloc_new w (.cells #[.pointer (some ⟨p, 0, none⟩)] 42)
  have HN := Lib.hid (next_any _ (h.below hb0) h2)
  have hsl : s.rest.length ≤ 1000001 := by
    obtain ⟨_, _, m, hr⟩ := h
    have := hr.len
    have := hr.sm
    omega
  have hplt := h.lt.1
  have htlt := h.lt.2.1
  have hb1 := (Array.getElem?_eq_some_iff.1 hrx).1
  have HBX := Lib.hid hbx
  have HRX := Lib.hid ((hb0.block _ hb1).trans hrx)
  have HG0 := Lib.hid (grown_of_below hb0 (some p))
  have HL := Lib.hid hL
  have HS := Lib.hid he
  have hmf : ∀ (fn : Fn) (first cap : Array Value) (w : World), (Instr.makeFunc fn first cap).run Tryz.prog w = .ok (.func fn first cap) w := fun _ _ _ _ => rfl
  have hfd : ∀ w : World, (Instr.field 67 (tokV (hdT s)) 1).run Tryz.prog w = .ok (.int .i64 ((hdT s).line : Int)) w := fun _ => by kernel_rfl
  unfold tokV at hfd
  clear h hC hL he hb0 hbx hrx hvx h40
  go_enter Tryz.func110, Tryz.ntmps110
  go_wp2_with fail
  obtain ⟨W0, hW0⟩ : ∃ W0, W0 = w.alloc (.cells #[.pointer (some ⟨p, 0, none⟩)] 42) := ⟨_, rfl⟩
  rw [← hW0] at HN HBX HRX HG0 ⊢
  refine HN.out.mono ?_
  rintro e w2 ⟨rfl, hp2, hg2⟩
  unfold tokV
  have hsz2 := hg2.size
  have hsz0 : w.heap.size < W0.heap.size := (Array.getElem?_eq_some_iff.1 HBX.out).1
  have hrx2 := blk_keep hg2 (by omega) HRX.out
  have hbx2 := blk_keep hg2 (by omega) HBX.out
  have hb4 : Below w2.heap.size w2 ((w2.alloc (.cells #[.int .i64 10, .int .i64 0, .int .i64 0, .int .i64 ((hdT s).line : Int), .string ⟨#[]⟩, .slice none 0 0] 30)).alloc (.cells #[.pointer (some ⟨w2.heap.size, 0, none⟩)] 63)) := ((Below.refl _ w2).alloc (Nat.le_refl _) _).alloc (by simp) _
  have hx4 := alloc2_old w2 (.cells #[.int .i64 10, .int .i64 0, .int .i64 0, .int .i64 ((hdT s).line : Int), .string ⟨#[]⟩, .slice none 0 0] 30) (.cells #[.pointer (some ⟨w2.heap.size, 0, none⟩)] 63)
  have hv4 := alloc2_new w2 (.cells #[.int .i64 10, .int .i64 0, .int .i64 0, .int .i64 ((hdT s).line : Int), .string ⟨#[]⟩, .slice none 0 0] 30) (.cells #[.pointer (some ⟨w2.heap.size, 0, none⟩)] 63)
  go_upto_region 3 with fail
  obtain ⟨W4, hW4⟩ : ∃ W4, W4 = (w2.alloc (.cells #[.int .i64 10, .int .i64 0, .int .i64 0, .int .i64 ((hdT s).line : Int), .string ⟨#[]⟩, .slice none 0 0] 30)).alloc (.cells #[.pointer (some ⟨w2.heap.size, 0, none⟩)] 63) := ⟨_, rfl⟩
  rw [← hW4] at hb4 hx4 hv4 ⊢
  clear hW4
  have hlt4 := (Array.getElem?_eq_some_iff.1 hv4).1
  have hbx4 := below_blk hb4 hbx2
  have hrx4 := below_blk hb4 hrx2
  have cv4 := cell_of_row _ _ 0 _ _ _ hv4
  have cn4 := cell_of_row _ _ 4 _ _ _ hrx4
  have cx0 := cell_of_row _ _ 0 _ _ _ hx4
  have cx4 := cell_of_row _ _ 4 _ _ _ hx4
  have fx0 := codes_fz hx4 0
  have fx4 := codes_fz hx4 4
  have hg46 : W4.grownBy ((W4.setCell ⟨w2.heap.size, 0, none⟩ (.int .i64 9)).setCell ⟨w2.heap.size, 4, none⟩ (.string t1)).drew (some w2.heap.size) := grown_drew ((set_grown W4 ⟨w2.heap.size, 0, none⟩ (.int .i64 9)).trans (set_grown _ ⟨w2.heap.size, 4, none⟩ (.string t1)))
  have hx6 : ((W4.setCell ⟨w2.heap.size, 0, none⟩ (.int .i64 9)).setCell ⟨w2.heap.size, 4, none⟩ (.string t1)).drew.heap[w2.heap.size]? = some (.cells #[.int .i64 9, .int .i64 0, .int .i64 0, .int .i64 ((hdT s).line : Int), .string t1, .slice none 0 0] 30 (0, 0)) := row_set (i := 4) _ (row_set (i := 0) _ hx4)
  have hv6 := blk_keep hg46 (by omega) hv4
  have hbx6 := blk_keep hg46 (by omega) hbx4
  have hs46 := hg46.size
  have hs24 := hb4.size
  have hwf2 := hp2.wf.pos
  have hsm : (popP s).rest.length ≤ 1000000 := by
    obtain ⟨_, _, m, hr⟩ := hp2
    have := hr.len
    have := hr.sm
    have : s.rest.length ≤ 1000001 := hsl
    rw [pop_len]
    omega
  have hcs : CS w lo p tb (w2.heap.size + 1) w.heap.size w2.heap.size W4.heap.size 9 ((hdT s).line : Int) t1 (popP s) [] ((W4.setCell ⟨w2.heap.size, 0, none⟩ (.int .i64 9)).setCell ⟨w2.heap.size, 4, none⟩ (.string t1)).drew :=
    ⟨(hp2.below hb4).other hg46 (by omega) (by omega), cell_of_row _ _ 0 _ _ _ hv6, cell_of_row _ _ 0 _ _ _ hbx6, ⟨none, 0, 0, 0, [], hx6, ArgG.nil _ _ _ _ _⟩, grown_new ((HG0.out.trans hg2).trans (grown_of_below hb4 (some p))) hg46 (by omega), ⟨hlo, by omega, htlt, by omega, Nat.le_refl _, by omega, by omega, by omega, by omega, hs46, by omega, by omega⟩, by simp; omega⟩
  have cv6 := hcs.cv
  have cp6 := hcs.cp
  have HLi := Lib.hid (list_any E HS.out _ hcs HL.out (by simp; omega))
  clear hcs hv6 hbx6 hx6 hg46
  go_region
  clear cx0 cx4 fx0 fx4 cn4 cv4
  go_wp2_with fail
  refine HLi.out.mono ?_
  rintro e w7 ⟨⟨v7, rfl⟩, hcs7, hn7⟩
  have cv7 := hcs7.cv
  obtain ⟨A7, n7, c7, d7, L7, hr7, ha7⟩ := hcs7.row
  obtain ⟨hnn, hrow7⟩ := ha7.row
  have HE : Hid (CallG lo p tb (.mk 9 0 0 ((hdT s).line : Int) t1 ys) s s' w (.returned (.pointer (some ⟨w2.heap.size, 0, none⟩))) w7) := Lib.hid ⟨_, rfl, ⟨by omega, d7 + 1, _, _, _, _, _, _, _, _, hr7, exV_iff.2 ⟨A7, c7, by rw [hnn], RowE.keep (fun b hb => ⟨by have := hb.1; omega, hb.2⟩) (fun _ _ => rfl) hrow7⟩⟩, hcs7.pa, hcs7.gr, by rw [pop_len] at hn7; omega⟩
  clear hcs7 hr7 ha7 hrow7 HLi
  go_wp2_with fail
  go_ret
  exact HE.out
end Go.Proofs.YtmpnkbhlagalkaaGreatDoor
