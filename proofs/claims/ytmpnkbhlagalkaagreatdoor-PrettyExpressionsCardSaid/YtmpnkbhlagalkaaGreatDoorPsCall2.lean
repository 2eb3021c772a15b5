/-
  The walk of the closure that gathers a call's operands, given the walk of expr. Condition: at most a million.
-/
import Derived.Test.YtmpnkbhlagalkaaGreatDoorPsCall1
import Derived.Test.YtmpnkbhlagalkaaGreatDoorRegT
namespace Go.Proofs.YtmpnkbhlagalkaaGreatDoor
open Go.RowKit

/-- An operand was gathered. -/
def ElG (w0 : World) (lw p tb xv pbx xb base : Nat) (k l : Int) (nm : ByteArray) (s : PS) (xs : List Ex) (n : Nat) (e : Ending) (W : World) : Prop := (∃ v, e = .returned v) ∧ CS w0 lw p tb xv pbx xb base k l nm s xs W ∧ s.rest.length ≤ n
theorem CS.farp {w0 W w6 : World} {lw p tb xv pbx xb base d : Nat} {k l : Int} {nm : ByteArray} {s : PS} {xs : List Ex} {v : Value} {L : List Value} (h : CS w0 lw p tb xv pbx xb base k l nm s xs W) (ha : ArgG lw w0.heap.size base d W v xs L) (hg : W.grownBy w6 v.ownBlock) : w6.cell? ⟨pbx, 0, none⟩ = some (.pointer (some ⟨p, 0, none⟩)) := by
  have hl := h.lo.2.2.2.2.2.2.2.1
  exact (World.cell?_of_block (hg.block pbx (World.block_lt_of_cell? W _ h.cp) (fun e => by have := (ha.own.lt pbx e.symm).1; omega))).trans h.cp
/-- The captured variables. -/
def SeV (xv pbx xb p : Nat) (w' : World) : Prop := w'.cell? ⟨xv, 0, none⟩ = some (.pointer (some ⟨xb, 0, none⟩)) ∧ w'.cell? ⟨pbx, 0, none⟩ = some (.pointer (some ⟨p, 0, none⟩))
/-- The call's operands. -/
def SeO (xb : Nat) (v : Value) (w' : World) : Prop := w'.cell? ⟨xb, 5, none⟩ = some v
/-- The captured variables, and the new operand. -/
def SeB (xv pbx xb p b5 : Nat) (c0 c1 c2 c3 c4 c5 : Value) (w' : World) : Prop := SeV xv pbx xb p w' ∧ w'.cell? ⟨b5, 0, none⟩ = some c0 ∧ w'.cell? ⟨b5, 1, none⟩ = some c1 ∧ w'.cell? ⟨b5, 2, none⟩ = some c2 ∧ w'.cell? ⟨b5, 3, none⟩ = some c3 ∧ w'.cell? ⟨b5, 4, none⟩ = some c4 ∧ w'.cell? ⟨b5, 5, none⟩ = some c5
theorem SeV.below {w w' : World} {xv pbx xb p : Nat} (h : SeV xv pbx xb p w) (hb : Below w.heap.size w w') : SeV xv pbx xb p w' := ⟨hold hb h.1, hold hb h.2⟩
theorem SeB.below {w w' : World} {xv pbx xb p b5 : Nat} {c0 c1 c2 c3 c4 c5 : Value} (h : SeB xv pbx xb p b5 c0 c1 c2 c3 c4 c5 w) (hb : Below w.heap.size w w') : SeB xv pbx xb p b5 c0 c1 c2 c3 c4 c5 w' :=
  ⟨h.1.below hb, hold hb h.2.1, hold hb h.2.2.1, hold hb h.2.2.2.1, hold hb h.2.2.2.2.1, hold hb h.2.2.2.2.2.1, hold hb h.2.2.2.2.2.2⟩
theorem SeB.set {w : World} {xv pbx xb p b5 : Nat} {c0 c1 c2 c3 c4 c5 : Value} (h : SeB xv pbx xb p b5 c0 c1 c2 c3 c4 c5 w) (h1 : xv ≠ xb) (h2 : pbx ≠ xb) (h3 : b5 ≠ xb) (v : Value) : SeB xv pbx xb p b5 c0 c1 c2 c3 c4 c5 (w.setCell ⟨xb, 5, none⟩ v) := by
  have hg := set_grown w ⟨xb, 5, none⟩ v
  exact ⟨⟨cell_grown hg h1 h.1.1, cell_grown hg h2 h.1.2⟩, cell_grown hg h3 h.2.1, cell_grown hg h3 h.2.2.1, cell_grown hg h3 h.2.2.2.1, cell_grown hg h3 h.2.2.2.2.1, cell_grown hg h3 h.2.2.2.2.2.1, cell_grown hg h3 h.2.2.2.2.2.2⟩
theorem SeB.of_row {w : World} {xv pbx xb p b5 : Nat} {c0 c1 c2 c3 c4 c5 : Value} {T : TypeId} (h : SeV xv pbx xb p w) (hr : w.heap[b5]? = some (.cells #[c0, c1, c2, c3, c4, c5] T (0, 0))) : SeB xv pbx xb p b5 c0 c1 c2 c3 c4 c5 w :=
  ⟨h, cell_of_row _ _ 0 _ _ _ hr, cell_of_row _ _ 1 _ _ _ hr, cell_of_row _ _ 2 _ _ _ hr, cell_of_row _ _ 3 _ _ _ hr, cell_of_row _ _ 4 _ _ _ hr, cell_of_row _ _ 5 _ _ _ hr⟩
/-- The last operand of a row stands in its cells. -/
theorem ArgG.tail_cells {lw hi base d g cap n : Nat} {w : World} {xs : List Ex} {L : List Value} {z0 z1 z2 z3 z4 z5 : Value} (hL : L.length = n * 6) (h : ArgG lw hi base d w (.slice (some ⟨g, 0, none⟩) (n + 1) cap) xs (L ++ [z0, z1, z2, z3, z4, z5])) :
    w.cell? ⟨g, n * 6, none⟩ = some z0 ∧ w.cell? ⟨g, n * 6 + 1, none⟩ = some z1 ∧ w.cell? ⟨g, n * 6 + 2, none⟩ = some z2 ∧ w.cell? ⟨g, n * 6 + 3, none⟩ = some z3 ∧ w.cell? ⟨g, n * 6 + 4, none⟩ = some z4 ∧ w.cell? ⟨g, n * 6 + 5, none⟩ = some z5 ∧ (∀ o, w.frozen? ⟨g, o, none⟩ = false) ∧ base ≤ g ∧ g < w.heap.size ∧ n + 1 ≤ cap := by
  rcases h.own.2 with ⟨e, _⟩ | ⟨g', cap', cur, e, hb, hh, hc, _⟩
  · cases e
  · injection e with e1 e2 e3
    injection e1 with e1
    injection e1 with e1
    subst e1 e3
    have ho : w.ownsRow base 30 6 (.slice (some ⟨g, 0, none⟩) (n + 1) cap) (n + 1) (L ++ [z0, z1, z2, z3, z4, z5]) := by
      have := h.own
      rwa [← e2] at this
    have hk : ∀ k z, [z0, z1, z2, z3, z4, z5][k]? = some z → k < 6 → w.cell? ⟨g, n * 6 + k, none⟩ = some z := fun k z hz hk6 => by
      refine (ho.cellAt (n * 6 + k) (by omega)).trans ?_
      rw [List.getElem?_append_right (by omega), hL, Nat.add_sub_cancel_left]
      exact hz
    exact ⟨hk 0 _ rfl (by decide), hk 1 _ rfl (by decide), hk 2 _ rfl (by decide), hk 3 _ rfl (by decide), hk 4 _ rfl (by decide), hk 5 _ rfl (by decide), fun o => codes_fz hh o, hb, (Array.getElem?_eq_some_iff.1 hh).1, by omega⟩
/-- The last operand is another one: the row's block alone has changed. -/
theorem CS.last {w0 w7 W : World} {lw p tb xv pbx xb base g cap d n : Nat} {k l : Int} {nm : ByteArray} {s : PS} {xs ys : List Ex} {L : List Value} (h : CS w0 lw p tb xv pbx xb base k l nm s xs w7) (hr : w7.heap[xb]? = some (.cells #[.int .i64 k, .int .i64 0, .int .i64 0, .int .i64 l, .string nm, .slice (some ⟨g, 0, none⟩) n cap] 30 (0, 0)))
    (hlen : ys.length = xs.length) (hg : w7.grownBy W (some g)) (hgb : base ≤ g) (ha : ArgG lw w0.heap.size base d W (.slice (some ⟨g, 0, none⟩) n cap) ys L) : CS w0 lw p tb xv pbx xb base k l nm s ys W := by
  obtain ⟨h1, hlw, h2, h3, h4, h5, h6, h7, h8, h9, h10, h11⟩ := h.lo
  exact ⟨h.pa.other hg (by omega) (by omega), cell_grown hg (by omega) h.cv, cell_grown hg (by omega) h.cp, ⟨_, _, _, d, L, blk_keep hg (by omega) hr, ha⟩, grown_new h.gr hg (by omega), ⟨h1, hlw, h2, h3, h4, h5, h6, h7, h8, Nat.le_trans h9 hg.size, h10, h11⟩, by have := h.few; omega⟩
/-- A struct of zeros. -/
def zE : Obj := .cells #[.int .i64 0, .int .i64 0, .int .i64 0, .int .i64 0, .string ⟨#[]⟩, .slice none 0 0] 30
set_option linter.unusedSimpArgs false in
set_option maxRecDepth 100000 in
set_option maxHeartbeats 4000000 in
theorem elem_any (E : P1) (he : SubCt 12 E) {w0 : World} {lw p tb xv pbx xb base : Nat} {k l : Int} {nm : ByteArray} {s s' : PS} {xs : List Ex} {y : Ex} (W : World) (h : CS w0 lw p tb xv pbx xb base k l nm s xs W) (hE : E s = some (y, s')) (hfew : xs.length + 1 + s.rest.length ≤ 1000002) :
    Calls Tryz.prog 119 #[.pointer (some ⟨xv, 0, none⟩), .pointer (some ⟨pbx, 0, none⟩)] W (ElG w0 lw p tb xv pbx xb base k l nm s' (xs ++ [y]) s.rest.length) := by
  have HCS := Lib.hid h
  have HE := Lib.hid hE
  have HS := Lib.hid he
  clear h hE he
  go_enter Tryz.func119, Tryz.ntmps119
  go_wp2_with fail
  go_region
  · have hcs := HCS.out.below ((((Below.refl _ W).alloc (Nat.le_refl _) (.cells #[.bool false] 4)).drew).drew)
    have HC := Lib.hid (HS.out p tb s s' y _ hcs.pa HE.out)
    obtain ⟨A, n, c, d, L, hr, ha⟩ := hcs.row
    obtain rfl : n = xs.length := ha.row.1
    have hlen : xs.length ≤ 1000000 := by have := hcs.pa.wf.pos; omega
    have hV0 : SeV xv pbx xb p ((W.alloc (.cells #[.bool false] 4)).drew).drew := ⟨hcs.cv, hcs.cp⟩
    have hO0 : SeO xb (.slice A xs.length c) ((W.alloc (.cells #[.bool false] 4)).drew).drew := cell_of_row _ _ 5 _ _ _ hr
    have HCS1 := Lib.hid hcs
    have HR := Lib.hid hr
    have HAR := Lib.hid ha
    clear hcs hr ha
    go_upto_region 3 with fail
    refine GoT.region (S := SeV xv pbx xb p) (T := SeO xb (.slice A xs.length c)) (z := 13) (by kernel_rfl) hV0 hO0 (fun _ => ?_)
    simp only [List.size_toArray, List.length_cons, List.length_nil, Nat.zero_add, Nat.reduceAdd]
    refine GoT.take (i := 0) (v := ?_) rfl rfl (by decide +kernel) (by kernel_rfl) (by decide +kernel) (by decide +kernel) (fun _ _ _ h => h) (Or.inl ⟨by rfl, ?_⟩) ⟨by assumption, (by first | exact .inr (by assumption) | exact .inl (by decide +kernel))⟩ ?_
    rotate_left
    · intro w hSw
      (try unfold SeB at hSw)
      (try unfold SeV at hSw)
      go_simp
      (try with_reducible rfl)
    try simp only [List.getElem_toArray, List.getElem_cons_zero, List.getElem_cons_succ, Act.put, List.setIfInBounds_toArray, List.set_cons_zero, List.set_cons_succ]
    refine GoT.take (i := 1) (v := ?_) rfl rfl (by decide +kernel) (by kernel_rfl) (by decide +kernel) (by decide +kernel) (fun _ _ _ h => h) (Or.inl ⟨by rfl, ?_⟩) ⟨by assumption, (by first | exact .inr (by assumption) | exact .inl (by decide +kernel))⟩ ?_
    rotate_left
    · intro w hSw
      (try unfold SeB at hSw)
      (try unfold SeV at hSw)
      go_simp
      (try with_reducible rfl)
    try simp only [List.getElem_toArray, List.getElem_cons_zero, List.getElem_cons_succ, Act.put, List.setIfInBounds_toArray, List.set_cons_zero, List.set_cons_succ]
    refine GoT.take (i := 2) (v := ?_) rfl rfl (by decide +kernel) (by kernel_rfl) (by decide +kernel) (by decide +kernel) (fun _ _ _ h => h) (Or.inl ⟨by rfl, ?_⟩) ⟨by assumption, (by first | exact .inr (by assumption) | exact .inl (by decide +kernel))⟩ ?_
    rotate_left
    · intro w hSw
      (try unfold SeB at hSw)
      (try unfold SeV at hSw)
      go_simp
      (try with_reducible rfl)
    try simp only [List.getElem_toArray, List.getElem_cons_zero, List.getElem_cons_succ, Act.put, List.setIfInBounds_toArray, List.set_cons_zero, List.set_cons_succ]
    refine GoT.take (i := 3) (v := ?_) rfl rfl (by decide +kernel) (by kernel_rfl) (by decide +kernel) (by decide +kernel) (fun _ _ _ h => h) (Or.inl ⟨by rfl, ?_⟩) ⟨by assumption, (by first | exact .inr (by assumption) | exact .inl (by decide +kernel))⟩ ?_
    rotate_left
    · intro w hSw
      (try unfold SeB at hSw)
      (try unfold SeV at hSw)
      go_simp
      (try with_reducible rfl)
    try simp only [List.getElem_toArray, List.getElem_cons_zero, List.getElem_cons_succ, Act.put, List.setIfInBounds_toArray, List.set_cons_zero, List.set_cons_succ]
    refine GoT.takeT (i := 4) (v := ?_) rfl rfl (by decide +kernel) (by kernel_rfl) (by decide +kernel) (by decide +kernel) (fun _ _ _ h => h) (Or.inl ⟨by rfl, ?_⟩) ⟨by assumption, .inr (by assumption)⟩ ?_
    rotate_left
    · intro w hSw
      unfold SeV SeO at hSw
      go_simp
      (try with_reducible rfl)
    try simp only [List.getElem_toArray, List.getElem_cons_zero, List.getElem_cons_succ, Act.put, List.setIfInBounds_toArray, List.set_cons_zero, List.set_cons_succ]
    refine GoT.take (i := 5) (v := ?_) rfl rfl (by decide +kernel) (by kernel_rfl) (by decide +kernel) (by decide +kernel) (fun _ _ _ h => h) (Or.inl ⟨by rfl, ?_⟩) ⟨by assumption, (by first | exact .inr (by assumption) | exact .inl (by decide +kernel))⟩ ?_
    rotate_left
    · intro w hSw
      (try unfold SeB at hSw)
      (try unfold SeV at hSw)
      go_simp
      (try with_reducible rfl)
    try simp only [List.getElem_toArray, List.getElem_cons_zero, List.getElem_cons_succ, Act.put, List.setIfInBounds_toArray, List.set_cons_zero, List.set_cons_succ]
    refine GoT.next (rs := [6]) (by decide +kernel) (by simp) (AllT.cons rfl (fun K hK => ?_) AllT.nil)
    dsimp only [List.getElem_toArray, List.getElem_cons_zero, List.getElem_cons_succ]
    go_simp
    go_at_call 12
    (with_reducible refine HC.out.mono ?_)
    rintro e w2 ⟨b5, rfl, hx2, hp2, hg2, hl2⟩
    obtain ⟨dy, ky, oy, ay, ly, sy, Ay, ny, cy, rx, hcs2, hr2, ha2, hy2, hF2, hb2⟩ := HCS1.out.after HR.out HAR.out hx2 hp2 hg2 hl2
    have hb5 := hx2.1
    have HLN := Lib.hid hl2
    have Hf : Hid (xs.length + 1 + s'.rest.length ≤ 1000002) := Lib.hid (by omega)
    have hV2 : SeV xv pbx xb p w2 := ⟨hcs2.cv, hcs2.cp⟩
    have hO2 : SeO xb (.slice A xs.length c) w2 := cell_of_row _ _ 5 _ _ _ hr2
    have hB2 : SeB xv pbx xb p b5 (.int .i64 ky) (.int .i64 oy) (.int .i64 ay) (.int .i64 ly) (.string sy) (.slice Ay ny cy) w2 := ⟨hV2, cell_of_row _ _ 0 _ _ _ rx, cell_of_row _ _ 1 _ _ _ rx, cell_of_row _ _ 2 _ _ _ rx, cell_of_row _ _ 3 _ _ _ rx, cell_of_row _ _ 4 _ _ _ rx, cell_of_row _ _ 5 _ _ _ rx⟩
    have HCS2 := Lib.hid hcs2
    have HR2 := Lib.hid hr2
    have HA2 := Lib.hid ha2
    have HY2 := Lib.hid hy2
    have HF2 := Lib.hid hF2
    have HG2 := Lib.hid hg2
    have HRX := Lib.hid rx
    clear hx2 hp2 hg2 hl2 rx hcs2 hr2 ha2 hy2 hF2
    dsimp only
    refine hK.out _ _ ⟨hV2, .inr hO2⟩ (fun _ => ?_)
    clear hK K
    try simp only [Act.put, List.setIfInBounds_toArray, List.set_cons_zero, List.set_cons_succ]
    refine GoT.sharp (S' := SeB xv pbx xb p b5 (.int .i64 ky) (.int .i64 oy) (.int .i64 ay) (.int .i64 ly) (.string sy) (.slice Ay ny cy)) (fun _ h => h.1) _ _ _ _ ?_
    refine GoT.take (i := 7) (v := ?_) rfl rfl (by decide +kernel) (by kernel_rfl) (by decide +kernel) (by decide +kernel) (fun _ _ _ h => h) (Or.inl ⟨by rfl, ?_⟩) ⟨by assumption, (by first | exact .inr (by assumption) | exact .inl (by decide +kernel))⟩ ?_
    rotate_left
    · intro w hSw
      (try unfold SeB at hSw)
      (try unfold SeV at hSw)
      go_simp
      (try with_reducible rfl)
    try simp only [List.getElem_toArray, List.getElem_cons_zero, List.getElem_cons_succ, Act.put, List.setIfInBounds_toArray, List.set_cons_zero, List.set_cons_succ]
    refine GoT.take (i := 8) (v := ?_) rfl rfl (by decide +kernel) (by kernel_rfl) (by decide +kernel) (by decide +kernel) (fun _ _ _ h => h) (Or.inl ⟨by rfl, ?_⟩) ⟨by assumption, (by first | exact .inr (by assumption) | exact .inl (by decide +kernel))⟩ ?_
    rotate_left
    · intro w hSw
      (try unfold SeB at hSw)
      (try unfold SeV at hSw)
      go_simp
      (try with_reducible rfl)
    try simp only [List.getElem_toArray, List.getElem_cons_zero, List.getElem_cons_succ, Act.put, List.setIfInBounds_toArray, List.set_cons_zero, List.set_cons_succ]
    have hBa := hB2.below ((Below.refl _ w2).alloc (Nat.le_refl _) (.cells #[.int .i64 ky, .int .i64 oy, .int .i64 ay, .int .i64 ly, .string sy, .slice Ay ny cy] 30))
    have hOa : SeO xb (.slice A xs.length c) (w2.alloc (.cells #[.int .i64 ky, .int .i64 oy, .int .i64 ay, .int .i64 ly, .string sy, .slice Ay ny cy] 30)) := hold ((Below.refl _ w2).alloc (Nat.le_refl _) _) hO2
    refine GoT.next (rs := [9]) (by decide +kernel) (by simp) (AllT.cons rfl (fun K hK => ?_) AllT.nil)
    dsimp only [List.getElem_toArray, List.getElem_cons_zero, List.getElem_cons_succ]
    go_simp
    refine hK.out _ _ ⟨hBa, .inr hOa⟩ (fun _ => ?_)
    clear hK K
    try simp only [Act.put, List.setIfInBounds_toArray, List.set_cons_zero, List.set_cons_succ]
    refine GoT.next (rs := [10]) (by decide +kernel) (by simp) (AllT.cons rfl (fun K hK => ?_) AllT.nil)
    refine step_append_ex w2 ?_ (.tmp 22) (.tmp 27) ?_ lw w0.heap.size base (d + dy) (.slice A xs.length c) xs L y ky oy ay ly sy Ay ny cy _ ?_ ?_ HA2.out hlen hb2 HY2.out HF2.out ?_
    · rfl
    · rfl
    · rfl
    · rfl
    intro g6 cap6 w6 har6 hg6 _
    have hlo := HCS2.out.lo
    have hxb := (Array.getElem?_eq_some_iff.1 HR.out).1
    have hr6 := (hg6.block xb (Array.getElem?_eq_some_iff.1 HR2.out).1 (fun e => by have := (HA2.out.own.lt xb e.symm).1; omega)).trans HR2.out
    have hx6 := (hg6.block b5 (Array.getElem?_eq_some_iff.1 HRX.out).1 (fun e => (HF2.out b5 ⟨hb5, (Array.getElem?_eq_some_iff.1 HRX.out).1⟩).2.2 e.symm)).trans HRX.out
    have hO6 : SeO xb (.slice A xs.length c) w6 := cell_of_row _ _ 5 _ _ _ hr6
    have c6 : w6.cell? ⟨xb, 5, none⟩ = some (.slice A xs.length c) := hO6
    have f6 := codes_fz hr6 5
    have hB6 := SeB.of_row (p := p) ⟨HCS2.out.far HA2.out hg6, HCS2.out.farp HA2.out hg6⟩ hx6
    have hB7 := hB6.set (by omega) (by omega) (by omega) (.slice (some ⟨g6, 0, none⟩) (xs.length + 1) cap6)
    have HEND := Lib.hid (HCS2.out.push Hf.out HR2.out HA2.out hg6 har6)
    clear hr6 har6 hg6 hx6 hlo hxb
    refine hK.out _ _ ⟨hB6, .inr hO6⟩ (fun _ => ?_)
    clear hK K
    try simp only [List.getElem_toArray, List.getElem_cons_zero, List.getElem_cons_succ, Act.put, List.setIfInBounds_toArray, List.set_cons_zero, List.set_cons_succ]
    refine GoT.take (i := 11) (v := ?_) rfl rfl (by decide +kernel) (by kernel_rfl) (by decide +kernel) (by decide +kernel) (fun _ _ _ h => h) (Or.inl ⟨by rfl, ?_⟩) ⟨by assumption, (by first | exact .inr (by assumption) | exact .inl (by decide +kernel))⟩ ?_
    rotate_left
    · intro w hSw
      (try unfold SeB at hSw)
      (try unfold SeV at hSw)
      go_simp
      (try with_reducible rfl)
    try simp only [List.getElem_toArray, List.getElem_cons_zero, List.getElem_cons_succ, Act.put, List.setIfInBounds_toArray, List.set_cons_zero, List.set_cons_succ]
    refine GoT.take (i := 12) (v := ?_) rfl rfl (by decide +kernel) (by kernel_rfl) (by decide +kernel) (by decide +kernel) (fun _ _ _ h => h) (Or.inl ⟨by rfl, ?_⟩) ⟨by assumption, (by first | exact .inr (by assumption) | exact .inl (by decide +kernel))⟩ ?_
    rotate_left
    · intro w hSw
      (try unfold SeB at hSw)
      (try unfold SeV at hSw)
      go_simp
      (try with_reducible rfl)
    try simp only [List.getElem_toArray, List.getElem_cons_zero, List.getElem_cons_succ, Act.put, List.setIfInBounds_toArray, List.set_cons_zero, List.set_cons_succ]
    refine GoT.next (rs := [13]) (by decide +kernel) (by simp) (AllT.cons rfl (fun K hK => ?_) AllT.nil)
    dsimp only [List.getElem_toArray, List.getElem_cons_zero, List.getElem_cons_succ]
    go_simp
    refine hK.out _ _ ⟨hB7, .inl (by decide +kernel)⟩ (fun _ => ?_)
    clear hK K
    try simp only [Act.put, List.setIfInBounds_toArray, List.set_cons_zero, List.set_cons_succ]
    refine GoT.done (by decide +kernel) ?_ _
    exact bodyPost_ret (results_none rfl _ _ _) rfl ⟨⟨_, rfl⟩, HEND.out, HLN.out⟩
  · have hcs := HCS.out.below ((((Below.refl _ W).alloc (Nat.le_refl _) (.cells #[.bool true] 4)).drew).drew)
    obtain ⟨A, n, c, d, L, hr, ha⟩ := hcs.row
    obtain rfl : n = xs.length := ha.row.1
    have hlen : xs.length ≤ 1000000 := by have := hcs.pa.wf.pos; omega
    have hV0 : SeV xv pbx xb p ((W.alloc (.cells #[.bool true] 4)).drew).drew := ⟨hcs.cv, hcs.cp⟩
    have hO0 : SeO xb (.slice A xs.length c) ((W.alloc (.cells #[.bool true] 4)).drew).drew := cell_of_row _ _ 5 _ _ _ hr
    have HCS1 := Lib.hid hcs
    have HR := Lib.hid hr
    have HAR := Lib.hid ha
    have HC := Lib.hid (HS.out p tb s s' y _ hcs.pa HE.out)
    clear hcs hr ha
    go_upto_region 1 with fail
    refine GoT.region (S := SeV xv pbx xb p) (T := SeO xb (.slice A xs.length c)) (z := 13) (by kernel_rfl) hV0 hO0 (fun _ => ?_)
    simp only [List.size_toArray, List.length_cons, List.length_nil, Nat.zero_add, Nat.reduceAdd]
    refine GoT.take (i := 0) (v := ?_) rfl rfl (by decide +kernel) (by kernel_rfl) (by decide +kernel) (by decide +kernel) (fun _ _ _ h => h) (Or.inl ⟨by rfl, ?_⟩) ⟨by assumption, (by first | exact .inr (by assumption) | exact .inl (by decide +kernel))⟩ ?_
    rotate_left
    · intro w hSw
      (try unfold SeB at hSw)
      (try unfold SeV at hSw)
      go_simp
      (try with_reducible rfl)
    try simp only [List.getElem_toArray, List.getElem_cons_zero, List.getElem_cons_succ, Act.put, List.setIfInBounds_toArray, List.set_cons_zero, List.set_cons_succ]
    refine GoT.take (i := 1) (v := ?_) rfl rfl (by decide +kernel) (by kernel_rfl) (by decide +kernel) (by decide +kernel) (fun _ _ _ h => h) (Or.inl ⟨by rfl, ?_⟩) ⟨by assumption, (by first | exact .inr (by assumption) | exact .inl (by decide +kernel))⟩ ?_
    rotate_left
    · intro w hSw
      (try unfold SeB at hSw)
      (try unfold SeV at hSw)
      go_simp
      (try with_reducible rfl)
    try simp only [List.getElem_toArray, List.getElem_cons_zero, List.getElem_cons_succ, Act.put, List.setIfInBounds_toArray, List.set_cons_zero, List.set_cons_succ]
    refine GoT.take (i := 2) (v := ?_) rfl rfl (by decide +kernel) (by kernel_rfl) (by decide +kernel) (by decide +kernel) (fun _ _ _ h => h) (Or.inl ⟨by rfl, ?_⟩) ⟨by assumption, (by first | exact .inr (by assumption) | exact .inl (by decide +kernel))⟩ ?_
    rotate_left
    · intro w hSw
      (try unfold SeB at hSw)
      (try unfold SeV at hSw)
      go_simp
      (try with_reducible rfl)
    try simp only [List.getElem_toArray, List.getElem_cons_zero, List.getElem_cons_succ, Act.put, List.setIfInBounds_toArray, List.set_cons_zero, List.set_cons_succ]
    refine GoT.takeT (i := 3) (v := ?_) rfl rfl (by decide +kernel) (by kernel_rfl) (by decide +kernel) (by decide +kernel) (fun _ _ _ h => h) (Or.inl ⟨by rfl, ?_⟩) ⟨by assumption, .inr (by assumption)⟩ ?_
    rotate_left
    · intro w hSw
      unfold SeV SeO at hSw
      go_simp
      (try with_reducible rfl)
    try simp only [List.getElem_toArray, List.getElem_cons_zero, List.getElem_cons_succ, Act.put, List.setIfInBounds_toArray, List.set_cons_zero, List.set_cons_succ]
    refine GoT.take (i := 4) (v := ?_) rfl rfl (by decide +kernel) (by kernel_rfl) (by decide +kernel) (by decide +kernel) (fun _ _ _ h => h) (Or.inl ⟨by rfl, ?_⟩) ⟨by assumption, (by first | exact .inr (by assumption) | exact .inl (by decide +kernel))⟩ ?_
    rotate_left
    · intro w hSw
      (try unfold SeB at hSw)
      (try unfold SeV at hSw)
      go_simp
      (try with_reducible rfl)
    try simp only [List.getElem_toArray, List.getElem_cons_zero, List.getElem_cons_succ, Act.put, List.setIfInBounds_toArray, List.set_cons_zero, List.set_cons_succ]
    refine GoT.take (i := 8) (v := ?_) rfl rfl (by decide +kernel) (by kernel_rfl) (by decide +kernel) (by decide +kernel) (fun _ _ _ h => h) (Or.inl ⟨by rfl, ?_⟩) ⟨by assumption, (by first | exact .inr (by assumption) | exact .inl (by decide +kernel))⟩ ?_
    rotate_left
    · intro w hSw
      (try unfold SeB at hSw)
      (try unfold SeV at hSw)
      go_simp
      (try with_reducible rfl)
    try simp only [List.getElem_toArray, List.getElem_cons_zero, List.getElem_cons_succ, Act.put, List.setIfInBounds_toArray, List.set_cons_zero, List.set_cons_succ]
    refine GoT.next (rs := [5, 9]) (by decide +kernel) (by simp) (AllT.cons rfl (fun K hK => ?_) (AllT.cons rfl (fun K hK => ?_) AllT.nil))
    · dsimp only [List.getElem_toArray, List.getElem_cons_zero, List.getElem_cons_succ]
      go_simp
      go_at_call 12
      (with_reducible refine HC.out.mono ?_)
      rintro e w2 ⟨b5, rfl, hx2, hp2, hg2, hl2⟩
      obtain ⟨dy, ky, oy, ay, ly, sy, Ay, ny, cy, rx, hcs2, hr2, ha2, hy2, hF2, hb2⟩ := HCS1.out.after HR.out HAR.out hx2 hp2 hg2 hl2
      have hb5 := hx2.1
      have HLN := Lib.hid hl2
      have Hf : Hid (xs.length + 1 + s'.rest.length ≤ 1000002) := Lib.hid (by omega)
      have hV2 : SeV xv pbx xb p w2 := ⟨hcs2.cv, hcs2.cp⟩
      have hO2 : SeO xb (.slice A xs.length c) w2 := cell_of_row _ _ 5 _ _ _ hr2
      have hB2 : SeB xv pbx xb p b5 (.int .i64 ky) (.int .i64 oy) (.int .i64 ay) (.int .i64 ly) (.string sy) (.slice Ay ny cy) w2 := ⟨hV2, cell_of_row _ _ 0 _ _ _ rx, cell_of_row _ _ 1 _ _ _ rx, cell_of_row _ _ 2 _ _ _ rx, cell_of_row _ _ 3 _ _ _ rx, cell_of_row _ _ 4 _ _ _ rx, cell_of_row _ _ 5 _ _ _ rx⟩
      have HCS2 := Lib.hid hcs2
      have HR2 := Lib.hid hr2
      have HA2 := Lib.hid ha2
      have HY2 := Lib.hid hy2
      have HF2 := Lib.hid hF2
      have HG2 := Lib.hid hg2
      have HRX := Lib.hid rx
      clear hx2 hp2 hg2 hl2 rx hcs2 hr2 ha2 hy2 hF2
      dsimp only
      refine hK.out _ _ ⟨hV2, .inr hO2⟩ (fun _ => ?_)
      clear hK K
      try simp only [Act.put, List.setIfInBounds_toArray, List.set_cons_zero, List.set_cons_succ]
      refine GoT.sharp (S' := SeB xv pbx xb p b5 (.int .i64 ky) (.int .i64 oy) (.int .i64 ay) (.int .i64 ly) (.string sy) (.slice Ay ny cy)) (fun _ h => h.1) _ _ _ _ ?_
      refine GoT.take (i := 6) (v := ?_) rfl rfl (by decide +kernel) (by kernel_rfl) (by decide +kernel) (by decide +kernel) (fun _ _ _ h => h) (Or.inl ⟨by rfl, ?_⟩) ⟨by assumption, (by first | exact .inr (by assumption) | exact .inl (by decide +kernel))⟩ ?_
      rotate_left
      · intro w hSw
        (try unfold SeB at hSw)
        (try unfold SeV at hSw)
        go_simp
        (try with_reducible rfl)
      try simp only [List.getElem_toArray, List.getElem_cons_zero, List.getElem_cons_succ, Act.put, List.setIfInBounds_toArray, List.set_cons_zero, List.set_cons_succ]
      refine GoT.take (i := 7) (v := ?_) rfl rfl (by decide +kernel) (by kernel_rfl) (by decide +kernel) (by decide +kernel) (fun _ _ _ h => h) (Or.inl ⟨by rfl, ?_⟩) ⟨by assumption, (by first | exact .inr (by assumption) | exact .inl (by decide +kernel))⟩ ?_
      rotate_left
      · intro w hSw
        (try unfold SeB at hSw)
        (try unfold SeV at hSw)
        go_simp
        (try with_reducible rfl)
      try simp only [List.getElem_toArray, List.getElem_cons_zero, List.getElem_cons_succ, Act.put, List.setIfInBounds_toArray, List.set_cons_zero, List.set_cons_succ]
      have hBa := hB2.below ((Below.refl _ w2).alloc (Nat.le_refl _) zE)
      have hOa : SeO xb (.slice A xs.length c) (w2.alloc zE) := hold ((Below.refl _ w2).alloc (Nat.le_refl _) _) hO2
      unfold zE at hBa hOa
      refine GoT.next (rs := [9]) (by decide +kernel) (by simp) (AllT.cons rfl (fun K hK => ?_) AllT.nil)
      dsimp only [List.getElem_toArray, List.getElem_cons_zero, List.getElem_cons_succ]
      go_simp
      refine hK.out _ _ ⟨hBa, .inr hOa⟩ (fun _ => ?_)
      clear hK K
      try simp only [Act.put, List.setIfInBounds_toArray, List.set_cons_zero, List.set_cons_succ]
      refine GoT.next (rs := [10]) (by decide +kernel) (by simp) (AllT.cons rfl (fun K hK => ?_) AllT.nil)
      obtain ⟨D, hD⟩ : ∃ D, d + dy = D + 1 := by
        cases hq : d + dy with
        | zero =>
          have := HY2.out
          rw [hq] at this
          exact this.elim
        | succ q => exact ⟨q, rfl⟩
      refine step_append_ex w2 ?_ (.tmp 7) (.tmp 13) ?_ lw w0.heap.size base (d + dy) (.slice A xs.length c) xs L (.mk 0 0 0 0 ⟨#[]⟩ []) 0 0 0 0 ⟨#[]⟩ none 0 0 (fun _ => False) ?_ ?_ HA2.out hlen hb2 (by rw [hD]; exact exV_leaf) (fun b h => h.elim) ?_
      · rfl
      · rfl
      · rfl
      · rfl
      intro g6 cap6 w6 har6 hg6 hat6
      have hlo := HCS2.out.lo
      have hxb := (Array.getElem?_eq_some_iff.1 HR.out).1
      have hr6 := (hg6.block xb (Array.getElem?_eq_some_iff.1 HR2.out).1 (fun e => by have := (HA2.out.own.lt xb e.symm).1; omega)).trans HR2.out
      have hx6 := (hg6.block b5 (Array.getElem?_eq_some_iff.1 HRX.out).1 (fun e => (HF2.out b5 ⟨hb5, (Array.getElem?_eq_some_iff.1 HRX.out).1⟩).2.2 e.symm)).trans HRX.out
      have hO6 : SeO xb (.slice A xs.length c) w6 := cell_of_row _ _ 5 _ _ _ hr6
      have c6 : w6.cell? ⟨xb, 5, none⟩ = some (.slice A xs.length c) := hO6
      have f6 := codes_fz hr6 5
      have hB6 := SeB.of_row (p := p) ⟨HCS2.out.far HA2.out hg6, HCS2.out.farp HA2.out hg6⟩ hx6
      have hB7 := hB6.set (by omega) (by omega) (by omega) (.slice (some ⟨g6, 0, none⟩) (xs.length + 1) cap6)
      have hEND := HCS2.out.push Hf.out HR2.out HA2.out hg6 har6
      have hrow7 : (w6.setCell ⟨xb, 5, none⟩ (.slice (some ⟨g6, 0, none⟩) (xs.length + 1) cap6)).heap[xb]? = some (.cells #[.int .i64 k, .int .i64 0, .int .i64 0, .int .i64 l, .string nm, .slice (some ⟨g6, 0, none⟩) (xs.length + 1) cap6] 30 (0, 0)) := row_set (i := 5) _ hr6
      have hgs : w6.grownBy (w6.setCell ⟨xb, 5, none⟩ (.slice (some ⟨g6, 0, none⟩) (xs.length + 1) cap6)) (some xb) := set_grown w6 ⟨xb, 5, none⟩ (.slice (some ⟨g6, 0, none⟩) (xs.length + 1) cap6)
      have har7 := har6.grown hgs (by omega) (by omega)
      obtain ⟨l0, l1, l2, l3, l4, l5, lf, hgb, hglt, hcap⟩ := har7.tail_cells HA2.out.own.1
      have lf0 := lf (xs.length * 6)
      have lf1 := lf (xs.length * 6 + 1)
      have lf2 := lf (xs.length * 6 + 2)
      have lf3 := lf (xs.length * 6 + 3)
      have lf4 := lf (xs.length * 6 + 4)
      have lf5 := lf (xs.length * 6 + 5)
      have hsz6 := hg6.size
      have hy7 : ExV (fun b => (lw ≤ b ∧ b < w0.heap.size ∨ base ≤ b) ∧ b < (w6.setCell ⟨xb, 5, none⟩ (.slice (some ⟨g6, 0, none⟩) (xs.length + 1) cap6)).heap.size ∧ b ≠ g6) (w6.setCell ⟨xb, 5, none⟩ (.slice (some ⟨g6, 0, none⟩) (xs.length + 1) cap6)) (d + dy) y (.agg #[.int .i64 ky, .int .i64 oy, .int .i64 ay, .int .i64 ly, .string sy, .slice Ay ny cy]) := by
        refine ExV.keep (fun b hb => ?_) (fun b hb => ?_) _ _ _ HY2.out
        · have h1 := HF2.out b hb
          have h2 := hgs.size
          refine ⟨h1.1, by omega, fun e => ?_⟩
          subst e
          rcases hat6 with h | h
          · exact h1.2.2 h
          · omega
        · have h1 := HF2.out b hb
          exact (hgs.block b (by omega) (fun e => by injection e with e; omega)).trans (hg6.block b hb.2 (fun e => h1.2.2 e.symm))
      obtain ⟨hlast, hgl⟩ := ArgG.last rfl HA2.out.own.1 har7 hy7 (fun b hb => hb)
      have HEND := Lib.hid (hEND.last hrow7 (by simp) hgl hgb hlast)
      clear hr6 har6 hg6 hx6 hlo hxb hEND hrow7 hgs har7 hy7 hlast hgl lf
      refine hK.out _ _ ⟨hB6, .inr hO6⟩ (fun _ => ?_)
      clear hK K
      try simp only [List.getElem_toArray, List.getElem_cons_zero, List.getElem_cons_succ, Act.put, List.setIfInBounds_toArray, List.set_cons_zero, List.set_cons_succ]
      refine GoT.take (i := 11) (v := ?_) rfl rfl (by decide +kernel) (by kernel_rfl) (by decide +kernel) (by decide +kernel) (fun _ _ _ h => h) (Or.inl ⟨by rfl, ?_⟩) ⟨by assumption, (by first | exact .inr (by assumption) | exact .inl (by decide +kernel))⟩ ?_
      rotate_left
      · intro w hSw
        (try unfold SeB at hSw)
        (try unfold SeV at hSw)
        go_simp
        (try with_reducible rfl)
      try simp only [List.getElem_toArray, List.getElem_cons_zero, List.getElem_cons_succ, Act.put, List.setIfInBounds_toArray, List.set_cons_zero, List.set_cons_succ]
      refine GoT.take (i := 12) (v := ?_) rfl rfl (by decide +kernel) (by kernel_rfl) (by decide +kernel) (by decide +kernel) (fun _ _ _ h => h) (Or.inl ⟨by rfl, ?_⟩) ⟨by assumption, (by first | exact .inr (by assumption) | exact .inl (by decide +kernel))⟩ ?_
      rotate_left
      · intro w hSw
        (try unfold SeB at hSw)
        (try unfold SeV at hSw)
        go_simp
        (try with_reducible rfl)
      try simp only [List.getElem_toArray, List.getElem_cons_zero, List.getElem_cons_succ, Act.put, List.setIfInBounds_toArray, List.set_cons_zero, List.set_cons_succ]
      refine GoT.next (rs := [13]) (by decide +kernel) (by simp) (AllT.cons rfl (fun K hK => ?_) AllT.nil)
      dsimp only [List.getElem_toArray, List.getElem_cons_zero, List.getElem_cons_succ]
      go_simp
      refine hK.out _ _ ⟨hB7, .inl (by decide +kernel)⟩ (fun _ => ?_)
      clear hK K
      try simp only [Act.put, List.setIfInBounds_toArray, List.set_cons_zero, List.set_cons_succ]
      refine GoT.done (by decide +kernel) ?_ _
      clear hB6 hB7 hO6 hB2 hV2 hO2 f6 c6
      go_wp2_with fail
      exact bodyPost_ret (results_none rfl _ _ _) rfl ⟨⟨_, rfl⟩, HEND.out, HLN.out⟩
    · have hbz : Below ((W.alloc (.cells #[.bool true] 4)).drew).drew.heap.size ((W.alloc (.cells #[.bool true] 4)).drew).drew (((W.alloc (.cells #[.bool true] 4)).alloc zE).drew).drew := (Below.refl _ ((W.alloc (.cells #[.bool true] 4)).drew).drew).alloc (Nat.le_refl _) zE
      have hz : ((((W.alloc (.cells #[.bool true] 4)).alloc zE).drew).drew).heap[W.heap.size + 1]? = some zE := alloc2_new W _ zE
      have hVz := hV0.below hbz
      have hOz : SeO xb (.slice A xs.length c) ((((W.alloc (.cells #[.bool true] 4)).alloc zE).drew).drew) := hold hbz hO0
      have HCS1 := Lib.hid (HCS1.out.below hbz)
      have HR := Lib.hid ((hbz.block _ (Array.getElem?_eq_some_iff.1 HR.out).1).trans HR.out)
      have HAR := Lib.hid (HAR.out.grown (grown_of_below hbz (some p)) (by have := HCS1.out.lo; omega) (by have := HCS1.out.lo; omega))
      have HC := Lib.hid (HS.out p tb s s' y _ HCS1.out.pa HE.out)
      unfold zE at hz hVz hOz HCS1 HR HAR HC
      dsimp only [List.getElem_toArray, List.getElem_cons_zero, List.getElem_cons_succ]
      go_simp
      refine hK.out _ _ ⟨hVz, .inr hOz⟩ (fun _ => ?_)
      clear hK K
      try simp only [Act.put, List.setIfInBounds_toArray, List.set_cons_zero, List.set_cons_succ]
      clear hV0 hO0 hbz
      refine GoT.next (rs := [5]) (by decide +kernel) (by simp) (AllT.cons rfl (fun K hK => ?_) AllT.nil)
      dsimp only [List.getElem_toArray, List.getElem_cons_zero, List.getElem_cons_succ]
      go_simp
      go_at_call 12
      (with_reducible refine HC.out.mono ?_)
      rintro e w2 ⟨b5, rfl, hx2, hp2, hg2, hl2⟩
      obtain ⟨dy, ky, oy, ay, ly, sy, Ay, ny, cy, rx, hcs2, hr2, ha2, hy2, hF2, hb2⟩ := HCS1.out.after HR.out HAR.out hx2 hp2 hg2 hl2
      have hb5 := hx2.1
      have HLN := Lib.hid hl2
      have Hf : Hid (xs.length + 1 + s'.rest.length ≤ 1000002) := Lib.hid (by omega)
      have hV2 : SeV xv pbx xb p w2 := ⟨hcs2.cv, hcs2.cp⟩
      have hO2 : SeO xb (.slice A xs.length c) w2 := cell_of_row _ _ 5 _ _ _ hr2
      have hB2 : SeB xv pbx xb p b5 (.int .i64 ky) (.int .i64 oy) (.int .i64 ay) (.int .i64 ly) (.string sy) (.slice Ay ny cy) w2 := ⟨hV2, cell_of_row _ _ 0 _ _ _ rx, cell_of_row _ _ 1 _ _ _ rx, cell_of_row _ _ 2 _ _ _ rx, cell_of_row _ _ 3 _ _ _ rx, cell_of_row _ _ 4 _ _ _ rx, cell_of_row _ _ 5 _ _ _ rx⟩
      have HCS2 := Lib.hid hcs2
      have HR2 := Lib.hid hr2
      have HA2 := Lib.hid ha2
      have HY2 := Lib.hid hy2
      have HF2 := Lib.hid hF2
      have HG2 := Lib.hid hg2
      have HRX := Lib.hid rx
      clear hx2 hp2 hg2 hl2 rx hcs2 hr2 ha2 hy2 hF2
      dsimp only
      refine hK.out _ _ ⟨hV2, .inr hO2⟩ (fun _ => ?_)
      clear hK K
      try simp only [Act.put, List.setIfInBounds_toArray, List.set_cons_zero, List.set_cons_succ]
      refine GoT.sharp (S' := SeB xv pbx xb p b5 (.int .i64 ky) (.int .i64 oy) (.int .i64 ay) (.int .i64 ly) (.string sy) (.slice Ay ny cy)) (fun _ h => h.1) _ _ _ _ ?_
      refine GoT.take (i := 6) (v := ?_) rfl rfl (by decide +kernel) (by kernel_rfl) (by decide +kernel) (by decide +kernel) (fun _ _ _ h => h) (Or.inl ⟨by rfl, ?_⟩) ⟨by assumption, (by first | exact .inr (by assumption) | exact .inl (by decide +kernel))⟩ ?_
      rotate_left
      · intro w hSw
        (try unfold SeB at hSw)
        (try unfold SeV at hSw)
        go_simp
        (try with_reducible rfl)
      try simp only [List.getElem_toArray, List.getElem_cons_zero, List.getElem_cons_succ, Act.put, List.setIfInBounds_toArray, List.set_cons_zero, List.set_cons_succ]
      refine GoT.take (i := 7) (v := ?_) rfl rfl (by decide +kernel) (by kernel_rfl) (by decide +kernel) (by decide +kernel) (fun _ _ _ h => h) (Or.inl ⟨by rfl, ?_⟩) ⟨by assumption, (by first | exact .inr (by assumption) | exact .inl (by decide +kernel))⟩ ?_
      rotate_left
      · intro w hSw
        (try unfold SeB at hSw)
        (try unfold SeV at hSw)
        go_simp
        (try with_reducible rfl)
      try simp only [List.getElem_toArray, List.getElem_cons_zero, List.getElem_cons_succ, Act.put, List.setIfInBounds_toArray, List.set_cons_zero, List.set_cons_succ]
      refine GoT.next (rs := [10]) (by decide +kernel) (by simp) (AllT.cons rfl (fun K hK => ?_) AllT.nil)
      obtain ⟨D, hD⟩ : ∃ D, d + dy = D + 1 := by
        cases hq : d + dy with
        | zero =>
          have := HY2.out
          rw [hq] at this
          exact this.elim
        | succ q => exact ⟨q, rfl⟩
      have hz2 := blk_keep HG2.out (by have := HCS.out.pa.lt.1; omega) hz
      refine step_append_at w2 ?_ (.tmp 7) (.tmp 13) ?_ lw w0.heap.size base (d + dy) (W.heap.size + 1) (.slice A xs.length c) xs L (.mk 0 0 0 0 ⟨#[]⟩ []) 0 0 0 0 ⟨#[]⟩ none 0 0 (fun _ => False) ?_ ?_ hz2 HA2.out hlen hb2 (by rw [hD]; exact exV_leaf) (fun b h => h.elim) ?_
      · rfl
      · rfl
      · rfl
      · rfl
      clear hz2 hz
      intro g6 cap6 w6 har6 hg6 hat6
      have hlo := HCS2.out.lo
      have hxb := (Array.getElem?_eq_some_iff.1 HR.out).1
      have hr6 := (hg6.block xb (Array.getElem?_eq_some_iff.1 HR2.out).1 (fun e => by have := (HA2.out.own.lt xb e.symm).1; omega)).trans HR2.out
      have hx6 := (hg6.block b5 (Array.getElem?_eq_some_iff.1 HRX.out).1 (fun e => (HF2.out b5 ⟨hb5, (Array.getElem?_eq_some_iff.1 HRX.out).1⟩).2.2 e.symm)).trans HRX.out
      have hO6 : SeO xb (.slice A xs.length c) w6 := cell_of_row _ _ 5 _ _ _ hr6
      have c6 : w6.cell? ⟨xb, 5, none⟩ = some (.slice A xs.length c) := hO6
      have f6 := codes_fz hr6 5
      have hB6 := SeB.of_row (p := p) ⟨HCS2.out.far HA2.out hg6, HCS2.out.farp HA2.out hg6⟩ hx6
      have hB7 := hB6.set (by omega) (by omega) (by omega) (.slice (some ⟨g6, 0, none⟩) (xs.length + 1) cap6)
      have hEND := HCS2.out.push Hf.out HR2.out HA2.out hg6 har6
      have hrow7 : (w6.setCell ⟨xb, 5, none⟩ (.slice (some ⟨g6, 0, none⟩) (xs.length + 1) cap6)).heap[xb]? = some (.cells #[.int .i64 k, .int .i64 0, .int .i64 0, .int .i64 l, .string nm, .slice (some ⟨g6, 0, none⟩) (xs.length + 1) cap6] 30 (0, 0)) := row_set (i := 5) _ hr6
      have hgs : w6.grownBy (w6.setCell ⟨xb, 5, none⟩ (.slice (some ⟨g6, 0, none⟩) (xs.length + 1) cap6)) (some xb) := set_grown w6 ⟨xb, 5, none⟩ (.slice (some ⟨g6, 0, none⟩) (xs.length + 1) cap6)
      have har7 := har6.grown hgs (by omega) (by omega)
      obtain ⟨l0, l1, l2, l3, l4, l5, lf, hgb, hglt, hcap⟩ := har7.tail_cells HA2.out.own.1
      have lf0 := lf (xs.length * 6)
      have lf1 := lf (xs.length * 6 + 1)
      have lf2 := lf (xs.length * 6 + 2)
      have lf3 := lf (xs.length * 6 + 3)
      have lf4 := lf (xs.length * 6 + 4)
      have lf5 := lf (xs.length * 6 + 5)
      have hsz6 := hg6.size
      have hy7 : ExV (fun b => (lw ≤ b ∧ b < w0.heap.size ∨ base ≤ b) ∧ b < (w6.setCell ⟨xb, 5, none⟩ (.slice (some ⟨g6, 0, none⟩) (xs.length + 1) cap6)).heap.size ∧ b ≠ g6) (w6.setCell ⟨xb, 5, none⟩ (.slice (some ⟨g6, 0, none⟩) (xs.length + 1) cap6)) (d + dy) y (.agg #[.int .i64 ky, .int .i64 oy, .int .i64 ay, .int .i64 ly, .string sy, .slice Ay ny cy]) := by
        refine ExV.keep (fun b hb => ?_) (fun b hb => ?_) _ _ _ HY2.out
        · have h1 := HF2.out b hb
          have h2 := hgs.size
          refine ⟨h1.1, by omega, fun e => ?_⟩
          subst e
          rcases hat6 with h | h
          · exact h1.2.2 h
          · omega
        · have h1 := HF2.out b hb
          exact (hgs.block b (by omega) (fun e => by injection e with e; omega)).trans (hg6.block b hb.2 (fun e => h1.2.2 e.symm))
      obtain ⟨hlast, hgl⟩ := ArgG.last rfl HA2.out.own.1 har7 hy7 (fun b hb => hb)
      have HEND := Lib.hid (hEND.last hrow7 (by simp) hgl hgb hlast)
      clear hr6 har6 hg6 hx6 hlo hxb hEND hrow7 hgs har7 hy7 hlast hgl lf
      refine hK.out _ _ ⟨hB6, .inr hO6⟩ (fun _ => ?_)
      clear hK K
      try simp only [List.getElem_toArray, List.getElem_cons_zero, List.getElem_cons_succ, Act.put, List.setIfInBounds_toArray, List.set_cons_zero, List.set_cons_succ]
      refine GoT.take (i := 11) (v := ?_) rfl rfl (by decide +kernel) (by kernel_rfl) (by decide +kernel) (by decide +kernel) (fun _ _ _ h => h) (Or.inl ⟨by rfl, ?_⟩) ⟨by assumption, (by first | exact .inr (by assumption) | exact .inl (by decide +kernel))⟩ ?_
      rotate_left
      · intro w hSw
        (try unfold SeB at hSw)
        (try unfold SeV at hSw)
        go_simp
        (try with_reducible rfl)
      try simp only [List.getElem_toArray, List.getElem_cons_zero, List.getElem_cons_succ, Act.put, List.setIfInBounds_toArray, List.set_cons_zero, List.set_cons_succ]
      refine GoT.take (i := 12) (v := ?_) rfl rfl (by decide +kernel) (by kernel_rfl) (by decide +kernel) (by decide +kernel) (fun _ _ _ h => h) (Or.inl ⟨by rfl, ?_⟩) ⟨by assumption, (by first | exact .inr (by assumption) | exact .inl (by decide +kernel))⟩ ?_
      rotate_left
      · intro w hSw
        (try unfold SeB at hSw)
        (try unfold SeV at hSw)
        go_simp
        (try with_reducible rfl)
      try simp only [List.getElem_toArray, List.getElem_cons_zero, List.getElem_cons_succ, Act.put, List.setIfInBounds_toArray, List.set_cons_zero, List.set_cons_succ]
      refine GoT.next (rs := [13]) (by decide +kernel) (by simp) (AllT.cons rfl (fun K hK => ?_) AllT.nil)
      dsimp only [List.getElem_toArray, List.getElem_cons_zero, List.getElem_cons_succ]
      go_simp
      refine hK.out _ _ ⟨hB7, .inl (by decide +kernel)⟩ (fun _ => ?_)
      clear hK K
      try simp only [Act.put, List.setIfInBounds_toArray, List.set_cons_zero, List.set_cons_succ]
      refine GoT.done (by decide +kernel) ?_ _
      clear hB6 hB7 hO6 hB2 hV2 hO2 f6 c6
      go_wp2_with fail
      exact bodyPost_ret (results_none rfl _ _ _) rfl ⟨⟨_, rfl⟩, HEND.out, HLN.out⟩
end Go.Proofs.YtmpnkbhlagalkaaGreatDoor
