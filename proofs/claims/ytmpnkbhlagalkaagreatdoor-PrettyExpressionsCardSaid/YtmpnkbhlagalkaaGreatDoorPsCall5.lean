/-
  The walk of the program's call by a value, given the walk of expr. No condition.
-/
import Derived.Test.YtmpnkbhlagalkaaGreatDoorPsCall4
namespace Go.Proofs.YtmpnkbhlagalkaaGreatDoor
open Go.RowKit

theorem call_value {E : P1} {x y : Ex} {s s' : PS} (h : callP E x false s = some (y, s')) : ∃ ys, listP E [x] (popP s) = some (ys, s') ∧ y = .mk 10 0 0 ((hdT s).line : Int) ⟨#[]⟩ ys := by
  unfold callP at h
  rw [if_neg (by decide)] at h
  cases hq : listP E [x] (popP s) with
  | none => rw [hq] at h; cases h
  | some q =>
    obtain ⟨ys, s2⟩ := q
    rw [hq] at h
    obtain ⟨k, o, a, l, nm, xs⟩ := x
    simp only at h
    injection h with h
    injection h with h1 h2
    subst h1 h2
    exact ⟨ys, rfl, rfl⟩
/-- The called value is a call's first operand. -/
theorem CS.begin {w w2 W4 w' : World} {p tb lo : Nat} {l : Int} {s : PS} {x : Ex} {d g cap : Nat} {L : List Value} (hp : PA w2 p tb s) (h4 : Below w2.heap.size w2 W4) (hbW : Below W4.heap.size W4 w') (h1 : w.grownBy w2 (some p)) (hlo : p < lo) (hlw : lo ≤ w.heap.size) (ht : tb < w.heap.size) (hs : w.heap.size < w2.heap.size)
    (hv : W4.heap[w2.heap.size + 1]? = some (.cells #[.pointer (some ⟨w2.heap.size, 0, none⟩)] 63 (0, 0))) (hbx : W4.heap[w.heap.size]? = some (.cells #[.pointer (some ⟨p, 0, none⟩)] 42 (0, 0)))
    (hx : W4.heap[w2.heap.size]? = some (.cells #[.int .i64 10, .int .i64 0, .int .i64 0, .int .i64 l, .string ⟨#[]⟩, .slice none 0 0] 30 (0, 0))) (ha : ArgG lo w.heap.size W4.heap.size d w' (.slice (some ⟨g, 0, none⟩) 1 cap) [x] L) (hfew : 1 + s.rest.length ≤ 1000002) :
    CS w lo p tb (w2.heap.size + 1) w.heap.size w2.heap.size W4.heap.size 10 l ⟨#[]⟩ s [x] (w'.setCell ⟨w2.heap.size, 5, none⟩ (.slice (some ⟨g, 0, none⟩) 1 cap)) := by
  have hlt := (Array.getElem?_eq_some_iff.1 hv).1
  have hsz := hbW.size
  have hgs : w'.grownBy (w'.setCell ⟨w2.heap.size, 5, none⟩ (.slice (some ⟨g, 0, none⟩) 1 cap)) (some w2.heap.size) := set_grown w' ⟨w2.heap.size, 5, none⟩ (.slice (some ⟨g, 0, none⟩) 1 cap)
  refine ⟨((hp.below h4).below hbW).other hgs (by omega) (by omega), cell_grown hgs (by omega) (cell_of_row _ _ 0 _ _ _ (below_blk hbW hv)), cell_grown hgs (by omega) (cell_of_row _ _ 0 _ _ _ (below_blk hbW hbx)), ⟨_, _, _, d, L, row_set (i := 5) _ (below_blk hbW hx), ha.grown hgs (by omega) (.inr (by omega))⟩, grown_new ((h1.trans (grown_of_below h4 (some p))).trans (grown_of_below hbW (some p))) hgs (by omega), ⟨hlo, hlw, ht, by omega, Nat.le_refl _, by omega, by omega, by omega, by omega, Nat.le_trans hsz hgs.size, by omega, by omega⟩, by simp; omega⟩
set_option linter.unusedSimpArgs false in
set_option maxRecDepth 100000 in
set_option maxHeartbeats 2000000 in
theorem callV_any (E : P1) (he : SubCt 12 E) {p tb b1 lo : Nat} {s s' : PS} {x y : Ex} (w : World) (h : PA w p tb s) (hx : XAt lo w b1 x) (hlo : p < lo) (h40 : seesP [[40]] s = true) (hC : callP E x false s = some (y, s')) :
    Calls Tryz.prog 110 #[.pointer (some ⟨p, 0, none⟩), .pointer (some ⟨b1, 0, none⟩), .bool false] w (CallG lo p tb y s s' w) := by
  obtain ⟨ys, hL, rfl⟩ := call_value hC
  have h2 := sees_two h.wf (by decide) h40
  obtain ⟨hb1lo, dx, k1, o1, a1, l1, t1, A1, n1, c1, hrx, hvx⟩ := hx
  have hb0 := (Below.refl _ w).alloc (Nat.le_refl _) (.cells #[.pointer (some ⟨p, 0, none⟩)] 42)
  have hbx := heap_alloc_new w (.cells #[.pointer (some ⟨p, 0, none⟩)] 42)
  have HN := Lib.hid (next_any _ (h.below hb0) h2)
  have hsl : s.rest.length ≤ 1000001 := by
    obtain ⟨_, _, m, hr⟩ := h
    have := hr.len
    have := hr.sm
    omega
  have hplt := h.lt.1
  have htlt := h.lt.2.1
  have hb1 := (Array.getElem?_eq_some_iff.1 hrx).1
  have HBX := Lib.hid hbx
  have HRX := Lib.hid ((hb0.block _ hb1).trans hrx)
  have HG0 := Lib.hid (grown_of_below hb0 (some p))
  have HL := Lib.hid hL
  have HS := Lib.hid he
  have hmf : ∀ (fn : Fn) (first cap : Array Value) (w : World), (Instr.makeFunc fn first cap).run Tryz.prog w = .ok (.func fn first cap) w := fun _ _ _ _ => rfl
  have hfd : ∀ w : World, (Instr.field 67 (tokV (hdT s)) 1).run Tryz.prog w = .ok (.int .i64 ((hdT s).line : Int)) w := fun _ => by kernel_rfl
  unfold tokV at hfd
  have HVX := Lib.hid hvx
  clear h hC hL he hb0 hbx hrx hvx h40
  go_enter Tryz.func110, Tryz.ntmps110
  go_wp2_with fail
  obtain ⟨W0, hW0⟩ : ∃ W0, W0 = w.alloc (.cells #[.pointer (some ⟨p, 0, none⟩)] 42) := ⟨_, rfl⟩
  rw [← hW0] at HN HBX HRX HG0 ⊢
  refine HN.out.mono ?_
  rintro e w2 ⟨rfl, hp2, hg2⟩
  unfold tokV
  have hsz2 := hg2.size
  have hsz0 : w.heap.size < W0.heap.size := (Array.getElem?_eq_some_iff.1 HBX.out).1
  have hrx2 := blk_keep hg2 (by omega) HRX.out
  have hbx2 := blk_keep hg2 (by omega) HBX.out
  have hb4 : Below w2.heap.size w2 ((w2.alloc (.cells #[.int .i64 10, .int .i64 0, .int .i64 0, .int .i64 ((hdT s).line : Int), .string ⟨#[]⟩, .slice none 0 0] 30)).alloc (.cells #[.pointer (some ⟨w2.heap.size, 0, none⟩)] 63)) := ((Below.refl _ w2).alloc (Nat.le_refl _) _).alloc (by simp) _
  have hx4 := alloc2_old w2 (.cells #[.int .i64 10, .int .i64 0, .int .i64 0, .int .i64 ((hdT s).line : Int), .string ⟨#[]⟩, .slice none 0 0] 30) (.cells #[.pointer (some ⟨w2.heap.size, 0, none⟩)] 63)
  have hv4 := alloc2_new w2 (.cells #[.int .i64 10, .int .i64 0, .int .i64 0, .int .i64 ((hdT s).line : Int), .string ⟨#[]⟩, .slice none 0 0] 30) (.cells #[.pointer (some ⟨w2.heap.size, 0, none⟩)] 63)
  go_upto_region 4 with fail
  obtain ⟨W4, hW4⟩ : ∃ W4, W4 = (w2.alloc (.cells #[.int .i64 10, .int .i64 0, .int .i64 0, .int .i64 ((hdT s).line : Int), .string ⟨#[]⟩, .slice none 0 0] 30)).alloc (.cells #[.pointer (some ⟨w2.heap.size, 0, none⟩)] 63) := ⟨_, rfl⟩
  rw [← hW4] at hb4 hx4 hv4 ⊢
  clear hW4
  have hlt4 := (Array.getElem?_eq_some_iff.1 hv4).1
  have hbx4 := below_blk hb4 hbx2
  have hrx4 := below_blk hb4 hrx2
  have hwf2 := hp2.wf.pos
  have hsm : (popP s).rest.length ≤ 1000000 := by
    obtain ⟨_, _, m, hr⟩ := hp2
    have := hr.len
    have := hr.sm
    have : s.rest.length ≤ 1000001 := hsl
    rw [pop_len]
    omega
  have hs24 := hb4.size
  have HBG := Lib.hid fun (x : Ex) (w' : World) (d g cap : Nat) (L : List Value) (hbW : Below W4.heap.size W4 w') (ha : ArgG lo w.heap.size W4.heap.size d w' (.slice (some ⟨g, 0, none⟩) 1 cap) [x] L) => CS.begin hp2 hb4 hbW (HG0.out.trans hg2) hlo (by omega) htlt (by omega) hv4 hbx4 hx4 ha (by omega)
  have HX4 : Hid (ExV (fun q => lo ≤ q ∧ q < w.heap.size) W4 dx x (.agg #[.int .i64 k1, .int .i64 o1, .int .i64 a1, .int .i64 l1, .string t1, .slice A1 n1 c1])) := Lib.hid (exV_grown HVX.out (fun q hq => ⟨hq, hq.2, by omega⟩) ((HG0.out.trans hg2).trans (grown_of_below hb4 (some p))))
  have hB4 : SeB (w2.heap.size + 1) w.heap.size w2.heap.size p b1 (.int .i64 k1) (.int .i64 o1) (.int .i64 a1) (.int .i64 l1) (.string t1) (.slice A1 n1 c1) W4 := SeB.of_row ⟨cell_of_row _ _ 0 _ _ _ hv4, cell_of_row _ _ 0 _ _ _ hbx4⟩ hrx4
  have hO4 : SeO w2.heap.size (.slice none 0 0) W4 := cell_of_row _ _ 5 _ _ _ hx4
  have HX := Lib.hid hx4
  clear hv4 hbx4 hrx4 hx4 hbx2 hrx2 hp2 hg2
  go_region
  · go_upto_region 7 with fail
    have hbB : Below W4.heap.size W4 (W4.alloc (.cells #[.bool false] 4)).drew := ((Below.refl _ W4).alloc (Nat.le_refl _) (.cells #[.bool false] 4)).drew
    obtain ⟨W, hW⟩ : ∃ W, W = (W4.alloc (.cells #[.bool false] 4)).drew := ⟨_, rfl⟩
    rw [← hW] at hbB ⊢
    have hB := hB4.below hbB
    have hO : SeO w2.heap.size (.slice none 0 0) W := hold hbB hO4
    clear hB4 hO4 hW
    refine GoT.region (S := SeB (w2.heap.size + 1) w.heap.size w2.heap.size p b1 (.int .i64 k1) (.int .i64 o1) (.int .i64 a1) (.int .i64 l1) (.string t1) (.slice A1 n1 c1)) (T := SeO w2.heap.size (.slice none 0 0)) (z := 12) (by kernel_rfl) hB hO (fun _ => ?_)
    simp only [List.size_toArray, List.length_cons, List.length_nil, Nat.zero_add, Nat.reduceAdd]
    obtain ⟨V, hV⟩ : ∃ V, V = W.drew := ⟨_, rfl⟩
    have hbV : Below W4.heap.size W4 V := by
      rw [hV]
      exact hbB.drew
    rw [← hV]
    have hb1 := hB.below (w' := V) (by rw [hV]; exact (Below.refl _ W).drew)
    have ho1 : SeO w2.heap.size (.slice none 0 0) V := hold (by rw [hV]; exact (Below.refl W.heap.size W).drew) hO
    clear hV hB hO hbB
    have hB := hb1
    have hO := ho1
    have hbB := hbV
    obtain ⟨W, hW⟩ : ∃ W, W = V := ⟨_, rfl⟩
    subst hW
    refine GoT.take (i := 0) (v := ?_) rfl rfl (by decide +kernel) (by kernel_rfl) (by decide +kernel) (by decide +kernel) (fun _ _ _ h => h) (Or.inl ⟨by rfl, ?_⟩) ⟨by assumption, (by first | exact .inr (by assumption) | exact .inl (by decide +kernel))⟩ ?_
    rotate_left
    · intro w hSw
      (try unfold SeB at hSw)
      (try unfold SeV at hSw)
      go_simp
      (try with_reducible rfl)
    try simp only [List.getElem_toArray, List.getElem_cons_zero, List.getElem_cons_succ, Act.put, List.setIfInBounds_toArray, List.set_cons_zero, List.set_cons_succ]
    refine GoT.take (i := 1) (v := ?_) rfl rfl (by decide +kernel) (by kernel_rfl) (by decide +kernel) (by decide +kernel) (fun _ _ _ h => h) (Or.inl ⟨by rfl, ?_⟩) ⟨by assumption, (by first | exact .inr (by assumption) | exact .inl (by decide +kernel))⟩ ?_
    rotate_left
    · intro w hSw
      (try unfold SeB at hSw)
      (try unfold SeV at hSw)
      go_simp
      (try with_reducible rfl)
    try simp only [List.getElem_toArray, List.getElem_cons_zero, List.getElem_cons_succ, Act.put, List.setIfInBounds_toArray, List.set_cons_zero, List.set_cons_succ]
    refine GoT.take (i := 2) (v := ?_) rfl rfl (by decide +kernel) (by kernel_rfl) (by decide +kernel) (by decide +kernel) (fun _ _ _ h => h) (Or.inl ⟨by rfl, ?_⟩) ⟨by assumption, (by first | exact .inr (by assumption) | exact .inl (by decide +kernel))⟩ ?_
    rotate_left
    · intro w hSw
      (try unfold SeB at hSw)
      (try unfold SeV at hSw)
      go_simp
      (try with_reducible rfl)
    try simp only [List.getElem_toArray, List.getElem_cons_zero, List.getElem_cons_succ, Act.put, List.setIfInBounds_toArray, List.set_cons_zero, List.set_cons_succ]
    refine GoT.take (i := 3) (v := ?_) rfl rfl (by decide +kernel) (by kernel_rfl) (by decide +kernel) (by decide +kernel) (fun _ _ _ h => h) (Or.inl ⟨by rfl, ?_⟩) ⟨by assumption, (by first | exact .inr (by assumption) | exact .inl (by decide +kernel))⟩ ?_
    rotate_left
    · intro w hSw
      (try unfold SeB at hSw)
      (try unfold SeV at hSw)
      go_simp
      (try with_reducible rfl)
    try simp only [List.getElem_toArray, List.getElem_cons_zero, List.getElem_cons_succ, Act.put, List.setIfInBounds_toArray, List.set_cons_zero, List.set_cons_succ]
    refine GoT.takeT (i := 4) (v := ?_) rfl rfl (by decide +kernel) (by kernel_rfl) (by decide +kernel) (by decide +kernel) (fun _ _ _ h => h) (Or.inl ⟨by rfl, ?_⟩) ⟨by assumption, .inr (by assumption)⟩ ?_
    rotate_left
    · intro w hSw
      unfold SeB SeV SeO at hSw
      go_simp
      (try with_reducible rfl)
    try simp only [List.getElem_toArray, List.getElem_cons_zero, List.getElem_cons_succ, Act.put, List.setIfInBounds_toArray, List.set_cons_zero, List.set_cons_succ]
    refine GoT.take (i := 5) (v := ?_) rfl rfl (by decide +kernel) (by kernel_rfl) (by decide +kernel) (by decide +kernel) (fun _ _ _ h => h) (Or.inl ⟨by rfl, ?_⟩) ⟨by assumption, (by first | exact .inr (by assumption) | exact .inl (by decide +kernel))⟩ ?_
    rotate_left
    · intro w hSw
      (try unfold SeB at hSw)
      (try unfold SeV at hSw)
      go_simp
      (try with_reducible rfl)
    try simp only [List.getElem_toArray, List.getElem_cons_zero, List.getElem_cons_succ, Act.put, List.setIfInBounds_toArray, List.set_cons_zero, List.set_cons_succ]
    refine GoT.take (i := 6) (v := ?_) rfl rfl (by decide +kernel) (by kernel_rfl) (by decide +kernel) (by decide +kernel) (fun _ _ _ h => h) (Or.inl ⟨by rfl, ?_⟩) ⟨by assumption, (by first | exact .inr (by assumption) | exact .inl (by decide +kernel))⟩ ?_
    rotate_left
    · intro w hSw
      (try unfold SeB at hSw)
      (try unfold SeV at hSw)
      go_simp
      (try with_reducible rfl)
    try simp only [List.getElem_toArray, List.getElem_cons_zero, List.getElem_cons_succ, Act.put, List.setIfInBounds_toArray, List.set_cons_zero, List.set_cons_succ]
    refine GoT.take (i := 7) (v := ?_) rfl rfl (by decide +kernel) (by kernel_rfl) (by decide +kernel) (by decide +kernel) (fun _ _ _ h => h) (Or.inl ⟨by rfl, ?_⟩) ⟨by assumption, (by first | exact .inr (by assumption) | exact .inl (by decide +kernel))⟩ ?_
    rotate_left
    · intro w hSw
      (try unfold SeB at hSw)
      (try unfold SeV at hSw)
      go_simp
      (try with_reducible rfl)
    try simp only [List.getElem_toArray, List.getElem_cons_zero, List.getElem_cons_succ, Act.put, List.setIfInBounds_toArray, List.set_cons_zero, List.set_cons_succ]
    have hBa := hB.below ((Below.refl _ W).alloc (Nat.le_refl _) (.cells #[.int .i64 k1, .int .i64 o1, .int .i64 a1, .int .i64 l1, .string t1, .slice A1 n1 c1] 30))
    have hOa : SeO w2.heap.size (.slice none 0 0) (W.alloc (.cells #[.int .i64 k1, .int .i64 o1, .int .i64 a1, .int .i64 l1, .string t1, .slice A1 n1 c1] 30)) := hold ((Below.refl _ W).alloc (Nat.le_refl _) _) hO
    refine GoT.next (rs := [8]) (by decide +kernel) (by simp) (AllT.cons rfl (fun K hK => ?_) AllT.nil)
    dsimp only [List.getElem_toArray, List.getElem_cons_zero, List.getElem_cons_succ]
    go_simp
    refine hK.out _ _ ⟨hBa, .inr hOa⟩ (fun _ => ?_)
    clear hK K
    try simp only [Act.put, List.setIfInBounds_toArray, List.set_cons_zero, List.set_cons_succ]
    refine GoT.next (rs := [9]) (by decide +kernel) (by simp) (AllT.cons rfl (fun K hK => ?_) AllT.nil)
    refine step_append_ex W ?_ (.tmp 43) (.tmp 47) ?_ lo w.heap.size W4.heap.size dx (.slice none 0 0) [] [] x k1 o1 a1 l1 t1 A1 n1 c1 (fun q => lo ≤ q ∧ q < w.heap.size) ?_ ?_ (ArgG.nil _ _ _ _ _) (by decide) hbB.size (HX4.out.keep (fun _ h => h) (fun q hq => hbB.block q (by omega))) (fun q hq => ⟨.inl hq, by have := hbB.size; omega, by simp [Value.ownBlock]⟩) ?_
    · rfl
    · rfl
    · rfl
    · rfl
    intro g6 cap6 w6 har6 hg6 _
    have hb6 : Below W.heap.size W w6 := grown_any hg6 (fun b e => by cases e) (Nat.le_refl _)
    have hbW : Below W4.heap.size W4 w6 := hbB.trans (grown_any hg6 (fun b e => by cases e) hbB.size)
    have hB6 := hB.below hb6
    have hO6 : SeO w2.heap.size (.slice none 0 0) w6 := hold hb6 hO
    have f6 := codes_fz (below_blk hbW HX.out) 5
    have c6 : w6.cell? ⟨w2.heap.size, 5, none⟩ = some (.slice none 0 0) := hO6
    have hB7 := hB6.set (by omega) (by omega) (by omega) (.slice (some ⟨g6, 0, none⟩) 1 cap6)
    have hCS := HBG.out x w6 dx g6 cap6 _ hbW har6
    refine hK.out _ _ ⟨hB6, .inr hO6⟩ (fun _ => ?_)
    clear hK K
    simp only [List.getElem_toArray, List.getElem_cons_zero, List.getElem_cons_succ, Act.put, List.setIfInBounds_toArray, List.set_cons_zero, List.set_cons_succ, List.length_nil, Nat.zero_add]
    refine GoT.take (i := 10) (v := ?_) rfl rfl (by decide +kernel) (by kernel_rfl) (by decide +kernel) (by decide +kernel) (fun _ _ _ h => h) (Or.inl ⟨by rfl, ?_⟩) ⟨by assumption, (by first | exact .inr (by assumption) | exact .inl (by decide +kernel))⟩ ?_
    rotate_left
    · intro w hSw
      (try unfold SeB at hSw)
      (try unfold SeV at hSw)
      go_simp
      (try with_reducible rfl)
    try simp only [List.getElem_toArray, List.getElem_cons_zero, List.getElem_cons_succ, Act.put, List.setIfInBounds_toArray, List.set_cons_zero, List.set_cons_succ]
    refine GoT.take (i := 11) (v := ?_) rfl rfl (by decide +kernel) (by kernel_rfl) (by decide +kernel) (by decide +kernel) (fun _ _ _ h => h) (Or.inl ⟨by rfl, ?_⟩) ⟨by assumption, (by first | exact .inr (by assumption) | exact .inl (by decide +kernel))⟩ ?_
    rotate_left
    · intro w hSw
      (try unfold SeB at hSw)
      (try unfold SeV at hSw)
      go_simp
      (try with_reducible rfl)
    try simp only [List.getElem_toArray, List.getElem_cons_zero, List.getElem_cons_succ, Act.put, List.setIfInBounds_toArray, List.set_cons_zero, List.set_cons_succ]
    refine GoT.next (rs := [12]) (by decide +kernel) (by simp) (AllT.cons rfl (fun K hK => ?_) AllT.nil)
    dsimp only [List.getElem_toArray, List.getElem_cons_zero, List.getElem_cons_succ]
    go_simp
    refine hK.out _ _ ⟨hB7, .inl (by decide +kernel)⟩ (fun _ => ?_)
    clear hK K
    try simp only [Act.put, List.setIfInBounds_toArray, List.set_cons_zero, List.set_cons_succ]
    refine GoT.done (by decide +kernel) ?_ _
    clear hB hO hBa hOa hB6 hO6 hB7 f6 c6 hb6
    have cv6 := (hCS).cv
    have cp6 := (hCS).cp
    have HLi := Lib.hid (list_any E HS.out _ hCS HL.out (by simp; omega))
    go_wp2_with fail
    refine HLi.out.mono ?_
    rintro e w7 ⟨⟨v7, rfl⟩, hcs7, hn7⟩
    have cv7 := hcs7.cv
    obtain ⟨A7, n7, c7, d7, L7, hr7, ha7⟩ := hcs7.row
    obtain ⟨hnn, hrow7⟩ := ha7.row
    have HE : Hid (CallG lo p tb (.mk 10 0 0 ((hdT s).line : Int) ⟨#[]⟩ ys) s s' w (.returned (.pointer (some ⟨w2.heap.size, 0, none⟩))) w7) := Lib.hid ⟨_, rfl, ⟨by omega, d7 + 1, _, _, _, _, _, _, _, _, hr7, exV_iff.2 ⟨A7, c7, by rw [hnn], RowE.keep (fun b hb => ⟨by have := hb.1; omega, hb.2⟩) (fun _ _ => rfl) hrow7⟩⟩, hcs7.pa, hcs7.gr, by rw [pop_len] at hn7; omega⟩
    clear hcs7 hr7 ha7 hrow7 HLi
    go_wp2_with fail
    go_ret
    exact HE.out
  · go_upto_region 5 with fail
    have hbB : Below W4.heap.size W4 (W4.alloc (.cells #[.bool true] 4)).drew := ((Below.refl _ W4).alloc (Nat.le_refl _) (.cells #[.bool true] 4)).drew
    obtain ⟨W, hW⟩ : ∃ W, W = (W4.alloc (.cells #[.bool true] 4)).drew := ⟨_, rfl⟩
    rw [← hW] at hbB ⊢
    have hB := hB4.below hbB
    have hO : SeO w2.heap.size (.slice none 0 0) W := hold hbB hO4
    clear hB4 hO4 hW
    refine GoT.region (S := SeB (w2.heap.size + 1) w.heap.size w2.heap.size p b1 (.int .i64 k1) (.int .i64 o1) (.int .i64 a1) (.int .i64 l1) (.string t1) (.slice A1 n1 c1)) (T := SeO w2.heap.size (.slice none 0 0)) (z := 12) (by kernel_rfl) hB hO (fun _ => ?_)
    simp only [List.size_toArray, List.length_cons, List.length_nil, Nat.zero_add, Nat.reduceAdd]
    obtain ⟨V, hV⟩ : ∃ V, V = W.drew := ⟨_, rfl⟩
    have hbV : Below W4.heap.size W4 V := by
      rw [hV]
      exact hbB.drew
    rw [← hV]
    have hb1 := hB.below (w' := V) (by rw [hV]; exact (Below.refl _ W).drew)
    have ho1 : SeO w2.heap.size (.slice none 0 0) V := hold (by rw [hV]; exact (Below.refl W.heap.size W).drew) hO
    clear hV hB hO hbB
    have hB := hb1
    have hO := ho1
    have hbB := hbV
    obtain ⟨W, hW⟩ : ∃ W, W = V := ⟨_, rfl⟩
    subst hW
    refine GoT.take (i := 0) (v := ?_) rfl rfl (by decide +kernel) (by kernel_rfl) (by decide +kernel) (by decide +kernel) (fun _ _ _ h => h) (Or.inl ⟨by rfl, ?_⟩) ⟨by assumption, (by first | exact .inr (by assumption) | exact .inl (by decide +kernel))⟩ ?_
    rotate_left
    · intro w hSw
      (try unfold SeB at hSw)
      (try unfold SeV at hSw)
      go_simp
      (try with_reducible rfl)
    try simp only [List.getElem_toArray, List.getElem_cons_zero, List.getElem_cons_succ, Act.put, List.setIfInBounds_toArray, List.set_cons_zero, List.set_cons_succ]
    refine GoT.take (i := 1) (v := ?_) rfl rfl (by decide +kernel) (by kernel_rfl) (by decide +kernel) (by decide +kernel) (fun _ _ _ h => h) (Or.inl ⟨by rfl, ?_⟩) ⟨by assumption, (by first | exact .inr (by assumption) | exact .inl (by decide +kernel))⟩ ?_
    rotate_left
    · intro w hSw
      (try unfold SeB at hSw)
      (try unfold SeV at hSw)
      go_simp
      (try with_reducible rfl)
    try simp only [List.getElem_toArray, List.getElem_cons_zero, List.getElem_cons_succ, Act.put, List.setIfInBounds_toArray, List.set_cons_zero, List.set_cons_succ]
    refine GoT.take (i := 2) (v := ?_) rfl rfl (by decide +kernel) (by kernel_rfl) (by decide +kernel) (by decide +kernel) (fun _ _ _ h => h) (Or.inl ⟨by rfl, ?_⟩) ⟨by assumption, (by first | exact .inr (by assumption) | exact .inl (by decide +kernel))⟩ ?_
    rotate_left
    · intro w hSw
      (try unfold SeB at hSw)
      (try unfold SeV at hSw)
      go_simp
      (try with_reducible rfl)
    try simp only [List.getElem_toArray, List.getElem_cons_zero, List.getElem_cons_succ, Act.put, List.setIfInBounds_toArray, List.set_cons_zero, List.set_cons_succ]
    refine GoT.takeT (i := 3) (v := ?_) rfl rfl (by decide +kernel) (by kernel_rfl) (by decide +kernel) (by decide +kernel) (fun _ _ _ h => h) (Or.inl ⟨by rfl, ?_⟩) ⟨by assumption, .inr (by assumption)⟩ ?_
    rotate_left
    · intro w hSw
      unfold SeB SeV SeO at hSw
      go_simp
      (try with_reducible rfl)
    try simp only [List.getElem_toArray, List.getElem_cons_zero, List.getElem_cons_succ, Act.put, List.setIfInBounds_toArray, List.set_cons_zero, List.set_cons_succ]
    refine GoT.take (i := 4) (v := ?_) rfl rfl (by decide +kernel) (by kernel_rfl) (by decide +kernel) (by decide +kernel) (fun _ _ _ h => h) (Or.inl ⟨by rfl, ?_⟩) ⟨by assumption, (by first | exact .inr (by assumption) | exact .inl (by decide +kernel))⟩ ?_
    rotate_left
    · intro w hSw
      (try unfold SeB at hSw)
      (try unfold SeV at hSw)
      go_simp
      (try with_reducible rfl)
    try simp only [List.getElem_toArray, List.getElem_cons_zero, List.getElem_cons_succ, Act.put, List.setIfInBounds_toArray, List.set_cons_zero, List.set_cons_succ]
    refine GoT.take (i := 5) (v := ?_) rfl rfl (by decide +kernel) (by kernel_rfl) (by decide +kernel) (by decide +kernel) (fun _ _ _ h => h) (Or.inl ⟨by rfl, ?_⟩) ⟨by assumption, (by first | exact .inr (by assumption) | exact .inl (by decide +kernel))⟩ ?_
    rotate_left
    · intro w hSw
      (try unfold SeB at hSw)
      (try unfold SeV at hSw)
      go_simp
      (try with_reducible rfl)
    try simp only [List.getElem_toArray, List.getElem_cons_zero, List.getElem_cons_succ, Act.put, List.setIfInBounds_toArray, List.set_cons_zero, List.set_cons_succ]
    refine GoT.take (i := 6) (v := ?_) rfl rfl (by decide +kernel) (by kernel_rfl) (by decide +kernel) (by decide +kernel) (fun _ _ _ h => h) (Or.inl ⟨by rfl, ?_⟩) ⟨by assumption, (by first | exact .inr (by assumption) | exact .inl (by decide +kernel))⟩ ?_
    rotate_left
    · intro w hSw
      (try unfold SeB at hSw)
      (try unfold SeV at hSw)
      go_simp
      (try with_reducible rfl)
    try simp only [List.getElem_toArray, List.getElem_cons_zero, List.getElem_cons_succ, Act.put, List.setIfInBounds_toArray, List.set_cons_zero, List.set_cons_succ]
    refine GoT.take (i := 7) (v := ?_) rfl rfl (by decide +kernel) (by kernel_rfl) (by decide +kernel) (by decide +kernel) (fun _ _ _ h => h) (Or.inl ⟨by rfl, ?_⟩) ⟨by assumption, (by first | exact .inr (by assumption) | exact .inl (by decide +kernel))⟩ ?_
    rotate_left
    · intro w hSw
      (try unfold SeB at hSw)
      (try unfold SeV at hSw)
      go_simp
      (try with_reducible rfl)
    try simp only [List.getElem_toArray, List.getElem_cons_zero, List.getElem_cons_succ, Act.put, List.setIfInBounds_toArray, List.set_cons_zero, List.set_cons_succ]
    obtain ⟨D, rfl⟩ : ∃ D, dx = D + 1 := by
      cases dx with
      | zero => exact HX4.out.elim
      | succ q => exact ⟨q, rfl⟩
    have hBa := hB.below ((Below.refl _ W).alloc (Nat.le_refl _) zE)
    have hOa : SeO w2.heap.size (.slice none 0 0) (W.alloc zE) := hold ((Below.refl _ W).alloc (Nat.le_refl _) _) hO
    unfold zE at hBa hOa
    refine GoT.next (rs := [8]) (by decide +kernel) (by simp) (AllT.cons rfl (fun K hK => ?_) AllT.nil)
    dsimp only [List.getElem_toArray, List.getElem_cons_zero, List.getElem_cons_succ]
    go_simp
    refine hK.out _ _ ⟨hBa, .inr hOa⟩ (fun _ => ?_)
    clear hK K
    try simp only [Act.put, List.setIfInBounds_toArray, List.set_cons_zero, List.set_cons_succ]
    refine GoT.next (rs := [9]) (by decide +kernel) (by simp) (AllT.cons rfl (fun K hK => ?_) AllT.nil)
    refine step_append_ex W ?_ (.tmp 29) (.tmp 34) ?_ lo w.heap.size W4.heap.size (D + 1) (.slice none 0 0) [] [] (.mk 0 0 0 0 ⟨#[]⟩ []) 0 0 0 0 ⟨#[]⟩ none 0 0 (fun _ => False) ?_ ?_ (ArgG.nil _ _ _ _ _) (by decide) hbB.size exV_leaf (fun q hq => hq.elim) ?_
    · rfl
    · rfl
    · rfl
    · rfl
    intro g6 cap6 w6 har6 hg6 _
    have hb6 : Below W.heap.size W w6 := grown_any hg6 (fun b e => by cases e) (Nat.le_refl _)
    have hbW : Below W4.heap.size W4 w6 := hbB.trans (grown_any hg6 (fun b e => by cases e) hbB.size)
    have hB6 := hB.below hb6
    have hO6 : SeO w2.heap.size (.slice none 0 0) w6 := hold hb6 hO
    have f6 := codes_fz (below_blk hbW HX.out) 5
    have c6 : w6.cell? ⟨w2.heap.size, 5, none⟩ = some (.slice none 0 0) := hO6
    have hB7 := hB6.set (by omega) (by omega) (by omega) (.slice (some ⟨g6, 0, none⟩) 1 cap6)
    have hCS := HBG.out _ w6 (D + 1) g6 cap6 _ hbW har6
    have hx7 : (w6.setCell ⟨w2.heap.size, 5, none⟩ (.slice (some ⟨g6, 0, none⟩) 1 cap6)).heap[w2.heap.size]? = some (.cells #[.int .i64 10, .int .i64 0, .int .i64 0, .int .i64 ((hdT s).line : Int), .string ⟨#[]⟩, .slice (some ⟨g6, 0, none⟩) 1 cap6] 30 (0, 0)) := row_set (i := 5) _ (below_blk hbW HX.out)
    have hgs : w6.grownBy (w6.setCell ⟨w2.heap.size, 5, none⟩ (.slice (some ⟨g6, 0, none⟩) 1 cap6)) (some w2.heap.size) := set_grown w6 ⟨w2.heap.size, 5, none⟩ (.slice (some ⟨g6, 0, none⟩) 1 cap6)
    have har7 : ArgG lo w.heap.size W4.heap.size (D + 1) (w6.setCell ⟨w2.heap.size, 5, none⟩ (.slice (some ⟨g6, 0, none⟩) 1 cap6)) (.slice (some ⟨g6, 0, none⟩) (0 + 1) cap6) ([] ++ [.mk 0 0 0 0 ⟨#[]⟩ []]) ([] ++ [.int .i64 0, .int .i64 0, .int .i64 0, .int .i64 0, .string ⟨#[]⟩, .slice none 0 0]) := har6.grown hgs (by omega) (.inr (by omega))
    obtain ⟨q0, q1, q2, q3, q4, q5, lf, hgb, hglt, hcap⟩ := har7.tail_cells rfl
    have lf0 := lf 0
    have lf1 := lf 1
    have lf2 := lf 2
    have lf3 := lf 3
    have lf4 := lf 4
    have lf5 := lf 5
    have hs46 := hbW.size
    have hs67 := hgs.size
    have hy7 : ExV (fun q => lo ≤ q ∧ q < w.heap.size) (w6.setCell ⟨w2.heap.size, 5, none⟩ (.slice (some ⟨g6, 0, none⟩) 1 cap6)) (D + 1) x (.agg #[.int .i64 k1, .int .i64 o1, .int .i64 a1, .int .i64 l1, .string t1, .slice A1 n1 c1]) :=
      HX4.out.keep (fun _ h => h) (fun q hq => (hgs.block q (by omega) (fun e => by injection e with e; omega)).trans (hbW.block q (by omega)))
    have hFF : ∀ b, (lo ≤ b ∧ b < w.heap.size) → (lo ≤ b ∧ b < w.heap.size ∨ W4.heap.size ≤ b) ∧ b < (w6.setCell ⟨w2.heap.size, 5, none⟩ (.slice (some ⟨g6, 0, none⟩) 1 cap6)).heap.size ∧ b ≠ g6 := fun b hb => by
      have h1 := hb.1
      have h2 := hb.2
      exact ⟨.inl hb, by omega, by omega⟩
    obtain ⟨hlast, hgl⟩ := ArgG.last (n := 0) (xs := []) (L := []) rfl rfl har7 hy7 hFF
    have hEND := hCS.last (ys := [x]) hx7 rfl hgl hgb hlast
    simp only [Nat.zero_mul, Nat.zero_add] at q0 q1 q2 q3 q4 q5 hcap hEND
    have HEND := Lib.hid hEND
    refine hK.out _ _ ⟨hB6, .inr hO6⟩ (fun _ => ?_)
    clear hK K
    clear hEND har6 har7 hlast hgl hgs hy7 lf hCS hx7
    simp only [List.getElem_toArray, List.getElem_cons_zero, List.getElem_cons_succ, Act.put, List.setIfInBounds_toArray, List.set_cons_zero, List.set_cons_succ, List.length_nil, Nat.zero_add]
    refine GoT.take (i := 10) (v := ?_) rfl rfl (by decide +kernel) (by kernel_rfl) (by decide +kernel) (by decide +kernel) (fun _ _ _ h => h) (Or.inl ⟨by rfl, ?_⟩) ⟨by assumption, (by first | exact .inr (by assumption) | exact .inl (by decide +kernel))⟩ ?_
    rotate_left
    · intro w hSw
      (try unfold SeB at hSw)
      (try unfold SeV at hSw)
      go_simp
      (try with_reducible rfl)
    try simp only [List.getElem_toArray, List.getElem_cons_zero, List.getElem_cons_succ, Act.put, List.setIfInBounds_toArray, List.set_cons_zero, List.set_cons_succ]
    refine GoT.take (i := 11) (v := ?_) rfl rfl (by decide +kernel) (by kernel_rfl) (by decide +kernel) (by decide +kernel) (fun _ _ _ h => h) (Or.inl ⟨by rfl, ?_⟩) ⟨by assumption, (by first | exact .inr (by assumption) | exact .inl (by decide +kernel))⟩ ?_
    rotate_left
    · intro w hSw
      (try unfold SeB at hSw)
      (try unfold SeV at hSw)
      go_simp
      (try with_reducible rfl)
    try simp only [List.getElem_toArray, List.getElem_cons_zero, List.getElem_cons_succ, Act.put, List.setIfInBounds_toArray, List.set_cons_zero, List.set_cons_succ]
    refine GoT.next (rs := [12]) (by decide +kernel) (by simp) (AllT.cons rfl (fun K hK => ?_) AllT.nil)
    dsimp only [List.getElem_toArray, List.getElem_cons_zero, List.getElem_cons_succ]
    go_simp
    refine hK.out _ _ ⟨hB7, .inl (by decide +kernel)⟩ (fun _ => ?_)
    clear hK K
    try simp only [Act.put, List.setIfInBounds_toArray, List.set_cons_zero, List.set_cons_succ]
    refine GoT.done (by decide +kernel) ?_ _
    clear hB hO hBa hOa hB6 hO6 hB7 f6 c6 hb6
    go_upto_region 8 with fail
    have hCS := HEND.out
    have cv6 := (hCS).cv
    have cp6 := (hCS).cp
    have HLi := Lib.hid (list_any E HS.out _ hCS HL.out (by simp; omega))
    go_wp2_with fail
    refine HLi.out.mono ?_
    rintro e w7 ⟨⟨v7, rfl⟩, hcs7, hn7⟩
    have cv7 := hcs7.cv
    obtain ⟨A7, n7, c7, d7, L7, hr7, ha7⟩ := hcs7.row
    obtain ⟨hnn, hrow7⟩ := ha7.row
    have HE : Hid (CallG lo p tb (.mk 10 0 0 ((hdT s).line : Int) ⟨#[]⟩ ys) s s' w (.returned (.pointer (some ⟨w2.heap.size, 0, none⟩))) w7) := Lib.hid ⟨_, rfl, ⟨by omega, d7 + 1, _, _, _, _, _, _, _, _, hr7, exV_iff.2 ⟨A7, c7, by rw [hnn], RowE.keep (fun b hb => ⟨by have := hb.1; omega, hb.2⟩) (fun _ _ => rfl) hrow7⟩⟩, hcs7.pa, hcs7.gr, by rw [pop_len] at hn7; omega⟩
    clear hcs7 hr7 ha7 hrow7 HLi
    go_wp2_with fail
    go_ret
    exact HE.out
end Go.Proofs.YtmpnkbhlagalkaaGreatDoor
