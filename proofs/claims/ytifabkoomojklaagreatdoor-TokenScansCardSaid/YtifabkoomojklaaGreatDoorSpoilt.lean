/-
  The walk of the drawing helper Spoilt: bytes with one byte changed, left out or added: some bytes, in memory of their own. Conditions: at most a million codes; at most 70000 bytes.
-/
import Derived.Test.YtifabkoomojklaaGreatDoorDraw
import Derived.Test.YtifabkoomojklaaGreatDoorApp
import Derived.Deep.RegionLaw
namespace Go.Proofs.YtifabkoomojklaaGreatDoor
open Go.RowKit

/-- append in place, as one step of a region that draws: the row has room. -/
theorem step_appendIn {ops : Array Oper} {o : Oper} {a : Act} {w : World} {K : Act → World → Prop} {Q : Exit → Act → World → Prop} {E : Prop} (hgd : o.guard = none) (s x : Operand)
    (hop : o.op = .call { callee := .builtin .append, args := #[s, x], argTypes := #[22, 22] }) (g k cap : Nat) (cur : Array Value) (hcur : w.heap[g]? = some (.cells cur 5 (0, 0)))
    (hs : a.eval s = .slice (some ⟨g, 0, none⟩) k cap) (ad : Addr) (m c : Nat) (news : List Value) (hx : a.eval x = .slice (some ad) m c) (hn : news.length = m) (hr : Rd w (some ad) news) (h1 : ∀ u ∈ news, u.oneCell' = true)
    (hroom : k + m ≤ cap) (hcap : cap ≤ cur.size)
    (hK : ∀ w', Rd w' (some ⟨g, 0, none⟩) (cur.toList.take k ++ news) → w.grownBy w' (some g) → K (a.put o.dst (.slice (some ⟨g, 0, none⟩) (k + m) cap)) w') :
    if Region.wanted o (yielded ops a.tmps) = true then Oper.wp Tryz.prog o a w K Q else E := by
  obtain ⟨i5, hi, hz0, hz1, hz2⟩ := info_parts Tryz.infoU8
  have hw : Region.wanted o (yielded ops a.tmps) = true := by simp [Region.wanted, hgd]
  rw [if_pos hw]
  have hrun := run_append_room (P := Tryz.prog) w 22 o.type 5 i5 Tryz.underlying22 hi g k cap cur hcur ad m c news (by rw [hz1]; omega) hr.cells h1 hroom (by rw [hz1]; omega)
  rw [hz1, Nat.mul_one] at hrun
  unfold Oper.wp
  simp [execOp, hop, resolve, invoke, builtin, hs, hx, hrun, Result.andThen]
  refine hK _ ?_ ⟨rfl, rfl, rfl, by simp, fun i _ hne => setRow_other w g i _ (fun e => hne (by rw [e]))⟩
  refine Rd.of_cells fun j u hu => ?_
  rw [Addr.add_lit, Nat.zero_add, cell_of_row _ g j _ _ _ (setRow_heap w g cur _ _ _ hcur)]
  have hj : j < (cur.toList.take k ++ news).length := by
    rcases Nat.lt_or_ge j (cur.toList.take k ++ news).length with hl | hl
    · exact hl
    · rw [List.getElem?_eq_none hl] at hu; cases hu
  simp only [List.getElem?_toArray]
  rw [← List.append_assoc, List.getElem?_append_left hj]
  exact hu

theorem take_row {xs X : List Value} {m r : Nat} (h : xs.take m = X) (hr : r ≤ m) : xs.take r = X.take r := by rw [← h, List.take_take, Nat.min_eq_left hr]
/-- What Spoilt leaves: some bytes. -/
def SpPost (g : Nat) (l : List Nat) (m : Nat) (w : World) (e : Ending) (w' : World) : Prop :=
  ∃ (A : Option Addr) (b : List Nat) (c k : Nat), e = .returned (.slice A b.length c) ∧ Rd w' A (b.map bv) ∧ (∀ x ∈ b, x < 256) ∧ b.length ≤ c ∧ b.length ≤ m + 1 ∧ (A = none → b = []) ∧ Codes w' g l k ∧ w.grownBy w' (some g)
theorem spPost_of {g k m q c : Nat} {l b' : List Nat} {w w' : World} {A : Option Addr} (hq : b'.length = q) (hr : Rd w' A (b'.map bv)) (hb : ∀ x ∈ b', x < 256) (hc : q ≤ c) (hlen : q ≤ m + 1) (hA : A = none → b' = []) (hC : Codes w' g l k) (hG : w.grownBy w' (some g)) :
    SpPost g l m w (.returned (.slice A q c)) w' := by
  subst hq
  exact ⟨A, b', c, k, rfl, hr, hb, hc, hlen, hA, hC, hG⟩
theorem spPost_cut {g go k m r cap : Nat} {l b : List Nat} {w w' : World} {xs : List Value} (hm : b.length = m) (hrm : r < m) (htk : xs.take m = b.map bv) (hr : Rd w' (some ⟨go, 0, none⟩) (xs.take r ++ (b.map bv).drop (r + 1))) (hb : ∀ x ∈ b, x < 256) (hc : r + (m - (r + 1)) ≤ cap) (hC : Codes w' g l k) (hG : w.grownBy w' (some g)) :
    SpPost g l m w (.returned (.slice (some ⟨go, 0, none⟩) (r + (m - (r + 1))) cap)) w' := by
  refine spPost_of (b' := b.take r ++ b.drop (r + 1)) (by simp; omega) ?_ ?_ hc (by omega) (fun h => by cases h) hC hG
  · rw [take_row htk (by omega)] at hr
    simpa [List.map_append, List.map_take, List.map_drop] using hr
  · intro x hx
    rcases List.mem_append.1 hx with hx | hx
    · exact hb x (List.mem_of_mem_take hx)
    · exact hb x (List.mem_of_mem_drop hx)
theorem spPost_cut0 {g go k m r cap : Nat} {l b : List Nat} {w w' : World} {xs : List Value} (hm : b.length = m) (hrm : r < m) (htk : xs.take m = b.map bv) (hr : Rd w' (some ⟨go, 0, none⟩) (xs.take r ++ [])) (hb : ∀ x ∈ b, x < 256) (hc : r ≤ cap) (hC : Codes w' g l k) (hG : w.grownBy w' (some g)) :
    SpPost g l m w (.returned (.slice (some ⟨go, 0, none⟩) r cap)) w' := by
  refine spPost_of (b' := b.take r) (by rw [List.length_take]; omega) ?_ (fun x hx => hb x (List.mem_of_mem_take hx)) hc (by omega) (fun h => by cases h) hC hG
  rw [take_row htk (by omega), List.append_nil] at hr
  rwa [List.map_take]
theorem spPost_more {g go k m y : Nat} {l b : List Nat} {w w4 w' : World} {v : Value} (hm : b.length = m) (hs : Sl w' go 5 v (b.map bv ++ [.int .u8 (y : Int)])) (hb : ∀ x ∈ b, x < 256) (hy : y < 256) (hC : Codes w4 g l k) (hG : w.grownBy w4 (some g)) (hbl : Below go w4 w') (hg : g < go) (hgo : w.heap.size ≤ go) :
    SpPost g l m w (.returned v) w' := by
  obtain ⟨A, c, rfl, hr, hc⟩ := hs.bytes (l := b ++ [y]) (by simp [bv])
  refine spPost_of (b' := b ++ [y]) rfl hr ?_ hc (by simp; omega) (fun h => ?_) (codes_low hC hbl hg) (grown_low hG hbl hgo)
  · intro x hx
    rcases List.mem_append.1 hx with hx | hx
    · exact hb x hx
    · simp at hx; omega
  · obtain ⟨ad, he⟩ := hr.some_ (by simp)
    rw [h] at he; cases he
theorem spoiltByte (y q : Nat) (hy : y < 256) (hq : q < 255) : bits .xor .u8 (y : Int) (IntKind.u8.wrap (IntKind.i64.wrap (1 + (q : Int)))) = ((y ^^^ (1 + q) : Nat) : Int) := by
  have e : IntKind.u8.wrap (IntKind.i64.wrap (1 + (q : Int))) = ((1 + q : Nat) : Int) := by
    rw [IntWalk.i64_in _ (by omega), IntWalk.u8_in _ (by omega)]
    omega
  rw [e]
  exact u8_xor_nat y (1 + q) hy (by omega)
theorem spPost_set {g go k m r y cap : Nat} {l b : List Nat} {w w4 w' : World} (hm : b.length = m) (hrm : r < m) (hr : Rd w4 (some ⟨go, 0, none⟩) (b.map bv)) (hb : ∀ x ∈ b, x < 256) (hy : y < 256) (hc : m ≤ cap) (hC : Codes w4 g l k) (hG : w.grownBy w4 (some g)) (hg : g < go) (hgo : w.heap.size ≤ go)
    (hw : w' = w4.setCell ⟨go, r, none⟩ (.int .u8 (y : Int))) : SpPost g l m w (.returned (.slice (some ⟨go, 0, none⟩) m cap)) w' := by
  subst hw
  have hbl : Below go w4 (w4.setCell ⟨go, r, none⟩ (.int .u8 (y : Int))) := (Below.refl go w4).setCell (Nat.le_refl _) _
  refine spPost_of (b' := b.set r y) (by rw [List.length_set, hm]) ?_ ?_ hc (by omega) (fun h => by cases h) (codes_low hC hbl hg) (grown_low hG hbl hgo)
  · rw [List.map_set]
    exact hr.set_ r (by rw [List.length_map, hm]; exact hrm) _
  · intro x hx
    exact (List.mem_or_eq_of_mem_set hx).elim (hb x) (fun h => by rw [h]; exact hy)
theorem next_beside (g : Nat) (l : List Nat) (k : Nat) (n : Nat) (go r : Nat) (u : Value) (cur : Array Value) (t : TypeId) (w : World) (hc : Codes w g l k) (hn : 1 ≤ n) (hn2 : n ≤ 256) (hlen : l.length ≤ 1000000) (hl : ∀ x ∈ l, x < 256) (hcy : w.cell? ⟨go, r, none⟩ = some u) (hcur : w.heap[go]? = some (.cells cur t (0, 0))) (hne : go ≠ g) (hgl : go < w.heap.size) :
    Calls Tryz.prog 20 #[.pointer (some ⟨g, 0, none⟩), .int .i64 (n : Int)] w fun e w' => ∃ q : Nat, e = .returned (.int .i64 (q : Int)) ∧ q < n ∧ w'.cell? ⟨go, r, none⟩ = some u ∧ w'.frozen? ⟨go, r, none⟩ = false ∧ Hid (∃ k', Codes w' g l k' ∧ w.grownBy w' (some g)) := by
  refine (next_any g l k n _ hc (by omega) hlen hl).mono ?_
  rintro e w' ⟨q, k', rfl, hq, _, hc', hg'⟩
  have hcur' := (hg'.block go hgl (fun he => hne (by injection he))).trans hcur
  exact ⟨q, rfl, by have := hq (by omega); omega, hg'.cell hcy (fun he => hne (by injection he)), codes_frozen hcur' r, k', hc', hg'⟩
set_option maxRecDepth 10000 in
set_option maxHeartbeats 800000 in
theorem spoilt_some (g : Nat) (l : List Nat) (k : Nat) (B : Option Addr) (b : List Nat) (m d : Nat) (w : World) (hc : Codes w g l k) (hlen : l.length ≤ 1000000) (hl : ∀ x ∈ l, x < 256) (hm : b.length = m) (hmd : m ≤ d) (hr : Rd w B (b.map bv)) (hb : ∀ x ∈ b, x < 256) (hpos : 1 ≤ m) (hm2 : m ≤ 70000) :
    Calls Tryz.prog 8 #[.pointer (some ⟨g, 0, none⟩), .slice B m d] w (SpPost g l m w) := by
  have Hc := Lib.hid hc; clear hc
  have Hl := Lib.hid hl; clear hl
  have Hm := Lib.hid hm; clear hm
  have Hb := Lib.hid hb; clear hb
  obtain ⟨bd, rfl⟩ := hr.some_ (fun h0 => by have := congrArg List.length h0; rw [List.length_map, Hm.out] at this; simp at this; omega)
  have Hr := Lib.hid hr; clear hr
  have hm0 : ((m : Int) == 0) = false := by rw [beq_eq_false_iff_ne]; omega
  go_enter Tryz.func8, Tryz.ntmps8
  go_wp2_with (at_builtin; refine Pause.out ?_)
  refine Pause.of (wpList_appendNew _ rfl _ _ rfl rfl (some bd) _ d _ rfl (by rw [List.length_map]; exact Hm.out) Hr.out (bv_one _) (by omega) (fun h0 => by have := congrArg List.length h0; rw [List.length_map, Hm.out] at this; simp at this; omega) ?_)
  intro go cap cur w1 hcap hgo hcur hro hb1 hsz htk hcm
  have Hcur := Lib.hid hcur; clear hcur
  have Hro := Lib.hid hro; clear hro
  have Hb1 := Lib.hid hb1; clear hb1
  have Htk := Lib.hid htk; clear htk
  have Hsz := Lib.hid hsz; clear hsz
  have hgl : g < w.heap.size := codes_lt Hc.out
  have Hc1 := Lib.hid (codes_below Hc.out Hb1.out)
  go_wp2_with fail
  refine (next_any g l k m _ Hc1.out (by omega) hlen Hl.out).mono ?_
  rintro e w2 ⟨r, k2, rfl, hr1, _, hc2, hg2⟩
  have hrm : r < m := by have := hr1 (by omega); omega
  have Hc2 := Lib.hid hc2; clear hc2 hr1
  have Hg2 := Lib.hid ((grown_of_below Hb1.out (some g)).trans hg2)
  have hgo1 : go < w1.heap.size := by
    rcases Nat.lt_or_ge go w1.heap.size with hlt | hge
    · exact hlt
    · have := Hcur.out; rw [Array.getElem?_eq_none hge] at this; cases this
  have Hcur2 := Lib.hid ((hg2.block go hgo1 (fun he => by injection he with he; omega)).trans Hcur.out)
  have Hr2 := Lib.hid (codes_rd Hc.out Hr.out Hg2.out)
  have Hro2 := Lib.hid (codes_rd Hc1.out Hro.out hg2)
  have hsz2 : w1.heap.size ≤ w2.heap.size := hg2.size
  clear hg2 Hcur Hro Hr Hc1
  go_wp2_with fail
  refine (next_any g l k2 4 _ Hc2.out (by decide) hlen Hl.out).mono ?_
  rintro e w3 ⟨r4, k3, rfl, hr4, _, hc3, hg3⟩
  have Hc3 := Lib.hid hc3; clear hc3 hr4
  have Hg3 := Lib.hid (Hg2.out.trans hg3)
  have Hcur3 := Lib.hid ((hg3.block go (by omega) (fun he => by injection he with he; omega)).trans Hcur2.out)
  have Hr3 := Lib.hid (codes_rd Hc2.out Hr2.out hg3)
  have Hro3 := Lib.hid (codes_rd Hc2.out Hro2.out hg3)
  have hsz3 : w2.heap.size ≤ w3.heap.size := hg3.size
  clear hg3 Hcur2 Hro2 Hr2 Hc2 Hg2
  by_cases h0 : r4 = 0
  · have b0 : ((r4 : Int) == 0) = true := by rw [beq_iff_eq]; omega
    clear h0
    have hcut : r + (m - (r + 1)) ≤ cap := by omega
    have Hcut : Hid (r + (m - (r + 1)) ≤ cap) := Lib.hid hcut
    clear hcut
    by_cases hd1 : d = r + 1
    · obtain rfl : m = r + 1 := by omega
      subst hd1
      go_wp2_with fail
      have i1 : IntKind.i64.wrap ((r : Int) + 1) = (r : Int) + 1 := IntWalk.i64_in _ (by omega)
      have i2 : (0 : Int) ≤ (r : Int) + 1 := by omega
      have i3 : ((r : Int) + 1).toNat = r + 1 := by omega
      have i4 : (0 : Int) ≤ (r : Int) := by omega
      have i5 : (r : Int) ≤ (cap : Int) := by omega
      have i8 : r ≤ cap := by omega
      go_region_law (refine step_appendIn rfl (.tmp 26) (.tmp 30) rfl go r cap cur Hcur3.out (by simp [Act.eval, Act.put]) bd 0 0 [] (by simp [Act.eval, Act.put]) rfl Rd.nil (by simp) (by omega) (Nat.le_of_eq Hsz.out.symm) ?_; intro w4 hr4 hg4)
      have Hr5 := Lib.hid hr4; clear hr4
      have Hg4 := Lib.hid (grown_new Hg3.out (grown_undrew hg4) hgo)
      have Hc4 := Lib.hid (codes_other Hc3.out (grown_undrew hg4) (by omega))
      clear hg4
      go_wp2_with fail
      go_ret
      exact spPost_cut0 Hm.out hrm Htk.out Hr5.out Hb.out i8 Hc4.out Hg4.out
    · have hr4 := Hr3.out.cut_lt (k := r + 1) (c := d) (by rw [List.length_map, Hm.out]; exact hmd) (by omega)
      simp only [Option.map_some, show bd.add (r + 1) = ⟨bd.block, bd.off + (r + 1), none⟩ from by simp [Addr.add]] at hr4
      have Hr4 := Lib.hid hr4; clear hr4
      go_wp2_with fail
      have i1 : IntKind.i64.wrap ((r : Int) + 1) = (r : Int) + 1 := IntWalk.i64_in _ (by omega)
      have i2 : (0 : Int) ≤ (r : Int) + 1 := by omega
      have i3 : ((r : Int) + 1).toNat = r + 1 := by omega
      have i4 : (0 : Int) ≤ (r : Int) := by omega
      have i5 : (r : Int) ≤ (cap : Int) := by omega
      have i6 : (r : Int) + 1 ≤ (m : Int) := by omega
      have i7 : (m : Int) ≤ (d : Int) := by omega
      have i8 : r ≤ cap := by omega
      have i9 : r + 1 ≤ m := by omega
      go_region_law (refine step_appendIn rfl (.tmp 26) (.tmp 30) rfl go r cap cur Hcur3.out (by simp [Act.eval, Act.put]) ⟨bd.block, bd.off + (r + 1), none⟩ (m - (r + 1)) (d - (r + 1)) ((b.map bv).drop (r + 1)) (by simp [Act.eval, Act.put]) (by rw [List.length_drop, List.length_map, Hm.out]) Hr4.out (fun u hu => bv_one b u (List.mem_of_mem_drop hu)) Hcut.out (Nat.le_of_eq Hsz.out.symm) ?_; intro w4 hr4 hg4)
      have Hr5 := Lib.hid hr4; clear hr4
      have Hg4 := Lib.hid (grown_new Hg3.out (grown_undrew hg4) hgo)
      have Hc4 := Lib.hid (codes_other Hc3.out (grown_undrew hg4) (by omega))
      clear hg4
      go_wp2_with fail
      go_ret
      exact spPost_cut Hm.out hrm Htk.out Hr5.out Hb.out Hcut.out Hc4.out Hg4.out
  · have b0 : ((r4 : Int) == 0) = false := by rw [beq_eq_false_iff_ne]; omega
    clear h0
    by_cases h1 : r4 = 1
    · have b1 : ((r4 : Int) == 1) = true := by rw [beq_iff_eq]; omega
      clear h1
      go_wp2_with fail
      refine (next_any g l k3 256 _ Hc3.out (by decide) hlen Hl.out).mono ?_
      rintro e w4 ⟨r5, k4, rfl, hr5, _, hc4, hg4⟩
      have hr55 : r5 < 256 := by have := hr5 (by omega); omega
      have Hc4 := Lib.hid hc4
      have Hg4 := Lib.hid (Hg3.out.trans hg4)
      have Hcur4 := Lib.hid ((hg4.block go (by omega) (fun he => by injection he with he; omega)).trans Hcur3.out)
      have hsz4 : w3.heap.size ≤ w4.heap.size := hg4.size
      have hown : Sl w4 go 5 (.slice (some ⟨go, 0, none⟩) m cap) (b.map bv) := .inl ⟨by simp, .inr ⟨go, cap, cur, by rw [List.length_map, Hm.out], Nat.le_refl _, Hcur4.out, by rw [List.length_map, Hm.out]; exact hcap, hcm, by rw [Hsz.out, Nat.mul_one], by rw [List.length_map, Hm.out, Nat.mul_one]; exact Htk.out⟩⟩
      have Hown := Lib.hid hown
      clear hc4 hg4 hown hr5
      go_wp2_with (at_builtin; refine Pause.out ?_)
      refine Pause.of (wpList_appendB _ rfl _ _ rfl go _ _ rfl (Hown.out.alloc _) (some ⟨w4.heap.size, 0, none⟩) 1 1 [.int .u8 (r5 : Int)] rfl rfl (Rd.of_cells (cell_one_new _ _ _)) (one_cell_u8 _) (by rw [List.length_map, Hm.out]; omega) (by simp; omega) ?_)
      intro v5 w5 hs5 hb5
      have Hs5 := Lib.hid hs5
      have Hb5 := Lib.hid (((Below.refl go w4).alloc (by omega) _).trans hb5)
      clear hs5 hb5
      go_wp2_with fail
      go_ret
      exact spPost_more Hm.out Hs5.out Hb.out hr55 Hc4.out Hg4.out Hb5.out (by omega) hgo
    · have b1 : ((r4 : Int) == 1) = false := by rw [beq_eq_false_iff_ne]; omega
      clear h1
      have hb : ∃ y : Nat, y < 256 ∧ w3.cell? ⟨go, r, none⟩ = some (.int .u8 (y : Int)) := by
        have hi : r < b.length := by have := Hm.out; omega
        refine ⟨b[r], Hb.out _ (List.getElem_mem _), ?_⟩
        have := Hro3.out.cells r (bv b[r]) (by rw [List.getElem?_map, List.getElem?_eq_getElem hi]; rfl)
        rw [Addr.add_lit, Nat.zero_add] at this
        exact this
      obtain ⟨y, hy, hcy⟩ := hb
      have i4 : (0 : Int) ≤ (r : Int) := by omega
      have i5 : (r : Int) < (m : Int) := by omega
      have hgl3 : go < w3.heap.size := by omega
      go_wp2_with fail
      have hcurd : w3.drew.heap[go]? = some (.cells cur 5 (0, 0)) := Hcur3.out
      have hcyd : w3.drew.cell? ⟨go, r, none⟩ = some (.int .u8 (y : Int)) := hcy
      have C := Lib.hid (next_beside g l k3 255 go r _ cur _ w3.drew Hc3.out (by decide) (by decide) hlen Hl.out hcyd hcurd (by omega) hgl3)
      clear hcurd hcyd
      go_region_with (go_at_call 20; refine C.out.mono ?_; rintro e w4 ⟨r5, rfl, hr55, hcy4, hfz4, H4⟩)
      all_goals
        go_wp2_with fail
        go_ret
        obtain ⟨k4, hc4, hg4⟩ := H4.out
        exact spPost_set Hm.out hrm (codes_rd (w := w3.drew) Hc3.out Hro3.out hg4) Hb.out (Nat.xor_lt_two_pow (n := 8) hy (show 1 + r5 < 2 ^ 8 by omega)) hcap hc4 (Hg3.out.trans (grown_undrew hg4)) (by omega) hgo (by rw [spoiltByte y r5 hy hr55])

set_option maxRecDepth 10000 in
theorem spoilt_none (g : Nat) (l : List Nat) (k : Nat) (B : Option Addr) (d : Nat) (w : World) (hc : Codes w g l k) (hlen : l.length ≤ 1000000) (hl : ∀ x ∈ l, x < 256) :
    Calls Tryz.prog 8 #[.pointer (some ⟨g, 0, none⟩), .slice B 0 d] w (SpPost g l 0 w) := by
  have Hc := Lib.hid hc; clear hc
  have Hl := Lib.hid hl; clear hl
  go_enter Tryz.func8, Tryz.ntmps8
  go_wp2_with (at_builtin; refine Pause.out ?_)
  refine Pause.of (wpList_appendB _ rfl _ _ rfl w.heap.size _ _ rfl Sl.nil_ B 0 d [] rfl rfl Rd.nil (by simp) (by simp) (Nat.le_refl _) ?_)
  intro v1 w1 hs1 hb1
  obtain ⟨A1, c1, rfl, _, _⟩ := hs1.bytes (l := []) (by simp)
  have hgl := codes_lt Hc.out
  have Hc1 := Lib.hid (codes_below Hc.out hb1)
  have Hg1 := Lib.hid (grown_of_below hb1 (some g))
  clear hs1 hb1
  go_wp2_with fail
  refine (next_any g l k 256 _ Hc1.out (by decide) hlen Hl.out).mono ?_
  rintro e w2 ⟨r5, k4, rfl, hr5, _, hc4, hg4⟩
  have hr55 : r5 < 256 := by have := hr5 (by omega); omega
  have Hc4 := Lib.hid hc4
  have Hg4 := Lib.hid (Hg1.out.trans hg4)
  have hsz := (Hg1.out.trans hg4).size
  clear hc4 hg4 hr5
  go_wp2_with fail
  go_ret
  refine spPost_of (b' := [r5]) rfl (Rd.new w2 #[bv r5] _ _) (by simpa using hr55) (Nat.le_refl _) (by simp) (fun h => by cases h) (codes_below Hc4.out ((Below.refl _ _).alloc (Nat.le_refl _) _)) (grown_low Hg4.out ((Below.refl _ _).alloc (Nat.le_refl _) _) hsz)
theorem spoilt_any (g : Nat) (l : List Nat) (k : Nat) (B : Option Addr) (b : List Nat) (m d : Nat) (w : World) (hc : Codes w g l k) (hlen : l.length ≤ 1000000) (hl : ∀ x ∈ l, x < 256) (hm : b.length = m) (hmd : m ≤ d) (hr : Rd w B (b.map bv)) (hb : ∀ x ∈ b, x < 256) (hm2 : m ≤ 70000) :
    Calls Tryz.prog 8 #[.pointer (some ⟨g, 0, none⟩), .slice B m d] w (SpPost g l m w) := by
  by_cases h0 : m = 0
  · subst h0
    exact spoilt_none g l k B d w hc hlen hl
  · exact spoilt_some g l k B b m d w hc hlen hl hm hmd hr hb (by omega) hm2
end Go.Proofs.YtifabkoomojklaaGreatDoor
