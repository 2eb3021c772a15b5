/-
  The walk of the reference's writer for statements. Condition: the text has at most 2^40 bytes.
-/
import Derived.Test.YtifabkoomojklaaGreatDoorStmt
namespace Go.Proofs.YtifabkoomojklaaGreatDoor
open Go.RowKit

/-- What the writer's contract says of statements at a depth. -/
def BlockC (D d : Nat) : Prop := ∀ (F : Nat → Prop) (ts : List St) (A : Option Addr) (c : Nat) (ind : ByteArray) (w : World), RowS F w D d ts A c → (∀ t ∈ ts, ShS D d t) → ts.length ≤ 1000 → ind.size + d ≤ 100 → (fmtB D d ts ind.data.toList).length ≤ 1099511627776 → Calls Tryz.prog 32 #[.slice A ts.length c, .string ind] w (RetStr (fmtB D d ts ind.data.toList) w)
/-- block under way. -/
def BlockRel (w0 : World) (f : St → Bytes) (ts : List St) (s i : Value) (wr : World) : Prop :=
  ∃ (k : Nat) (t : ByteArray), k ≤ ts.length ∧ s = .string t ∧ i = .int .i64 (k : Int) ∧ t.data.toList = (ts.take k).flatMap f ∧ Below w0.heap.size w0 wr
theorem fm_snoc {α : Type} (f : α → Bytes) (l : List α) (k : Nat) (x : α) (h : l[k]? = some x) : (l.take (k + 1)).flatMap f = (l.take k).flatMap f ++ f x := by
  have hlt : k < l.length := by
    rcases Nat.lt_or_ge k l.length with h' | h'
    · exact h'
    · rw [List.getElem?_eq_none h'] at h; cases h
  rw [List.getElem?_eq_getElem hlt] at h
  injection h with h
  rw [List.take_succ_eq_append_getElem hlt, List.flatMap_append, h]
  simp
theorem fm_take {α : Type} (f : α → Bytes) (l : List α) (k : Nat) : ((l.take k).flatMap f).length ≤ (l.flatMap f).length := by
  conv => rhs; rw [← List.take_append_drop k l, List.flatMap_append]
  simp
theorem fm_mem {α : Type} (f : α → Bytes) (l : List α) (k : Nat) (x : α) (h : l[k]? = some x) : (f x).length ≤ (l.flatMap f).length := by
  have h1 := fm_take f l (k + 1)
  rw [fm_snoc f l k x h, List.length_append] at h1
  omega
theorem gives_value {D : Nat} {F : Nat → Prop} {k l : Int} {s : ByteArray} {es : List Ex} {eA tA uA : Option Addr} {ec tn tc un uc : Nat} (i : Nat) (z : Int) (hz : z = (i : Int)) {w : World} (hr : RowE F w D es eA ec) (hs : ∀ x ∈ es, ShE D x) (hi : i < es.length) (hl : (valL D es i).length ≤ 1099511627776) :
    Gives 48 #[.agg #[.int .i64 k, .int .i64 l, .string s, .slice eA es.length ec, .slice tA tn tc, .slice uA un uc], .int .i64 z] (valL D es i) w := fun w' hb => by
  subst hz
  exact value_5 D _ k l s es eA tA uA ec tn tc un uc i w' (hr.low hb) hs hi hl
theorem gives_block {D d : Nat} (ih : BlockC D d) {F : Nat → Prop} {ts : List St} {A : Option Addr} {c n : Nat} {ind : ByteArray} {w : World} (hn : ts.length = n) (hr : RowS F w D d ts A c) (hs : ∀ t ∈ ts, ShS D d t) (hl : ts.length ≤ 1000) (hi : ind.size + d ≤ 100) (L : Bytes) (hL : L = ind.data.toList) (ht : (fmtB D d ts L).length ≤ 1099511627776) :
    Gives 32 #[.slice A n c, .string ind] (fmtB D d ts L) w := fun w' hb => by
  subst hn hL
  exact ih _ ts A c ind w' (hr.low hb) hs hl hi ht
set_option maxRecDepth 100000 in
set_option maxHeartbeats 8000000 in
theorem block_step (D d : Nat) (ih : ∀ d', d = d' + 1 → BlockC D d') : BlockC D d := by
  intro F ts A c ind w hr hs hn hi hl
  obtain ⟨hc, hrow⟩ := hr
  obtain ⟨n, hnn⟩ : ∃ n, n = ts.length := ⟨_, rfl⟩
  by_cases h0 : d = 0
  · subst h0
    have hnil : ts = [] := by
      cases ts with
      | nil => rfl
      | cons x r =>
        obtain ⟨g, off, c0, c1, c2, c3, c4, c5, _, _, _, _, _, _, _, _, hx⟩ := hrow 0 x rfl
        exact hx.elim
    subst hnil
    have hL : Hid (([] : Bytes) = fmtB D 0 [] ind.data.toList) := Lib.hid rfl
    generalize fmtB D 0 [] ind.data.toList = L at *
    show Calls Tryz.prog 32 #[.slice A 0 c, .string ind] w (RetStr L w)
    clear hrow hs hn hl hc hnn ih hi
    go_enter Tryz.func32, Tryz.ntmps32
    go_wp2_with fail
    go_loopw [5, 6] (fun s i wr => s = .string { data := #[] } ∧ i = .int .i64 0 ∧ wr = w) (fun _ _ _ => 0)
    case atStart => exact ⟨rfl, rfl, rfl⟩
    case round =>
      obtain ⟨rfl, rfl, rfl⟩ := hrel
      go_wp2_with fail
      go_ret
      exact retStr hL.out (Below.refl _ _)
  · obtain ⟨d', rfl⟩ : ∃ d', d = d' + 1 := ⟨d - 1, by omega⟩
    have Ih := Lib.hid (ih d' rfl)
    have hLL : Hid (fmtB D (d' + 1) ts ind.data.toList = ts.flatMap (stL D (fmtB D d') ind.data.toList)) := Lib.hid rfl
    have hl2 : (ts.flatMap (stL D (fmtB D d') ind.data.toList)).length ≤ 1099511627776 := hl
    have Hrow := Lib.hid hrow
    have Hs := Lib.hid hs
    have Hn := Lib.hid hnn
    have Hl2 := Lib.hid hl2
    have hn2 : n ≤ 1000 := by omega
    have hcn : n ≤ c := by omega
    rw [← hnn]
    clear hrow hs hl hl2 ih hn hc hnn h0
    generalize fmtB D (d' + 1) ts ind.data.toList = LL at *
    go_enter Tryz.func32, Tryz.ntmps32
    go_wp2_with fail
    go_loopw [5, 6] (fun s i wr => BlockRel w (stL D (fmtB D d') ind.data.toList) ts s i wr) (fun _ i _ => n - (intOf i).toNat)
    case atStart => exact ⟨0, _, Nat.zero_le _, rfl, rfl, rfl, Below.refl _ _⟩
    case round =>
      obtain ⟨k, t, hk, rfl, rfl, ht, hb⟩ := hrel
      have Ht := Lib.hid ht
      have Hb := Lib.hid hb
      have hsz := hb.size
      have hkn : k ≤ n := by rw [Hn.out]; exact hk
      have htz : t.size ≤ 1099511627776 := by
        rw [size_of ht]
        exact Nat.le_trans (fm_take _ ts k) Hl2.out
      clear ht hb hk
      by_cases hlt : k < n
      · obtain ⟨x, hx⟩ : ∃ x, ts[k]? = some x := ⟨ts[k]'(by rw [← Hn.out]; exact hlt), List.getElem?_eq_getElem _⟩
        obtain ⟨g, off, c0, c1, c2, c3, c4, c5, rfl, _, e0, e1, e2, e3, e4, e5, hxv⟩ := Hrow.out k x hx
        have hfl := Nat.le_trans (fm_mem (stL D (fmtB D d') ind.data.toList) ts k x hx) Hl2.out
        have Hsn := Lib.hid (fm_snoc (stL D (fmtB D d') ind.data.toList) ts k x hx)
        have hsh := Hs.out x (List.mem_of_getElem? hx)
        match x, hxv, hfl, Hsn, hsh with
        | .mk kd ln s es tt uu, ⟨eA, ec, tA, tc, uA, uc, hv, he, htt, huu⟩, hfl, Hsn, ⟨hss, hse, hst, hsu, hn1, hn2', hn3, hn4, hkd⟩ =>
        injection hv with hv
        injection hv with hv
        injection hv with v0 hv
        injection hv with v1 hv
        injection hv with v2 hv
        injection hv with v3 hv
        injection hv with v4 hv
        injection hv with v5 _
        subst v0 v1 v2 v3 v4 v5
        have d0 := hold Hb.out e0
        have d1 := hold Hb.out e1
        have d2 := hold Hb.out e2
        have d3 := hold Hb.out e3
        have d4 := hold Hb.out e4
        have d5 := hold Hb.out e5
        have he2 := he.low Hb.out
        have htt2 := RowS.low Hb.out htt
        have huu2 := RowS.low Hb.out huu
        clear e0 e1 e2 e3 e4 e5 he htt huu hx
        rcases hkd with rfl | rfl | ⟨rfl, h2⟩ | rfl | rfl | rfl | rfl | rfl
        · have hT : stL D (fmtB D d') ind.data.toList (.mk 1 ln s es tt uu) = ind.data.toList ++ ([118, 97, 114, 32] ++ s.data.toList ++ [32, 61, 32] ++ valL D es 0 ++ [59]) ++ [10] := rfl
          rw [hT] at hfl
          have Hsn2 := Hsn
          rw [hT] at Hsn2
          have Hi : ind.data.toList.length = ind.size := by simp
          have hl0 : (valL D es 0).length ≤ 1099511627776 := by simp at hfl; omega
          have HG0 := Lib.hid (gives_value (k := 1) (l := ln) (s := s) (tA := tA) (tn := tt.length) (tc := tc) (uA := uA) (un := uu.length) (uc := uc) 0 0 rfl he2 hse (by omega) hl0)
          clear hse hst hsu he2 htt2 huu2 hfl Hsn hT
          have hb0 := Hb.out.alloc hsz (.cells #[.int .i64 1, .int .i64 ln, .string s, .slice eA es.length ec, .slice tA tt.length tc, .slice uA uu.length uc] 84)
          have Hb0 := Lib.hid hb0
          have hb1 := (Below.refl _ wr).alloc (Nat.le_refl _) (.cells #[.int .i64 1, .int .i64 ln, .string s, .slice eA es.length ec, .slice tA tt.length tc, .slice uA uu.length uc] 84)
          have Hb1 := Lib.hid hb1
          clear hb0 hb1
          have f0 : (wr.alloc (.cells #[.int .i64 1, .int .i64 ln, .string s, .slice eA es.length ec, .slice tA tt.length tc, .slice uA uu.length uc] 84)).cell? ⟨wr.heap.size, 0, none⟩ = some (.int .i64 1) := by rw [cell_of_row _ _ _ _ _ _ (heap_alloc_new wr _)]; rfl
          have f1 : (wr.alloc (.cells #[.int .i64 1, .int .i64 ln, .string s, .slice eA es.length ec, .slice tA tt.length tc, .slice uA uu.length uc] 84)).cell? ⟨wr.heap.size, 1, none⟩ = some (.int .i64 ln) := by rw [cell_of_row _ _ _ _ _ _ (heap_alloc_new wr _)]; rfl
          have f2 : (wr.alloc (.cells #[.int .i64 1, .int .i64 ln, .string s, .slice eA es.length ec, .slice tA tt.length tc, .slice uA uu.length uc] 84)).cell? ⟨wr.heap.size, 2, none⟩ = some (.string s) := by rw [cell_of_row _ _ _ _ _ _ (heap_alloc_new wr _)]; rfl
          have f3 : (wr.alloc (.cells #[.int .i64 1, .int .i64 ln, .string s, .slice eA es.length ec, .slice tA tt.length tc, .slice uA uu.length uc] 84)).cell? ⟨wr.heap.size, 3, none⟩ = some (.slice eA es.length ec) := by rw [cell_of_row _ _ _ _ _ _ (heap_alloc_new wr _)]; rfl
          have f4 : (wr.alloc (.cells #[.int .i64 1, .int .i64 ln, .string s, .slice eA es.length ec, .slice tA tt.length tc, .slice uA uu.length uc] 84)).cell? ⟨wr.heap.size, 4, none⟩ = some (.slice tA tt.length tc) := by rw [cell_of_row _ _ _ _ _ _ (heap_alloc_new wr _)]; rfl
          have f5 : (wr.alloc (.cells #[.int .i64 1, .int .i64 ln, .string s, .slice eA es.length ec, .slice tA tt.length tc, .slice uA uu.length uc] 84)).cell? ⟨wr.heap.size, 5, none⟩ = some (.slice uA uu.length uc) := by rw [cell_of_row _ _ _ _ _ _ (heap_alloc_new wr _)]; rfl
          have HH0 := Lib.hid (HG0.out.next Hb1.out)
          have hq0 := no_far (n := 4 + s.size) (m := 4398046511104) (by omega) (by omega)
          have hq1 := no_far (n := 4 + s.size + 3) (m := 4398046511104) (by omega) (by omega)
          clear HG0
          go_wp2_with fail
          generalize wr.alloc (.cells #[.int .i64 1, .int .i64 ln, .string s, .slice eA es.length ec, .slice tA tt.length tc, .slice uA uu.length uc] 84) = W at *
          have hS0 : W.drew.cell? ⟨wr.heap.size, 0, none⟩ = some (.int .i64 1) ∧ W.drew.cell? ⟨wr.heap.size, 1, none⟩ = some (.int .i64 ln) ∧ W.drew.cell? ⟨wr.heap.size, 2, none⟩ = some (.string s) ∧ W.drew.cell? ⟨wr.heap.size, 3, none⟩ = some (.slice eA es.length ec) ∧ W.drew.cell? ⟨wr.heap.size, 4, none⟩ = some (.slice tA tt.length tc) ∧ W.drew.cell? ⟨wr.heap.size, 5, none⟩ = some (.slice uA uu.length uc) ∧ Below W.heap.size W W.drew := ⟨f0, f1, f2, f3, f4, f5, (Below.refl _ W).drew⟩
          go_region_held3 (fun w' => w'.cell? ⟨wr.heap.size, 0, none⟩ = some (.int .i64 1) ∧ w'.cell? ⟨wr.heap.size, 1, none⟩ = some (.int .i64 ln) ∧ w'.cell? ⟨wr.heap.size, 2, none⟩ = some (.string s) ∧ w'.cell? ⟨wr.heap.size, 3, none⟩ = some (.slice eA es.length ec) ∧ w'.cell? ⟨wr.heap.size, 4, none⟩ = some (.slice tA tt.length tc) ∧ w'.cell? ⟨wr.heap.size, 5, none⟩ = some (.slice uA uu.length uc) ∧ Below W.heap.size W w')
            (first | exact hS0 | (go_split_ands; exact ⟨hold hb (by assumption), hold hb (by assumption), hold hb (by assumption), hold hb (by assumption), hold hb (by assumption), hold hb (by assumption), below_next (by assumption) hb⟩))
            (first | (go_at_call 48; (with_reducible refine (HH0.out.at_ ?_).mono ?_); (go_split_ands; assumption); rintro e w' ⟨t0, rfl, ht0, hb⟩; have hz0 : t0.size ≤ 1099511627776 := (by rw [size_of ht0.out]; exact hl0); have hr00 := no_far (n := 4 + s.size + 3 + t0.size) (m := 8796093022208) (by omega) (by omega); have hr01 := no_far (n := 4 + s.size + 3 + t0.size + 1) (m := 8796093022208) (by omega) (by omega); have hr02 := no_far (n := t.size + ind.size + (4 + s.size + 3 + t0.size + 1)) (m := 8796093022208) (by omega) (by omega)))
          rename_i hH
          have hbel : Below W.heap.size W _ := hH.2.2.2.2.2.2
          have HB := Lib.hid (Hb0.out.trans (hbel.mono (Nat.le_trans hsz Hb1.out.size)))
          clear hH hS0 hbel hb f0 f1 f2 f3 f4 f5
          go_wp2_with fail
          exact ⟨⟨k + 1, _, by rw [← Hn.out]; omega, rfl, by go_num, by rw [Hsn2.out, ← Ht.out, ← ht0.out]; simp, HB.out⟩, by simp [intOf]; omega⟩
        · have hT : stL D (fmtB D d') ind.data.toList (.mk 2 ln s es tt uu) = ind.data.toList ++ (s.data.toList ++ [32, 61, 32] ++ valL D es 0 ++ [59]) ++ [10] := rfl
          rw [hT] at hfl
          have Hsn2 := Hsn
          rw [hT] at Hsn2
          have Hi : ind.data.toList.length = ind.size := by simp
          have hl0 : (valL D es 0).length ≤ 1099511627776 := by simp at hfl; omega
          have HG0 := Lib.hid (gives_value (k := 2) (l := ln) (s := s) (tA := tA) (tn := tt.length) (tc := tc) (uA := uA) (un := uu.length) (uc := uc) 0 0 rfl he2 hse (by omega) hl0)
          clear hse hst hsu he2 htt2 huu2 hfl Hsn hT
          have hb0 := Hb.out.alloc hsz (.cells #[.int .i64 2, .int .i64 ln, .string s, .slice eA es.length ec, .slice tA tt.length tc, .slice uA uu.length uc] 84)
          have Hb0 := Lib.hid hb0
          have hb1 := (Below.refl _ wr).alloc (Nat.le_refl _) (.cells #[.int .i64 2, .int .i64 ln, .string s, .slice eA es.length ec, .slice tA tt.length tc, .slice uA uu.length uc] 84)
          have Hb1 := Lib.hid hb1
          clear hb0 hb1
          have f0 : (wr.alloc (.cells #[.int .i64 2, .int .i64 ln, .string s, .slice eA es.length ec, .slice tA tt.length tc, .slice uA uu.length uc] 84)).cell? ⟨wr.heap.size, 0, none⟩ = some (.int .i64 2) := by rw [cell_of_row _ _ _ _ _ _ (heap_alloc_new wr _)]; rfl
          have f1 : (wr.alloc (.cells #[.int .i64 2, .int .i64 ln, .string s, .slice eA es.length ec, .slice tA tt.length tc, .slice uA uu.length uc] 84)).cell? ⟨wr.heap.size, 1, none⟩ = some (.int .i64 ln) := by rw [cell_of_row _ _ _ _ _ _ (heap_alloc_new wr _)]; rfl
          have f2 : (wr.alloc (.cells #[.int .i64 2, .int .i64 ln, .string s, .slice eA es.length ec, .slice tA tt.length tc, .slice uA uu.length uc] 84)).cell? ⟨wr.heap.size, 2, none⟩ = some (.string s) := by rw [cell_of_row _ _ _ _ _ _ (heap_alloc_new wr _)]; rfl
          have f3 : (wr.alloc (.cells #[.int .i64 2, .int .i64 ln, .string s, .slice eA es.length ec, .slice tA tt.length tc, .slice uA uu.length uc] 84)).cell? ⟨wr.heap.size, 3, none⟩ = some (.slice eA es.length ec) := by rw [cell_of_row _ _ _ _ _ _ (heap_alloc_new wr _)]; rfl
          have f4 : (wr.alloc (.cells #[.int .i64 2, .int .i64 ln, .string s, .slice eA es.length ec, .slice tA tt.length tc, .slice uA uu.length uc] 84)).cell? ⟨wr.heap.size, 4, none⟩ = some (.slice tA tt.length tc) := by rw [cell_of_row _ _ _ _ _ _ (heap_alloc_new wr _)]; rfl
          have f5 : (wr.alloc (.cells #[.int .i64 2, .int .i64 ln, .string s, .slice eA es.length ec, .slice tA tt.length tc, .slice uA uu.length uc] 84)).cell? ⟨wr.heap.size, 5, none⟩ = some (.slice uA uu.length uc) := by rw [cell_of_row _ _ _ _ _ _ (heap_alloc_new wr _)]; rfl
          have HH0 := Lib.hid (HG0.out.next Hb1.out)
          have hq0 := no_far (n := s.size + 3) (m := 4398046511104) (by omega) (by omega)
          clear HG0
          go_wp2_with fail
          generalize wr.alloc (.cells #[.int .i64 2, .int .i64 ln, .string s, .slice eA es.length ec, .slice tA tt.length tc, .slice uA uu.length uc] 84) = W at *
          have hS0 : W.drew.cell? ⟨wr.heap.size, 0, none⟩ = some (.int .i64 2) ∧ W.drew.cell? ⟨wr.heap.size, 1, none⟩ = some (.int .i64 ln) ∧ W.drew.cell? ⟨wr.heap.size, 2, none⟩ = some (.string s) ∧ W.drew.cell? ⟨wr.heap.size, 3, none⟩ = some (.slice eA es.length ec) ∧ W.drew.cell? ⟨wr.heap.size, 4, none⟩ = some (.slice tA tt.length tc) ∧ W.drew.cell? ⟨wr.heap.size, 5, none⟩ = some (.slice uA uu.length uc) ∧ Below W.heap.size W W.drew := ⟨f0, f1, f2, f3, f4, f5, (Below.refl _ W).drew⟩
          go_region_held3 (fun w' => w'.cell? ⟨wr.heap.size, 0, none⟩ = some (.int .i64 2) ∧ w'.cell? ⟨wr.heap.size, 1, none⟩ = some (.int .i64 ln) ∧ w'.cell? ⟨wr.heap.size, 2, none⟩ = some (.string s) ∧ w'.cell? ⟨wr.heap.size, 3, none⟩ = some (.slice eA es.length ec) ∧ w'.cell? ⟨wr.heap.size, 4, none⟩ = some (.slice tA tt.length tc) ∧ w'.cell? ⟨wr.heap.size, 5, none⟩ = some (.slice uA uu.length uc) ∧ Below W.heap.size W w')
            (first | exact hS0 | (go_split_ands; exact ⟨hold hb (by assumption), hold hb (by assumption), hold hb (by assumption), hold hb (by assumption), hold hb (by assumption), hold hb (by assumption), below_next (by assumption) hb⟩))
            (first | (go_at_call 48; (with_reducible refine (HH0.out.at_ ?_).mono ?_); (go_split_ands; assumption); rintro e w' ⟨t0, rfl, ht0, hb⟩; have hz0 : t0.size ≤ 1099511627776 := (by rw [size_of ht0.out]; exact hl0); have hr00 := no_far (n := s.size + 3 + t0.size) (m := 8796093022208) (by omega) (by omega); have hr01 := no_far (n := s.size + 3 + t0.size + 1) (m := 8796093022208) (by omega) (by omega); have hr02 := no_far (n := t.size + ind.size + (s.size + 3 + t0.size + 1)) (m := 8796093022208) (by omega) (by omega)))
          rename_i hH
          have hbel : Below W.heap.size W _ := hH.2.2.2.2.2.2
          have HB := Lib.hid (Hb0.out.trans (hbel.mono (Nat.le_trans hsz Hb1.out.size)))
          clear hH hS0 hbel hb f0 f1 f2 f3 f4 f5
          go_wp2_with fail
          exact ⟨⟨k + 1, _, by rw [← Hn.out]; omega, rfl, by go_num, by rw [Hsn2.out, ← Ht.out, ← ht0.out]; simp, HB.out⟩, by simp [intOf]; omega⟩
        · have hT : stL D (fmtB D d') ind.data.toList (.mk 3 ln s es tt uu) = ind.data.toList ++ (s.data.toList ++ [91] ++ valL D es 0 ++ [93, 32, 61, 32] ++ valL D es 1 ++ [59]) ++ [10] := rfl
          rw [hT] at hfl
          have Hsn2 := Hsn
          rw [hT] at Hsn2
          have Hi : ind.data.toList.length = ind.size := by simp
          have hl0 : (valL D es 0).length ≤ 1099511627776 := by simp at hfl; omega
          have hl1 : (valL D es 1).length ≤ 1099511627776 := by simp at hfl; omega
          have HG0 := Lib.hid (gives_value (k := 3) (l := ln) (s := s) (tA := tA) (tn := tt.length) (tc := tc) (uA := uA) (un := uu.length) (uc := uc) 0 0 rfl he2 hse (by omega) hl0)
          have HG1 := Lib.hid (gives_value (k := 3) (l := ln) (s := s) (tA := tA) (tn := tt.length) (tc := tc) (uA := uA) (un := uu.length) (uc := uc) 1 1 rfl he2 hse (by omega) hl1)
          clear hse hst hsu he2 htt2 huu2 hfl Hsn hT
          have hb0 := Hb.out.alloc hsz (.cells #[.int .i64 3, .int .i64 ln, .string s, .slice eA es.length ec, .slice tA tt.length tc, .slice uA uu.length uc] 84)
          have Hb0 := Lib.hid hb0
          have hb1 := (Below.refl _ wr).alloc (Nat.le_refl _) (.cells #[.int .i64 3, .int .i64 ln, .string s, .slice eA es.length ec, .slice tA tt.length tc, .slice uA uu.length uc] 84)
          have Hb1 := Lib.hid hb1
          clear hb0 hb1
          have f0 : (wr.alloc (.cells #[.int .i64 3, .int .i64 ln, .string s, .slice eA es.length ec, .slice tA tt.length tc, .slice uA uu.length uc] 84)).cell? ⟨wr.heap.size, 0, none⟩ = some (.int .i64 3) := by rw [cell_of_row _ _ _ _ _ _ (heap_alloc_new wr _)]; rfl
          have f1 : (wr.alloc (.cells #[.int .i64 3, .int .i64 ln, .string s, .slice eA es.length ec, .slice tA tt.length tc, .slice uA uu.length uc] 84)).cell? ⟨wr.heap.size, 1, none⟩ = some (.int .i64 ln) := by rw [cell_of_row _ _ _ _ _ _ (heap_alloc_new wr _)]; rfl
          have f2 : (wr.alloc (.cells #[.int .i64 3, .int .i64 ln, .string s, .slice eA es.length ec, .slice tA tt.length tc, .slice uA uu.length uc] 84)).cell? ⟨wr.heap.size, 2, none⟩ = some (.string s) := by rw [cell_of_row _ _ _ _ _ _ (heap_alloc_new wr _)]; rfl
          have f3 : (wr.alloc (.cells #[.int .i64 3, .int .i64 ln, .string s, .slice eA es.length ec, .slice tA tt.length tc, .slice uA uu.length uc] 84)).cell? ⟨wr.heap.size, 3, none⟩ = some (.slice eA es.length ec) := by rw [cell_of_row _ _ _ _ _ _ (heap_alloc_new wr _)]; rfl
          have f4 : (wr.alloc (.cells #[.int .i64 3, .int .i64 ln, .string s, .slice eA es.length ec, .slice tA tt.length tc, .slice uA uu.length uc] 84)).cell? ⟨wr.heap.size, 4, none⟩ = some (.slice tA tt.length tc) := by rw [cell_of_row _ _ _ _ _ _ (heap_alloc_new wr _)]; rfl
          have f5 : (wr.alloc (.cells #[.int .i64 3, .int .i64 ln, .string s, .slice eA es.length ec, .slice tA tt.length tc, .slice uA uu.length uc] 84)).cell? ⟨wr.heap.size, 5, none⟩ = some (.slice uA uu.length uc) := by rw [cell_of_row _ _ _ _ _ _ (heap_alloc_new wr _)]; rfl
          have HH0 := Lib.hid (HG0.out.next Hb1.out)
          have HH1 := Lib.hid (HG1.out.next Hb1.out)
          have hq0 := no_far (n := s.size + 1) (m := 4398046511104) (by omega) (by omega)
          clear HG0 HG1
          go_wp2_with fail
          generalize wr.alloc (.cells #[.int .i64 3, .int .i64 ln, .string s, .slice eA es.length ec, .slice tA tt.length tc, .slice uA uu.length uc] 84) = W at *
          have hS0 : W.drew.cell? ⟨wr.heap.size, 0, none⟩ = some (.int .i64 3) ∧ W.drew.cell? ⟨wr.heap.size, 1, none⟩ = some (.int .i64 ln) ∧ W.drew.cell? ⟨wr.heap.size, 2, none⟩ = some (.string s) ∧ W.drew.cell? ⟨wr.heap.size, 3, none⟩ = some (.slice eA es.length ec) ∧ W.drew.cell? ⟨wr.heap.size, 4, none⟩ = some (.slice tA tt.length tc) ∧ W.drew.cell? ⟨wr.heap.size, 5, none⟩ = some (.slice uA uu.length uc) ∧ Below W.heap.size W W.drew := ⟨f0, f1, f2, f3, f4, f5, (Below.refl _ W).drew⟩
          go_region_held3 (fun w' => w'.cell? ⟨wr.heap.size, 0, none⟩ = some (.int .i64 3) ∧ w'.cell? ⟨wr.heap.size, 1, none⟩ = some (.int .i64 ln) ∧ w'.cell? ⟨wr.heap.size, 2, none⟩ = some (.string s) ∧ w'.cell? ⟨wr.heap.size, 3, none⟩ = some (.slice eA es.length ec) ∧ w'.cell? ⟨wr.heap.size, 4, none⟩ = some (.slice tA tt.length tc) ∧ w'.cell? ⟨wr.heap.size, 5, none⟩ = some (.slice uA uu.length uc) ∧ Below W.heap.size W w')
            (first | exact hS0 | (go_split_ands; exact ⟨hold hb (by assumption), hold hb (by assumption), hold hb (by assumption), hold hb (by assumption), hold hb (by assumption), hold hb (by assumption), below_next (by assumption) hb⟩))
            (first | (go_at_call 48; (with_reducible refine (HH0.out.at_ ?_).mono ?_); (go_split_ands; assumption); rintro e w' ⟨t0, rfl, ht0, hb⟩; have hz0 : t0.size ≤ 1099511627776 := (by rw [size_of ht0.out]; exact hl0); have hr00 := no_far (n := s.size + 1 + t0.size) (m := 8796093022208) (by omega) (by omega); have hr01 := no_far (n := s.size + 1 + t0.size + 4) (m := 8796093022208) (by omega) (by omega)) | (go_at_call 48; (with_reducible refine (HH1.out.at_ ?_).mono ?_); (go_split_ands; assumption); rintro e w' ⟨t1, rfl, ht1, hb⟩; have hz1 : t1.size ≤ 1099511627776 := (by rw [size_of ht1.out]; exact hl1); have hr10 := no_far (n := s.size + 1 + t0.size + 4 + t1.size) (m := 8796093022208) (by omega) (by omega); have hr11 := no_far (n := s.size + 1 + t0.size + 4 + t1.size + 1) (m := 8796093022208) (by omega) (by omega); have hr12 := no_far (n := t.size + ind.size + (s.size + 1 + t0.size + 4 + t1.size + 1)) (m := 8796093022208) (by omega) (by omega)))
          rename_i hH
          have hbel : Below W.heap.size W _ := hH.2.2.2.2.2.2
          have HB := Lib.hid (Hb0.out.trans (hbel.mono (Nat.le_trans hsz Hb1.out.size)))
          clear hH hS0 hbel hb f0 f1 f2 f3 f4 f5
          go_wp2_with fail
          exact ⟨⟨k + 1, _, by rw [← Hn.out]; omega, rfl, by go_num, by rw [Hsn2.out, ← Ht.out, ← ht0.out, ← ht1.out]; simp, HB.out⟩, by simp [intOf]; omega⟩
        · have hT : stL D (fmtB D d') ind.data.toList (.mk 6 ln s es tt uu) = ind.data.toList ++ ([114, 101, 116, 117, 114, 110, 32] ++ valL D es 0 ++ [59]) ++ [10] := rfl
          rw [hT] at hfl
          have Hsn2 := Hsn
          rw [hT] at Hsn2
          have Hi : ind.data.toList.length = ind.size := by simp
          have hl0 : (valL D es 0).length ≤ 1099511627776 := by simp at hfl; omega
          have HG0 := Lib.hid (gives_value (k := 6) (l := ln) (s := s) (tA := tA) (tn := tt.length) (tc := tc) (uA := uA) (un := uu.length) (uc := uc) 0 0 rfl he2 hse (by omega) hl0)
          clear hse hst hsu he2 htt2 huu2 hfl Hsn hT
          have hb0 := Hb.out.alloc hsz (.cells #[.int .i64 6, .int .i64 ln, .string s, .slice eA es.length ec, .slice tA tt.length tc, .slice uA uu.length uc] 84)
          have Hb0 := Lib.hid hb0
          have hb1 := (Below.refl _ wr).alloc (Nat.le_refl _) (.cells #[.int .i64 6, .int .i64 ln, .string s, .slice eA es.length ec, .slice tA tt.length tc, .slice uA uu.length uc] 84)
          have Hb1 := Lib.hid hb1
          clear hb0 hb1
          go_wp2_with fail
          refine (HG0.out.at_ Hb1.out).mono ?_
          rintro e w1 ⟨t0, rfl, ht0, hb⟩
          have hz0 : t0.size ≤ 1099511627776 := by rw [size_of ht0.out]; exact hl0
          have HB := Lib.hid (Hb0.out.trans (hb.mono (by simp; omega)))
          clear hb HG0 Hb0 Hb1
          go_wp2_with fail
          exact ⟨⟨k + 1, _, by rw [← Hn.out]; omega, rfl, by go_num, by rw [Hsn2.out, ← Ht.out, ← ht0.out]; simp, HB.out⟩, by simp [intOf]; omega⟩
        · have hT : stL D (fmtB D d') ind.data.toList (.mk 7 ln s es tt uu) = ind.data.toList ++ ([112, 114, 105, 110, 116, 32] ++ valL D es 0 ++ [59]) ++ [10] := rfl
          rw [hT] at hfl
          have Hsn2 := Hsn
          rw [hT] at Hsn2
          have Hi : ind.data.toList.length = ind.size := by simp
          have hl0 : (valL D es 0).length ≤ 1099511627776 := by simp at hfl; omega
          have HG0 := Lib.hid (gives_value (k := 7) (l := ln) (s := s) (tA := tA) (tn := tt.length) (tc := tc) (uA := uA) (un := uu.length) (uc := uc) 0 0 rfl he2 hse (by omega) hl0)
          clear hse hst hsu he2 htt2 huu2 hfl Hsn hT
          have hb0 := Hb.out.alloc hsz (.cells #[.int .i64 7, .int .i64 ln, .string s, .slice eA es.length ec, .slice tA tt.length tc, .slice uA uu.length uc] 84)
          have Hb0 := Lib.hid hb0
          have hb1 := (Below.refl _ wr).alloc (Nat.le_refl _) (.cells #[.int .i64 7, .int .i64 ln, .string s, .slice eA es.length ec, .slice tA tt.length tc, .slice uA uu.length uc] 84)
          have Hb1 := Lib.hid hb1
          clear hb0 hb1
          go_wp2_with fail
          refine (HG0.out.at_ Hb1.out).mono ?_
          rintro e w1 ⟨t0, rfl, ht0, hb⟩
          have hz0 : t0.size ≤ 1099511627776 := by rw [size_of ht0.out]; exact hl0
          have HB := Lib.hid (Hb0.out.trans (hb.mono (by simp; omega)))
          clear hb HG0 Hb0 Hb1
          go_wp2_with fail
          exact ⟨⟨k + 1, _, by rw [← Hn.out]; omega, rfl, by go_num, by rw [Hsn2.out, ← Ht.out, ← ht0.out]; simp, HB.out⟩, by simp [intOf]; omega⟩
        · have hT : stL D (fmtB D d') ind.data.toList (.mk 8 ln s es tt uu) = ind.data.toList ++ ([99, 97, 108, 108, 32] ++ valL D es 0 ++ [59]) ++ [10] := rfl
          rw [hT] at hfl
          have Hsn2 := Hsn
          rw [hT] at Hsn2
          have Hi : ind.data.toList.length = ind.size := by simp
          have hl0 : (valL D es 0).length ≤ 1099511627776 := by simp at hfl; omega
          have HG0 := Lib.hid (gives_value (k := 8) (l := ln) (s := s) (tA := tA) (tn := tt.length) (tc := tc) (uA := uA) (un := uu.length) (uc := uc) 0 0 rfl he2 hse (by omega) hl0)
          clear hse hst hsu he2 htt2 huu2 hfl Hsn hT
          have hb0 := Hb.out.alloc hsz (.cells #[.int .i64 8, .int .i64 ln, .string s, .slice eA es.length ec, .slice tA tt.length tc, .slice uA uu.length uc] 84)
          have Hb0 := Lib.hid hb0
          have hb1 := (Below.refl _ wr).alloc (Nat.le_refl _) (.cells #[.int .i64 8, .int .i64 ln, .string s, .slice eA es.length ec, .slice tA tt.length tc, .slice uA uu.length uc] 84)
          have Hb1 := Lib.hid hb1
          clear hb0 hb1
          go_wp2_with fail
          refine (HG0.out.at_ Hb1.out).mono ?_
          rintro e w1 ⟨t0, rfl, ht0, hb⟩
          have hz0 : t0.size ≤ 1099511627776 := by rw [size_of ht0.out]; exact hl0
          have HB := Lib.hid (Hb0.out.trans (hb.mono (by simp; omega)))
          clear hb HG0 Hb0 Hb1
          go_wp2_with fail
          exact ⟨⟨k + 1, _, by rw [← Hn.out]; omega, rfl, by go_num, by rw [Hsn2.out, ← Ht.out, ← ht0.out]; simp, HB.out⟩, by simp [intOf]; omega⟩
        · have hT : stL D (fmtB D d') ind.data.toList (.mk 5 ln s es tt uu) = ind.data.toList ++ ([119, 104, 105, 108, 101, 32] ++ valL D es 0 ++ [32, 123, 10] ++ fmtB D d' tt (ind.data.toList ++ [9]) ++ ind.data.toList ++ [125]) ++ [10] := rfl
          rw [hT] at hfl
          have Hsn2 := Hsn
          rw [hT] at Hsn2
          have Hi : ind.data.toList.length = ind.size := by simp
          have hl0 : (valL D es 0).length ≤ 1099511627776 := by simp at hfl; omega
          have HG0 := Lib.hid (gives_value (k := 5) (l := ln) (s := s) (tA := tA) (tn := tt.length) (tc := tc) (uA := uA) (un := uu.length) (uc := uc) 0 0 rfl he2 hse (by omega) hl0)
          have hl1 : (fmtB D d' tt (ind.data.toList ++ [9])).length ≤ 1099511627776 := by simp at hfl; omega
          have HG1 := Lib.hid (gives_block (ind := ind ++ { data := #[9] }) Ih.out rfl htt2 hst hn3 (by rw [ByteArray.size_append]; show ind.size + 1 + d' ≤ 100; omega) (ind.data.toList ++ [9]) (by simp) hl1)
          clear hse hst hsu he2 htt2 huu2 hfl Hsn hT
          have hb0 := Hb.out.alloc hsz (.cells #[.int .i64 5, .int .i64 ln, .string s, .slice eA es.length ec, .slice tA tt.length tc, .slice uA uu.length uc] 84)
          have Hb0 := Lib.hid hb0
          have hb1 := (Below.refl _ wr).alloc (Nat.le_refl _) (.cells #[.int .i64 5, .int .i64 ln, .string s, .slice eA es.length ec, .slice tA tt.length tc, .slice uA uu.length uc] 84)
          have Hb1 := Lib.hid hb1
          clear hb0 hb1
          have f0 : (wr.alloc (.cells #[.int .i64 5, .int .i64 ln, .string s, .slice eA es.length ec, .slice tA tt.length tc, .slice uA uu.length uc] 84)).cell? ⟨wr.heap.size, 0, none⟩ = some (.int .i64 5) := by rw [cell_of_row _ _ _ _ _ _ (heap_alloc_new wr _)]; rfl
          have f1 : (wr.alloc (.cells #[.int .i64 5, .int .i64 ln, .string s, .slice eA es.length ec, .slice tA tt.length tc, .slice uA uu.length uc] 84)).cell? ⟨wr.heap.size, 1, none⟩ = some (.int .i64 ln) := by rw [cell_of_row _ _ _ _ _ _ (heap_alloc_new wr _)]; rfl
          have f2 : (wr.alloc (.cells #[.int .i64 5, .int .i64 ln, .string s, .slice eA es.length ec, .slice tA tt.length tc, .slice uA uu.length uc] 84)).cell? ⟨wr.heap.size, 2, none⟩ = some (.string s) := by rw [cell_of_row _ _ _ _ _ _ (heap_alloc_new wr _)]; rfl
          have f3 : (wr.alloc (.cells #[.int .i64 5, .int .i64 ln, .string s, .slice eA es.length ec, .slice tA tt.length tc, .slice uA uu.length uc] 84)).cell? ⟨wr.heap.size, 3, none⟩ = some (.slice eA es.length ec) := by rw [cell_of_row _ _ _ _ _ _ (heap_alloc_new wr _)]; rfl
          have f4 : (wr.alloc (.cells #[.int .i64 5, .int .i64 ln, .string s, .slice eA es.length ec, .slice tA tt.length tc, .slice uA uu.length uc] 84)).cell? ⟨wr.heap.size, 4, none⟩ = some (.slice tA tt.length tc) := by rw [cell_of_row _ _ _ _ _ _ (heap_alloc_new wr _)]; rfl
          have f5 : (wr.alloc (.cells #[.int .i64 5, .int .i64 ln, .string s, .slice eA es.length ec, .slice tA tt.length tc, .slice uA uu.length uc] 84)).cell? ⟨wr.heap.size, 5, none⟩ = some (.slice uA uu.length uc) := by rw [cell_of_row _ _ _ _ _ _ (heap_alloc_new wr _)]; rfl
          have HH0 := Lib.hid (HG0.out.next Hb1.out)
          have HH1 := Lib.hid (HG1.out.next Hb1.out)
          have hq0 := no_far (n := ind.size + 1) (m := 4398046511104) (by omega) (by omega)
          clear HG0 HG1
          go_wp2_with fail
          generalize wr.alloc (.cells #[.int .i64 5, .int .i64 ln, .string s, .slice eA es.length ec, .slice tA tt.length tc, .slice uA uu.length uc] 84) = W at *
          have hS0 : W.drew.cell? ⟨wr.heap.size, 0, none⟩ = some (.int .i64 5) ∧ W.drew.cell? ⟨wr.heap.size, 1, none⟩ = some (.int .i64 ln) ∧ W.drew.cell? ⟨wr.heap.size, 2, none⟩ = some (.string s) ∧ W.drew.cell? ⟨wr.heap.size, 3, none⟩ = some (.slice eA es.length ec) ∧ W.drew.cell? ⟨wr.heap.size, 4, none⟩ = some (.slice tA tt.length tc) ∧ W.drew.cell? ⟨wr.heap.size, 5, none⟩ = some (.slice uA uu.length uc) ∧ Below W.heap.size W W.drew := ⟨f0, f1, f2, f3, f4, f5, (Below.refl _ W).drew⟩
          go_region_held3 (fun w' => w'.cell? ⟨wr.heap.size, 0, none⟩ = some (.int .i64 5) ∧ w'.cell? ⟨wr.heap.size, 1, none⟩ = some (.int .i64 ln) ∧ w'.cell? ⟨wr.heap.size, 2, none⟩ = some (.string s) ∧ w'.cell? ⟨wr.heap.size, 3, none⟩ = some (.slice eA es.length ec) ∧ w'.cell? ⟨wr.heap.size, 4, none⟩ = some (.slice tA tt.length tc) ∧ w'.cell? ⟨wr.heap.size, 5, none⟩ = some (.slice uA uu.length uc) ∧ Below W.heap.size W w')
            (first | exact hS0 | (go_split_ands; exact ⟨hold hb (by assumption), hold hb (by assumption), hold hb (by assumption), hold hb (by assumption), hold hb (by assumption), hold hb (by assumption), below_next (by assumption) hb⟩))
            (first | (go_at_call 48; (with_reducible refine (HH0.out.at_ ?_).mono ?_); (go_split_ands; assumption); rintro e w' ⟨t0, rfl, ht0, hb⟩; have hz0 : t0.size ≤ 1099511627776 := (by rw [size_of ht0.out]; exact hl0); have hr00 := no_far (n := 6 + t0.size) (m := 8796093022208) (by omega) (by omega); have hr01 := no_far (n := 6 + t0.size + 3) (m := 8796093022208) (by omega) (by omega)) | (go_at_call 32; (with_reducible refine (HH1.out.at_ ?_).mono ?_); (go_split_ands; assumption); rintro e w' ⟨t1, rfl, ht1, hb⟩; have hz1 : t1.size ≤ 1099511627776 := (by rw [size_of ht1.out]; exact hl1); have hr10 := no_far (n := 6 + t0.size + 3 + t1.size) (m := 8796093022208) (by omega) (by omega); have hr11 := no_far (n := 6 + t0.size + 3 + t1.size + ind.size) (m := 8796093022208) (by omega) (by omega); have hr12 := no_far (n := 6 + t0.size + 3 + t1.size + ind.size + 1) (m := 8796093022208) (by omega) (by omega); have hr13 := no_far (n := t.size + ind.size + (6 + t0.size + 3 + t1.size + ind.size + 1)) (m := 8796093022208) (by omega) (by omega)))
          rename_i hH
          have hbel : Below W.heap.size W _ := hH.2.2.2.2.2.2
          have HB := Lib.hid (Hb0.out.trans (hbel.mono (Nat.le_trans hsz Hb1.out.size)))
          clear hH hS0 hbel hb f0 f1 f2 f3 f4 f5
          go_wp2_with fail
          exact ⟨⟨k + 1, _, by rw [← Hn.out]; omega, rfl, by go_num, by rw [Hsn2.out, ← Ht.out, ← ht0.out, ← ht1.out]; simp, HB.out⟩, by simp [intOf]; omega⟩
        · by_cases hu0 : uu.length = 0
          · have hT : stL D (fmtB D d') ind.data.toList (.mk 4 ln s es tt uu) = ind.data.toList ++ ([105, 102, 32] ++ valL D es 0 ++ [32, 123, 10] ++ fmtB D d' tt (ind.data.toList ++ [9]) ++ ind.data.toList ++ [125] ++ []) ++ [10] := by
              show ind.data.toList ++ ([105, 102, 32] ++ valL D es 0 ++ [32, 123, 10] ++ fmtB D d' tt (ind.data.toList ++ [9]) ++ ind.data.toList ++ [125] ++ (if uu.length = 0 then [] else [32, 101, 108, 115, 101, 32, 123, 10] ++ fmtB D d' uu (ind.data.toList ++ [9]) ++ ind.data.toList ++ [125])) ++ [10] = _
              rw [if_pos hu0]
            rw [hT] at hfl
            have Hsn2 := Hsn
            rw [hT] at Hsn2
            have Hi : ind.data.toList.length = ind.size := by simp
            have hl0 : (valL D es 0).length ≤ 1099511627776 := by simp at hfl; omega
            have HG0 := Lib.hid (gives_value (k := 4) (l := ln) (s := s) (tA := tA) (tn := tt.length) (tc := tc) (uA := uA) (un := uu.length) (uc := uc) 0 0 rfl he2 hse (by omega) hl0)
            have hl1 : (fmtB D d' tt (ind.data.toList ++ [9])).length ≤ 1099511627776 := by simp at hfl; omega
            have HG1 := Lib.hid (gives_block (ind := ind ++ { data := #[9] }) Ih.out rfl htt2 hst hn3 (by rw [ByteArray.size_append]; show ind.size + 1 + d' ≤ 100; omega) (ind.data.toList ++ [9]) (by simp) hl1)
            clear hse hst hsu he2 htt2 huu2 hfl Hsn hT
            rw [hu0] at HG0 d5
            have hb0 := Hb.out.alloc hsz (.cells #[.int .i64 4, .int .i64 ln, .string s, .slice eA es.length ec, .slice tA tt.length tc, .slice uA 0 uc] 84)
            have Hb0 := Lib.hid hb0
            have hb1 := (Below.refl _ wr).alloc (Nat.le_refl _) (.cells #[.int .i64 4, .int .i64 ln, .string s, .slice eA es.length ec, .slice tA tt.length tc, .slice uA 0 uc] 84)
            have Hb1 := Lib.hid hb1
            clear hb0 hb1
            have f0 : (wr.alloc (.cells #[.int .i64 4, .int .i64 ln, .string s, .slice eA es.length ec, .slice tA tt.length tc, .slice uA 0 uc] 84)).cell? ⟨wr.heap.size, 0, none⟩ = some (.int .i64 4) := by rw [cell_of_row _ _ _ _ _ _ (heap_alloc_new wr _)]; rfl
            have f1 : (wr.alloc (.cells #[.int .i64 4, .int .i64 ln, .string s, .slice eA es.length ec, .slice tA tt.length tc, .slice uA 0 uc] 84)).cell? ⟨wr.heap.size, 1, none⟩ = some (.int .i64 ln) := by rw [cell_of_row _ _ _ _ _ _ (heap_alloc_new wr _)]; rfl
            have f2 : (wr.alloc (.cells #[.int .i64 4, .int .i64 ln, .string s, .slice eA es.length ec, .slice tA tt.length tc, .slice uA 0 uc] 84)).cell? ⟨wr.heap.size, 2, none⟩ = some (.string s) := by rw [cell_of_row _ _ _ _ _ _ (heap_alloc_new wr _)]; rfl
            have f3 : (wr.alloc (.cells #[.int .i64 4, .int .i64 ln, .string s, .slice eA es.length ec, .slice tA tt.length tc, .slice uA 0 uc] 84)).cell? ⟨wr.heap.size, 3, none⟩ = some (.slice eA es.length ec) := by rw [cell_of_row _ _ _ _ _ _ (heap_alloc_new wr _)]; rfl
            have f4 : (wr.alloc (.cells #[.int .i64 4, .int .i64 ln, .string s, .slice eA es.length ec, .slice tA tt.length tc, .slice uA 0 uc] 84)).cell? ⟨wr.heap.size, 4, none⟩ = some (.slice tA tt.length tc) := by rw [cell_of_row _ _ _ _ _ _ (heap_alloc_new wr _)]; rfl
            have f5 : (wr.alloc (.cells #[.int .i64 4, .int .i64 ln, .string s, .slice eA es.length ec, .slice tA tt.length tc, .slice uA 0 uc] 84)).cell? ⟨wr.heap.size, 5, none⟩ = some (.slice uA 0 uc) := by rw [cell_of_row _ _ _ _ _ _ (heap_alloc_new wr _)]; rfl
            have HH0 := Lib.hid (HG0.out.next Hb1.out)
            have HH1 := Lib.hid (HG1.out.next Hb1.out)
            have hq0 := no_far (n := ind.size + 1) (m := 4398046511104) (by omega) (by omega)
            clear HG0 HG1 hu0
            go_wp2_with fail
            generalize wr.alloc (.cells #[.int .i64 4, .int .i64 ln, .string s, .slice eA es.length ec, .slice tA tt.length tc, .slice uA 0 uc] 84) = W at *
            have hS0 : W.drew.cell? ⟨wr.heap.size, 0, none⟩ = some (.int .i64 4) ∧ W.drew.cell? ⟨wr.heap.size, 1, none⟩ = some (.int .i64 ln) ∧ W.drew.cell? ⟨wr.heap.size, 2, none⟩ = some (.string s) ∧ W.drew.cell? ⟨wr.heap.size, 3, none⟩ = some (.slice eA es.length ec) ∧ W.drew.cell? ⟨wr.heap.size, 4, none⟩ = some (.slice tA tt.length tc) ∧ W.drew.cell? ⟨wr.heap.size, 5, none⟩ = some (.slice uA 0 uc) ∧ Below W.heap.size W W.drew := ⟨f0, f1, f2, f3, f4, f5, (Below.refl _ W).drew⟩
            go_region_held3 (fun w' => w'.cell? ⟨wr.heap.size, 0, none⟩ = some (.int .i64 4) ∧ w'.cell? ⟨wr.heap.size, 1, none⟩ = some (.int .i64 ln) ∧ w'.cell? ⟨wr.heap.size, 2, none⟩ = some (.string s) ∧ w'.cell? ⟨wr.heap.size, 3, none⟩ = some (.slice eA es.length ec) ∧ w'.cell? ⟨wr.heap.size, 4, none⟩ = some (.slice tA tt.length tc) ∧ w'.cell? ⟨wr.heap.size, 5, none⟩ = some (.slice uA 0 uc) ∧ Below W.heap.size W w')
              (first | exact hS0 | (go_split_ands; exact ⟨hold hb (by assumption), hold hb (by assumption), hold hb (by assumption), hold hb (by assumption), hold hb (by assumption), hold hb (by assumption), below_next (by assumption) hb⟩))
              (first | (go_at_call 48; (with_reducible refine (HH0.out.at_ ?_).mono ?_); (go_split_ands; assumption); rintro e w' ⟨t0, rfl, ht0, hb⟩; have hz0 : t0.size ≤ 1099511627776 := (by rw [size_of ht0.out]; exact hl0); have hr00 := no_far (n := 3 + t0.size) (m := 8796093022208) (by omega) (by omega); have hr01 := no_far (n := 3 + t0.size + 3) (m := 8796093022208) (by omega) (by omega)) | (go_at_call 32; (with_reducible refine (HH1.out.at_ ?_).mono ?_); (go_split_ands; assumption); rintro e w' ⟨t1, rfl, ht1, hb⟩; have hz1 : t1.size ≤ 1099511627776 := (by rw [size_of ht1.out]; exact hl1); have hr10 := no_far (n := 3 + t0.size + 3 + t1.size) (m := 8796093022208) (by omega) (by omega); have hr11 := no_far (n := 3 + t0.size + 3 + t1.size + ind.size) (m := 8796093022208) (by omega) (by omega); have hr12 := no_far (n := 3 + t0.size + 3 + t1.size + ind.size + 1) (m := 8796093022208) (by omega) (by omega); have hr13 := no_far (n := t.size + ind.size + (3 + t0.size + 3 + t1.size + ind.size + 1)) (m := 8796093022208) (by omega) (by omega)))
            rename_i hH
            obtain ⟨_, _, _, _, _, g5, hbel⟩ := hH
            have HB := Lib.hid (Hb0.out.trans (hbel.mono (Nat.le_trans hsz Hb1.out.size)))
            clear hS0 hbel hb f0 f1 f2 f3 f4 f5
            go_wp2_with fail
            exact ⟨⟨k + 1, _, by rw [← Hn.out]; omega, rfl, by go_num, by rw [Hsn2.out, ← Ht.out, ← ht0.out, ← ht1.out]; simp, HB.out⟩, by simp [intOf]; omega⟩
          · have hT : stL D (fmtB D d') ind.data.toList (.mk 4 ln s es tt uu) = ind.data.toList ++ ([105, 102, 32] ++ valL D es 0 ++ [32, 123, 10] ++ fmtB D d' tt (ind.data.toList ++ [9]) ++ ind.data.toList ++ [125] ++ ([32, 101, 108, 115, 101, 32, 123, 10] ++ fmtB D d' uu (ind.data.toList ++ [9]) ++ ind.data.toList ++ [125])) ++ [10] := by
              show ind.data.toList ++ ([105, 102, 32] ++ valL D es 0 ++ [32, 123, 10] ++ fmtB D d' tt (ind.data.toList ++ [9]) ++ ind.data.toList ++ [125] ++ (if uu.length = 0 then [] else [32, 101, 108, 115, 101, 32, 123, 10] ++ fmtB D d' uu (ind.data.toList ++ [9]) ++ ind.data.toList ++ [125])) ++ [10] = _
              rw [if_neg hu0]
            rw [hT] at hfl
            have Hsn2 := Hsn
            rw [hT] at Hsn2
            have Hi : ind.data.toList.length = ind.size := by simp
            have hl0 : (valL D es 0).length ≤ 1099511627776 := by simp at hfl; omega
            have HG0 := Lib.hid (gives_value (k := 4) (l := ln) (s := s) (tA := tA) (tn := tt.length) (tc := tc) (uA := uA) (un := uu.length) (uc := uc) 0 0 rfl he2 hse (by omega) hl0)
            have hl1 : (fmtB D d' tt (ind.data.toList ++ [9])).length ≤ 1099511627776 := by simp at hfl; omega
            have HG1 := Lib.hid (gives_block (ind := ind ++ { data := #[9] }) Ih.out rfl htt2 hst hn3 (by rw [ByteArray.size_append]; show ind.size + 1 + d' ≤ 100; omega) (ind.data.toList ++ [9]) (by simp) hl1)
            have hl2 : (fmtB D d' uu (ind.data.toList ++ [9])).length ≤ 1099511627776 := by simp at hfl; omega
            have HG2 := Lib.hid (gives_block (ind := ind ++ { data := #[9] }) Ih.out rfl huu2 hsu hn4 (by rw [ByteArray.size_append]; show ind.size + 1 + d' ≤ 100; omega) (ind.data.toList ++ [9]) (by simp) hl2)
            have hup : 0 < uu.length := by omega
            clear hse hst hsu he2 htt2 huu2 hfl Hsn hT
            have hb0 := Hb.out.alloc hsz (.cells #[.int .i64 4, .int .i64 ln, .string s, .slice eA es.length ec, .slice tA tt.length tc, .slice uA uu.length uc] 84)
            have Hb0 := Lib.hid hb0
            have hb1 := (Below.refl _ wr).alloc (Nat.le_refl _) (.cells #[.int .i64 4, .int .i64 ln, .string s, .slice eA es.length ec, .slice tA tt.length tc, .slice uA uu.length uc] 84)
            have Hb1 := Lib.hid hb1
            clear hb0 hb1
            have f0 : (wr.alloc (.cells #[.int .i64 4, .int .i64 ln, .string s, .slice eA es.length ec, .slice tA tt.length tc, .slice uA uu.length uc] 84)).cell? ⟨wr.heap.size, 0, none⟩ = some (.int .i64 4) := by rw [cell_of_row _ _ _ _ _ _ (heap_alloc_new wr _)]; rfl
            have f1 : (wr.alloc (.cells #[.int .i64 4, .int .i64 ln, .string s, .slice eA es.length ec, .slice tA tt.length tc, .slice uA uu.length uc] 84)).cell? ⟨wr.heap.size, 1, none⟩ = some (.int .i64 ln) := by rw [cell_of_row _ _ _ _ _ _ (heap_alloc_new wr _)]; rfl
            have f2 : (wr.alloc (.cells #[.int .i64 4, .int .i64 ln, .string s, .slice eA es.length ec, .slice tA tt.length tc, .slice uA uu.length uc] 84)).cell? ⟨wr.heap.size, 2, none⟩ = some (.string s) := by rw [cell_of_row _ _ _ _ _ _ (heap_alloc_new wr _)]; rfl
            have f3 : (wr.alloc (.cells #[.int .i64 4, .int .i64 ln, .string s, .slice eA es.length ec, .slice tA tt.length tc, .slice uA uu.length uc] 84)).cell? ⟨wr.heap.size, 3, none⟩ = some (.slice eA es.length ec) := by rw [cell_of_row _ _ _ _ _ _ (heap_alloc_new wr _)]; rfl
            have f4 : (wr.alloc (.cells #[.int .i64 4, .int .i64 ln, .string s, .slice eA es.length ec, .slice tA tt.length tc, .slice uA uu.length uc] 84)).cell? ⟨wr.heap.size, 4, none⟩ = some (.slice tA tt.length tc) := by rw [cell_of_row _ _ _ _ _ _ (heap_alloc_new wr _)]; rfl
            have f5 : (wr.alloc (.cells #[.int .i64 4, .int .i64 ln, .string s, .slice eA es.length ec, .slice tA tt.length tc, .slice uA uu.length uc] 84)).cell? ⟨wr.heap.size, 5, none⟩ = some (.slice uA uu.length uc) := by rw [cell_of_row _ _ _ _ _ _ (heap_alloc_new wr _)]; rfl
            have HH0 := Lib.hid (HG0.out.next Hb1.out)
            have HH1 := Lib.hid (HG1.out.next Hb1.out)
            have HH2 := Lib.hid (HG2.out.next Hb1.out)
            have hq0 := no_far (n := ind.size + 1) (m := 4398046511104) (by omega) (by omega)
            clear HG0 HG1 HG2 hu0
            go_wp2_with fail
            generalize wr.alloc (.cells #[.int .i64 4, .int .i64 ln, .string s, .slice eA es.length ec, .slice tA tt.length tc, .slice uA uu.length uc] 84) = W at *
            have hS0 : W.drew.cell? ⟨wr.heap.size, 0, none⟩ = some (.int .i64 4) ∧ W.drew.cell? ⟨wr.heap.size, 1, none⟩ = some (.int .i64 ln) ∧ W.drew.cell? ⟨wr.heap.size, 2, none⟩ = some (.string s) ∧ W.drew.cell? ⟨wr.heap.size, 3, none⟩ = some (.slice eA es.length ec) ∧ W.drew.cell? ⟨wr.heap.size, 4, none⟩ = some (.slice tA tt.length tc) ∧ W.drew.cell? ⟨wr.heap.size, 5, none⟩ = some (.slice uA uu.length uc) ∧ Below W.heap.size W W.drew := ⟨f0, f1, f2, f3, f4, f5, (Below.refl _ W).drew⟩
            go_region_held3 (fun w' => w'.cell? ⟨wr.heap.size, 0, none⟩ = some (.int .i64 4) ∧ w'.cell? ⟨wr.heap.size, 1, none⟩ = some (.int .i64 ln) ∧ w'.cell? ⟨wr.heap.size, 2, none⟩ = some (.string s) ∧ w'.cell? ⟨wr.heap.size, 3, none⟩ = some (.slice eA es.length ec) ∧ w'.cell? ⟨wr.heap.size, 4, none⟩ = some (.slice tA tt.length tc) ∧ w'.cell? ⟨wr.heap.size, 5, none⟩ = some (.slice uA uu.length uc) ∧ Below W.heap.size W w')
              (first | exact hS0 | (go_split_ands; exact ⟨hold hb (by assumption), hold hb (by assumption), hold hb (by assumption), hold hb (by assumption), hold hb (by assumption), hold hb (by assumption), below_next (by assumption) hb⟩))
              (first | (go_at_call 48; (with_reducible refine (HH0.out.at_ ?_).mono ?_); (go_split_ands; assumption); rintro e w' ⟨t0, rfl, ht0, hb⟩; have hz0 : t0.size ≤ 1099511627776 := (by rw [size_of ht0.out]; exact hl0); have hr00 := no_far (n := 3 + t0.size) (m := 8796093022208) (by omega) (by omega); have hr01 := no_far (n := 3 + t0.size + 3) (m := 8796093022208) (by omega) (by omega)) | (go_at_call 32; (with_reducible refine (HH1.out.at_ ?_).mono ?_); (go_split_ands; assumption); rintro e w' ⟨t1, rfl, ht1, hb⟩; have hz1 : t1.size ≤ 1099511627776 := (by rw [size_of ht1.out]; exact hl1); have hr10 := no_far (n := 3 + t0.size + 3 + t1.size) (m := 8796093022208) (by omega) (by omega); have hr11 := no_far (n := 3 + t0.size + 3 + t1.size + ind.size) (m := 8796093022208) (by omega) (by omega); have hr12 := no_far (n := 3 + t0.size + 3 + t1.size + ind.size + 1) (m := 8796093022208) (by omega) (by omega); have hr13 := no_far (n := t.size + ind.size + (3 + t0.size + 3 + t1.size + ind.size + 1)) (m := 8796093022208) (by omega) (by omega)))
            rename_i hH
            obtain ⟨_, _, _, _, _, g5, hbel⟩ := hH
            have HB := Lib.hid (Hb0.out.trans (hbel.mono (Nat.le_trans hsz Hb1.out.size)))
            have HBW := Lib.hid hbel
            have hszW := Hb1.out.size
            clear hS0 hbel hb f0 f1 f2 f3 f4 f5
            go_wp2_with fail
            refine (HH2.out.at_ HBW.out).mono ?_
            rintro e w5 ⟨t2, rfl, ht2, hb5⟩
            have hz2 : t2.size ≤ 1099511627776 := by rw [size_of ht2.out]; exact hl2
            have HB2 := Lib.hid (HB.out.trans (hb5.mono HB.out.size))
            clear hb5 HB
            go_wp2_with fail
            exact ⟨⟨k + 1, _, by rw [← Hn.out]; omega, rfl, by go_num, by rw [Hsn2.out, ← Ht.out, ← ht0.out, ← ht1.out, ← ht2.out]; simp, HB2.out⟩, by simp [intOf]; omega⟩
      · obtain rfl : k = n := by omega
        have HtE : Hid (t.data.toList = ts.flatMap (stL D (fmtB D d') ind.data.toList)) := Lib.hid (by rw [Ht.out, List.take_of_length_le (by rw [← Hn.out]; exact Nat.le_refl _)])
        clear Ht
        go_wp2_with fail
        go_ret
        exact retStr (by rw [hLL.out]; exact HtE.out) Hb.out
theorem block_5 (D : Nat) : ∀ d, BlockC D d
  | 0 => block_step D 0 (fun _ h => by cases h)
  | d + 1 => block_step D (d + 1) (fun _ h => by injection h with h; subst h; exact block_5 D d)
end Go.Proofs.YtifabkoomojklaaGreatDoor
