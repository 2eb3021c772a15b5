/-
  The reference's resolver: names, scopes, expressions and statements without names; Nesting, vars. Conditions: a million at most; what is read lies below.
-/
import Derived.Test.YtjmbllbnlnjanaaRpSrcA
import Derived.Test.YtjmbllbnlnjanaaRTokA
import Derived.Test.YtjmbllbnlnjanaaRpCall
import Derived.Deep.QuietTactic
import Derived.BigQuiet
import Derived.RegionTactic
import Derived.Deep.RegionLaw
import Derived.Laws.Cover1
namespace Go.Proofs.Ytjmbllbnlnjanaa
open Go.RowKit

/-- The first place of a name. -/
def idxOf (l : List ByteArray) (s : ByteArray) : Option Nat := l.findIdx? fun x => x.data.toList == s.data.toList
def intO : Option Nat → Int | some i => (i : Int) | none => -1
theorem idx_yes {l : List ByteArray} {s : ByteArray} {k : Nat} (h : l[k]? = some s) (hl : ∀ j, j < k → l[j]? ≠ some s) : idxOf l s = some k := by
  have hk : k < l.length := by
    rcases Nat.lt_or_ge k l.length with h' | h'
    · exact h'
    · rw [List.getElem?_eq_none h'] at h; cases h
  unfold idxOf
  rw [List.findIdx?_eq_some_iff_getElem]
  refine ⟨hk, ?_, fun j hj => ?_⟩
  · have : l[k] = s := by rw [List.getElem?_eq_getElem hk] at h; injection h
    rw [this]; simp
  · have hj' : j < l.length := by omega
    intro e
    have e1 : l[j].data.toList = s.data.toList := by simpa using e
    exact hl j hj (by rw [List.getElem?_eq_getElem hj', bytes_ext e1])
theorem idx_no {l : List ByteArray} {s : ByteArray} (hl : ∀ j, j < l.length → l[j]? ≠ some s) : idxOf l s = none := by
  unfold idxOf
  rw [List.findIdx?_eq_none_iff]
  intro x hx
  obtain ⟨j, hj, rfl⟩ := List.getElem_of_mem hx
  rw [beq_eq_false_iff_ne]
  intro e
  exact hl j hj (by rw [List.getElem?_eq_getElem hj, bytes_ext e])
theorem idx_at {l : List ByteArray} {s : ByteArray} {k : Nat} (h : idxOf l s = some k) : l[k]? = some s := by
  unfold idxOf at h
  rw [List.findIdx?_eq_some_iff_getElem] at h
  obtain ⟨hk, e, _⟩ := h
  have e1 : l[k].data.toList = s.data.toList := by simpa using e
  rw [List.getElem?_eq_getElem hk, bytes_ext e1]
theorem row_strs {F : Nat → Prop} {w : World} {xs : List ByteArray} {A : Option Addr} {c k : Nat} {x : ByteArray} (h : RowG 1 MStr F w xs A c) (hk : xs[k]? = some x) : ∃ g, A = some ⟨g, 0, none⟩ ∧ F g ∧ w.cell? ⟨g, k, none⟩ = some (.string x) := by
  obtain ⟨g, cs, hA, hF, _, hc, rfl⟩ := h.2 k x hk
  exact ⟨g, hA, hF, by simpa using hc 0 _ rfl⟩
theorem row_gls {F : Nat → Prop} {w : World} {xs : List (ByteArray × Int)} {A : Option Addr} {c k : Nat} {x : ByteArray × Int} (h : RowG 2 MGl F w xs A c) (hk : xs[k]? = some x) : ∃ g, A = some ⟨g, 0, none⟩ ∧ F g ∧ w.cell? ⟨g, k * 2, none⟩ = some (.string x.1) ∧ w.cell? ⟨g, k * 2 + 1, none⟩ = some (.int .i64 x.2) := by
  obtain ⟨g, cs, hA, hF, _, hc, rfl⟩ := h.2 k x hk
  exact ⟨g, hA, hF, by simpa using hc 0 _ rfl, hc 1 _ rfl⟩
theorem row_fns {D d : Nat} {F : Nat → Prop} {w : World} {xs : List Fn} {A : Option Addr} {c k : Nat} {x : Fn} (h : RowG 4 (MFn D d) F w xs A c) (hk : xs[k]? = some x) : ∃ g pA pc bA bc, A = some ⟨g, 0, none⟩ ∧ F g ∧ w.cell? ⟨g, k * 4, none⟩ = some (.string x.name) ∧ w.cell? ⟨g, k * 4 + 1, none⟩ = some (.int .i64 x.line) ∧ w.cell? ⟨g, k * 4 + 2, none⟩ = some (.slice pA x.params.length pc) ∧ w.cell? ⟨g, k * 4 + 3, none⟩ = some (.slice bA x.body.length bc) ∧ RowG 1 MStr F w x.params pA pc ∧ RowS F w D d x.body bA bc := by
  obtain ⟨g, cs, hA, hF, _, hc, pA, m, pc, bA, bm, bc, rfl, rfl, rfl, hp, hb⟩ := h.2 k x hk
  exact ⟨g, pA, pc, bA, bc, hA, hF, by simpa using hc 0 _ rfl, hc 1 _ rfl, hc 2 _ rfl, hc 3 _ rfl, hp, hb⟩
theorem str_ne {x s : ByteArray} (he : x ≠ s) : (x.toList == s.toList) = false := by
  rw [beq_eq_false_iff_ne]
  intro e
  rw [Lib.toList_data, Lib.toList_data] at e
  exact he (bytes_ext e)
theorem none_step {l : List ByteArray} {s x : ByteArray} {k : Nat} (H : ∀ j, j < k → l[j]? ≠ some s) (hx : l[k]? = some x) (he : x ≠ s) : ∀ j, j < k + 1 → l[j]? ≠ some s := fun j hj => by
  rcases Nat.lt_or_ge j k with h | h
  · exact H j h
  · obtain rfl : j = k := by omega
    rw [hx]
    intro e
    injection e with e
    exact he e
set_option maxRecDepth 10000 in
set_option maxHeartbeats 1000000 in
theorem has_6 {F : Nat → Prop} (s : ByteArray) (xs : List ByteArray) (A : Option Addr) (n c : Nat) (w : World) (hn : xs.length = n) (hr : RowG 1 MStr F w xs A c) (hn2 : n ≤ 1000000) :
    Calls Try.prog 31 #[.slice A n c, .string s] w (RetB (hasB xs s) w) := by
  have Hr := Lib.hid hr
  have Hn := Lib.hid hn
  have hc : n ≤ c := by rw [← hn]; exact hr.1
  clear hr hn
  go_enter Try.func31, Try.ntmps31
  go_wp2_with fail
  go_loop [5] (fun i => ∃ k : Nat, k ≤ n ∧ i = .int .i64 (k : Int) ∧ Hid (∀ j, j < k → xs[j]? ≠ some s)) (fun i => n - (intOf i).toNat)
  case atStart => exact ⟨0, Nat.zero_le _, rfl, Lib.hid (fun j hj => by omega)⟩
  case round =>
    obtain ⟨k, hk, rfl, H⟩ := hrel
    by_cases hlt : k < n
    · obtain ⟨x, hx⟩ : ∃ x, xs[k]? = some x := ⟨xs[k]'(by rw [Hn.out]; exact hlt), List.getElem?_eq_getElem _⟩
      obtain ⟨g, rfl, _, d0⟩ := row_strs Hr.out hx
      have Hx := Lib.hid hx
      clear hx
      by_cases he : x = s
      · subst he
        have HP : Hid (hasB xs x = true) := Lib.hid (hasB_yes Hx.out)
        clear H Hx
        go_wp2_with fail
        go_ret
        exact retB HP.out.symm
      · have H2 := Lib.hid (none_step H.out Hx.out he)
        have he2 := str_ne he
        clear H Hx
        go_wp2_with fail
        exact ⟨⟨k + 1, by omega, by go_num, H2⟩, by simp [intOf]; omega⟩
    · have HP : Hid (hasB xs s = false) := Lib.hid (hasB_no (fun j hj => H.out j (by have := Hn.out; omega)))
      clear H
      go_wp2_with fail
      go_ret
      exact retB HP.out.symm
/-- A number is handed back; memory has grown at most. -/
def IntG (z : Int) (w : World) (e : Ending) (w' : World) : Prop := e = .returned (.int .i64 z) ∧ Below w.heap.size w w'
set_option maxRecDepth 10000 in
set_option maxHeartbeats 1000000 in
theorem global_6 {F : Nat → Prop} (s : ByteArray) (gl : List (ByteArray × Int)) (A : Option Addr) (n c : Nat) (fv : Value) (w : World) (hn : gl.length = n) (hr : RowG 2 MGl F w gl A c) (hF : ∀ b, F b → b < w.heap.size) (hn2 : n ≤ 1000000) (fA : Option Addr) (fm fc : Nat) (hfv : fv = .slice fA fm fc) :
    Calls Try.prog 27 #[.agg #[.slice A n c, fv], .string s] w (IntG (intO (idxOf (gl.map (·.1)) s)) w) := by
  subst hfv
  have hb1 := (Below.refl _ w).alloc (Nat.le_refl _) (.cells #[.slice A n c, .slice fA fm fc] 40)
  have hr1 : RowG 2 MGl F (w.alloc (.cells #[.slice A n c, .slice fA fm fc] 40)) gl A c := hr.keep mgl_keeps (fun _ h => h) (fun b hb => hb1.block _ (hF b hb))
  have Hr := Lib.hid hr1
  have HB := Lib.hid hb1
  have Hn := Lib.hid hn
  have hc : n ≤ c := by rw [← hn]; exact hr.1
  clear hr hn hr1 hb1
  go_enter Try.func27, Try.ntmps27
  go_wp2_with fail
  go_loop [5] (fun i => ∃ k : Nat, k ≤ n ∧ i = .int .i64 (k : Int) ∧ Hid (∀ j, j < k → (gl.map (·.1))[j]? ≠ some s)) (fun i => n - (intOf i).toNat)
  case atStart => exact ⟨0, Nat.zero_le _, rfl, Lib.hid (fun j hj => by omega)⟩
  case round =>
    obtain ⟨k, hk, rfl, H⟩ := hrel
    by_cases hlt : k < n
    · obtain ⟨x, hx⟩ : ∃ x, gl[k]? = some x := ⟨gl[k]'(by rw [Hn.out]; exact hlt), List.getElem?_eq_getElem _⟩
      obtain ⟨g, rfl, _, d0, _⟩ := row_gls Hr.out hx
      obtain ⟨x, z⟩ := x
      have Hx : Hid ((gl.map (·.1))[k]? = some x) := Lib.hid (by simp [hx])
      clear hx
      dsimp only at d0
      by_cases he : x = s
      · subst he
        have HP : Hid (intO (idxOf (gl.map (·.1)) x) = (k : Int)) := Lib.hid (by rw [idx_yes Hx.out H.out]; rfl)
        clear H Hx
        go_wp2_with fail
        go_ret
        exact ⟨by rw [HP.out]; rfl, HB.out⟩
      · have H2 := Lib.hid (none_step H.out Hx.out he)
        have he2 := str_ne he
        clear H Hx
        go_wp2_with fail
        exact ⟨⟨k + 1, by omega, by go_num, H2⟩, by simp [intOf]; omega⟩
    · have HP : Hid (intO (idxOf (gl.map (·.1)) s) = -1) := Lib.hid (by rw [idx_no (fun j hj => H.out j (by have := Hn.out; simp at hj; omega))]; rfl)
      clear H
      go_wp2_with fail
      go_ret
      exact ⟨by rw [HP.out]; rfl, HB.out⟩
set_option maxRecDepth 10000 in
set_option maxHeartbeats 1000000 in
theorem func_6 {F : Nat → Prop} {D d : Nat} (s : ByteArray) (fl : List Fn) (A : Option Addr) (n c : Nat) (gv : Value) (w : World) (hn : fl.length = n) (hr : RowG 4 (MFn D d) F w fl A c) (hF : ∀ b, F b → b < w.heap.size) (hn2 : n ≤ 1000000) (gA : Option Addr) (gm gc : Nat) (hgv : gv = .slice gA gm gc) :
    Calls Try.prog 28 #[.agg #[gv, .slice A n c], .string s] w (IntG (intO (idxOf (fl.map (·.name)) s)) w) := by
  subst hgv
  have hb1 := (Below.refl _ w).alloc (Nat.le_refl _) (.cells #[.slice gA gm gc, .slice A n c] 40)
  have hr1 : RowG 4 (MFn D d) F (w.alloc (.cells #[.slice gA gm gc, .slice A n c] 40)) fl A c := hr.keep (mfn_keeps D d) (fun _ h => h) (fun b hb => hb1.block _ (hF b hb))
  have Hr := Lib.hid hr1
  have HB := Lib.hid hb1
  have Hn := Lib.hid hn
  have hc : n ≤ c := by rw [← hn]; exact hr.1
  clear hr hn hr1 hb1
  go_enter Try.func28, Try.ntmps28
  go_wp2_with fail
  go_loop [5] (fun i => ∃ k : Nat, k ≤ n ∧ i = .int .i64 (k : Int) ∧ Hid (∀ j, j < k → (fl.map (·.name))[j]? ≠ some s)) (fun i => n - (intOf i).toNat)
  case atStart => exact ⟨0, Nat.zero_le _, rfl, Lib.hid (fun j hj => by omega)⟩
  case round =>
    obtain ⟨k, hk, rfl, H⟩ := hrel
    by_cases hlt : k < n
    · obtain ⟨x, hx⟩ : ∃ x, fl[k]? = some x := ⟨fl[k]'(by rw [Hn.out]; exact hlt), List.getElem?_eq_getElem _⟩
      obtain ⟨g, _, _, _, _, rfl, _, d0, _⟩ := row_fns Hr.out hx
      have Hx : Hid ((fl.map (·.name))[k]? = some x.name) := Lib.hid (by simp [hx])
      clear hx
      generalize x.name = y at d0 Hx
      by_cases he : y = s
      · subst he
        have HP : Hid (intO (idxOf (fl.map (·.name)) y) = (k : Int)) := Lib.hid (by rw [idx_yes Hx.out H.out]; rfl)
        clear H Hx
        go_wp2_with fail
        go_ret
        exact ⟨by rw [HP.out]; rfl, HB.out⟩
      · have H2 := Lib.hid (none_step H.out Hx.out he)
        have he2 := str_ne he
        clear H Hx
        go_wp2_with fail
        exact ⟨⟨k + 1, by omega, by go_num, H2⟩, by simp [intOf]; omega⟩
    · have HP : Hid (intO (idxOf (fl.map (·.name)) s) = -1) := Lib.hid (by rw [idx_no (fun j hj => H.out j (by have := Hn.out; simp at hj; omega))]; rfl)
      clear H
      go_wp2_with fail
      go_ret
      exact ⟨by rw [HP.out]; rfl, HB.out⟩
end Go.Proofs.Ytjmbllbnlnjanaa
namespace Go.Proofs.Ytjmbllbnlnjanaa
open Go.RowKit

abbrev GlL := List (ByteArray × Int)
/-- A source in memory. -/
structure SrcG (F : Nat → Prop) (w : World) (D d : Nat) (gl : GlL) (fl : List Fn) (gA : Option Addr) (gc : Nat) (fA : Option Addr) (fc : Nat) : Prop where
  gs : RowG 2 MGl F w gl gA gc
  fs : RowG 4 (MFn D d) F w fl fA fc
  gn : gl.length ≤ 1000000
  fn : fl.length ≤ 1000000
theorem SrcG.keep {F G : Nat → Prop} {w w' : World} {D d : Nat} {gl : GlL} {fl : List Fn} {gA : Option Addr} {gc : Nat} {fA : Option Addr} {fc : Nat} (hFG : ∀ b, F b → G b) (hk : ∀ b, F b → w'.heap[b]? = w.heap[b]?) (h : SrcG F w D d gl fl gA gc fA fc) : SrcG G w' D d gl fl gA gc fA fc :=
  ⟨h.gs.keep mgl_keeps hFG hk, h.fs.keep (mfn_keeps D d) hFG hk, h.gn, h.fn⟩
/-- What a name is outside a function: 2 a global, 3 an array, 4 a function, 0 nothing. -/
def outerP (gl : GlL) (fl : List Fn) (s : ByteArray) : Int :=
  match idxOf (gl.map (·.1)) s with
  | some k => if 0 < ((gl[k]?).map (·.2)).getD 0 then 3 else 2
  | none => match idxOf (fl.map (·.name)) s with | some _ => 4 | none => 0
set_option maxRecDepth 10000 in
set_option maxHeartbeats 1000000 in
theorem outer_6 {F : Nat → Prop} {D d : Nat} (s : ByteArray) (gl : GlL) (fl : List Fn) (gA : Option Addr) (n gc : Nat) (fA : Option Addr) (m fc : Nat) (w : World) (hn : gl.length = n) (hm : fl.length = m) (h : SrcG F w D d gl fl gA gc fA fc) (hF : ∀ b, F b → b < w.heap.size) :
    Calls Try.prog 32 #[.agg #[.slice gA n gc, .slice fA m fc], .string s] w (IntG (outerP gl fl s) w) := by
  have hb1 := (Below.refl _ w).alloc (Nat.le_refl _) (.cells #[.slice gA n gc, .slice fA m fc] 40)
  have hrow1 := heap_alloc_new w (.cells #[.slice gA n gc, .slice fA m fc] 40)
  have h1 : SrcG F (w.alloc (.cells #[.slice gA n gc, .slice fA m fc] 40)) D d gl fl gA gc fA fc := h.keep (fun _ h => h) (fun b hb => hb1.block _ (hF b hb))
  have hF1 : ∀ b, F b → b < (w.alloc (.cells #[.slice gA n gc, .slice fA m fc] 40)).heap.size := fun b hb => Nat.lt_of_lt_of_le (hF b hb) hb1.size
  have HG := Lib.hid (global_6 s gl gA n gc _ _ hn h1.gs hF1 (by rw [← hn]; exact h1.gn) fA m fc rfl)
  have HFn := Lib.hid (fun (w1 : World) (hb : Below (w.alloc (.cells #[.slice gA n gc, .slice fA m fc] 40)).heap.size (w.alloc (.cells #[.slice gA n gc, .slice fA m fc] 40)) w1) => func_6 s fl fA m fc _ w1 hm (h1.keep (fun _ h => h) (fun b hb' => hb.block _ (hF1 b hb'))).fs (fun b hb' => Nat.lt_of_lt_of_le (hF1 b hb') hb.size) (by rw [← hm]; exact h1.fn) gA n gc rfl)
  have H1 := Lib.hid h1
  have HF1 := Lib.hid hF1
  have HB1 := Lib.hid hb1
  have HR1 := Lib.hid hrow1
  have hnc : n ≤ gc := by rw [← hn]; exact h.gs.1
  have hn2 : n ≤ 1000000 := by rw [← hn]; exact h.gn
  have Hn := Lib.hid hn
  have hlt1 : w.heap.size < (w.alloc (.cells #[.slice gA n gc, .slice fA m fc] 40)).heap.size := by simp
  clear h1 hF1 hb1 hrow1 h hF hn hm
  cases hi : idxOf (gl.map (·.1)) s with
  | some k =>
    obtain ⟨x, hx⟩ : ∃ x, gl[k]? = some x := by
      have := idx_at hi
      rw [List.getElem?_map] at this
      cases hg : gl[k]? with
      | none => rw [hg] at this; cases this
      | some x => exact ⟨x, rfl⟩
    have hkn : k < n := by
      rw [← Hn.out]
      rcases Nat.lt_or_ge k gl.length with h' | h'
      · exact h'
      · rw [List.getElem?_eq_none h'] at hx; cases hx
    obtain ⟨y, z⟩ := x
    have HO : Hid (outerP gl fl s = if 0 < z then 3 else 2) := Lib.hid (by unfold outerP; rw [hi]; simp [hx])
    have HX := Lib.hid hx
    rw [hi] at HG
    have HG : Hid (Calls Try.prog 27 #[.agg #[.slice gA n gc, .slice fA m fc], .string s] _ (IntG (k : Int) _)) := HG
    clear hi hx HFn
    go_enter Try.func32, Try.ntmps32
    go_wp2_with fail
    refine HG.out.mono ?_
    rintro e w1 ⟨rfl, hb⟩
    have hrow := (hb.block _ hlt1).trans HR1.out
    have c0 := cell_of_row _ _ 0 _ _ _ hrow
    have h1 := H1.out.keep (G := F) (fun _ h => h) (fun b hb' => hb.block _ (HF1.out b hb'))
    obtain ⟨g, rfl, _, _, d1⟩ := row_gls h1.gs HX.out
    dsimp only at d1
    have HE := Lib.hid (below_next HB1.out hb)
    clear hb hrow h1 HG H1 HF1 HB1 HR1 HX
    by_cases hz : 0 < z
    · go_wp2_with fail
      go_ret
      exact ⟨by rw [HO.out, if_pos hz]; rfl, HE.out⟩
    · go_wp2_with fail
      go_ret
      exact ⟨by rw [HO.out, if_neg (by omega)]; rfl, HE.out⟩
  | none =>
    rw [hi] at HG
    have HG : Hid (Calls Try.prog 27 #[.agg #[.slice gA n gc, .slice fA m fc], .string s] _ (IntG (-1) _)) := HG
    have HO : Hid (outerP gl fl s = match idxOf (fl.map (·.name)) s with | some _ => 4 | none => 0) := Lib.hid (by unfold outerP; rw [hi])
    clear hi
    go_enter Try.func32, Try.ntmps32
    go_wp2_with fail
    refine HG.out.mono ?_
    rintro e w1 ⟨rfl, hb⟩
    have hrow := (hb.block _ hlt1).trans HR1.out
    have c0 := cell_of_row _ _ 0 _ _ _ hrow
    have c1 := cell_of_row _ _ 1 _ _ _ hrow
    have HF := Lib.hid (HFn.out w1 hb)
    have HB := Lib.hid (below_next HB1.out hb)
    clear hb hrow HG H1 HF1 HB1 HR1 HFn
    cases hi2 : idxOf (fl.map (·.name)) s with
    | some k =>
      rw [hi2] at HF HO
      have HF : Hid (Calls Try.prog 28 #[.agg #[.slice gA n gc, .slice fA m fc], .string s] w1 (IntG (k : Int) w1)) := HF
      clear hi2
      go_wp2_with fail
      refine HF.out.mono ?_
      rintro e w2 ⟨rfl, hb⟩
      have HE := Lib.hid (below_next HB.out hb)
      clear hb
      go_wp2_with fail
      go_ret
      exact ⟨by rw [HO.out]; rfl, HE.out⟩
    | none =>
      rw [hi2] at HF HO
      have HF : Hid (Calls Try.prog 28 #[.agg #[.slice gA n gc, .slice fA m fc], .string s] w1 (IntG (-1) w1)) := HF
      clear hi2
      go_wp2_with fail
      refine HF.out.mono ?_
      rintro e w2 ⟨rfl, hb⟩
      have HE := Lib.hid (below_next HB.out hb)
      clear hb
      go_wp2_with fail
      go_ret
      exact ⟨by rw [HO.out]; rfl, HE.out⟩
/-- A scope in its block p: the source below base, the names in a row of their own. -/
def ScP (F : Nat → Prop) (base : Nat) (D d : Nat) (gl : GlL) (fl : List Fn) (p : Nat) (ls : List ByteArray) (es : Int × Int) (w : World) : Prop :=
  ∃ gA gc fA fc v L T, SrcG F w D d gl fl gA gc fA fc ∧ (∀ b, F b → b < base) ∧ base ≤ p ∧ base ≤ w.heap.size ∧
    w.heap[p]? = some (.cells #[.slice gA gl.length gc, .slice fA fl.length fc, v, .int .i64 es.1, .int .i64 es.2] T (0, 0)) ∧ GRow 1 9 MStr base w v ls L ∧ v.ownBlock ≠ some p ∧ ls.length ≤ 1000000
/-- The error that is kept: the first one. -/
def failP (l c : Int) (es : Int × Int) : Int × Int := if es.2 = 0 then (l, c) else es
theorem own_slice {α : Type} {k : Nat} {T : TypeId} {V : Means α} {base : Nat} {w : World} {v : Value} {xs : List α} {L : List Value} (h : GRow k T V base w v xs L) : ∃ A c, v = .slice A xs.length c := by
  rcases h.own.2 with ⟨e, h0⟩ | ⟨g, cap, cur, e, _⟩
  · exact ⟨none, 0, by rw [h0]; exact e⟩
  · exact ⟨_, _, e⟩
theorem ScP.below {F : Nat → Prop} {base D d : Nat} {gl : GlL} {fl : List Fn} {p : Nat} {ls : List ByteArray} {es : Int × Int} {w w' : World} (h : ScP F base D d gl fl p ls es w) (hb : Below w.heap.size w w') : ScP F base D d gl fl p ls es w' := by
  obtain ⟨gA, gc, fA, fc, v, L, T, h1, h2, h3, h4, h5, h6, h7, h8⟩ := h
  have hlt := (Array.getElem?_eq_some_iff.1 h5).1
  refine ⟨gA, gc, fA, fc, v, L, T, h1.keep (fun _ h => h) (fun b hb' => hb.block b (Nat.lt_of_lt_of_le (h2 b hb') h4)), h2, h3, Nat.le_trans h4 hb.size, (hb.block p hlt).trans h5, ?_, h7, h8⟩
  refine ⟨?_, fun j x hj => ?_⟩
  · rcases h6.own.2 with hn | ⟨g', cap, cur, e, hb', hh, rest⟩
    · exact ⟨h6.own.1, .inl hn⟩
    · exact ⟨h6.own.1, .inr ⟨g', cap, cur, e, hb', (hb.block g' (Array.getElem?_eq_some_iff.1 hh).1).trans hh, rest⟩⟩
  · obtain ⟨cs, q1, q2, q3⟩ := h6.at_ j x hj
    exact ⟨cs, q1, q2, mstr_keeps _ _ _ _ _ _ (fun b hb' => ⟨hb'.1, Nat.lt_of_lt_of_le hb'.2.1 hb.size, hb'.2.2⟩) (fun b hb' => hb.block b hb'.2.1) q3⟩
theorem ScP.plt {F : Nat → Prop} {base D d : Nat} {gl : GlL} {fl : List Fn} {p : Nat} {ls : List ByteArray} {es : Int × Int} {w : World} (h : ScP F base D d gl fl p ls es w) : p < w.heap.size := by
  obtain ⟨gA, gc, fA, fc, v, L, T, h1, h2, h3, h4, h5, h6, h7, h8⟩ := h
  exact (Array.getElem?_eq_some_iff.1 h5).1
/-- What a name is in a function: 1 a variable. -/
def whatP (gl : GlL) (fl : List Fn) (ls : List ByteArray) (s : ByteArray) : Int := if hasB ls s then 1 else outerP gl fl s
set_option maxRecDepth 10000 in
set_option maxHeartbeats 1000000 in
theorem what_6 {F : Nat → Prop} {base D d : Nat} {gl : GlL} {fl : List Fn} {p : Nat} {ls : List ByteArray} {es : Int × Int} (s : ByteArray) (w : World) (h : ScP F base D d gl fl p ls es w) :
    Calls Try.prog 47 #[.pointer (some ⟨p, 0, none⟩), .string s] w (IntG (whatP gl fl ls s) w) := by
  obtain ⟨gA, gc, fA, fc, v, L, T, h1, h2, h3, h4, h5, h6, h7, h8⟩ := h
  obtain ⟨lA, lc, rfl⟩ := own_slice h6
  have HH := Lib.hid (has_6 s ls lA ls.length lc w rfl (h6.row mstr_keeps).2 h8)
  have HO := Lib.hid (outer_6 s gl fl gA gl.length gc fA fl.length fc w rfl rfl h1 (fun b hb => Nat.lt_of_lt_of_le (h2 b hb) h4))
  have c0 := cell_of_row _ _ 0 _ _ _ h5
  have c1 := cell_of_row _ _ 1 _ _ _ h5
  have c2 := cell_of_row _ _ 2 _ _ _ h5
  have HW : Hid (whatP gl fl ls s = if hasB ls s then 1 else outerP gl fl s) := Lib.hid rfl
  clear h1 h2 h3 h4 h5 h6 h7 h8
  cases hv : hasB ls s with
  | true =>
    rw [hv] at HH HW
    clear hv
    go_enter Try.func47, Try.ntmps47
    go_wp2_with fail
    refine HH.out.mono ?_
    rintro e w1 ⟨rfl, rfl⟩
    go_wp2_with fail
    go_ret
    exact ⟨by rw [HW.out]; rfl, Below.refl _ _⟩
  | false =>
    rw [hv] at HH HW
    clear hv
    go_enter Try.func47, Try.ntmps47
    go_wp2_with fail
    refine HH.out.mono ?_
    rintro e w1 ⟨rfl, rfl⟩
    go_wp2_with fail
    refine HO.out.mono ?_
    rintro e w1 ⟨rfl, hb⟩
    have HB := Lib.hid hb
    clear hb
    go_wp2_with fail
    go_ret
    exact ⟨by rw [HW.out]; rfl, HB.out⟩
/-- Nothing is handed back; the scope keeps es. -/
def VoidS (F : Nat → Prop) (base D d : Nat) (gl : GlL) (fl : List Fn) (p : Nat) (ls : List ByteArray) (es : Int × Int) (w : World) (e : Ending) (w' : World) : Prop := (∃ v, e = .returned v) ∧ ScP F base D d gl fl p ls es w' ∧ w.grownBy w' (some p)
theorem ScP.set {F : Nat → Prop} {base D d : Nat} {gl : GlL} {fl : List Fn} {p : Nat} {ls : List ByteArray} {es : Int × Int} {w : World} (h : ScP F base D d gl fl p ls es w) (l c : Int) : ScP F base D d gl fl p ls (l, c) ((w.setCell ⟨p, 3, none⟩ (.int .i64 l)).setCell ⟨p, 4, none⟩ (.int .i64 c)) := by
  obtain ⟨gA, gc, fA, fc, v, L, T, h1, h2, h3, h4, h5, h6, h7, h8⟩ := h
  have hg : w.grownBy ((w.setCell ⟨p, 3, none⟩ (.int .i64 l)).setCell ⟨p, 4, none⟩ (.int .i64 c)) (some p) := (set_grown w ⟨p, 3, none⟩ (.int .i64 l)).trans (set_grown _ ⟨p, 4, none⟩ (.int .i64 c))
  refine ⟨gA, gc, fA, fc, v, L, T, h1.keep (fun _ h => h) (fun b hb => hg.block b (Nat.lt_of_lt_of_le (h2 b hb) h4) (fun e => by injection e with e; have := h2 b hb; omega)), h2, h3, Nat.le_trans h4 hg.size, row_set (i := 4) (.int .i64 c) (row_set (i := 3) (.int .i64 l) h5), ?_, h7, h8⟩
  refine ⟨?_, fun j x hj => ?_⟩
  · rcases h6.own.2 with hn | ⟨g', cap, cur, e, hb', hh, rest⟩
    · exact ⟨h6.own.1, .inl hn⟩
    · exact ⟨h6.own.1, .inr ⟨g', cap, cur, e, hb', (hg.block g' (Array.getElem?_eq_some_iff.1 hh).1 (fun e2 => by injection e2 with e2; subst e2; exact h7 (by rw [e]; rfl))).trans hh, rest⟩⟩
  · obtain ⟨cs, q1, q2, q3⟩ := h6.at_ j x hj
    exact ⟨cs, q1, q2, q3⟩
set_option maxRecDepth 10000 in
set_option maxHeartbeats 1000000 in
theorem fail_6 {F : Nat → Prop} {base D d : Nat} {gl : GlL} {fl : List Fn} {p : Nat} {ls : List ByteArray} {es : Int × Int} (l c : Int) (w : World) (h : ScP F base D d gl fl p ls es w) :
    Calls Try.prog 45 #[.pointer (some ⟨p, 0, none⟩), .int .i64 l, .int .i64 c] w (VoidS F base D d gl fl p ls (failP l c es) w) := by
  have hs := h.set l c
  have H := Lib.hid h
  obtain ⟨gA, gc, fA, fc, v, L, T, h1, h2, h3, h4, h5, h6, h7, h8⟩ := h
  have c3 := cell_of_row _ _ 3 _ _ _ h5
  have c4 := cell_of_row _ _ 4 _ _ _ h5
  have f3 := rp_fz h5 3
  have f4 := rp_fz h5 4
  clear h1 h2 h3 h4 h5 h6 h7 h8
  obtain ⟨el, ec⟩ := es
  dsimp only at c3 c4
  by_cases hz : ec = 0
  · have HE : Hid (VoidS F base D d gl fl p ls (failP l c (el, ec)) w (.returned (.tuple #[])) ((w.setCell ⟨p, 3, none⟩ (.int .i64 l)).setCell ⟨p, 4, none⟩ (.int .i64 c))) := Lib.hid ⟨⟨_, rfl⟩, by rw [show failP l c (el, ec) = (l, c) from if_pos hz]; exact hs, (set_grown w ⟨p, 3, none⟩ _).trans (set_grown _ ⟨p, 4, none⟩ _)⟩
    clear hs H
    subst hz
    go_enter Try.func45, Try.ntmps45
    go_wp2_with fail
    exact bodyPost_ret (results_none rfl _ _ _) rfl ⟨⟨_, rfl⟩, HE.out.2⟩
  · have HE : Hid (VoidS F base D d gl fl p ls (failP l c (el, ec)) w (.returned (.tuple #[])) w) := Lib.hid ⟨⟨_, rfl⟩, by rw [show failP l c (el, ec) = (el, ec) from if_neg hz]; exact H.out, grown_of_below (Below.refl _ w) (some p)⟩
    have hz2 : (ec == 0) = false := by simp [hz]
    clear hs H hz
    go_enter Try.func45, Try.ntmps45
    go_wp2_with fail
    exact bodyPost_ret (results_none rfl _ _ _) rfl ⟨⟨_, rfl⟩, HE.out.2⟩
end Go.Proofs.Ytjmbllbnlnjanaa
namespace Go.Proofs.Ytjmbllbnlnjanaa
open Go.RowKit

mutual
/-- An expression without names and calls. -/
def plX : Ex → Bool
  | .mk k _ _ _ _ xs => !(k == 13) && !(k == 4) && !(k == 11) && !(k == 9) && !(k == 10) && decide (xs.length ≤ 1000000) && plL xs
def plL : List Ex → Bool
  | [] => true
  | x :: xs => plX x && plL xs
end
theorem plL_at : ∀ {xs : List Ex} {i : Nat} {x : Ex}, plL xs = true → xs[i]? = some x → plX x = true
  | [], _, _, _, h => by simp at h
  | y :: ys, 0, x, h, hi => by
    simp at hi
    subst hi
    unfold plL at h
    simp only [Bool.and_eq_true] at h
    exact h.1
  | y :: ys, i + 1, x, h, hi => by
    unfold plL at h
    simp only [Bool.and_eq_true] at h
    exact plL_at h.2 (by simpa using hi)
/-- An expression is handed back, in blocks of its own. -/
def PX (d : Nat) (x : Ex) (w : World) (e : Ending) (w' : World) : Prop := ∃ k o a l s A n c, e = .returned (.agg #[.int .i64 k, .int .i64 o, .int .i64 a, .int .i64 l, .string s, .slice A n c]) ∧ ExV (fun b => w.heap.size ≤ b ∧ b < w'.heap.size) w' d x (.agg #[.int .i64 k, .int .i64 o, .int .i64 a, .int .i64 l, .string s, .slice A n c]) ∧ Below w.heap.size w w'
/-- A row of expressions is handed back. -/
def PXs (d : Nat) (xs : List Ex) (w : World) (e : Ending) (w' : World) : Prop := ∃ A m c, e = .returned (.slice A m c) ∧ m = xs.length ∧ RowE (fun b => w.heap.size ≤ b ∧ b < w'.heap.size) w' d xs A c ∧ Below w.heap.size w w'
def ExprC (d : Nat) : Prop := ∀ (F : Nat → Prop) (p : Nat) (x : Ex) (v : Value) (w : World), ExV F w d x v → plX x = true → (∀ b, F b → b < w.heap.size) → Calls Try.prog 46 #[.pointer (some ⟨p, 0, none⟩), v] w (PX d x w)
def ExprsC (d : Nat) : Prop := ∀ (F : Nat → Prop) (p : Nat) (xs : List Ex) (A : Option Addr) (n c : Nat) (w : World), RowE F w d xs A c → n = xs.length → plL xs = true → n ≤ 1000000 → (∀ b, F b → b < w.heap.size) → Calls Try.prog 62 #[.pointer (some ⟨p, 0, none⟩), .slice A n c] w (PXs d xs w)
/-- The row that is made, on the way. -/
def ExsR (xs : List Ex) (d : Nat) (w : World) (v i : Value) (wr : World) : Prop := ∃ ys zs L, xs = ys ++ zs ∧ i = .int .i64 (ys.length : Int) ∧ ArgRow w.heap.size d wr v ys L ∧ Below w.heap.size w wr
theorem arg_slice {base d : Nat} {w : World} {v : Value} {xs : List Ex} {L : List Value} (h : ArgRow base d w v xs L) : ∃ A c, v = .slice A xs.length c := by
  rcases h.own.2 with ⟨e, h0⟩ | ⟨g, cap, cur, e, _⟩
  · exact ⟨none, 0, by rw [h0]; exact e⟩
  · exact ⟨_, _, e⟩
theorem ArgRow.below {base d : Nat} {w w' : World} {v : Value} {xs : List Ex} {L : List Value} (h : ArgRow base d w v xs L) (hb : Below w.heap.size w w') : ArgRow base d w' v xs L := by
  refine ⟨?_, fun j x hj => ?_⟩
  · rcases h.own.2 with hn | ⟨g', cap, cur, e, hb', hh, rest⟩
    · exact ⟨h.own.1, .inl hn⟩
    · exact ⟨h.own.1, .inr ⟨g', cap, cur, e, hb', (hb.block g' (Array.getElem?_eq_some_iff.1 hh).1).trans hh, rest⟩⟩
  · obtain ⟨c0, c1, c2, c3, c4, c5, e0, e1, e2, e3, e4, e5, hx⟩ := h.at_ j x hj
    exact ⟨c0, c1, c2, c3, c4, c5, e0, e1, e2, e3, e4, e5, hx.keep (fun b hb' => ⟨hb'.1, Nat.lt_of_lt_of_le hb'.2.1 hb.size, hb'.2.2⟩) (fun b hb' => hb.block b hb'.2.1)⟩
set_option maxRecDepth 10000 in
set_option maxHeartbeats 2000000 in
theorem exprs_p {d : Nat} (hE : ExprC d) : ExprsC d := by
  intro F p xs A n c w hr hn hpl hn2 hF
  have HE := Lib.hid hE
  have Hr := Lib.hid hr
  have Hn := Lib.hid hn
  have Hpl := Lib.hid hpl
  have HF := Lib.hid hF
  have hc : n ≤ c := by rw [hn]; exact hr.1
  clear hE hr hn hpl hF
  go_enter Try.func62, Try.ntmps62
  go_wp2_with fail
  go_loopw [5, 6] (fun v i wr => ExsR xs d w v i wr) (fun _ i _ => n - (intOf i).toNat)
  case atStart => exact ⟨[], xs, [], rfl, rfl, ArgRow.nil _ _ _, Below.refl _ _⟩
  case round =>
    obtain ⟨ys, zs, L, hxs, rfl, har, hb⟩ := hrel
    obtain ⟨vA, vc, rfl⟩ := arg_slice har
    have hyn : ys.length ≤ n := by rw [Hn.out, hxs]; simp
    have HB := Lib.hid hb
    have HAR := Lib.hid har
    have HXS := Lib.hid hxs
    clear har hb
    cases zs with
    | nil =>
      have hyn2 : n ≤ ys.length := by rw [Hn.out, hxs]; simp
      have HR : Hid (PXs d xs w (.returned (.slice vA ys.length vc)) _) := Lib.hid ⟨vA, _, vc, rfl, by rw [hxs]; simp, by rw [hxs, List.append_nil]; exact HAR.out.row.2, HB.out⟩
      clear hxs HAR
      go_wp2_with fail
      go_ret
      exact HR.out
    | cons z zs =>
      have hlt : ys.length < n := by rw [Hn.out, hxs]; simp
      have hz : xs[ys.length]? = some z := by rw [hxs]; simp
      obtain ⟨g, off, c0, c1, c2, c3, c4, c5, rfl, hFg, e0, e1, e2, e3, e4, e5, hv⟩ := Hr.out.2 _ _ hz
      have hk : ∀ o, World.cell? _ ⟨g, o, none⟩ = World.cell? w ⟨g, o, none⟩ := fun o => World.cell?_of_block (HB.out.block g (HF.out g hFg))
      have d0 := (hk _).trans e0
      have d1 := (hk _).trans e1
      have d2 := (hk _).trans e2
      have d3 := (hk _).trans e3
      have d4 := (hk _).trans e4
      have d5 := (hk _).trans e5
      have HX := Lib.hid (HE.out F p z _ _ (hv.keep (fun _ h => h) (fun b hb => HB.out.block b (HF.out b hb))) (plL_at Hpl.out hz) (fun b hb => Nat.lt_of_lt_of_le (HF.out b hb) HB.out.size))
      have hszB := HB.out.size
      clear e0 e1 e2 e3 e4 e5 hv hk hxs hz hFg
      go_wp2_with fail
      refine HX.out.mono ?_
      rintro e w1 ⟨k, o, a, l, s, A1, n1, c1', rfl, hx, hb1⟩
      have hsz1 := hb1.size
      have HAR1 := Lib.hid (HAR.out.below hb1)
      have HB1 := Lib.hid (HB.out.trans (hb1.mono hszB))
      have HV1 := Lib.hid hx
      have hown := HAR.out.own
      have HOB : Hid (∀ b, wr.heap.size ≤ b → (Value.slice vA ys.length vc).ownBlock ≠ some b) := Lib.hid (fun b hb e => absurd (hown.lt b e).2 (Nat.not_lt.2 hb))
      clear hx hb1 HX HAR HB d0 d1 d2 d3 d4 d5 hown
      go_wp2_with (at_builtin; refine Pause.out ?_)
      refine Pause.of (wpList_append_ex w1 rfl (.tmp 13) (.tmp 20) rfl w.heap.size d (.slice vA ys.length vc) ys L z _ _ _ _ _ _ _ _ _ rfl rfl HAR1.out (by omega) (by omega) HV1.out (fun b hb => ⟨by omega, hb.2, HOB.out b hb.1⟩) ?_)
      intro g7 cap w7 har7 hg7
      have HS7 : Hid (ExsR xs d w (.slice (some ⟨g7, 0, none⟩) (ys.length + 1) cap) (.int .i64 ((ys.length : Int) + 1)) w7) := Lib.hid ⟨ys ++ [z], zs, _, by rw [HXS.out]; simp, by simp, har7, HB1.out.trans (below_own HAR1.out.own hg7 (by omega))⟩
      clear har7 hg7 HAR1 HB1 HV1 HOB
      go_wp2_with fail
      exact ⟨HS7.out, by simp [intOf]; omega⟩
theorem plX_parts {k o a l : Int} {s : ByteArray} {xs : List Ex} (h : plX (.mk k o a l s xs) = true) : (k == 13) = false ∧ (k == 4) = false ∧ (k == 11) = false ∧ (k == 9) = false ∧ (k == 10) = false ∧ xs.length ≤ 1000000 ∧ plL xs = true := by
  unfold plX at h
  simp only [Bool.and_eq_true, Bool.not_eq_true', decide_eq_true_eq] at h
  obtain ⟨⟨⟨⟨⟨⟨h1, h2⟩, h3⟩, h4⟩, h5⟩, h6⟩, h7⟩ := h
  exact ⟨h1, h2, h3, h4, h5, h6, h7⟩
set_option maxRecDepth 10000 in
set_option maxHeartbeats 2000000 in
theorem expr_p {d : Nat} (hE : ExprsC d) : ExprC (d + 1) := by
  intro F p x v w hv hpl hF
  obtain ⟨k, o, a, l, s, xs⟩ := x
  obtain ⟨A, c, rfl, hr⟩ := exV_iff.1 hv
  obtain ⟨k1, k2, k3, k4, k5, hlen, hpl2⟩ := plX_parts hpl
  obtain ⟨n, hn⟩ : ∃ n, n = xs.length := ⟨_, rfl⟩
  have hb0 := ((Below.refl _ w).alloc (Nat.le_refl _) (.cells #[.int .i64 k, .int .i64 o, .int .i64 a, .int .i64 l, .string s, .slice A xs.length c] 104)).alloc (by simp) zeroE
  have hZ := alloc2_new w (.cells #[.int .i64 k, .int .i64 o, .int .i64 a, .int .i64 l, .string s, .slice A xs.length c] 104) zeroE
  have hX := alloc2_old w (.cells #[.int .i64 k, .int .i64 o, .int .i64 a, .int .i64 l, .string s, .slice A xs.length c] 104) zeroE
  have hS := hE F p xs A xs.length c _ (hr.keep (G := F) (fun _ h => h) (fun b hb => hb0.block b (hF b hb))) rfl hpl2 hlen (fun b hb => Nat.lt_of_lt_of_le (hF b hb) hb0.size)
  unfold zeroE at hS hZ hX hb0
  have hsz : w.heap.size + 2 ≤ (((w.alloc (.cells #[.int .i64 k, .int .i64 o, .int .i64 a, .int .i64 l, .string s, .slice A xs.length c] 104)).alloc (.cells #[.int .i64 0, .int .i64 0, .int .i64 0, .int .i64 0, .string ⟨#[]⟩, .slice none 0 0] 104))).heap.size := by simp
  rw [← hn] at hS hZ hX hb0 hsz ⊢
  have HS := Lib.hid hS
  have HZ := Lib.hid hZ
  have HX := Lib.hid hX
  have HB0 := Lib.hid hb0
  have Hn := Lib.hid hn
  clear hb0 hZ hX hS hv hpl hF hr hpl2 hlen hn hE
  go_enter Try.func46, Try.ntmps46
  go_wp2_with fail
  refine HS.out.mono ?_
  rintro e w1 ⟨A1, m1, c1, rfl, hm1, hr1, hb1⟩
  have hZ1 := (hb1.block _ (by omega)).trans HZ.out
  have hX1 := (hb1.block _ (by omega)).trans HX.out
  have f5 := rp_fz hX1 5
  have b5 := cell_of_row _ _ 5 _ _ _ hX1
  have hg2 : w1.grownBy (w1.setCell ⟨w.heap.size, 5, none⟩ (.slice A1 m1 c1)) (some w.heap.size) := set_grown w1 ⟨w.heap.size, 5, none⟩ _
  have row2 : (w1.setCell ⟨w.heap.size, 5, none⟩ (.slice A1 m1 c1)).heap[w.heap.size]? = some (.cells #[.int .i64 k, .int .i64 o, .int .i64 a, .int .i64 l, .string s, .slice A1 m1 c1] 104 (0, 0)) := row_set (i := 5) _ hX1
  have a0 := cell_of_row _ _ 0 _ _ _ row2
  have a1 := cell_of_row _ _ 1 _ _ _ row2
  have a2 := cell_of_row _ _ 2 _ _ _ row2
  have a3 := cell_of_row _ _ 3 _ _ _ row2
  have a4 := cell_of_row _ _ 4 _ _ _ row2
  have a5 := cell_of_row _ _ 5 _ _ _ row2
  have hsz1 := hb1.size
  have hs2 : w1.heap.size ≤ (w1.setCell ⟨w.heap.size, 5, none⟩ (.slice A1 m1 c1)).heap.size := hg2.size
  have HZ2 := Lib.hid ((hg2.block (w.heap.size + 1) (by omega) (fun e => by injection e with e; omega)).trans hZ1)
  have HR2 := Lib.hid (hr1.keep (G := fun b => w.heap.size + 2 ≤ b ∧ b < (w1.setCell ⟨w.heap.size, 5, none⟩ (.slice A1 m1 c1)).heap.size) (fun b hb => ⟨by omega, by omega⟩) (fun b hb => hg2.block b hb.2 (fun e => by injection e with e; omega)))
  have HB2 := Lib.hid (HB0.out.trans ((hb1.mono (by omega)).trans (grown_any hg2 (fun k hk => by injection hk with hk; omega) (by omega))))
  have HM := Lib.hid (hm1.trans rfl)
  clear hZ1 hX1 row2 hr1 hb1 hg2 hm1 HS HZ HX HB0
  go_wp2_with (with_reducible refine rx_pause ?_)
  obtain ⟨w2, hw2⟩ : ∃ w2, w2 = w1.setCell ⟨w.heap.size, 5, none⟩ (.slice A1 m1 c1) := ⟨_, rfl⟩
  rw [← hw2] at HZ2 HR2 HB2 hs2 ⊢
  clear hw2 a0 a1 a2 a3 a4 a5 b5 f5
  refine Pause.of (wpList_store_new _ rfl _ _ _ rfl (w.heap.size + 1) _ rfl (by rfl) _ _ HZ2.out (by kernel_rfl) (by rfl) (by simp [Value.oneCell']) ?_)
  intro w9 hrow9 hg9
  have j0 := cell_of_row _ _ 0 _ _ _ hrow9
  have j1 := cell_of_row _ _ 1 _ _ _ hrow9
  have j2 := cell_of_row _ _ 2 _ _ _ hrow9
  have j3 := cell_of_row _ _ 3 _ _ _ hrow9
  have j4 := cell_of_row _ _ 4 _ _ _ hrow9
  have j5 := cell_of_row _ _ 5 _ _ _ hrow9
  have HH : Hid (PX (d + 1) (.mk k o a l s xs) w (.returned (.agg #[.int .i64 k, .int .i64 o, .int .i64 a, .int .i64 l, .string s, .slice A1 m1 c1])) w9) := Lib.hid ⟨k, o, a, l, s, A1, m1, c1, rfl, by
    have hm := HM.out
    subst hm
    exact exV_iff.2 ⟨A1, c1, rfl, HR2.out.keep (fun b hb => ⟨by omega, Nat.lt_of_lt_of_le hb.2 hg9.size⟩) (fun b hb => hg9.block b hb.2 (fun e => by injection e with e; omega))⟩, HB2.out.trans (grown_any hg9 (fun k hk => by injection hk with hk; omega) (by omega))⟩
  clear hrow9 hg9
  go_wp2_with fail
  exact bodyPost_ret (by simp [results, Try.results46, go_sem, j0, j1, j2, j3, j4, j5]) rfl HH.out
theorem expr_all : ∀ d : Nat, ExprC d
  | 0 => fun _ _ _ _ _ h _ _ => h.elim
  | d + 1 => expr_p (exprs_p (expr_all d))
theorem exprs_all (d : Nat) : ExprsC d := exprs_p (expr_all d)
end Go.Proofs.Ytjmbllbnlnjanaa
namespace Go.Proofs.Ytjmbllbnlnjanaa
open Go.RowKit

mutual
/-- How high an expression is. -/
def htX : Ex → Nat
  | .mk _ _ _ _ _ xs => htL xs + 1
def htL : List Ex → Nat
  | [] => 0
  | x :: xs => max (htX x) (htL xs)
end
theorem htL_app : ∀ (xs ys : List Ex), htL (xs ++ ys) = max (htL xs) (htL ys)
  | [], ys => by show htL ys = max 0 (htL ys); omega
  | x :: xs, ys => by
    show max (htX x) (htL (xs ++ ys)) = max (max (htX x) (htL xs)) (htL ys)
    rw [htL_app xs ys]
    omega
theorem htX_pos : ∀ x : Ex, 1 ≤ htX x
  | .mk _ _ _ _ _ xs => by show 1 ≤ htL xs + 1; omega
def HeightC (d : Nat) : Prop := ∀ (F : Nat → Prop) (x : Ex) (v : Value) (w : World), ExV F w d x v → plX x = true → htX x ≤ 1000000 → (∀ b, F b → b < w.heap.size) → Calls Try.prog 44 #[v] w (IntG (htX x : Int) w)
def HtR (xs : List Ex) (w : World) (v i : Value) (wr : World) : Prop := ∃ ys zs, xs = ys ++ zs ∧ v = .int .i64 (htL ys : Int) ∧ i = .int .i64 (ys.length : Int) ∧ Below w.heap.size w wr
set_option maxRecDepth 10000 in
set_option maxHeartbeats 2000000 in
theorem height_s {d : Nat} (hE : HeightC d) : HeightC (d + 1) := by
  intro F x v w hv hpl hht hF
  obtain ⟨k, o, a, l, s, xs⟩ := x
  obtain ⟨A, c, rfl, hr⟩ := exV_iff.1 hv
  obtain ⟨_, _, _, _, _, hlen, hpl2⟩ := plX_parts hpl
  have hht2 : htL xs + 1 ≤ 1000000 := hht
  have hc : xs.length ≤ c := hr.1
  have hb0 := (Below.refl _ w).alloc (Nat.le_refl _) (.cells #[.int .i64 k, .int .i64 o, .int .i64 a, .int .i64 l, .string s, .slice A xs.length c] 104)
  have hrow := heap_alloc_new w (.cells #[.int .i64 k, .int .i64 o, .int .i64 a, .int .i64 l, .string s, .slice A xs.length c] 104)
  have hlt : w.heap.size < (w.alloc (.cells #[.int .i64 k, .int .i64 o, .int .i64 a, .int .i64 l, .string s, .slice A xs.length c] 104)).heap.size := by simp
  have Hr := Lib.hid (hr.keep (G := F) (fun _ h => h) (fun b hb => hb0.block b (hF b hb)))
  have HF := Lib.hid (fun b hb => Nat.lt_of_lt_of_le (hF b hb) hb0.size)
  have HE := Lib.hid hE
  have HB0 := Lib.hid hb0
  have HRow := Lib.hid hrow
  have Hpl := Lib.hid hpl2
  have HO : Hid ((htX (.mk k o a l s xs) : Int) = ((htL xs + 1 : Nat) : Int)) := Lib.hid rfl
  obtain ⟨n, hn⟩ : ∃ n, n = xs.length := ⟨_, rfl⟩
  rw [← hn] at Hr HF HB0 HRow hlt hlen hc ⊢
  have Hn := Lib.hid hn
  clear hv hpl hht hF hr hb0 hrow hE hpl2 hn
  go_enter Try.func44, Try.ntmps44
  go_wp2_with fail
  obtain ⟨W, hW⟩ : ∃ W, W = w.alloc (.cells #[.int .i64 k, .int .i64 o, .int .i64 a, .int .i64 l, .string s, .slice A n c] 104) := ⟨_, rfl⟩
  rw [← hW] at Hr HF HB0 HRow hlt ⊢
  clear hW
  go_loopw [3, 4] (fun v i wr => HtR xs W v i wr) (fun _ i _ => n - (intOf i).toNat)
  case atStart => exact ⟨[], xs, rfl, rfl, rfl, Below.refl _ _⟩
  case round =>
    obtain ⟨ys, zs, hxs, rfl, rfl, hb⟩ := hrel
    have hyn : ys.length ≤ n := by rw [Hn.out, hxs]; simp
    have c5 := cell_of_row _ _ 5 _ _ _ ((hb.block _ hlt).trans HRow.out)
    have hle : htL ys ≤ htL xs := by rw [hxs, htL_app]; omega
    have HB := Lib.hid hb
    have HXS := Lib.hid hxs
    clear hb
    cases zs with
    | nil =>
      have hyn2 : n ≤ ys.length := by rw [Hn.out, hxs]; simp
      have HR : Hid (ys = xs) := Lib.hid (by rw [hxs]; simp)
      clear hxs
      go_wp2_with fail
      go_ret
      exact ⟨by rw [HO.out, ← HR.out]; rfl, HB0.out.trans (HB.out.mono HB0.out.size)⟩
    | cons z zs =>
      have hlt2 : ys.length < n := by rw [Hn.out, hxs]; simp
      have hz : xs[ys.length]? = some z := by rw [hxs]; simp
      obtain ⟨g, off, c0, c1, c2, c3, c4, c5', rfl, hFg, e0, e1, e2, e3, e4, e5, hv⟩ := Hr.out.2 _ _ hz
      have hk : ∀ o, World.cell? wr ⟨g, o, none⟩ = World.cell? W ⟨g, o, none⟩ := fun o => World.cell?_of_block (HB.out.block g (HF.out g hFg))
      have d0 := (hk _).trans e0
      have d1 := (hk _).trans e1
      have d2 := (hk _).trans e2
      have d3 := (hk _).trans e3
      have d4 := (hk _).trans e4
      have d5 := (hk _).trans e5
      have hzh : htX z ≤ htL xs := by
        rw [hxs, htL_app]
        show _ ≤ max _ (max (htX z) _)
        omega
      have HX := Lib.hid (HE.out F z _ wr (hv.keep (fun _ h => h) (fun b hb => HB.out.block b (HF.out b hb))) (plL_at Hpl.out hz) (by omega) (fun b hb => Nat.lt_of_lt_of_le (HF.out b hb) HB.out.size))
      have HM : Hid (htL (ys ++ [z]) = max (htL ys) (htX z)) := Lib.hid (by rw [htL_app]; show max _ (max _ 0) = _; omega)
      have hszB := HB.out.size
      clear e0 e1 e2 e3 e4 e5 hv hk hxs hz hFg
      go_wp2_with fail
      refine HX.out.mono ?_
      rintro e w1 ⟨rfl, hb1⟩
      have HB1 := Lib.hid (HB.out.trans (hb1.mono hszB))
      clear hb1 HB HX d0 d1 d2 d3 d4 d5
      go_wp2_with fail
      exact ⟨⟨ys ++ [z], zs, by rw [HXS.out]; simp, by rw [HM.out]; simp; omega, by simp, HB1.out⟩, by simp [intOf]; omega⟩
theorem height_all : ∀ d : Nat, HeightC d
  | 0 => fun _ _ _ _ h _ _ _ => h.elim
  | d + 1 => height_s (height_all d)
end Go.Proofs.Ytjmbllbnlnjanaa
namespace Go.Proofs.Ytjmbllbnlnjanaa
open Go.RowKit

/-- A statement without blocks and names, not too high. -/
def flS : St → Bool
  | .mk k _ _ es ts us => !(k == 1) && !(k == 2) && !(k == 3) && plL es && decide (es.length ≤ 1000000) && decide (htL es ≤ 64) && ts.isEmpty && us.isEmpty
def flL (l : List St) : Bool := l.all flS
/-- What lies where at a statement. -/
structure AtS (F : Nat → Prop) (w : World) (D : Nat) (g q : Nat) (k l : Int) (s : ByteArray) (es : List Ex) : Prop where
  ex : ∃ eA ec tA tc uA uc, w.cell? ⟨g, q, none⟩ = some (.int .i64 k) ∧ w.cell? ⟨g, q + 1, none⟩ = some (.int .i64 l) ∧ w.cell? ⟨g, q + 2, none⟩ = some (.string s) ∧ w.cell? ⟨g, q + 3, none⟩ = some (.slice eA es.length ec) ∧ w.cell? ⟨g, q + 4, none⟩ = some (.slice tA 0 tc) ∧ w.cell? ⟨g, q + 5, none⟩ = some (.slice uA 0 uc) ∧ RowE F w D es eA ec
  k1 : (k == 1) = false
  k2 : (k == 2) = false
  k3 : (k == 3) = false
  pl : plL es = true
  len : es.length ≤ 1000000
  ht : htL es ≤ 64
theorem flS_at {F : Nat → Prop} {w : World} {D d : Nat} {ts : List St} {A : Option Addr} {c i : Nat} {x : St} (h : RowS F w D d ts A c) (hf : flL ts = true) (hi : ts[i]? = some x) : ∃ g off k l s es, x = .mk k l s es [] [] ∧ A = some ⟨g, off, none⟩ ∧ F g ∧ AtS F w D g (off + i * 6) k l s es := by
  obtain ⟨g, off, c0, c1, c2, c3, c4, c5, hA, hF, e0, e1, e2, e3, e4, e5, hx⟩ := h.2 i x hi
  have hfx : flS x = true := List.all_eq_true.1 hf x (List.mem_of_getElem? hi)
  cases d with
  | zero => exact hx.elim
  | succ d =>
    obtain ⟨k, l, s, es, us, vs⟩ := x
    obtain ⟨eA, ec, tA, tc, uA, uc, hv, he, _, _⟩ := stV_iff.1 hx
    injection hv with hv
    injection hv with hv
    injection hv with h0 hv
    injection hv with h1 hv
    injection hv with h2 hv
    injection hv with h3 hv
    injection hv with h4 hv
    injection hv with h5 hv
    unfold flS at hfx
    simp only [Bool.and_eq_true, Bool.not_eq_true', decide_eq_true_eq, List.isEmpty_iff] at hfx
    obtain ⟨⟨⟨⟨⟨⟨⟨k1, k2⟩, k3⟩, hpl⟩, hlen⟩, hht⟩, hus⟩, hvs⟩ := hfx
    subst hus hvs h0 h1 h2 h3 h4 h5
    exact ⟨g, off, k, l, s, es, rfl, hA, hF, ⟨eA, ec, tA, tc, uA, uc, e0, e1, e2, e3, e4, e5, he⟩, k1, k2, k3, hpl, hlen, hht⟩
theorem AtS.keep {F : Nat → Prop} {w w' : World} {D g q : Nat} {k l : Int} {s : ByteArray} {es : List Ex} (h : AtS F w D g q k l s es) (hg : F g) (hk : ∀ b, F b → w'.heap[b]? = w.heap[b]?) : AtS F w' D g q k l s es := by
  obtain ⟨⟨eA, ec, tA, tc, uA, uc, e0, e1, e2, e3, e4, e5, he⟩, r1, r2, r3, r4, r5, r6⟩ := h
  have e : ∀ o, w'.cell? ⟨g, o, none⟩ = w.cell? ⟨g, o, none⟩ := fun o => World.cell?_of_block (hk g hg)
  exact ⟨⟨eA, ec, tA, tc, uA, uc, (e _).trans e0, (e _).trans e1, (e _).trans e2, (e _).trans e3, (e _).trans e4, (e _).trans e5, he.keep (fun _ h => h) hk⟩, r1, r2, r3, r4, r5, r6⟩
set_option maxRecDepth 10000 in
theorem nest_0 (A : Option Addr) (c : Nat) (w : World) : Calls Try.prog 30 #[.slice A 0 c] w fun e w' => e = .returned (.int .i64 0) ∧ w' = w := by
  go_enter Try.func30, Try.ntmps30
  go_wp2_with fail
  go_loop [3, 4] (fun v i => v = .int .i64 0 ∧ i = .int .i64 0) (fun _ _ => 0)
  case atStart => exact ⟨rfl, rfl⟩
  case round =>
    obtain ⟨rfl, rfl⟩ := hrel
    go_wp2_with fail
    go_ret
    exact ⟨rfl, rfl⟩
set_option maxRecDepth 10000 in
theorem vars_0 (v : Value) (A : Option Addr) (c : Nat) (w : World) : Calls Try.prog 43 #[v, .slice A 0 c] w fun e w' => e = .returned v ∧ w' = w := by
  go_enter Try.func43, Try.ntmps43
  go_wp2_with fail
  go_loop [0, 5] (fun u i => u = v ∧ i = .int .i64 0) (fun _ _ => 0)
  case atStart => exact ⟨rfl, rfl⟩
  case round =>
    obtain ⟨rfl, rfl⟩ := hrel
    go_wp2_with fail
    go_ret
    exact ⟨rfl, rfl⟩
set_option maxRecDepth 10000 in
set_option maxHeartbeats 2000000 in
theorem nest_f {F : Nat → Prop} {D d : Nat} (ts : List St) (A : Option Addr) (n c : Nat) (w : World) (hn : n = ts.length) (h : RowS F w D d ts A c) (hf : flL ts = true) (hn2 : n ≤ 1000000) : Calls Try.prog 30 #[.slice A n c] w fun e w' => (∃ z : Int, 0 ≤ z ∧ z ≤ 1 ∧ e = .returned (.int .i64 z)) ∧ ∃ q, w' = w.drewN q := by
  have hc : n ≤ c := by rw [hn]; exact h.1
  have Hn := Lib.hid hn
  have H := Lib.hid h
  have Hf := Lib.hid hf
  clear hn h hf
  go_enter Try.func30, Try.ntmps30
  go_wp2_with fail
  go_loopw [3, 4] (fun v i wr => ∃ (k : Nat) (z : Int), k ≤ n ∧ 0 ≤ z ∧ z ≤ 1 ∧ v = .int .i64 z ∧ i = .int .i64 (k : Int) ∧ Hid (∃ q, wr = w.drewN q)) (fun _ i _ => n - (intOf i).toNat)
  case atStart => exact ⟨0, 0, Nat.zero_le _, by decide, by decide, rfl, rfl, Lib.hid ⟨0, rfl⟩⟩
  case round =>
    obtain ⟨k, z, hk, hz0, hz1, rfl, rfl, HQ⟩ := hrel
    by_cases hlt : k < n
    · obtain ⟨x, hx⟩ : ∃ x, ts[k]? = some x := ⟨ts[k]'(by rw [← Hn.out]; exact hlt), List.getElem?_eq_getElem _⟩
      obtain ⟨g, off, kk, l, s, es, rfl, rfl, hFg, hat⟩ := flS_at H.out Hf.out hx
      have hat2 : AtS F wr D g (off + k * 6) kk l s es := hat.keep hFg (fun b _ => by obtain ⟨q, rfl⟩ := HQ.out; rfl)
      obtain ⟨eA, ec, tA, tc, uA, uc, e0, e1, e2, e3, e4, e5, he⟩ := hat2.ex
      have i1 : (0 : Int) ≤ (k : Int) := by omega
      have i2 : (k : Int) < (n : Int) := by omega
      have s1 : IntKind.i64.wrap (1 : Int) = 1 := by decide
      rcases (show z = 0 ∨ z = 1 by omega) with rfl | rfl
      all_goals
        clear hx hat hat2 he e0 e1 e2 e3
        go_wp2_with fail
        go_quiet ((go_at_call 30; exact Calls.quiet_of_same (nest_0 _ _ _)))
        go_wp2_with fail
        have HQ2 : Hid (∃ q, wr.drewN nq = w.drewN q) := Lib.hid (by obtain ⟨q, rfl⟩ := HQ.out; exact ⟨q + nq, by rw [World.drewN_drewN]⟩)
        exact ⟨⟨k + 1, 1, by omega, by decide, by decide, rfl, by go_num, HQ2⟩, by simp [intOf]; omega⟩
    · go_wp2_with fail
      go_ret
      exact ⟨⟨z, hz0, hz1, rfl⟩, HQ.out⟩
set_option maxRecDepth 10000 in
set_option maxHeartbeats 2000000 in
theorem vars_f {F : Nat → Prop} {D d : Nat} (v : Value) (ts : List St) (A : Option Addr) (n c : Nat) (w : World) (hn : n = ts.length) (h : RowS F w D d ts A c) (hf : flL ts = true) (hn2 : n ≤ 1000000) : Calls Try.prog 43 #[v, .slice A n c] w fun e w' => e = .returned v ∧ ∃ q, w' = w.drewN q := by
  have hc : n ≤ c := by rw [hn]; exact h.1
  have Hn := Lib.hid hn
  have H := Lib.hid h
  have Hf := Lib.hid hf
  clear hn h hf
  go_enter Try.func43, Try.ntmps43
  go_wp2_with fail
  go_loopw [0, 5] (fun u i wr => ∃ k : Nat, k ≤ n ∧ u = v ∧ i = .int .i64 (k : Int) ∧ Hid (∃ q, wr = w.drewN q)) (fun _ i _ => n - (intOf i).toNat)
  case atStart => exact ⟨0, Nat.zero_le _, rfl, rfl, Lib.hid ⟨0, rfl⟩⟩
  case round =>
    obtain ⟨k, hk, rfl, rfl, HQ⟩ := hrel
    by_cases hlt : k < n
    · obtain ⟨x, hx⟩ : ∃ x, ts[k]? = some x := ⟨ts[k]'(by rw [← Hn.out]; exact hlt), List.getElem?_eq_getElem _⟩
      obtain ⟨g, off, kk, l, s, es, rfl, rfl, hFg, hat⟩ := flS_at H.out Hf.out hx
      have hat2 : AtS F wr D g (off + k * 6) kk l s es := hat.keep hFg (fun b _ => by obtain ⟨q, rfl⟩ := HQ.out; rfl)
      have k1 := hat2.k1
      obtain ⟨eA, ec, tA, tc, uA, uc, e0, e1, e2, e3, e4, e5, he⟩ := hat2.ex
      have i1 : (0 : Int) ≤ (k : Int) := by omega
      have i2 : (k : Int) < (n : Int) := by omega
      clear hx hat hat2 he e1 e2 e3
      go_wp2_with fail
      go_quiet ((go_at_call 43; exact Calls.quiet_of_same (vars_0 _ _ _ _)))
      go_wp2_with fail
      have HQ2 : Hid (∃ q, wr.drewN nq = w.drewN q) := Lib.hid (by obtain ⟨q, rfl⟩ := HQ.out; exact ⟨q + nq, by rw [World.drewN_drewN]⟩)
      exact ⟨⟨k + 1, by omega, rfl, by go_num, HQ2⟩, by simp [intOf]; omega⟩
    · go_wp2_with fail
      go_ret
      exact ⟨rfl, HQ.out⟩
end Go.Proofs.Ytjmbllbnlnjanaa
