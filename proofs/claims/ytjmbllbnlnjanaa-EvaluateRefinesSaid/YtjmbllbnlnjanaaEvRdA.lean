/-
  check.Locals of a function without parameters and variables; numbers.exprs on numbers and operations. Conditions: a million at most; what is read lies below.
-/
import Derived.Test.YtjmbllbnlnjanaaScB
import Derived.Lib.SliceRun
import Derived.Deep.RegionHeld3
import Derived.Test.YtjmbllbnlnjanaaEvX
namespace Go.Proofs.Ytjmbllbnlnjanaa
open Go.RowKit

theorem run_append_1 {S T : TypeId} (W : World) (ty : TypeId) (i : TypeInfo) (ht : Try.prog.underlying S = some (.slice T)) (hi : Try.prog.info? T = some i) (b : Addr) (pA : Option Addr) (pc : Nat) : (Builtin.append_ #[S, S] ty #[.slice (some b) 0 0, .slice pA 0 pc]).run Try.prog W = .ok (.slice (some b) 0 0) W := by
  cases pA <;> simp [Builtin.append_, run_underlying ht, sizeOf, typeInfo, hi, Builtin.lenOf, Builtin.firstCells, loadCells, loadCellsFrom, storeCells]
theorem wpList_append_1 {S T : TypeId} {ops : Array Oper} {rest : List Oper} {o : Oper} {a : Act} {w : World} {Q : Exit → Act → World → Prop} (i : TypeInfo) (ht : Try.prog.underlying S = some (.slice T)) (hi : Try.prog.info? T = some i) (hgd : o.guard = none) (s x : Operand)
    (ho : o.op = .call { callee := .builtin .append, args := #[s, x], argTypes := #[S, S] }) (b : Addr) (pA : Option Addr) (pc : Nat) (hs : a.eval s = .slice (some b) 0 0) (hx : a.eval x = .slice pA 0 pc) (h : wpList Try.prog ops Q rest (a.put o.dst (.slice (some b) 0 0)) w) :
    wpList Try.prog ops Q (o :: rest) a w := by
  refine wpList_plain hgd fun K hK => ?_
  have hrun := run_append_1 w o.type i ht hi b pA pc
  unfold Oper.wp
  simp [execOp, ho, resolve, invoke, builtin, hs, hx, hrun, Result.andThen]
  exact hK _ _ h
set_option maxRecDepth 10000 in
set_option maxHeartbeats 1000000 in
theorem clone_0 (pA : Option Addr) (pc : Nat) (w : World) : Calls Try.prog 64 #[.slice pA 0 pc] w fun e w' => (∃ A c, e = .returned (.slice A 0 c)) ∧ Below w.heap.size w w' := by
  have q62 : ∀ (w : World) (a : Option Addr) (n c n' c' : Nat), (binOp .eql 62 (.slice a n c) (.slice none n' c')).run Try.prog w = .ok (.bool a.isNone) w := fun w a n c n' c' => Lib.run_eql_slice_nil w _ _ a n c n' c' Try.underlying62
  cases pA with
  | none =>
    go_enter Try.func64, Try.ntmps64
    go_wp2_with fail
    go_ret
    exact ⟨⟨_, _, rfl⟩, Below.refl _ _⟩
  | some a =>
    go_enter Try.func64, Try.ntmps64
    go_wp2_with (at_builtin; refine Pause.out ?_)
    obtain ⟨i1, hi1, _⟩ := info_parts infoStrR
    refine Pause.of (wpList_append_1 i1 Try.underlying62 hi1 rfl (.tmp 5) (.tmp 6) rfl _ _ _ rfl rfl ?_)
    go_wp2_with fail
    go_ret
    exact ⟨⟨_, _, rfl⟩, (Below.refl _ w).alloc (Nat.le_refl _) _⟩
set_option maxRecDepth 10000 in
theorem wv_0 (v : Value) (A : Option Addr) (c : Nat) (w : World) : Calls Try.prog 63 #[v, .slice A 0 c] w fun e w' => e = .returned v ∧ Below w.heap.size w w' := by
  go_enter Try.func63, Try.ntmps63
  go_wp2_with fail
  go_loop [0, 9] (fun u i => u = v ∧ i = .int .i64 0) (fun _ _ => 0)
  case atStart => exact ⟨rfl, rfl⟩
  case round =>
    obtain ⟨rfl, rfl⟩ := hrel
    go_wp2_with fail
    go_ret
    exact ⟨rfl, Below.refl _ _⟩
set_option maxRecDepth 10000 in
set_option maxHeartbeats 2000000 in
theorem wv_f {F : Nat → Prop} {D d : Nat} (v : Value) (ts : List St) (A : Option Addr) (n c : Nat) (w : World) (hn : n = ts.length) (h : RowS F w D d ts A c) (hF : ∀ b, F b → b < w.heap.size) (hf : flL ts = true) (hn2 : n ≤ 1000000) : Calls Try.prog 63 #[v, .slice A n c] w fun e w' => e = .returned v ∧ Below w.heap.size w w' := by
  have hc : n ≤ c := by rw [hn]; exact h.1
  have Hn := Lib.hid hn
  have H := Lib.hid h
  have Hf := Lib.hid hf
  have HF := Lib.hid hF
  clear hn h hf hF
  go_enter Try.func63, Try.ntmps63
  go_wp2_with fail
  go_loopw [0, 9] (fun u i wr => ∃ k : Nat, k ≤ n ∧ u = v ∧ i = .int .i64 (k : Int) ∧ Hid (Below w.heap.size w wr)) (fun _ i _ => n - (intOf i).toNat)
  case atStart => exact ⟨0, Nat.zero_le _, rfl, rfl, Lib.hid (Below.refl _ _)⟩
  case round =>
    obtain ⟨k, hk, rfl, rfl, HB⟩ := hrel
    by_cases hlt : k < n
    · obtain ⟨x, hx⟩ : ∃ x, ts[k]? = some x := ⟨ts[k]'(by rw [← Hn.out]; exact hlt), List.getElem?_eq_getElem _⟩
      obtain ⟨g, off, kk, l, s, es, rfl, rfl, hFg, hat⟩ := flS_at H.out Hf.out hx
      have hat2 : AtS F wr D g (off + k * 6) kk l s es := hat.keep hFg (fun b hb => HB.out.block b (HF.out b hb))
      have k1 := hat2.k1
      obtain ⟨eA, ec, tA, tc, uA, uc, e0, e1, e2, e3, e4, e5, he⟩ := hat2.ex
      have hb1 := (Below.refl _ wr).alloc (Nat.le_refl _) (.cells #[.int .i64 kk, .int .i64 l, .string s, .slice eA es.length ec, .slice tA 0 tc, .slice uA 0 uc] 101)
      have hX1 := heap_alloc_new wr (.cells #[.int .i64 kk, .int .i64 l, .string s, .slice eA es.length ec, .slice tA 0 tc, .slice uA 0 uc] 101)
      have hlt1 := (Array.getElem?_eq_some_iff.1 hX1).1
      have HX1 := Lib.hid hX1
      have HB1 := Lib.hid (HB.out.trans (hb1.mono HB.out.size))
      clear hx hat hat2 he hb1 hX1
      go_wp2_with fail
      refine (wv_0 _ _ _ _).mono ?_
      rintro e w2 ⟨rfl, hb2⟩
      have hX2 := (hb2.block _ hlt1).trans HX1.out
      have x5 := cell_of_row _ _ 5 _ _ _ hX2
      have HB2 := Lib.hid (HB1.out.trans (hb2.mono HB1.out.size))
      clear hX2 hb2 HX1 HB1 HB
      go_wp2_with fail
      refine (wv_0 _ _ _ _).mono ?_
      rintro e w3 ⟨rfl, hb3⟩
      have HB3 := Lib.hid (HB2.out.trans (hb3.mono HB2.out.size))
      clear hb3 HB2
      go_wp2_with fail
      exact ⟨⟨k + 1, by omega, rfl, by go_num, HB3⟩, by simp [intOf]; omega⟩
    · go_wp2_with fail
      go_ret
      exact ⟨rfl, HB.out⟩
set_option maxRecDepth 10000 in
set_option maxHeartbeats 2000000 in
theorem locals_c {F : Nat → Prop} {D d : Nat} (nm : ByteArray) (ln : Int) (pA : Option Addr) (pc : Nat) (ts : List St) (A : Option Addr) (n c : Nat) (w : World) (hn : n = ts.length) (h : RowS F w D d ts A c) (hF : ∀ b, F b → b < w.heap.size) (hf : flL ts = true) (hn2 : n ≤ 1000000) :
    Calls Try.prog 48 #[.agg #[.string nm, .int .i64 ln, .slice pA 0 pc, .slice A n c]] w fun e w' => (∃ A' c', e = .returned (.slice A' 0 c')) ∧ Below w.heap.size w w' := by
  have hb1 := (Below.refl _ w).alloc (Nat.le_refl _) (.cells #[.string nm, .int .i64 ln, .slice pA 0 pc, .slice A n c] 65)
  have hrow := heap_alloc_new w (.cells #[.string nm, .int .i64 ln, .slice pA 0 pc, .slice A n c] 65)
  have HV := Lib.hid (fun (v : Value) (W : World) (hb : Below w.heap.size w W) => wv_f (F := F) (D := D) (d := d) v ts A n c W hn (h.keep (fun _ h => h) (fun b hb' => hb.block b (hF b hb'))) (fun b hb' => Nat.lt_of_lt_of_le (hF b hb') hb.size) hf hn2)
  have hS0 : (w.alloc (.cells #[.string nm, .int .i64 ln, .slice pA 0 pc, .slice A n c] 65)).drew.cell? ⟨w.heap.size, 2, none⟩ = some (.slice pA 0 pc) ∧ (w.alloc (.cells #[.string nm, .int .i64 ln, .slice pA 0 pc, .slice A n c] 65)).drew.cell? ⟨w.heap.size, 3, none⟩ = some (.slice A n c) ∧ Below w.heap.size w (w.alloc (.cells #[.string nm, .int .i64 ln, .slice pA 0 pc, .slice A n c] 65)).drew :=
    ⟨cell_of_row _ _ 2 _ _ _ hrow, cell_of_row _ _ 3 _ _ _ hrow, below_drew hb1⟩
  clear hb1 hrow h hF hf hn hn2
  go_enter Try.func48, Try.ntmps48
  go_wp2_with fail
  go_region_held3 (fun w' => w'.cell? ⟨w.heap.size, 2, none⟩ = some (.slice pA 0 pc) ∧ w'.cell? ⟨w.heap.size, 3, none⟩ = some (.slice A n c) ∧ Below w.heap.size w w')
    (first | exact hS0 | (go_split_ands; exact ⟨hold hb (by assumption), hold hb (by assumption), below_next (by assumption) hb⟩))
    (first | (go_at_call 64; (with_reducible refine (clone_0 pA pc _).mono ?_); rintro e w' ⟨⟨A', c', rfl⟩, hb⟩) | (go_at_call 63; (with_reducible refine (HV.out _ _ ?_).mono ?_); (go_split_ands; assumption); rintro e w' ⟨rfl, hb⟩))
  rename_i hH
  have hbel := hH.2.2
  clear hH hS0 HV
  go_wp2_with fail
  go_ret
  exact ⟨⟨_, _, rfl⟩, hbel⟩
end Go.Proofs.Ytjmbllbnlnjanaa
namespace Go.Proofs.Ytjmbllbnlnjanaa
open Go.RowKit

theorem arL_at : ∀ {xs : List Ex} {i : Nat} {x : Ex}, arL xs = true → xs[i]? = some x → arX x = true
  | [], _, _, _, h => by simp at h
  | y :: ys, 0, x, h, hi => by
    simp at hi
    subst hi
    unfold arL at h
    simp only [Bool.and_eq_true] at h
    exact h.1
  | y :: ys, i + 1, x, h, hi => by
    unfold arL at h
    simp only [Bool.and_eq_true] at h
    exact arL_at h.2 (by simpa using hi)
def NxC (D : Nat) : Prop := ∀ (F : Nat → Prop) (bl bo : Nat) (xs : List Ex) (A : Option Addr) (n c : Nat) (w : World), RowE F w D xs A c → n = xs.length → arL xs = true → plL xs = true → n ≤ 1000000 → (∀ b, F b → b < w.heap.size) → Calls Try.prog 69 #[.agg #[.map (some bl), .map (some bo)], .slice A n c] w (PXs D xs w)
set_option maxRecDepth 10000 in
set_option maxHeartbeats 4000000 in
theorem nx_step {D : Nat} (hE : ∀ D', D = D' + 1 → NxC D') : NxC D := by
  intro F bl bo xs A n c w hr hn har hpl hn2 hF
  have hb0 := (Below.refl _ w).alloc (Nat.le_refl _) (.cells #[.map (some bl), .map (some bo)] 110)
  have hrow0 := heap_alloc_new w (.cells #[.map (some bl), .map (some bo)] 110)
  have hlt0 := (Array.getElem?_eq_some_iff.1 hrow0).1
  have HE := Lib.hid hE
  have Hr := Lib.hid (hr.keep (G := F) (fun _ h => h) (fun b hb => hb0.block b (hF b hb)))
  have Hn := Lib.hid hn
  have Har := Lib.hid har
  have Hpl := Lib.hid hpl
  have HF := Lib.hid (fun b hb => Nat.lt_of_lt_of_le (hF b hb) hb0.size)
  have HRow0 := Lib.hid hrow0
  have HB0 := Lib.hid hb0
  have hs0 := hb0.size
  have hc : n ≤ c := by rw [hn]; exact hr.1
  clear hE hr hn har hpl hF hb0 hrow0
  go_enter Try.func69, Try.ntmps69
  go_wp2_with fail
  obtain ⟨W, hW⟩ : ∃ W, W = w.alloc (.cells #[.map (some bl), .map (some bo)] 110) := ⟨_, rfl⟩
  rw [← hW] at Hr HF HRow0 HB0 hs0 hlt0 ⊢
  clear hW
  go_loopw [4, 9] (fun v i wr => ExsR xs D W v i wr) (fun _ i _ => n - (intOf i).toNat)
  case atStart => exact ⟨[], xs, [], rfl, rfl, ArgRow.nil _ _ _, Below.refl _ _⟩
  case round =>
    obtain ⟨ys, zs, L, hxs, rfl, har, hb⟩ := hrel
    obtain ⟨vA, vc, rfl⟩ := arg_slice har
    have hyn : ys.length ≤ n := by rw [Hn.out, hxs]; simp
    have HB := Lib.hid hb
    have HAR := Lib.hid har
    have HXS := Lib.hid hxs
    have hszB := hb.size
    clear har hb
    cases zs with
    | nil =>
      have hyn2 : n ≤ ys.length := by rw [Hn.out, hxs]; simp
      have HR : Hid (PXs D xs w (.returned (.slice vA ys.length vc)) _) := Lib.hid ⟨vA, _, vc, rfl, by rw [hxs]; simp, by rw [hxs, List.append_nil]; exact HAR.out.row.2.keep (fun b hb => ⟨Nat.le_trans hs0 hb.1, hb.2⟩) (fun _ _ => rfl), HB0.out.trans (HB.out.mono hs0)⟩
      clear hxs HAR
      go_wp2_with fail
      go_ret
      exact HR.out
    | cons z zs =>
      have hlt : ys.length < n := by rw [Hn.out, hxs]; simp
      have hz : xs[ys.length]? = some z := by rw [hxs]; simp
      have hr1 := Hr.out.keep (G := F) (w' := wr) (fun _ h => h) (fun b hb => HB.out.block b (HF.out b hb))
      obtain ⟨g, off, c0, c1, c2, c3, c4, c5, rfl, hFg, e0, e1, e2, e3, e4, e5, hv⟩ := hr1.2 _ _ hz
      cases D with
      | zero => exact hv.elim
      | succ D =>
        obtain ⟨k, o, a, l, s, az⟩ := z
        obtain ⟨A1, cc, hve, hra⟩ := exV_iff.1 hv
        injection hve with hve
        injection hve with hve
        injection hve with q0 hve
        injection hve with q1 hve
        injection hve with q2 hve
        injection hve with q3 hve
        injection hve with q4 hve
        injection hve with q5 _
        subst q0 q1 q2 q3 q4 q5
        obtain ⟨hkk, haa⟩ := arX_kind (arL_at Har.out hz)
        have k1 : (k == 2) = false := by simp; omega
        have k2 : (k == 3) = false := by simp; omega
        have k3 : (k == 4) = false := by simp; omega
        have k4 : (k == 9) = false := by simp; omega
        have k5 : (k == 11) = false := by simp; omega
        have hb2 := (Below.refl _ wr).alloc (Nat.le_refl _) (.cells #[.int .i64 k, .int .i64 o, .int .i64 a, .int .i64 l, .string s, .slice A1 az.length cc] 104)
        have hX2 := heap_alloc_new wr (.cells #[.int .i64 k, .int .i64 o, .int .i64 a, .int .i64 l, .string s, .slice A1 az.length cc] 104)
        have hlt2 := (Array.getElem?_eq_some_iff.1 hX2).1
        have hF2 : ∀ b, F b → b < (wr.alloc (.cells #[.int .i64 k, .int .i64 o, .int .i64 a, .int .i64 l, .string s, .slice A1 az.length cc] 104)).heap.size := fun b hb => Nat.lt_of_lt_of_le (Nat.lt_of_lt_of_le (HF.out b hb) hszB) hb2.size
        obtain ⟨_, _, _, _, _, hlen, hpa⟩ := plX_parts (plL_at Hpl.out hz)
        have HC := Lib.hid (HE.out D rfl F bl bo az A1 az.length cc _ (hra.keep (G := F) (fun _ h => h) (fun b hb => hb2.block b (Nat.lt_of_lt_of_le (HF.out b hb) hszB))) rfl haa hpa hlen hF2)
        have hN2 := (hb2.block _ (Nat.lt_of_lt_of_le hlt0 hszB)).trans ((HB.out.block _ hlt0).trans HRow0.out)
        have n0 := cell_of_row _ _ 0 _ _ _ hN2
        have n1 := cell_of_row _ _ 1 _ _ _ hN2
        have hown := HAR.out.own
        have HOB : Hid (∀ b, wr.heap.size ≤ b → (Value.slice vA ys.length vc).ownBlock ≠ some b) := Lib.hid (fun b hb e => absurd (hown.lt b e).2 (Nat.not_lt.2 hb))
        have HX2 := Lib.hid hX2
        have hb2s := hb2.size
        have HB2 := Lib.hid hb2
        clear hr1 hFg hv hra hkk haa hb2 hX2 hF2 hlen hpa hN2 hown hz
        go_wp2_with fail
        refine HC.out.mono ?_
        rintro e w3 ⟨A3, m3, c3, rfl, hm3, hr3, hb3⟩
        have hX3 := (hb3.block _ hlt2).trans HX2.out
        have f5 := rp_fz hX3 5
        have b5 := cell_of_row _ _ 5 _ _ _ hX3
        have hg4 : w3.grownBy (w3.setCell ⟨wr.heap.size, 5, none⟩ (.slice A3 m3 c3)) (some wr.heap.size) := set_grown w3 ⟨wr.heap.size, 5, none⟩ _
        have row4 : (w3.setCell ⟨wr.heap.size, 5, none⟩ (.slice A3 m3 c3)).heap[wr.heap.size]? = some (.cells #[.int .i64 k, .int .i64 o, .int .i64 a, .int .i64 l, .string s, .slice A3 m3 c3] 104 (0, 0)) := row_set (i := 5) _ hX3
        have a0 := cell_of_row _ _ 0 _ _ _ row4
        have a1 := cell_of_row _ _ 1 _ _ _ row4
        have a2 := cell_of_row _ _ 2 _ _ _ row4
        have a3 := cell_of_row _ _ 3 _ _ _ row4
        have a4 := cell_of_row _ _ 4 _ _ _ row4
        have a5 := cell_of_row _ _ 5 _ _ _ row4
        have hs3 := hb3.size
        have hs4 := hg4.size
        have HB4 := Lib.hid (show Below wr.heap.size wr (w3.setCell ⟨wr.heap.size, 5, none⟩ (.slice A3 m3 c3)) from (HB2.out.trans (hb3.mono hb2s)).trans (grown_any hg4 (fun k hk => by injection hk with hk; omega) (by omega)))
        have HR4 := Lib.hid (hr3.keep (G := fun b => wr.heap.size < b ∧ b < (w3.setCell ⟨wr.heap.size, 5, none⟩ (.slice A3 m3 c3)).heap.size) (fun b hb => ⟨by omega, by omega⟩) (fun b hb => hg4.block b hb.2 (fun e => by injection e with e; omega)))
        have HM3 := Lib.hid hm3
        clear hX3 row4 hg4 hr3 hb3 hm3 HC HX2 HB2 n0 n1
        go_wp2_with (at_builtin; refine Pause.out ?_)
        obtain ⟨w4, hw4⟩ : ∃ w4, w4 = w3.setCell ⟨wr.heap.size, 5, none⟩ (.slice A3 m3 c3) := ⟨_, rfl⟩
        have hsz34 : w3.heap.size = w4.heap.size := by rw [hw4]; simp
        rw [← hw4] at HB4 HR4 hs4 ⊢
        clear hw4 a0 a1 a2 a3 a4 a5 b5 f5
        have HAR4 := Lib.hid (HAR.out.below HB4.out)
        have HV4 : Hid (ExV (fun b => wr.heap.size ≤ b ∧ b < w4.heap.size) w4 (D + 1) (.mk k o a l s az) (.agg #[.int .i64 k, .int .i64 o, .int .i64 a, .int .i64 l, .string s, .slice A3 m3 c3])) := Lib.hid (by
          have hm := HM3.out
          subst hm
          exact exV_iff.2 ⟨A3, c3, rfl, HR4.out.keep (fun b hb => ⟨by omega, hb.2⟩) (fun _ _ => rfl)⟩)
        have HB5 := Lib.hid (HB.out.trans (HB4.out.mono hszB))
        clear HB4 HR4 HM3 HAR HB
        refine Pause.of (wpList_append_ex w4 rfl (.tmp 39) (.tmp 41) rfl W.heap.size (D + 1) (.slice vA ys.length vc) ys L (.mk k o a l s az) _ _ _ _ _ _ _ _ _ rfl (by rw [← hsz34]; rfl) HAR4.out (by omega) (by omega) HV4.out (fun b hb => ⟨by omega, hb.2, HOB.out b hb.1⟩) ?_)
        intro g7 cap w7 har7 hg7
        have HS7 : Hid (ExsR xs (D + 1) W (.slice (some ⟨g7, 0, none⟩) (ys.length + 1) cap) (.int .i64 ((ys.length : Int) + 1)) w7) := Lib.hid ⟨ys ++ [.mk k o a l s az], zs, _, by rw [HXS.out]; simp, by simp, har7, HB5.out.trans (below_own HAR4.out.own hg7 (by omega))⟩
        clear har7 hg7 HAR4 HB5 HV4 HOB
        go_wp2_with fail
        exact ⟨HS7.out, by simp [intOf]; omega⟩
theorem nx_all : ∀ D : Nat, NxC D
  | 0 => nx_step (fun D' h => by cases h)
  | D + 1 => nx_step (fun D' h => by
    injection h with h
    subst h
    exact nx_all D)
end Go.Proofs.Ytjmbllbnlnjanaa
