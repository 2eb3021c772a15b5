/-
  PrettyExpressions: the example of the chapter, and the law's walk. Conditions: the library's two errors and its table of powers lie where they were laid.
-/
import Derived.Test.YtmpnkbhlagalkaaGreatDoorPrTs
import Derived.Test.YtmpnkbhlagalkaaGreatDoorScanF
import Derived.Test.YtmpnkbhlagalkaaGreatDoorLaid
namespace Go.Proofs.YtmpnkbhlagalkaaGreatDoor
open Go.RowKit

theorem below_gp {W a b : World} {g : Nat} (h : Below W.heap.size W a) (hg : a.grownBy b (some g)) (hW : W.heap.size ≤ g) : Below W.heap.size W b :=
  h.trans (grown_any hg (fun k hk => by injection hk with hk; omega) h.size)
theorem errs_gp {a b : World} {g : Nat} (h : Errs a) (hg : a.grownBy b (some g)) (h1 : 2 < g) (h2 : 3 < g) : Errs b :=
  h.grown hg (fun e => absurd (show g = 2 by injection e) (Nat.ne_of_gt h1)) (fun e => absurd (show g = 3 by injection e) (Nat.ne_of_gt h2))
theorem PowT.lt {w : World} (h : PowT w) : 1 < w.heap.size := by
  unfold PowT Lib.TabIs World.var? at h
  rw [gTab] at h
  simp only [Option.bind_some] at h
  rcases Nat.lt_or_ge 1 w.heap.size with h' | h'
  · exact h'
  · rw [Array.getElem?_eq_none h'] at h; cases h
theorem PowT.low {w w' : World} (h : PowT w) (hb : Below w.heap.size w w') : PowT w' := h.next hb h.lt
theorem PowT.gp {a b : World} {g : Nat} (h : PowT a) (hg : a.grownBy b (some g)) (h1 : 1 < g) : PowT b :=
  h.next (B := 1 + 1) (grown_any hg (fun k hk => by injection hk with hk; omega) (by have := h.lt; omega)) (Nat.lt_succ_self _)
theorem tabDatum : (Rows.laid_internal_strconv_uint64pow10 : DataW Unit) = Lib.tabData .u64 Lib.pow10Tab := by
  unfold Rows.laid_internal_strconv_uint64pow10 Lib.tabData Lib.pow10Tab
  simp [List.range, List.range.loop]
theorem gTabType : (Tryz.prog.globals[1]?).map (·.type) = some 115 := by kernel_rfl
theorem powT_laid {W : World} (h : laidMet Tryz.prog [("math/bits.deBruijn32tab", Rows.laid_math_bits_deBruijn32tab), ("math/bits.deBruijn64tab", Rows.laid_math_bits_deBruijn64tab), ("internal/strconv.uint64pow10", Rows.laid_internal_strconv_uint64pow10), ("strconv.ErrRange", Rows.laid_strconv_ErrRange), ("strconv.ErrSyntax", Rows.laid_strconv_ErrSyntax)] W) : PowT W := by
  have h2 := h.tail.tail
  rw [tabDatum] at h2
  exact Lib.tabIs_of_head gTab gTabType Tryz.underlying115 Tryz.underlying106 (by kernel_rfl) (by kernel_rfl) h2
/-- How long a text is that is written. -/
theorem fmt_len {x : Ex} (h : WfX x) : ∀ d, Dp d x → (fmtE d x).length + 10 ≤ 60 * ndX x := by
  have ol : ∀ (d : Nat) (y : Ex), (opd d y).length ≤ (fmtE d y).length + 2 := fun d y => by
    unfold opd
    split
    · simp
    · omega
  have nl : ∀ {s : ByteArray}, isNm s.data.toList = true → s.data.toList.length ≤ 32 := fun {s} h => by
    cases e : s.data.toList with
    | nil => simp
    | cons c r =>
      rw [e] at h
      simp only [isNm, Bool.and_eq_true, decide_eq_true_eq] at h
      simp only [List.length_cons]
      omega
  have ll : ∀ (d : Nat) (l : List Ex), (∀ y ∈ l, (fmtE d y).length + 10 ≤ 60 * ndX y) → (lst d l).length ≤ 2 + 60 * ndL l := fun d l hl => by
    have hm : ∀ l : List Ex, (∀ y ∈ l, (fmtE d y).length + 10 ≤ 60 * ndX y) → ((l.map (fmtE d)).flatMap (fun y => [44, 32] ++ y)).length ≤ 60 * ndL l := by
      intro l
      induction l with
      | nil => intro _; simp
      | cons y l ih =>
        intro h
        have h1 := h y (by simp)
        have h2 := ih (fun z hz => h z (by simp [hz]))
        simp only [List.map_cons, List.flatMap_cons, List.length_append, List.length_cons, List.length_nil, ndL] at h2 ⊢
        omega
    unfold lst
    cases l with
    | nil => simp [List.intercalate]
    | cons y l =>
      have h1 := hl y (by simp)
      have h2 := hm l (fun z hz => hl z (by simp [hz]))
      simp only [List.map_cons, inter_more, List.length_cons, List.length_append, List.length_nil, ndL]
      omega
  induction h with
  | num a l h1 h2 =>
    intro d hd
    cases d with
    | zero => exact hd.elim
    | succ d =>
      have e : fmtE (d + 1) (.mk 1 0 a l ⟨#[]⟩ []) = numL (max a 0).toNat := by simp [fmtE]
      have := numL_small (n := (max a 0).toNat) (by omega)
      rw [e]
      simp only [ndX, ndL]
      omega
  | nam l s h =>
    intro d hd
    cases d with
    | zero => exact hd.elim
    | succ d =>
      have e : fmtE (d + 1) (.mk 13 0 0 l s []) = s.data.toList := by simp [fmtE]
      have := nl h
      rw [e]
      simp only [ndX, ndL]
      omega
  | fn l s h =>
    intro d hd
    cases d with
    | zero => exact hd.elim
    | succ d =>
      have e : fmtE (d + 1) (.mk 11 0 0 l s []) = 38 :: s.data.toList := by simp [fmtE]
      have := nl h
      rw [e]
      simp only [ndX, ndL, List.length_cons]
      omega
  | rd l =>
    intro d hd
    cases d with
    | zero => exact hd.elim
    | succ d =>
      have e : fmtE (d + 1) (.mk 12 0 0 l ⟨#[]⟩ []) = [114, 101, 97, 100] := by simp [fmtE]
      rw [e]
      simp [ndX, ndL]
  | el l s x h hx ih =>
    intro d hd
    cases d with
    | zero => exact hd.elim
    | succ d =>
      have h1 := ih d (hd x (by simp))
      have := nl h
      rw [fm_el]
      simp only [ndX, ndL, List.length_append, List.length_cons, List.length_nil]
      omega
  | un o l x h1 h2 hx ih =>
    intro d hd
    cases d with
    | zero => exact hd.elim
    | succ d =>
      have h3 := ih d (hd x (by simp))
      have h4 := ol d x
      have h5 : (signL o).length ≤ 2 := sgn_len 5 o
      rw [fm_un]
      simp only [ndX, ndL, List.length_append]
      omega
  | bin o l x y h1 h2 hx hy ih1 ih2 =>
    intro d hd
    cases d with
    | zero => exact hd.elim
    | succ d =>
      have h3 := ih1 d (hd x (by simp))
      have h4 := ih2 d (hd y (by simp))
      have h5 := ol d x
      have h6 := ol d y
      have h7 : (signL o).length ≤ 2 := sgn_len 5 o
      rw [fm_bin]
      simp only [ndX, ndL, List.length_append, List.length_cons, List.length_nil]
      omega
  | and_ l x y hx hy ih1 ih2 =>
    intro d hd
    cases d with
    | zero => exact hd.elim
    | succ d =>
      have h3 := ih1 d (hd x (by simp))
      have h4 := ih2 d (hd y (by simp))
      have h5 := ol d x
      have h6 := ol d y
      rw [fm_and]
      simp only [ndX, ndL, List.length_append, List.length_cons, List.length_nil]
      omega
  | or_ l x y hx hy ih1 ih2 =>
    intro d hd
    cases d with
    | zero => exact hd.elim
    | succ d =>
      have h3 := ih1 d (hd x (by simp))
      have h4 := ih2 d (hd y (by simp))
      have h5 := ol d x
      have h6 := ol d y
      rw [fm_or]
      simp only [ndX, ndL, List.length_append, List.length_cons, List.length_nil]
      omega
  | call l s xs h hxs ih =>
    intro d hd
    cases d with
    | zero => exact hd.elim
    | succ d =>
      have h1 := ll d xs (fun y hy => ih y hy d (hd y hy))
      have := nl h
      rw [fm_call]
      simp only [ndX, List.length_append]
      omega
  | val l x xs hx hxs ih1 ih2 =>
    intro d hd
    cases d with
    | zero => exact hd.elim
    | succ d =>
      have h1 := ll d xs (fun y hy => ih2 y hy d (hd y (by simp [hy])))
      have h3 := ih1 d (hd x (by simp))
      have h5 := ol d x
      rw [fm_val]
      simp only [ndX, ndL, List.length_append]
      split
      · simp only [List.length_cons, List.length_append, List.length_nil]
        omega
      · omega
theorem fmt_ne {x : Ex} (h : WfX x) {d : Nat} (hd : Dp d x) : fmtE d x ≠ [] := by
  obtain ⟨c, r, e, _⟩ := (fmt_sct h d hd).2
  rw [e]
  simp
theorem mean_err {l : Bytes} {n c : Nat} (h : meanX l = .error (n, c)) : c = 6 ∨ c = 7 := by
  unfold meanX at h
  cases hs : scan 1 l with
  | error k => rw [hs] at h; injection h with h; injection h with _ h; exact .inl h.symm
  | ok ts =>
    rw [hs] at h
    obtain ⟨x, s, y, r, h1, _⟩ := both_read hs
    simp only [h1] at h
    split at h
    · cases h
    · injection h with h; injection h with _ h; exact .inr h.symm
def tree5 : Ex := .mk 6 3 0 1 ⟨#[]⟩ [.mk 1 0 1 1 ⟨#[]⟩ [], .mk 6 5 0 1 ⟨#[]⟩ [.mk 1 0 2 1 ⟨#[]⟩ [], .mk 1 0 3 1 ⟨#[]⟩ []]]
def ts5 : List Tok := [⟨2, 1, 1, [49]⟩, ⟨4, 1, 0, [43]⟩, ⟨2, 1, 2, [50]⟩, ⟨4, 1, 0, [42]⟩, ⟨2, 1, 3, [51]⟩, ⟨0, 1, 0, []⟩]
theorem mean_5 : meanX [49, 43, 50, 42, 51] = .ok tree5 := by
  have hs : scan 1 [49, 43, 50, 42, 51] = .ok ts5 := by
    rw [← scanF_eq 6 1 _ (by decide)]
    kernel_rfl
  have he : exprP ts5.length ⟨ts5, 0, 0⟩ = some (tree5, ⟨[⟨0, 1, 0, []⟩], 0, 0⟩) := by kernel_rfl
  unfold meanX
  rw [hs]
  simp only [he]
  rfl
theorem wf_5 : WfX tree5 := .bin 3 1 _ _ (by decide) (by decide) (.num 1 1 (by decide) (by decide)) (.bin 5 1 _ _ (by decide) (by decide) (.num 2 1 (by decide) (by decide)) (.num 3 1 (by decide) (by decide)))
theorem nl_1 : numL (max (1 : Int) 0).toNat = [49] := by
  rw [show (max (1 : Int) 0).toNat = 1 from rfl, numL]
  rfl
theorem nl_2 : numL (max (2 : Int) 0).toNat = [50] := by
  rw [show (max (2 : Int) 0).toNat = 2 from rfl, numL]
  rfl
theorem nl_3 : numL (max (3 : Int) 0).toNat = [51] := by
  rw [show (max (3 : Int) 0).toNat = 3 from rfl, numL]
  rfl
theorem fmt_5 : ∀ d, Dp d tree5 → fmtE d tree5 = [49, 32, 43, 32, 40, 50, 32, 42, 32, 51, 41]
  | 0, h => h.elim
  | 1, h => ((h : ∀ x ∈ _, Dp 0 x) _ (List.mem_cons_self ..)).elim
  | 2, h => by
    have h1 := (h : ∀ x ∈ _, Dp 1 x) (.mk 6 5 0 1 ⟨#[]⟩ [.mk 1 0 2 1 ⟨#[]⟩ [], .mk 1 0 3 1 ⟨#[]⟩ []]) (by simp)
    exact ((h1 : ∀ x ∈ _, Dp 0 x) _ (List.mem_cons_self ..)).elim
  | d + 3, _ => by
    simp [tree5, fmtE, compK, Ex.kind, signL, nl_1, nl_2, nl_3]
set_option maxRecDepth 100000 in
set_option maxHeartbeats 2000000 in
theorem awake_5 (w : World) (ht : PowT w) : Calls Tryz.prog 4 #[] w (RetV (.bool true) w) := by
  have HP := Lib.hid (refexpr_any ⟨#[49, 43, 50, 42, 51]⟩ w (by decide))
  have HT := Lib.hid ht
  have hlt := ht.lt
  clear ht
  go_enter Tryz.func4, Tryz.ntmps4
  go_wp2_with fail
  refine HP.out.mono ?_
  rintro e w1 ⟨d, k, o, a, l, nm, A, n, c, rfl, hx, hb⟩
  have hm : meanX (⟨#[49, 43, 50, 42, 51]⟩ : ByteArray).data.toList = .ok tree5 := mean_5
  rw [hm] at hx ⊢
  have hx2 : ExV (fun q => w.heap.size ≤ q ∧ q < w1.heap.size) w1 d tree5 (.agg #[.int .i64 k, .int .i64 o, .int .i64 a, .int .i64 l, .string nm, .slice A n c]) := hx.out
  have hd := dp_of hx2
  have hb1 := (Below.refl _ w1).alloc (Nat.le_refl _) (.cells #[.int .i64 k, .int .i64 o, .int .i64 a, .int .i64 l, .string nm, .slice A n c] 30)
  have hbb := below_next hb hb1
  have hr := heap_alloc_new w1 (.cells #[.int .i64 k, .int .i64 o, .int .i64 a, .int .i64 l, .string nm, .slice A n c] 30)
  have HE := Lib.hid (prExpr_any (fun q => w.heap.size ≤ q ∧ q < w1.heap.size) d tree5 k o a l nm A n c _ (hx2.keep (fun _ h => h) (fun q hq => hb1.block q hq.2)) (fun q hq => Nat.lt_of_lt_of_le hq.2 hb1.size) (shp_of wf_5 d hd (by decide)) (HT.out.low hbb) (Nat.lt_of_lt_of_le hlt hbb.size) (by rw [fmt_5 d hd]; decide) (by rw [fmt_5 d hd]; simp))
  rw [fmt_5 d hd] at HE
  have j0 := cell_of_row _ _ 0 _ _ _ hr
  have j1 := cell_of_row _ _ 1 _ _ _ hr
  have j2 := cell_of_row _ _ 2 _ _ _ hr
  have j3 := cell_of_row _ _ 3 _ _ _ hr
  have j4 := cell_of_row _ _ 4 _ _ _ hr
  have j5 := cell_of_row _ _ 5 _ _ _ hr
  have HB := Lib.hid hbb
  clear HP hx hx2 hd hb hb1 hbb hr hm
  go_wp2_with fail
  refine HE.out.mono ?_
  rintro e w2 ⟨t, rfl, ht, hb2⟩
  have HB2 := Lib.hid (below_next HB.out hb2)
  obtain rfl : t = ⟨#[49, 32, 43, 32, 40, 50, 32, 42, 32, 51, 41]⟩ := bytesEq ht.out
  clear hb2 HE HB ht j0 j1 j2 j3 j4 j5
  go_wp2_with fail
  go_ret
  exact ⟨rfl, HB2.out⟩
def piecesP : List ByteArray := [⟨#[49]⟩, ⟨#[120]⟩, ⟨#[102, 40]⟩, ⟨#[41]⟩, ⟨#[40]⟩, ⟨#[97, 91]⟩, ⟨#[93]⟩, ⟨#[32, 43, 32]⟩, ⟨#[32, 45, 32]⟩, ⟨#[45]⟩, ⟨#[33]⟩, ⟨#[32, 42, 32]⟩, ⟨#[32, 60, 32]⟩, ⟨#[32, 38, 38, 32]⟩, ⟨#[32, 124, 124, 32]⟩, ⟨#[38, 102]⟩, ⟨#[114, 101, 97, 100]⟩, ⟨#[44, 32]⟩, ⟨#[50]⟩]
theorem piecesP_small : ∀ x ∈ piecesP, x.size ≤ 4 := by decide
set_option maxRecDepth 100000 in
theorem pe_far (A0 : Option Addr) (m c0 : Nat) (s : ByteArray) (w : World) (ht : PowT w) (hs : 300 < s.size) (hs2 : s.size ≤ maxLen) :
    Calls Tryz.prog 3 #[.slice A0 m c0, .string s] w fun e w' => e = .returned (.bool true) ∧ Below w.heap.size w w' := by
  have ha := Lib.hid (awake_5 w ht)
  unfold maxLen at hs2
  clear ht
  go_enter Tryz.func3, Tryz.ntmps3
  go_wp2_with fail
  refine ha.out.mono ?_
  rintro e w1 ⟨rfl, hb1⟩
  have Hb1 := Lib.hid hb1
  clear ha hb1
  go_wp2_with fail
  go_ret
  exact ⟨rfl, Hb1.out⟩
/-- The text of pieces under way: j more are drawn. -/
structure PcP (w : World) (g bw : Nat) (cs : List Nat) (r j : Nat) (t : ByteArray) (wr : World) : Prop where
  le : j ≤ r
  sz : t.size ≤ 4 * (r - j)
  co : ∃ k, Codes wr g cs k
  wd : ∀ k, k < 19 → ∃ x : ByteArray, x.size ≤ 4 ∧ wr.cell? ⟨bw, k, none⟩ = some (.string x)
  er : Errs wr
  tb : PowT wr
  lo : Below w.heap.size w wr
set_option maxRecDepth 100000 in
set_option maxHeartbeats 4000000 in
theorem pe_near (A0 : Option Addr) (codes : List Nat) (m c0 : Nat) (s : ByteArray) (w : World) (he : Errs w) (ht : PowT w) (hm : codes.length = m) (hmc : m ≤ c0) (hr : Rd w A0 (codes.map bv)) (hcs : ∀ x ∈ codes, x < 256) (hs : s.size ≤ 300) :
    Calls Tryz.prog 3 #[.slice A0 m c0, .string s] w fun e w' => e = .returned (.bool true) ∧ Below w.heap.size w w' := by
  have ha := Lib.hid (awake_5 w ht)
  have He := Lib.hid he
  have Ht := Lib.hid ht
  have Hm := Lib.hid hm
  have Hr := Lib.hid hr
  have Hcs := Lib.hid hcs
  have het := he.lt
  have htt := ht.lt
  clear he hm hr hcs ht
  go_enter Tryz.func3, Tryz.ntmps3
  go_wp2_with fail
  refine ha.out.mono ?_
  rintro e w1 ⟨rfl, hb1⟩
  have hn := Lib.hid (new_any A0 codes m c0 60 w1 Hm.out hmc (Hr.out.below hb1) (by decide))
  have He1 := Lib.hid (He.out.below hb1)
  have Ht1 := Lib.hid (Ht.out.low hb1)
  have Hb1 := Lib.hid hb1
  clear ha hb1 Hr Hm
  go_wp2_with fail
  refine hn.out.mono ?_
  rintro e w2 ⟨g, cs, rfl, hg, hlen, rfl, hc2, hb2⟩
  have Hcl : Hid (∀ x ∈ codes.take 60, x < 256) := Lib.hid (fun x hx => Hcs.out x (List.mem_of_mem_take hx))
  generalize codes.take 60 = cs at *
  have hgw : w.heap.size ≤ g := Nat.le_trans Hb1.out.size hg
  have hb3 := (Below.refl _ w2).alloc (Nat.le_refl _) (.cells #[.string ⟨#[49]⟩, .string ⟨#[120]⟩, .string ⟨#[102, 40]⟩, .string ⟨#[41]⟩, .string ⟨#[40]⟩, .string ⟨#[97, 91]⟩, .string ⟨#[93]⟩, .string ⟨#[32, 43, 32]⟩, .string ⟨#[32, 45, 32]⟩, .string ⟨#[45]⟩, .string ⟨#[33]⟩, .string ⟨#[32, 42, 32]⟩, .string ⟨#[32, 60, 32]⟩, .string ⟨#[32, 38, 38, 32]⟩, .string ⟨#[32, 124, 124, 32]⟩, .string ⟨#[38, 102]⟩, .string ⟨#[114, 101, 97, 100]⟩, .string ⟨#[44, 32]⟩, .string ⟨#[50]⟩] 9)
  have hrow : SRow (w2.alloc (.cells #[.string ⟨#[49]⟩, .string ⟨#[120]⟩, .string ⟨#[102, 40]⟩, .string ⟨#[41]⟩, .string ⟨#[40]⟩, .string ⟨#[97, 91]⟩, .string ⟨#[93]⟩, .string ⟨#[32, 43, 32]⟩, .string ⟨#[32, 45, 32]⟩, .string ⟨#[45]⟩, .string ⟨#[33]⟩, .string ⟨#[32, 42, 32]⟩, .string ⟨#[32, 60, 32]⟩, .string ⟨#[32, 38, 38, 32]⟩, .string ⟨#[32, 124, 124, 32]⟩, .string ⟨#[38, 102]⟩, .string ⟨#[114, 101, 97, 100]⟩, .string ⟨#[44, 32]⟩, .string ⟨#[50]⟩] 9)) w2.heap.size piecesP := srow_new w2 piecesP 9
  have Hwd : Hid (∀ k, k < 19 → ∃ x : ByteArray, x.size ≤ 4 ∧ (w2.alloc (.cells #[.string ⟨#[49]⟩, .string ⟨#[120]⟩, .string ⟨#[102, 40]⟩, .string ⟨#[41]⟩, .string ⟨#[40]⟩, .string ⟨#[97, 91]⟩, .string ⟨#[93]⟩, .string ⟨#[32, 43, 32]⟩, .string ⟨#[32, 45, 32]⟩, .string ⟨#[45]⟩, .string ⟨#[33]⟩, .string ⟨#[32, 42, 32]⟩, .string ⟨#[32, 60, 32]⟩, .string ⟨#[32, 38, 38, 32]⟩, .string ⟨#[32, 124, 124, 32]⟩, .string ⟨#[38, 102]⟩, .string ⟨#[114, 101, 97, 100]⟩, .string ⟨#[44, 32]⟩, .string ⟨#[50]⟩] 9)).cell? ⟨w2.heap.size, k, none⟩ = some (.string x)) := Lib.hid (fun k hk => ⟨piecesP[k]'hk, piecesP_small _ (List.getElem_mem _), hrow k _ (List.getElem?_eq_getElem _)⟩)
  have Hc3 := Lib.hid (codes_below hc2 hb3)
  have hx := Lib.hid (drawn_any g cs 0 14 _ Hc3.out (by decide) (by omega) Hcl.out)
  have He3 := Lib.hid ((He1.out.below hb2).below hb3)
  have Ht3 := Lib.hid ((Ht1.out.low hb2).low hb3)
  have Hb3 := Lib.hid (below_next (below_next Hb1.out hb2) hb3)
  have hgb : g < w2.heap.size := codes_lt hc2
  have hs3 := hb3.size
  clear hn hb2 hb3 hc2 Hcs He1 Ht1 Hb1 hrow
  go_upto_region 6 with fail
  generalize w2.alloc (.cells #[.string ⟨#[49]⟩, .string ⟨#[120]⟩, .string ⟨#[102, 40]⟩, .string ⟨#[41]⟩, .string ⟨#[40]⟩, .string ⟨#[97, 91]⟩, .string ⟨#[93]⟩, .string ⟨#[32, 43, 32]⟩, .string ⟨#[32, 45, 32]⟩, .string ⟨#[45]⟩, .string ⟨#[33]⟩, .string ⟨#[32, 42, 32]⟩, .string ⟨#[32, 60, 32]⟩, .string ⟨#[32, 38, 38, 32]⟩, .string ⟨#[32, 124, 124, 32]⟩, .string ⟨#[38, 102]⟩, .string ⟨#[114, 101, 97, 100]⟩, .string ⟨#[44, 32]⟩, .string ⟨#[50]⟩] 9) = w3 at *
  generalize w2.heap.size = bw at *
  go_wp2_with fail
  refine hx.out.mono ?_
  rintro e w4 ⟨r4, k4, rfl, hr4, _, hc4, hg4⟩
  have hr14 : (r4 : Int) < 14 := hr4 (by decide)
  have HL : Hid (PcP w g bw cs r4 r4 ⟨#[]⟩ w4) := Lib.hid ⟨Nat.le_refl _, Nat.zero_le _, ⟨k4, hc4⟩, fun k hk => by
    obtain ⟨x, h1, h2⟩ := Hwd.out k hk
    exact ⟨x, h1, cell_grown hg4 (by omega) h2⟩, errs_gp He3.out hg4 (by omega) (by omega), Ht3.out.gp hg4 (by omega), below_gp Hb3.out hg4 hgw⟩
  clear hx hr4 hc4 hg4 Hwd He3 Ht3 Hb3
  go_wp2_with fail
  go_loopw [7, 8] (fun u v wr => ∃ (j : Nat) (t : ByteArray), v = .int .i64 (j : Int) ∧ u = .string t ∧ PcP w g bw cs r4 j t wr) (fun _ v _ => (intOf v).toNat)
  case atStart => exact ⟨r4, _, rfl, rfl, HL.out⟩
  case round =>
    obtain ⟨j, t, rfl, rfl, hl⟩ := hrel
    have hz := hl.sz
    have hle := hl.le
    have HLr := Lib.hid hl
    obtain ⟨kc, hkc⟩ := hl.co
    clear hl
    by_cases hj : 0 < (j : Int)
    · have hN := Lib.hid (drawn_any g cs kc 19 wr hkc (by decide) (by omega) Hcl.out)
      clear hkc
      go_wp2_with fail
      refine hN.out.mono ?_
      rintro e w5 ⟨r5, k5, rfl, hr5, _, hc5, hg5⟩
      have hr52 : (r5 : Int) < 19 := hr5 (by decide)
      obtain ⟨x, hxz, hx5⟩ := HLr.out.wd r5 (by omega)
      have hx6 := cell_grown hg5 (by omega) hx5
      have HL5 : Hid (∀ t2 : ByteArray, t2.size ≤ 4 * (r4 - (j - 1)) → PcP w g bw cs r4 (j - 1) t2 w5) := Lib.hid (fun t2 ht2 => ⟨by omega, ht2, ⟨k5, hc5⟩, fun k hk => by
        obtain ⟨x, h1, h2⟩ := HLr.out.wd k hk
        exact ⟨x, h1, cell_grown hg5 (by omega) h2⟩, errs_gp HLr.out.er hg5 (by omega) (by omega), HLr.out.tb.gp hg5 (by omega), below_gp HLr.out.lo hg5 hgw⟩)
      clear hN hr5 hc5 hg5 hx5 HLr
      go_wp2_with fail
      have hj1 : (j : Int) - 1 = ((j - 1 : Nat) : Int) := by omega
      rw [hj1]
      exact ⟨⟨j - 1, _, rfl, rfl, HL5.out _ (by rw [ByteArray.size_append]; omega)⟩, by simp [intOf]; omega⟩
    · have hj0 : j = 0 := by omega
      subst hj0
      have hz2 : t.size ≤ 52 := by omega
      clear hkc hz hle
      go_wp2_with fail
      have hb7 := (Below.refl _ wr).alloc (Nat.le_refl _) (.cells #[.string s, .string t, .string (⟨#[120, 40]⟩ ++ t ++ ⟨#[41, 40, 49, 41]⟩), .string (⟨#[45, 40]⟩ ++ t ++ ⟨#[41]⟩)] 9)
      have hrow : (wr.alloc (.cells #[.string s, .string t, .string (⟨#[120, 40]⟩ ++ t ++ ⟨#[41, 40, 49, 41]⟩), .string (⟨#[45, 40]⟩ ++ t ++ ⟨#[41]⟩)] 9)).heap[wr.heap.size]? = some (.cells #[.string s, .string t, .string (⟨#[120, 40]⟩ ++ t ++ ⟨#[41, 40, 49, 41]⟩), .string (⟨#[45, 40]⟩ ++ t ++ ⟨#[41]⟩)] 9 (0, 0)) := heap_alloc_new wr _
      have Hrow : Hid (∀ k, k < 4 → ∃ x : ByteArray, x.size ≤ 600 ∧ (wr.alloc (.cells #[.string s, .string t, .string (⟨#[120, 40]⟩ ++ t ++ ⟨#[41, 40, 49, 41]⟩), .string (⟨#[45, 40]⟩ ++ t ++ ⟨#[41]⟩)] 9)).cell? ⟨wr.heap.size, k, none⟩ = some (.string x)) := Lib.hid (fun k hk => by
        have hc : k = 0 ∨ k = 1 ∨ k = 2 ∨ k = 3 := by omega
        rcases hc with rfl | rfl | rfl | rfl
        · exact ⟨s, by omega, by rw [cell_of_row _ _ 0 _ _ _ hrow]; rfl⟩
        · exact ⟨t, by omega, by rw [cell_of_row _ _ 1 _ _ _ hrow]; rfl⟩
        · exact ⟨⟨#[120, 40]⟩ ++ t ++ ⟨#[41, 40, 49, 41]⟩, by rw [ByteArray.size_append, ByteArray.size_append]; show 2 + t.size + 4 ≤ 600; omega, by rw [cell_of_row _ _ 2 _ _ _ hrow]; rfl⟩
        · exact ⟨⟨#[45, 40]⟩ ++ t ++ ⟨#[41]⟩, by rw [ByteArray.size_append, ByteArray.size_append]; show 2 + t.size + 1 ≤ 600; omega, by rw [cell_of_row _ _ 3 _ _ _ hrow]; rfl⟩)
      have He7 := Lib.hid (HLr.out.er.below hb7)
      have Ht7 := Lib.hid (HLr.out.tb.low hb7)
      have Hb7 := Lib.hid (below_next HLr.out.lo hb7)
      obtain ⟨q, hq⟩ : ∃ q, q = wr.heap.size := ⟨_, rfl⟩
      rw [← hq] at Hrow ⊢
      clear hb7 hrow HLr hq
      generalize wr.alloc (.cells #[.string s, .string t, .string (⟨#[120, 40]⟩ ++ t ++ ⟨#[41, 40, 49, 41]⟩), .string (⟨#[45, 40]⟩ ++ t ++ ⟨#[41]⟩)] 9) = w7 at *
      go_loopw [55] (fun v wr => ∃ k : Nat, k ≤ 4 ∧ v = .int .i64 (k : Int) ∧ Below w7.heap.size w7 wr) (fun v _ => 4 - (intOf v).toNat)
      case atStart => exact ⟨0, by omega, rfl, Below.refl _ _⟩
      case round =>
        obtain ⟨k, hk, rfl, hb⟩ := hrel
        have Hb := Lib.hid hb
        by_cases hlt : k < 4
        · obtain ⟨x, hxz, hx⟩ := Hrow.out k hlt
          have hx2 := hold hb hx
          have HeR := Lib.hid (He7.out.below hb)
          have HtR := Lib.hid (Ht7.out.low hb)
          clear hb hx
          have hxl : x.data.toList.length = x.size := by simp
          have HC0 := Lib.hid (parseX_any x wr (by omega) HeR.out)
          cases hm : meanX x.data.toList with
          | error pr =>
            obtain ⟨en, ec⟩ := pr
            have hec := mean_err hm
            rw [hm] at HC0
            clear hm hxl hxz
            go_wp2_with fail
            refine HC0.out.mono ?_
            rintro e w8 ⟨d8, k8, o8, a8, l8, nm8, A8, n8, c8, rfl, hx8, hb8⟩
            have hb9 := (Below.refl _ w8).alloc (Nat.le_refl _) (.cells #[.int .i64 k8, .int .i64 o8, .int .i64 a8, .int .i64 l8, .string nm8, .slice A8 n8 c8] 30)
            have HB9 := Lib.hid (below_next (below_next Hb.out hb8) hb9)
            have hcd : (((cdX (Except.error (en, ec) : Except (Nat × Nat) Ex) : Nat) : Int) != 0) = true := by
              rcases hec with rfl | rfl <;> rfl
            clear HC0 hx8 hb8 hb9 HeR HtR
            generalize ((cdX (Except.error (en, ec) : Except (Nat × Nat) Ex) : Nat) : Int) = CD at *
            generalize ((lnX (Except.error (en, ec) : Except (Nat × Nat) Ex) : Nat) : Int) = LN at *
            clear hec
            go_wp2_with fail
            exact ⟨⟨k + 1, by omega, by go_num, HB9.out⟩, by simp [intOf]; omega⟩
          | ok y =>
            have hwf := mean_wf hm
            rw [hm] at HC0
            have hnd : ndX y ≤ 601 := by omega
            have HWF := Lib.hid hwf.1
            clear hm hxl hwf
            go_wp2_with fail
            refine HC0.out.mono ?_
            rintro e w8 ⟨d8, k8, o8, a8, l8, nm8, A8, n8, c8, rfl, hx8, hb8⟩
            have hx9 : ExV (fun q => wr.heap.size ≤ q ∧ q < w8.heap.size) w8 d8 y (.agg #[.int .i64 k8, .int .i64 o8, .int .i64 a8, .int .i64 l8, .string nm8, .slice A8 n8 c8]) := hx8.out
            have hd8 := dp_of hx9
            have hb9 := (Below.refl _ w8).alloc (Nat.le_refl _) (.cells #[.int .i64 k8, .int .i64 o8, .int .i64 a8, .int .i64 l8, .string nm8, .slice A8 n8 c8] 30)
            have hr8 := heap_alloc_new w8 (.cells #[.int .i64 k8, .int .i64 o8, .int .i64 a8, .int .i64 l8, .string nm8, .slice A8 n8 c8] 30)
            have hbw := below_next hb8 hb9
            have hfl := fmt_len HWF.out d8 hd8
            have HE := Lib.hid (prExpr_any (fun q => wr.heap.size ≤ q ∧ q < w8.heap.size) d8 y k8 o8 a8 l8 nm8 A8 n8 c8 _ (hx9.keep (fun _ h => h) (fun q hq => hb9.block q hq.2)) (fun q hq => Nat.lt_of_lt_of_le hq.2 hb9.size) (shp_of HWF.out d8 hd8 (by omega)) (HtR.out.low hbw) (Nat.lt_of_lt_of_le HtR.out.lt hbw.size) (by omega) (fmt_ne HWF.out hd8))
            have HX8 := Lib.hid hx9
            have HD8 := Lib.hid hd8
            have HB9 := Lib.hid hbw
            have HA9 := Lib.hid hb9
            have HR8 := Lib.hid hr8
            have hs9 : w8.heap.size < (w8.alloc (.cells #[.int .i64 k8, .int .i64 o8, .int .i64 a8, .int .i64 l8, .string nm8, .slice A8 n8 c8] 30)).heap.size := by simp
            have j0 := cell_of_row _ _ 0 _ _ _ hr8
            have j1 := cell_of_row _ _ 1 _ _ _ hr8
            have j2 := cell_of_row _ _ 2 _ _ _ hr8
            have j3 := cell_of_row _ _ 3 _ _ _ hr8
            have j4 := cell_of_row _ _ 4 _ _ _ hr8
            have j5 := cell_of_row _ _ 5 _ _ _ hr8
            have hc0 : cdX (.ok y) = 0 := rfl
            have hl0 : lnX (.ok y) = 0 := rfl
            rw [hc0, hl0]
            clear HC0 hx8 hx9 hd8 hb8 hb9 hr8 hbw hc0 hl0 hxz
            go_upto_region 14 with fail
            generalize w8.alloc (.cells #[.int .i64 k8, .int .i64 o8, .int .i64 a8, .int .i64 l8, .string nm8, .slice A8 n8 c8] 30) = w9 at *
            go_wp2_with fail
            refine HE.out.mono ?_
            rintro e w10 ⟨u, rfl, hu, hb10⟩
            have husz : u.size ≤ 65536 := by rw [size_of hu.out]; omega
            have HB10 := Lib.hid (below_next HB9.out hb10)
            have HA10 := Lib.hid (below_next HA9.out hb10)
            have hr10 := (hb10.block _ hs9).trans HR8.out
            have hP := parseX_any u w10 husz (HeR.out.below HB10.out)
            rw [hu.out, back_mean HWF.out HD8.out] at hP
            have HP := Lib.hid hP
            have HR10 := Lib.hid hr10
            have hs10 : w8.heap.size < w10.heap.size := Nat.lt_of_lt_of_le hs9 hb10.size
            clear hP hb10 HE hr10 hu HB9 HA9 HR8 hs9 hfl j0 j1 j2 j3 j4 j5
            go_wp2_with fail
            refine HP.out.mono ?_
            rintro e w11 ⟨d11, k11, o11, a11, l11, nm11, A11, n11, c11, rfl, hx11, hb11⟩
            have hxz : ExV (fun q => w10.heap.size ≤ q ∧ q < w11.heap.size) w11 d11 (rlX y) (.agg #[.int .i64 k11, .int .i64 o11, .int .i64 a11, .int .i64 l11, .string nm11, .slice A11 n11 c11]) := hx11.out
            have hb12 := (Below.refl _ w11).alloc (Nat.le_refl _) (.cells #[.int .i64 k11, .int .i64 o11, .int .i64 a11, .int .i64 l11, .string nm11, .slice A11 n11 c11] 30)
            have hr11 := heap_alloc_new w11 (.cells #[.int .i64 k11, .int .i64 o11, .int .i64 a11, .int .i64 l11, .string nm11, .slice A11 n11 c11] 30)
            have hb1112 := below_next hb11 hb12
            have hra := (hb1112.block _ hs10).trans HR10.out
            have e1 : ExV (fun q => q < w8.heap.size) (w11.alloc (.cells #[.int .i64 k11, .int .i64 o11, .int .i64 a11, .int .i64 l11, .string nm11, .slice A11 n11 c11] 30)) (d8 + d11) y (.agg #[.int .i64 k8, .int .i64 o8, .int .i64 a8, .int .i64 l8, .string nm8, .slice A8 n8 c8]) :=
              (HX8.out.mono d11).keep (fun q hq => hq.2) (fun q hq => (hb1112.block q (by omega)).trans (HA10.out.block q hq.2))
            have e2 : ExV (fun q => q < w11.heap.size) (w11.alloc (.cells #[.int .i64 k11, .int .i64 o11, .int .i64 a11, .int .i64 l11, .string nm11, .slice A11 n11 c11] 30)) (d8 + d11) (rlX y) (.agg #[.int .i64 k11, .int .i64 o11, .int .i64 a11, .int .i64 l11, .string nm11, .slice A11 n11 c11]) := by
              have := (hxz.mono d8).keep (G := fun q => q < w11.heap.size) (fun q hq => hq.2) (fun q hq => hb12.block q hq.2)
              rwa [Nat.add_comm] at this
            have HS := Lib.hid (same_all (d8 + d11) (fun q => q < w8.heap.size) (fun q => q < w11.heap.size) y _ _ _ e1 e2 (fun q hq => Nat.lt_of_lt_of_le (Nat.lt_trans hq hs10) hb1112.size) (fun q hq => Nat.lt_of_lt_of_le hq hb12.size) (shp_of HWF.out _ (dp_of e1) (by omega)))
            have HBE := Lib.hid (below_next (below_next Hb.out HB10.out) hb1112)
            have j0 := cell_of_row _ _ 0 _ _ _ hra
            have j1 := cell_of_row _ _ 1 _ _ _ hra
            have j2 := cell_of_row _ _ 2 _ _ _ hra
            have j3 := cell_of_row _ _ 3 _ _ _ hra
            have j4 := cell_of_row _ _ 4 _ _ _ hra
            have j5 := cell_of_row _ _ 5 _ _ _ hra
            have i0 := cell_of_row _ _ 0 _ _ _ hr11
            have i1 := cell_of_row _ _ 1 _ _ _ hr11
            have i2 := cell_of_row _ _ 2 _ _ _ hr11
            have i3 := cell_of_row _ _ 3 _ _ _ hr11
            have i4 := cell_of_row _ _ 4 _ _ _ hr11
            have i5 := cell_of_row _ _ 5 _ _ _ hr11
            have hc0 : cdX (.ok (rlX y)) = 0 := rfl
            have hl0 : lnX (.ok (rlX y)) = 0 := rfl
            rw [hc0, hl0]
            clear HP hx11 hxz hb11 hb12 hb1112 hr11 hra e1 e2 HR10 HX8 HA10 HB10 hc0 hl0 HeR HtR HWF HD8
            go_wp2_with fail
            refine HS.out.mono ?_
            rintro e w13 ⟨rfl, hb13⟩
            have HBZ := Lib.hid (below_next HBE.out hb13)
            clear HS hb13 HBE i0 i1 i2 i3 i4 i5 j0 j1 j2 j3 j4 j5
            go_wp2_with fail
            exact ⟨⟨k + 1, by omega, by go_num, HBZ.out⟩, by simp [intOf]; omega⟩
        · clear Hrow
          have Hbe := Lib.hid (below_next Hb7.out hb)
          clear hb
          go_wp2_with fail
          go_ret
          exact ⟨rfl, Hbe.out⟩
end Go.Proofs.YtmpnkbhlagalkaaGreatDoor
