/-
  The reference's resolver: block on statements without blocks and names. Conditions: a million at most; the statements lie below.
-/
import Derived.Test.YtjmbllbnlnjanaaScA
namespace Go.Proofs.Ytjmbllbnlnjanaa
open Go.RowKit

theorem htL_at : ∀ {es : List Ex} {i : Nat} {x : Ex}, es[i]? = some x → htX x ≤ htL es
  | [], _, _, h => by simp at h
  | y :: ys, 0, x, h => by
    simp at h
    subst h
    show _ ≤ max _ _
    omega
  | y :: ys, i + 1, x, h => by
    have := htL_at (es := ys) (i := i) (by simpa using h)
    show _ ≤ max _ _
    omega
theorem GRow.below {α : Type} {k : Nat} {T : TypeId} {V : Means α} {base : Nat} {w w' : World} {v : Value} {xs : List α} {L : List Value} (hV : V.Keeps) (h : GRow k T V base w v xs L) (hb : Below w.heap.size w w') : GRow k T V base w' v xs L := by
  refine ⟨?_, fun j x hj => ?_⟩
  · rcases h.own.2 with hn | ⟨g', cap, cur, e, hb', hh, rest⟩
    · exact ⟨h.own.1, .inl hn⟩
    · exact ⟨h.own.1, .inr ⟨g', cap, cur, e, hb', (hb.block g' (Array.getElem?_eq_some_iff.1 hh).1).trans hh, rest⟩⟩
  · obtain ⟨cs, q1, q2, q3⟩ := h.at_ j x hj
    exact ⟨cs, q1, q2, hV _ _ _ _ _ _ (fun b hb' => ⟨hb'.1, Nat.lt_of_lt_of_le hb'.2.1 hb.size, hb'.2.2⟩) (fun b hb' => hb.block b hb'.2.1) q3⟩
set_option maxRecDepth 10000 in
theorem block_0 (p : Nat) (A : Option Addr) (c : Nat) (w : World) : Calls Try.prog 33 #[.pointer (some ⟨p, 0, none⟩), .slice A 0 c] w fun e w' => e = .returned (.slice none 0 0) ∧ w' = w := by
  go_enter Try.func33, Try.ntmps33
  go_wp2_with fail
  go_loop [5, 6] (fun v i => v = .slice none 0 0 ∧ i = .int .i64 0) (fun _ _ => 0)
  case atStart => exact ⟨rfl, rfl⟩
  case round =>
    obtain ⟨rfl, rfl⟩ := hrel
    go_wp2_with fail
    go_ret
    exact ⟨rfl, rfl⟩
/-- A statement under way in its block, its resolved expressions above it. -/
structure XbS (wr wc : World) (D : Nat) (es : List Ex) (eA : Option Addr) (ec : Nat) (T : TypeId) (cs : Array Value) : Prop where
  row : wc.heap[wr.heap.size]? = some (.cells cs T (0, 0))
  rw : RowE (fun b => wr.heap.size < b ∧ b < wc.heap.size) wc D es eA ec
  lo : Below wr.heap.size wr wc
theorem XbS.below {wr wc wd : World} {D : Nat} {es : List Ex} {eA : Option Addr} {ec : Nat} {T : TypeId} {cs : Array Value} (h : XbS wr wc D es eA ec T cs) (hb : Below wc.heap.size wc wd) : XbS wr wd D es eA ec T cs :=
  ⟨(hb.block _ (Array.getElem?_eq_some_iff.1 h.row).1).trans h.row, h.rw.keep (fun _ hb' => ⟨hb'.1, Nat.lt_of_lt_of_le hb'.2 hb.size⟩) (fun b hb' => hb.block b hb'.2), h.lo.trans (hb.mono h.lo.size)⟩
theorem XbS.grown {wr wc wd : World} {D : Nat} {es : List Ex} {eA : Option Addr} {ec : Nat} {T : TypeId} {cs ds : Array Value} (h : XbS wr wc D es eA ec T cs) (hg : wc.grownBy wd (some wr.heap.size)) (hr : wd.heap[wr.heap.size]? = some (.cells ds T (0, 0))) : XbS wr wd D es eA ec T ds :=
  ⟨hr, h.rw.keep (fun _ hb' => ⟨hb'.1, Nat.lt_of_lt_of_le hb'.2 hg.size⟩) (fun b hb' => hg.block b hb'.2 (fun e => by injection e with e; omega)), h.lo.trans (grown_any hg (fun k hk => by injection hk with hk; omega) h.lo.size)⟩
/-- A row of statements is handed back. -/
def BfG (D : Nat) (ts : List St) (w : World) (e : Ending) (w' : World) : Prop := ∃ A m c, e = .returned (.slice A m c) ∧ m = ts.length ∧ RowG 6 (MSt D 1) (fun b => w.heap.size ≤ b ∧ b < w'.heap.size) w' ts A c ∧ Below w.heap.size w w'
def BfR (D : Nat) (ts : List St) (w : World) (v i : Value) (wr : World) : Prop := ∃ ys zs L, ts = ys ++ zs ∧ i = .int .i64 (ys.length : Int) ∧ GRow 6 101 (MSt D 1) w.heap.size wr v ys L ∧ Below w.heap.size w wr
set_option maxRecDepth 100000 in
set_option maxHeartbeats 4000000 in
theorem block_f {F G : Nat → Prop} {D d base D2 d2 : Nat} {gl : GlL} {fl : List Fn} {p : Nat} {ls : List ByteArray} {es0 : Int × Int} (ts : List St) (A : Option Addr) (n c : Nat) (w : World) (hn : n = ts.length) (h : RowS F w D d ts A c) (hF : ∀ b, F b → b < w.heap.size) (hf : flL ts = true) (hn2 : n ≤ 1000000) (hs : ScP G base D2 d2 gl fl p ls es0 w) :
    Calls Try.prog 33 #[.pointer (some ⟨p, 0, none⟩), .slice A n c] w (BfG D ts w) := by
  have hc : n ≤ c := by rw [hn]; exact h.1
  have Hn := Lib.hid hn
  have H := Lib.hid h
  have HF := Lib.hid hF
  have Hf := Lib.hid hf
  have HS := Lib.hid hs
  clear hn h hf hF hs
  go_enter Try.func33, Try.ntmps33
  go_wp2_with fail
  go_loopw [5, 6] (fun v i wr => BfR D ts w v i wr) (fun _ i _ => n - (intOf i).toNat)
  case atStart => exact ⟨[], ts, [], rfl, rfl, GRow.nil, Below.refl _ _⟩
  case round =>
    obtain ⟨wo, rfl⟩ : ∃ wo : World, wo = wr := ⟨_, rfl⟩
    obtain ⟨ys, zs, L, hts, rfl, hgr, hb⟩ := hrel
    obtain ⟨vA, vc, rfl⟩ := own_slice hgr
    have hyn : ys.length ≤ n := by rw [Hn.out, hts]; simp
    have HB := Lib.hid hb
    have HGR := Lib.hid hgr
    have HTS := Lib.hid hts
    have hszB := hb.size
    clear hb hgr
    cases zs with
    | nil =>
      have hyn2 : n ≤ ys.length := by rw [Hn.out, hts]; simp
      have HR : Hid (BfG D ts w (.returned (.slice vA ys.length vc)) wo) := Lib.hid ⟨vA, _, vc, rfl, by rw [hts]; simp, by rw [hts, List.append_nil]; exact (HGR.out.row (mst_keeps _ _)).2, HB.out⟩
      clear hts HGR
      go_wp2_with fail
      go_ret
      exact HR.out
    | cons z zs =>
      have hlt : ys.length < n := by rw [Hn.out, hts]; simp
      have hz : ts[ys.length]? = some z := by rw [hts]; simp
      obtain ⟨g, off, k, l, s, es, rfl, rfl, hFg, hat⟩ := flS_at H.out Hf.out hz
      have hat1 : AtS F wo D g (off + ys.length * 6) k l s es := hat.keep hFg (fun b hb => HB.out.block b (HF.out b hb))
      have k1 := hat1.k1
      have k2 := hat1.k2
      have k3 := hat1.k3
      have Hpl := Lib.hid hat1.pl
      have hlen := hat1.len
      have Hht := Lib.hid hat1.ht
      obtain ⟨eA, ec, tA, tc, uA, uc, e0, e1, e2, e3, e4, e5, he⟩ := hat1.ex
      have hec := he.1
      have hb1 := (Below.refl _ wo).alloc (Nat.le_refl _) (.cells #[.int .i64 k, .int .i64 l, .string s, .slice eA es.length ec, .slice tA 0 tc, .slice uA 0 uc] 101)
      have HX1 := Lib.hid (heap_alloc_new wo (.cells #[.int .i64 k, .int .i64 l, .string s, .slice eA es.length ec, .slice tA 0 tc, .slice uA 0 uc] 101))
      have HE1 := Lib.hid (he.keep (G := F) (fun _ h => h) (fun b hb => hb1.block b (Nat.lt_of_lt_of_le (HF.out b hb) hszB)))
      have hsz1 : wo.heap.size + 1 = (wo.alloc (.cells #[.int .i64 k, .int .i64 l, .string s, .slice eA es.length ec, .slice tA 0 tc, .slice uA 0 uc] 101)).heap.size := by simp
      have HB1 := Lib.hid hb1
      obtain ⟨m, hm⟩ : ∃ m, m = es.length := ⟨_, rfl⟩
      rw [← hm] at e3 HX1 HE1 hsz1 HB1 hlen hec
      have Hm := Lib.hid hm
      clear hts hz hat hat1 he hb1 hm hFg
      go_wp2_with fail
      obtain ⟨W1, hW1⟩ : ∃ W1, W1 = wo.alloc (.cells #[.int .i64 k, .int .i64 l, .string s, .slice eA m ec, .slice tA 0 tc, .slice uA 0 uc] 101) := ⟨_, rfl⟩
      rw [← hW1] at HX1 HE1 hsz1 HB1 ⊢
      clear hW1 e0 e1 e2 e3 e4 e5
      go_loopw [8, 9] (fun v i wr => ExsR es D W1 v i wr) (fun _ i _ => m - (intOf i).toNat)
      case atStart => exact ⟨[], es, [], rfl, rfl, ArgRow.nil _ _ _, Below.refl _ _⟩
      case round =>
        obtain ⟨yt, zt, Lt, hes, rfl, har, hb⟩ := hrel
        obtain ⟨tvA, tvc, rfl⟩ := arg_slice har
        have hym : yt.length ≤ m := by rw [Hm.out, hes]; simp
        have hX2 := (hb.block wo.heap.size (by omega)).trans HX1.out
        have HX2 := Lib.hid hX2
        have HB2 := Lib.hid (HB1.out.trans (hb.mono (by omega)))
        have HBt := Lib.hid hb
        have HAR := Lib.hid har
        have HES := Lib.hid hes
        have hszt := hb.size
        clear hb har
        cases zt with
        | nil =>
          have hym2 : m ≤ yt.length := by rw [Hm.out, hes]; simp
          obtain rfl : es = yt := by rw [hes]; simp
          have a0 := cell_of_row _ _ 0 _ _ _ hX2
          have f3 := rp_fz hX2 3
          have b3 := cell_of_row _ _ 3 _ _ _ hX2
          have row2 : (wr.setCell ⟨wo.heap.size, 3, none⟩ (.slice tvA es.length tvc)).heap[wo.heap.size]? = some (.cells #[.int .i64 k, .int .i64 l, .string s, .slice tvA es.length tvc, .slice tA 0 tc, .slice uA 0 uc] 101 (0, 0)) := row_set (i := 3) _ hX2
          have c2 := cell_of_row _ _ 2 _ _ _ row2
          have hg2 : wr.grownBy (wr.setCell ⟨wo.heap.size, 3, none⟩ (.slice tvA es.length tvc)) (some wo.heap.size) := set_grown wr ⟨wo.heap.size, 3, none⟩ _
          have HXB : Hid (XbS wo (wr.setCell ⟨wo.heap.size, 3, none⟩ (.slice tvA es.length tvc)) D es tvA tvc 101 #[.int .i64 k, .int .i64 l, .string s, .slice tvA es.length tvc, .slice tA 0 tc, .slice uA 0 uc]) := Lib.hid (XbS.grown (wr := wo) ⟨hX2, HAR.out.row.2.keep (fun b hb => ⟨by omega, hb.2⟩) (fun _ _ => rfl), HB2.out⟩ hg2 row2)
          have HW := Lib.hid (what_6 s _ (HS.out.below (HB.out.trans (HXB.out.lo.mono hszB))))
          clear hX2 row2 hg2 hes HAR HX2 HBt HX1 HE1 HB1 HB2
          go_wp2_with fail
          refine HW.out.mono ?_
          generalize whatP gl fl ls s = zz
          rintro e w3 ⟨rfl, hb3⟩
          have hx3 := HXB.out.below hb3
          have row3 := hx3.row
          have c0 := cell_of_row _ _ 0 _ _ _ row3
          have c4 := cell_of_row _ _ 4 _ _ _ row3
          have f4 := rp_fz row3 4
          have row4 : (w3.setCell ⟨wo.heap.size, 4, none⟩ (.slice none 0 0)).heap[wo.heap.size]? = some (.cells #[.int .i64 k, .int .i64 l, .string s, .slice tvA es.length tvc, .slice none 0 0, .slice uA 0 uc] 101 (0, 0)) := row_set (i := 4) _ row3
          have hg4 : w3.grownBy (w3.setCell ⟨wo.heap.size, 4, none⟩ (.slice none 0 0)) (some wo.heap.size) := set_grown w3 ⟨wo.heap.size, 4, none⟩ _
          have c5 := cell_of_row _ _ 5 _ _ _ row4
          have f5 := rp_fz row4 5
          have row5 : ((w3.setCell ⟨wo.heap.size, 4, none⟩ (.slice none 0 0)).setCell ⟨wo.heap.size, 5, none⟩ (.slice none 0 0)).heap[wo.heap.size]? = some (.cells #[.int .i64 k, .int .i64 l, .string s, .slice tvA es.length tvc, .slice none 0 0, .slice none 0 0] 101 (0, 0)) := row_set (i := 5) _ row4
          have hg5 : (w3.setCell ⟨wo.heap.size, 4, none⟩ (.slice none 0 0)).grownBy ((w3.setCell ⟨wo.heap.size, 4, none⟩ (.slice none 0 0)).setCell ⟨wo.heap.size, 5, none⟩ (.slice none 0 0)) (some wo.heap.size) := set_grown (w3.setCell ⟨wo.heap.size, 4, none⟩ (.slice none 0 0)) ⟨wo.heap.size, 5, none⟩ _
          have z0 := cell_of_row _ _ 0 _ _ _ row5
          have z1 := cell_of_row _ _ 1 _ _ _ row5
          have z2 := cell_of_row _ _ 2 _ _ _ row5
          have z3 := cell_of_row _ _ 3 _ _ _ row5
          have z4 := cell_of_row _ _ 4 _ _ _ row5
          have z5 := cell_of_row _ _ 5 _ _ _ row5
          have HX5 := Lib.hid ((hx3.grown hg4 row4).grown hg5 row5)
          clear hb3 hx3 row3 row4 row5 hg4 hg5 HXB HW
          go_wp2_with fail
          refine (block_0 p _ _ _).mono ?_
          rintro e w3 ⟨rfl, rfl⟩
          go_wp2_with fail
          refine (block_0 p _ _ _).mono ?_
          rintro e w' ⟨rfl, rfl⟩
          go_wp2_with (at_builtin; refine Pause.out ?_)
          obtain ⟨w5, hw5⟩ : ∃ w5, w5 = (w3.setCell ⟨wo.heap.size, 4, none⟩ (.slice none 0 0)).setCell ⟨wo.heap.size, 5, none⟩ (.slice none 0 0) := ⟨_, rfl⟩
          rw [← hw5] at HX5 ⊢
          have hsz35 : w3.heap.size = w5.heap.size := by rw [hw5]; simp
          clear hw5 z0 z1 z2 z3 z4 z5 c0 c4 c5 f4 f5
          have hx5 := HX5.out
          have hsz5 := hx5.lo.size
          have hown := HGR.out.own
          have HOU := Lib.hid (fun b hb => (hown.lt b hb).2)
          have HGR5 := Lib.hid (HGR.out.below (mst_keeps D 1) hx5.lo)
          have HB5 := Lib.hid (HB.out.trans (hx5.lo.mono hszB))
          have HV5 : Hid (MSt D 1 (fun b => wo.heap.size ≤ b ∧ b < w5.heap.size) w5 (.mk k l s es [] []) [.int .i64 k, .int .i64 l, .string s, .slice tvA es.length tvc, .slice none 0 0, .slice none 0 0]) := Lib.hid (stV_iff.2 ⟨tvA, tvc, none, 0, none, 0, rfl, hx5.rw.keep (fun b hb => ⟨by omega, hb.2⟩) (fun _ _ => rfl), ⟨Nat.le_refl _, fun i x hi => by simp at hi⟩, ⟨Nat.le_refl _, fun i x hi => by simp at hi⟩⟩)
          clear hx5 hown HX5 HGR HB
          refine Pause.of (wpList_append_g (k := 6) (T := 101) (S := 63) (V := MSt D 1) w5 rfl (.tmp 123) (.tmp 125) rfl (mst_keeps _ _) _ _ Try.underlying63 infoStmtR rfl (by decide) (by decide) w.heap.size (.slice vA ys.length vc) ys L (.mk k l s es [] []) [.int .i64 k, .int .i64 l, .string s, .slice tvA es.length tvc, .slice none 0 0, .slice none 0 0] (fun b => wo.heap.size ≤ b ∧ b < w5.heap.size) rfl (by rw [← hsz35]; rfl) HGR5.out (by omega) (by omega) rfl (by simp [Value.oneCell']) HV5.out (fun b hb => ⟨by omega, hb.2, fun e => by have := HOU.out b e; omega⟩) ?_)
          intro g9 cap9 w9 har9 hg9
          have HS9 : Hid (BfR D ts w (.slice (some ⟨g9, 0, none⟩) (ys.length + 1) cap9) (.int .i64 ((ys.length : Int) + 1)) w9) := Lib.hid ⟨ys ++ [.mk k l s es [] []], zs, _, by rw [HTS.out]; simp, by simp, har9, HB5.out.trans (below_own HGR5.out.own hg9 (by omega))⟩
          clear har9 hg9 HGR5 HB5 HV5 HOU
          go_wp2_with fail
          exact ⟨HS9.out, by simp [intOf]; omega⟩
        | cons zx zt =>
          have hlt2 : yt.length < m := by rw [Hm.out, hes]; simp
          have hzx : es[yt.length]? = some zx := by rw [hes]; simp
          have hh : htX zx ≤ 64 := Nat.le_trans (htL_at hzx) Hht.out
          obtain ⟨q, qo, c0, c1, c2, c3, c4, c5, rfl, hFq, e0, e1, e2, e3, e4, e5, hv⟩ := HE1.out.2 _ _ hzx
          have hqW : q < W1.heap.size := by have := HF.out q hFq; omega
          have hk : ∀ o, World.cell? wr ⟨q, o, none⟩ = World.cell? W1 ⟨q, o, none⟩ := fun o => World.cell?_of_block (HBt.out.block q hqW)
          have d0 := (hk _).trans e0
          have d1 := (hk _).trans e1
          have d2 := (hk _).trans e2
          have d3 := (hk _).trans e3
          have d4 := (hk _).trans e4
          have d5 := (hk _).trans e5
          have hvr := hv.keep (G := F) (w' := wr) (fun _ h => h) (fun b hb => HBt.out.block b (by have := HF.out b hb; omega))
          have x3 := cell_of_row _ _ 3 _ _ _ hX2
          have HX := Lib.hid (height_all D F zx _ wr hvr (plL_at Hpl.out hzx) (by omega) (fun b hb => by have := HF.out b hb; omega))
          have HY := Lib.hid (fun (w2 : World) (hb : Below wr.heap.size wr w2) => expr_all D F p zx _ w2 (hvr.keep (fun _ h => h) (fun b hb' => hb.block b (by have := HF.out b hb'; omega))) (plL_at Hpl.out hzx) (fun b hb' => by have := HF.out b hb'; have := hb.size; omega))
          have HD := Lib.hid (And.intro d0 (And.intro d1 (And.intro d2 (And.intro d3 (And.intro d4 d5)))))
          have hqr : q < wr.heap.size := by omega
          have hxr : wo.heap.size < wr.heap.size := by omega
          clear e0 e1 e2 e3 e4 e5 hv hk hes hzx hFq hvr hX2
          go_wp2_with fail
          refine HX.out.mono ?_
          rintro e w2 ⟨rfl, hb2⟩
          have hk : ∀ o, World.cell? w2 ⟨q, o, none⟩ = World.cell? wr ⟨q, o, none⟩ := fun o => World.cell?_of_block (hb2.block q hqr)
          obtain ⟨d0', d1', d2', d3', d4', d5'⟩ := HD.out
          have g0 := (hk _).trans d0'
          have g1 := (hk _).trans d1'
          have g2 := (hk _).trans d2'
          have g3 := (hk _).trans d3'
          have g4 := (hk _).trans d4'
          have g5 := (hk _).trans d5'
          have x3' := cell_of_row _ _ 3 _ _ _ ((hb2.block _ hxr).trans HX2.out)
          have HY2 := Lib.hid (HY.out w2 hb2)
          have HAR2 := Lib.hid (HAR.out.below hb2)
          have HBt2 := Lib.hid (HBt.out.trans (hb2.mono hszt))
          have hsz2 := hb2.size
          clear hb2 hk d0 d1 d2 d3 d4 d5 d0' d1' d2' d3' d4' d5' x3 HD HY HX HAR HBt HX2
          go_wp2_with fail
          refine HY2.out.mono ?_
          rintro e w3 ⟨k4, o4, a4, l4, s4, A4, n4, c4', rfl, hx4, hb3⟩
          have hsz3 := hb3.size
          have hown := HAR2.out.own
          have HOB : Hid (∀ b, w2.heap.size ≤ b → (Value.slice tvA yt.length tvc).ownBlock ≠ some b) := Lib.hid (fun b hb e => absurd (hown.lt b e).2 (Nat.not_lt.2 hb))
          have HAR3 := Lib.hid (HAR2.out.below hb3)
          have HB3 := Lib.hid (HBt2.out.trans (hb3.mono (by omega)))
          have HV3 := Lib.hid hx4
          clear hx4 hb3 hown HY2 HAR2 HBt2 g0 g1 g2 g3 g4 g5 x3'
          go_wp2_with (at_builtin; refine Pause.out ?_)
          refine Pause.of (wpList_append_ex w3 rfl (.tmp 43) (.tmp 51) rfl W1.heap.size D (.slice tvA yt.length tvc) yt Lt zx _ _ _ _ _ _ _ _ _ rfl rfl HAR3.out (by omega) (by omega) HV3.out (fun b hb => ⟨by omega, hb.2, HOB.out b hb.1⟩) ?_)
          intro g7 cap w7 har7 hg7
          have HS7 : Hid (ExsR es D W1 (.slice (some ⟨g7, 0, none⟩) (yt.length + 1) cap) (.int .i64 ((yt.length : Int) + 1)) w7) := Lib.hid ⟨yt ++ [zx], zt, _, by rw [HES.out]; simp, by simp, har7, HB3.out.trans (below_own HAR3.out.own hg7 (by omega))⟩
          clear har7 hg7 HAR3 HB3 HV3 HOB
          go_wp2_with fail
          exact ⟨HS7.out, by simp [intOf]; omega⟩
end Go.Proofs.Ytjmbllbnlnjanaa
