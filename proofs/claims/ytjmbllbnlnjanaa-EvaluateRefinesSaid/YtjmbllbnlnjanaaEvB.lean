/-
  A run of print, of a statement and of a block of prints and returns that ends well. Conditions: limits and steps of at most a million of millions; fewer than 4096 numbers printed; a million statements at most.
-/
import Derived.Test.YtjmbllbnlnjanaaEvX
import Derived.Test.YtjmbllbnlnjanaaSc6
namespace Go.Proofs.Ytjmbllbnlnjanaa
open Go.RowKit

def MInt : Means Int := fun _ _ x cs => cs = [.int .i64 x]
theorem mint_keeps : MInt.Keeps := fun _ _ _ _ _ _ _ _ h => h
theorem mint_self (F : Nat → Prop) (w : World) (x : Int) : MInt F w x [.int .i64 x] := rfl
theorem infoIntR : (Try.prog.info? 3).map (fun i => (i.zero, i.size, i.bytes)) = some (some (.int .i64 0), 1, 8) := by kernel_rfl
theorem mrow_keep {base b : Nat} {w w' : World} {v : Value} {xs : List Int} {L : List Value} (h : GRow 1 3 MInt base w v xs L) (hg : w.grownBy w' (some b)) (hb : v.ownBlock ≠ some b) : GRow 1 3 MInt base w' v xs L := by
  refine ⟨?_, h.at_⟩
  rcases h.own.2 with hn | ⟨g', cap, cur, e, hb', hh, rest⟩
  · exact ⟨h.own.1, .inl hn⟩
  · exact ⟨h.own.1, .inr ⟨g', cap, cur, e, hb', (hg.block g' (Array.getElem?_eq_some_iff.1 hh).1 (fun e2 => by injection e2 with e2; subst e2; exact hb (by rw [e]; rfl))).trans hh, rest⟩⟩
/-- What a run changes: its own block, the row of its output, and what is new. -/
structure Fr (p : Nat) (v v' : Value) (w w' : World) : Prop where
  lo : Below p w w'
  keep : ∀ b, b < w.heap.size → b ≠ p → v.ownBlock ≠ some b → w'.heap[b]? = w.heap[b]?
  own : ∀ b, v'.ownBlock = some b → v.ownBlock = some b ∨ w.heap.size ≤ b
theorem Fr.trans {p : Nat} {v v1 v2 : Value} {w w1 w2 : World} (h : Fr p v v1 w w1) (k : Fr p v1 v2 w1 w2) : Fr p v v2 w w2 :=
  ⟨h.lo.trans k.lo, fun b hb hp hv => (k.keep b (Nat.lt_of_lt_of_le hb h.lo.size) hp (fun e => by
    rcases h.own b e with e2 | e2
    · exact hv e2
    · omega)).trans (h.keep b hb hp hv), fun b e => by
    rcases k.own b e with e1 | e1
    · exact h.own b e1
    · exact .inr (Nat.le_trans h.lo.size e1)⟩
theorem Fr.of_grown {p : Nat} {v : Value} {w w' : World} (h : w.grownBy w' (some p)) (hp : p ≤ w.heap.size) : Fr p v v w w' :=
  ⟨grown_any h (fun k hk => by injection hk with hk; omega) hp, fun b hb hne _ => h.block b hb (fun e => hne (by injection e)), fun b e => .inl e⟩
/-- A run and what it has printed. -/
def RnO (p : Nat) (r : Rn) (outs : List Int) (w : World) : Prop := RnP p r w ∧ ∃ L, GRow 1 3 MInt (p + 1) w r.ov outs L
def PrG (p : Nat) (r : Rn) (outs : List Int) (w : World) (e : Ending) (w' : World) : Prop := e = .returned (.agg #[.int .i64 0, .int .i64 0]) ∧ ∃ ov, RnO p { r with ov := ov } outs w' ∧ Fr p r.ov ov w w'
set_option maxRecDepth 10000 in
set_option maxHeartbeats 2000000 in
theorem print_e {p : Nat} {r : Rn} {outs : List Int} (z : Int) (w : World) (h : RnO p r outs w) (hn : outs.length < 4096) : Calls Try.prog 74 #[.pointer (some ⟨p, 0, none⟩), .int .i64 z] w (PrG p r (outs ++ [z]) w) := by
  obtain ⟨hr, L, hg⟩ := h
  obtain ⟨sz, fn, ls, ld, st, dp, inp, ov, gv, lv⟩ := r
  obtain ⟨oA, oc, rfl⟩ := own_slice hg
  have plt := (Array.getElem?_eq_some_iff.1 hr).1
  have hb1 := (Below.refl _ w).alloc (Nat.le_refl _) (.cells #[.int .i64 0, .int .i64 0] 86)
  have hZ1 := heap_alloc_new w (.cells #[.int .i64 0, .int .i64 0] 86)
  have hr1 : RnP p ⟨sz, fn, ls, ld, st, dp, inp, .slice oA outs.length oc, gv, lv⟩ (w.alloc (.cells #[.int .i64 0, .int .i64 0] 86)) := hr.below hb1
  have hgr1 := hg.below mint_keeps hb1
  have c7 := cell_of_row _ _ 7 _ _ _ hr1
  have HOU := Lib.hid (fun b hb => (hg.own.lt b hb).2)
  have hlen : ((outs.length : Int) == 4096) = false := by simp; omega
  have HZ1 := Lib.hid hZ1
  have HR1 := Lib.hid hr1
  have HGR1 := Lib.hid hgr1
  have HB1 := Lib.hid hb1
  have hsz1 : w.heap.size < (w.alloc (.cells #[.int .i64 0, .int .i64 0] 86)).heap.size := by simp
  clear hr hg hb1 hZ1 hr1 hgr1
  go_enter Try.func74, Try.ntmps74
  go_upto_region 3 with fail
  obtain ⟨W1, hW1⟩ : ∃ W1, W1 = w.alloc (.cells #[.int .i64 0, .int .i64 0] 86) := ⟨_, rfl⟩
  rw [← hW1] at HZ1 HR1 HGR1 HB1 hsz1 c7 ⊢
  clear hW1
  go_wp2_with (at_builtin; refine Pause.out ?_)
  refine Pause.of (wpList_append_g2 (k := 1) (T := 3) (S := 23) (V := MInt) W1 rfl (.tmp 16) (.tmp 18) rfl mint_keeps (.int .i64 0) 8 Try.underlying23 infoIntR rfl (by decide) (by decide) (p + 1) (.slice oA outs.length oc) outs L z [.int .i64 z] (fun _ => False) rfl rfl HGR1.out (by omega) (by omega) rfl (by simp [Value.oneCell']) (mint_self _ _ _) (fun b hb => hb.elim) ?_)
  intro g2 cap2 w2 hgr2 hg2 hat2
  have hb2 : Below (p + 1) W1 w2 := grown_any hg2 (fun k hk => (HGR1.out.own.lt k hk).1) (by omega)
  have hZ2 := (hg2.block w.heap.size hsz1 (fun e => by have := HOU.out _ e.symm; omega)).trans HZ1.out
  have hr2 := (hb2.block p (by omega)).trans HR1.out
  have f7 := rp_fz hr2 7
  have x7 := cell_of_row _ _ 7 _ _ _ hr2
  have hg3 : w2.grownBy (w2.setCell ⟨p, 7, none⟩ (.slice (some ⟨g2, 0, none⟩) (outs.length + 1) cap2)) (some p) := set_grown w2 ⟨p, 7, none⟩ _
  have HR3 : Hid (RnP p ⟨sz, fn, ls, ld, st, dp, inp, .slice (some ⟨g2, 0, none⟩) (outs.length + 1) cap2, gv, lv⟩ (w2.setCell ⟨p, 7, none⟩ (.slice (some ⟨g2, 0, none⟩) (outs.length + 1) cap2))) := Lib.hid (row_set (i := 7) _ hr2)
  have HZ3 := Lib.hid (blk_keep hg3 (by omega) hZ2)
  have HGR3 := Lib.hid (hgr2.grown mint_keeps hg3 (by omega))
  have hg2B : g2 ≠ w.heap.size := by
    rcases hat2 with h | h
    · have := HOU.out _ h
      omega
    · omega
  have HB3 := Lib.hid (show Below p w (w2.setCell ⟨p, 7, none⟩ (.slice (some ⟨g2, 0, none⟩) (outs.length + 1) cap2)) from ((HB1.out.mono (by omega)).trans (hb2.mono (by omega))).trans (grown_any hg3 (fun k hk => by injection hk with hk; omega) (by have := hb2.size; omega)))
  have HKp : Hid (∀ b, b < w.heap.size → b ≠ p → (Value.slice oA outs.length oc).ownBlock ≠ some b → (w2.setCell ⟨p, 7, none⟩ (.slice (some ⟨g2, 0, none⟩) (outs.length + 1) cap2)).heap[b]? = w.heap[b]?) := Lib.hid (fun b hb hne hov => (hg3.block b (by have := hg2.size; omega) (fun e => hne (by injection e))).trans ((hg2.block b (by omega) (fun e => hov e.symm)).trans (HB1.out.block b hb)))
  have HOw : Hid (∀ b, (Value.slice (some ⟨g2, 0, none⟩) (outs.length + 1) cap2).ownBlock = some b → (Value.slice oA outs.length oc).ownBlock = some b ∨ w.heap.size ≤ b) := Lib.hid (fun b e => by
    have e2 : g2 = b := by injection e
    subst e2
    rcases hat2 with h | h
    · exact .inl h
    · exact .inr (by omega))
  clear hgr2 hg2 hat2 hb2 hZ2 hr2 hg3 HZ1 HR1 HGR1 HB1 HOU
  go_wp2_with (with_reducible refine re_pause ?_)
  refine Pause.of (wpList_store_new _ rfl _ _ _ rfl w.heap.size _ rfl (by rfl) _ _ HZ3.out (by kernel_rfl) (by rfl) (by simp [Value.oneCell']) ?_)
  intro w9 hrow9 hg9
  have j0 := cell_of_row _ _ 0 _ _ _ hrow9
  have j1 := cell_of_row _ _ 1 _ _ _ hrow9
  have HH : Hid (PrG p ⟨sz, fn, ls, ld, st, dp, inp, .slice oA outs.length oc, gv, lv⟩ (outs ++ [z]) w (.returned (.agg #[.int .i64 0, .int .i64 0])) w9) := Lib.hid ⟨rfl, _, ⟨blk_keep hg9 (by omega) HR3.out, _, mrow_keep HGR3.out hg9 (fun e => hg2B (by injection e))⟩, HB3.out.trans (grown_any hg9 (fun k hk => by injection hk with hk; omega) (by have := HB3.out.size; omega)), fun b hb hne hov => (hg9.block b (by have := HB3.out.size; omega) (fun e => by injection e with e; omega)).trans (HKp.out b hb hne hov), HOw.out⟩
  clear hrow9 hg9
  go_wp2_with fail
  exact bodyPost_ret (by simp [results, Try.results74, go_sem, j0, j1]) rfl HH.out
end Go.Proofs.Ytjmbllbnlnjanaa
namespace Go.Proofs.Ytjmbllbnlnjanaa
open Go.RowKit

/-- A numbered statement's cells: its kind and its expressions. -/
def PtrS (F : Nat → Prop) (w : World) (D : Nat) (g q : Nat) (k : Int) (es : List Ex) : Prop := ∃ A c, w.cell? ⟨g, q, none⟩ = some (.int .i64 k) ∧ w.cell? ⟨g, q + 2, none⟩ = some (.slice A es.length c) ∧ RowE F w D es A c
theorem PtrS.keep {F : Nat → Prop} {w w' : World} {D g q : Nat} {k : Int} {es : List Ex} (h : PtrS F w D g q k es) (hg : F g) (hk : ∀ b, F b → w'.heap[b]? = w.heap[b]?) : PtrS F w' D g q k es := by
  obtain ⟨A, c, e0, e2, he⟩ := h
  have e : ∀ o, w'.cell? ⟨g, o, none⟩ = w.cell? ⟨g, o, none⟩ := fun o => World.cell?_of_block (hk g hg)
  exact ⟨A, c, (e _).trans e0, (e _).trans e2, he.keep (fun _ h => h) hk⟩
/-- A statement's value and end are handed back; the run stands at s1, with outs printed. -/
def StG (p : Nat) (z kk : Int) (s1 : Int) (outs : List Int) (r : Rn) (w : World) (e : Ending) (w' : World) : Prop :=
  e = .returned (.tuple #[.int .i64 z, .agg #[.int .i64 kk, .int .i64 0]]) ∧ ∃ ov, RnO p { r with st := s1, ov := ov } outs w' ∧ Fr p r.ov ov w w' ∧ RnOk { r with st := s1 }
theorem RnO.below {p : Nat} {r : Rn} {outs : List Int} {w w' : World} (h : RnO p r outs w) (hb : Below w.heap.size w w') : RnO p r outs w' := by
  obtain ⟨h1, L, h2⟩ := h
  exact ⟨h1.below hb, L, h2.below mint_keeps hb⟩
theorem RnO.grown {p : Nat} {r r' : Rn} {outs : List Int} {w w' : World} (h : RnO p r outs w) (hg : w.grownBy w' (some p)) (hr : RnP p r' w') (ho : r'.ov = r.ov) : RnO p r' outs w' := by
  obtain ⟨h1, L, h2⟩ := h
  exact ⟨hr, L, by rw [ho]; exact h2.grown mint_keeps hg (by omega)⟩
theorem Fr.new {p B : Nat} {v v' : Value} {w w1 w2 : World} (h : Fr p v v' w w1) (hg : w1.grownBy w2 (some B)) (hB : w.heap.size ≤ B) (hp : p ≤ w.heap.size) : Fr p v v' w w2 :=
  ⟨h.lo.trans (grown_any hg (fun k hk => by injection hk with hk; omega) (by have := h.lo.size; omega)), fun b hb hp hv => (hg.block b (Nat.lt_of_lt_of_le hb h.lo.size) (fun e => by injection e with e; omega)).trans (h.keep b hb hp hv), h.own⟩
set_option maxRecDepth 10000 in
set_option maxHeartbeats 2000000 in
theorem stmt_ev {F : Nat → Prop} {p g q D : Nat} {k kx o a l z t s1 : Int} {s : ByteArray} {ys es : List Ex} {r : Rn} {outs : List Int} (w : World) (hx : PtrS F w (D + 1) g q k (.mk kx o a l s ys :: es)) (hk : k = 6 ∨ k = 7) (ha : arX (.mk kx o a l s ys) = true) (hr : RnO p r outs w) (hFg : F g) (hF : ∀ b, F b → b < p) (hok : RnOk r)
    (hst : r.st < r.ls) (hev : evX r.ls (.mk kx o a l s ys) (r.st + 1) = ((z, 0, t), s1)) (ht : t = 0) (hn : outs.length < 4096) :
    Calls Try.prog 66 #[.pointer (some ⟨p, 0, none⟩), .pointer (some ⟨g, q, none⟩)] w (StG p (if k = 6 then z else 0) (if k = 6 then 1 else 0) s1 (if k = 6 then outs else outs ++ [z]) r w) := by
  subst ht
  obtain ⟨zz, hzz⟩ : ∃ zz, zz = if k = 6 then z else 0 := ⟨_, rfl⟩
  obtain ⟨kk, hkk⟩ : ∃ kk : Int, kk = if k = 6 then 1 else 0 := ⟨_, rfl⟩
  obtain ⟨oo, hoo⟩ : ∃ oo, oo = if k = 6 then outs else outs ++ [z] := ⟨_, rfl⟩
  rw [← hzz, ← hkk, ← hoo]
  have HZZ := Lib.hid hzz
  have HKK := Lib.hid hkk
  have HOO := Lib.hid hoo
  have HKD := Lib.hid hk
  clear hzz hkk hoo hk
  have plt : p < w.heap.size := (Array.getElem?_eq_some_iff.1 hr.1).1
  have hb1 := (Below.refl _ w).alloc (Nat.le_refl _) (.cells #[.int .i64 0, .int .i64 0] 86)
  have hZ1 := heap_alloc_new w (.cells #[.int .i64 0, .int .i64 0] 86)
  have hr1 := hr.below hb1
  have hsp : stepP r.ls r.st = (0, r.st + 1) := if_neg (by omega)
  have hS := step_e _ hr1.1 hok.1 (by have := hok.2.1; omega)
  have hK := step_ok hok
  rw [hsp] at hS hK
  have HS := Lib.hid hS
  have HK := Lib.hid hK
  have HX := Lib.hid (fun (w' : World) (hb : Below p w w') => hx.keep hFg (fun b hb' => hb.block b (hF b hb')))
  have HF := Lib.hid hF
  have hgp : g < p := hF g hFg
  have HFg := Lib.hid hFg
  have HA := Lib.hid ha
  have HB1 := Lib.hid hb1
  have HZ1 := Lib.hid hZ1
  have HR1 := Lib.hid hr1
  have HEv := Lib.hid hev
  have HOw : Hid (∀ b, r.ov.ownBlock = some b → b < w.heap.size) := Lib.hid (fun b hb => by obtain ⟨_, L, h⟩ := hr; exact (h.own.lt b hb).2)
  clear hx ha hr hFg hF hok hb1 hZ1 hr1 hsp hS hK hst hev
  go_enter Try.func66, Try.ntmps66
  go_wp2_with fail
  refine HS.out.mono ?_
  rintro e w2 ⟨rfl, hr2, hg2⟩
  have hro2 := HR1.out.grown hg2 hr2 rfl
  have hb3 := (Below.refl _ w2).alloc (Nat.le_refl _) (.cells #[.int .i64 0, .int .i64 0] 86)
  have hZ2 := blk_keep hg2 (by omega) HZ1.out
  have hs2 : w.heap.size < w2.heap.size := (Array.getElem?_eq_some_iff.1 hZ2).1
  have hg3 := ((grown_of_below HB1.out (some p)).trans hg2).trans (grown_of_below hb3 (some p))
  have hlo3 : Below p w _ := grown_any hg3 (fun k hk => by injection hk with hk; omega) (by omega)
  obtain ⟨A, c, d0, d2, he⟩ := HX.out _ hlo3
  obtain ⟨g', off, rfl, hFg', hp'⟩ := row_ptr (i := 0) he rfl
  rw [Nat.zero_mul, Nat.add_zero] at hp'
  have hro3 := hro2.below hb3
  have HC := Lib.hid (expr_ev D F p g' off kx o a l s ys { r with st := r.st + 1 } _ hp' HA.out hro3.1 hFg' (fun b hb => ⟨by have := HF.out b hb; have := hb3.size; omega, by have := HF.out b hb; omega⟩) HK.out)
  have hpos : (0 : Int) < ((Ex.mk kx o a l s ys :: es).length : Int) := by simp
  have hZ3 := (hb3.block _ hs2).trans hZ2
  have HZ3 := Lib.hid hZ3
  have HR3 := Lib.hid hro3
  have HG3 := Lib.hid hg3
  have hs3 := hb3.size
  clear hr2 hg2 hro2 hb3 hZ2 hg3 hlo3 he hFg' hp' hro3 hZ3 HS HZ1 HR1 HB1
  go_wp2_with fail
  refine HC.out.mono ?_
  rintro e w4 ⟨rfl, hr4, hg4, hok4⟩
  dsimp only at hr4 hok4 ⊢
  rw [HEv.out] at hr4 hok4 ⊢
  dsimp only at hr4 hok4 ⊢
  have hro4 : RnO p { r with st := s1 } outs w4 := HR3.out.grown hg4 hr4 rfl
  have hb5 := (Below.refl _ w4).alloc (Nat.le_refl _) (.cells #[.int .i64 0, .int .i64 0] 86)
  have hZ4 := blk_keep hg4 (by omega) HZ3.out
  have hs4 : w.heap.size < w4.heap.size := (Array.getElem?_eq_some_iff.1 hZ4).1
  have hg5 := (HG3.out.trans hg4).trans (grown_of_below hb5 (some p))
  have hlo5 : Below p w _ := grown_any hg5 (fun k hk => by injection hk with hk; omega) (by omega)
  obtain ⟨A5, c5, d0', _, _⟩ := HX.out _ hlo5
  have hZ5 := (hb5.block _ hs4).trans hZ4
  have hsz5 := hb5.size
  have HZ5 := Lib.hid hZ5
  have hro5 := hro4.below hb5
  have HR5 := Lib.hid hro5
  have HG5 := Lib.hid hg5
  have HK5 := Lib.hid hok4
  clear hr4 hg4 hok4 hro4 hb5 hZ4 hg5 hlo5 hZ5 hro5 HC HZ3 HR3 HG3 d0 d2 HX HF HA HFg HEv
  go_upto_region 7 with fail
  obtain ⟨W5, hW5⟩ : ∃ W5, W5 = w4.alloc (.cells #[.int .i64 0, .int .i64 0] 86) := ⟨_, rfl⟩
  rw [← hW5] at HZ5 HR5 HG5 d0' hsz5 ⊢
  clear hW5
  rcases HKD.out with rfl | rfl
  · go_wp2_with (with_reducible refine re_pause ?_)
    refine Pause.of (wpList_store_new _ rfl _ _ _ rfl w.heap.size _ rfl (by rfl) _ _ HZ5.out (by kernel_rfl) (by rfl) (by simp [Value.oneCell']) ?_)
    intro w9 hrow9 hg9
    have j0 := cell_of_row _ _ 0 _ _ _ hrow9
    have j1 := cell_of_row _ _ 1 _ _ _ hrow9
    have HH : Hid (StG p zz kk s1 oo r w (.returned (.tuple #[.int .i64 z, .agg #[.int .i64 1, .int .i64 0]])) w9) := Lib.hid (by
      rw [HZZ.out, HKK.out, HOO.out, if_pos trivial, if_pos trivial, if_pos trivial]
      obtain ⟨hp5, L5, hgr5⟩ := HR5.out
      exact ⟨rfl, r.ov, ⟨blk_keep hg9 (by omega) hp5, L5, mrow_keep hgr5 hg9 (fun e => by have := HOw.out _ e; omega)⟩, (Fr.of_grown HG5.out (by omega)).new hg9 (Nat.le_refl _) (by omega), HK5.out⟩)
    clear hrow9 hg9
    go_wp2_with fail
    exact bodyPost_ret (by simp [results, Try.results66, go_sem, j0, j1]) rfl HH.out
  · have HP := Lib.hid (print_e z W5 HR5.out hn)
    go_wp2_with fail
    refine HP.out.mono ?_
    rintro e w6 ⟨rfl, ov, hro6, hfr6⟩
    dsimp only at hfr6
    have hZ6 := (hfr6.keep w.heap.size (by omega) (by omega) (fun e => by have := HOw.out _ e; omega)).trans HZ5.out
    have HOw6 : Hid (ov.ownBlock ≠ some w.heap.size) := Lib.hid (fun e => by
      rcases hfr6.own _ e with h | h
      · have := HOw.out _ h
        omega
      · omega)
    have HZ6 := Lib.hid hZ6
    have HR6 := Lib.hid hro6
    have HF6 := Lib.hid ((Fr.of_grown (v := r.ov) HG5.out (by omega)).trans hfr6)
    clear hro6 hfr6 hZ6 HP HZ5 HR5 HG5 d0'
    go_wp2_with (with_reducible refine re_pause ?_)
    refine Pause.of (wpList_store_new _ rfl _ _ _ rfl w.heap.size _ rfl (by rfl) _ _ HZ6.out (by kernel_rfl) (by rfl) (by simp [Value.oneCell']) ?_)
    intro w9 hrow9 hg9
    have j0 := cell_of_row _ _ 0 _ _ _ hrow9
    have j1 := cell_of_row _ _ 1 _ _ _ hrow9
    have HH : Hid (StG p zz kk s1 oo r w (.returned (.tuple #[.int .i64 0, .agg #[.int .i64 0, .int .i64 0]])) w9) := Lib.hid (by
      rw [HZZ.out, HKK.out, HOO.out, if_neg (by decide), if_neg (by decide), if_neg (by decide)]
      obtain ⟨hp6, L6, hgr6⟩ := HR6.out
      exact ⟨rfl, ov, ⟨blk_keep hg9 (by omega) hp6, L6, mrow_keep hgr6 hg9 HOw6.out⟩, HF6.out.new hg9 (Nat.le_refl _) (by omega), HK5.out⟩)
    clear hrow9 hg9
    go_wp2_with fail
    exact bodyPost_ret (by simp [results, Try.results66, go_sem, j0, j1]) rfl HH.out
end Go.Proofs.Ytjmbllbnlnjanaa
namespace Go.Proofs.Ytjmbllbnlnjanaa
open Go.RowKit

/-- What a block of prints and returns does: nothing where an expression does not end well. -/
def runB (ls : Int) : List (Int × Ex) → Int → List Int → Option (Int × Int × Int × List Int)
  | [], st, os => some (0, 0, st, os)
  | (k, x) :: l, st, os =>
    if st < ls ∧ (evX ls x (st + 1)).1.2.1 = 0 ∧ (evX ls x (st + 1)).1.2.2 = 0 then
      (if k = 6 then some ((evX ls x (st + 1)).1.1, 1, (evX ls x (st + 1)).2, os) else runB ls l (evX ls x (st + 1)).2 (os ++ [(evX ls x (st + 1)).1.1]))
    else none
theorem runB_len {ls : Int} : ∀ {l : List (Int × Ex)} {st : Int} {os : List Int} {z kk s1 : Int} {o2 : List Int}, runB ls l st os = some (z, kk, s1, o2) → os.length ≤ o2.length
  | [], _, _, _, _, _, _, h => by
    injection h with h
    injection h with _ h
    injection h with _ h
    injection h with _ h
    subst h
    exact Nat.le_refl _
  | (k, x) :: l, st, os, _, _, _, _, h => by
    unfold runB at h
    split at h
    · split at h
      · injection h with h
        injection h with _ h
        injection h with _ h
        injection h with _ h
        subst h
        exact Nat.le_refl _
      · have := runB_len h
        simp at this
        omega
    · cases h
/-- The row of a block's statements. -/
def RowB (F : Nat → Prop) (w : World) (D : Nat) (l : List (Int × Ex)) (g : Nat) : Prop := ∀ i k x, l[i]? = some (k, x) → ∃ es, PtrS F w (D + 1) g (i * 5) k (x :: es)
/-- The block under way. -/
def BkR (p : Nat) (l : List (Int × Ex)) (z kk s1 : Int) (o2 : List Int) (r : Rn) (W : World) (v : Value) (wr : World) : Prop :=
  ∃ pre rest st os ov, l = pre ++ rest ∧ v = .int .i64 (pre.length : Int) ∧ runB r.ls rest st os = some (z, kk, s1, o2) ∧ RnO p { r with st := st, ov := ov } os wr ∧ Fr p r.ov ov W wr ∧ RnOk { r with st := st }
theorem runB_cons {ls : Int} {k : Int} {x : Ex} {l : List (Int × Ex)} {st : Int} {os : List Int} {q : Int × Int × Int × List Int} (h : runB ls ((k, x) :: l) st os = some q) :
    ∃ z s1, st < ls ∧ evX ls x (st + 1) = ((z, 0, 0), s1) ∧ (if k = 6 then some (z, 1, s1, os) else runB ls l s1 (os ++ [z])) = some q := by
  unfold runB at h
  split at h
  · rename_i hc
    obtain ⟨h1, h2, h3⟩ := hc
    generalize evX ls x (st + 1) = y at h h2 h3
    obtain ⟨⟨z, k1, t1⟩, s1⟩ := y
    dsimp only at h h2 h3
    subst h2 h3
    exact ⟨z, s1, h1, rfl, h⟩
  · cases h
theorem cell2_fr {w w2 : World} {p B : Nat} {r : Rn} {outs : List Int} {v : Value} {v0 v1 a b : Value} {T : TypeId} {o : Obj} (hZ : w2.heap[B]? = some (.cells #[a, b] T (0, 0))) (hr : RnO p r outs w2) (hf : Fr p v r.ov w w2) (hB : w.heap.size ≤ B) (hp : p < w.heap.size) (hov : r.ov.ownBlock ≠ some B) :
    (((w2.setCell ⟨B, 0, none⟩ v0).setCell ⟨B, 1, none⟩ v1).alloc o).drew.cell? ⟨B, 0, none⟩ = some v0 ∧ (((w2.setCell ⟨B, 0, none⟩ v0).setCell ⟨B, 1, none⟩ v1).alloc o).drew.cell? ⟨B, 1, none⟩ = some v1 ∧ RnO p r outs (((w2.setCell ⟨B, 0, none⟩ v0).setCell ⟨B, 1, none⟩ v1).alloc o).drew ∧ Fr p v r.ov w (((w2.setCell ⟨B, 0, none⟩ v0).setCell ⟨B, 1, none⟩ v1).alloc o).drew := by
  have h1 : ((w2.setCell ⟨B, 0, none⟩ v0).setCell ⟨B, 1, none⟩ v1).heap[B]? = some (.cells #[v0, v1] T (0, 0)) := row_set (i := 1) v1 (row_set (i := 0) v0 hZ)
  have hg1 : w2.grownBy ((w2.setCell ⟨B, 0, none⟩ v0).setCell ⟨B, 1, none⟩ v1) (some B) := (set_grown w2 ⟨B, 0, none⟩ v0).trans (set_grown _ ⟨B, 1, none⟩ v1)
  have hb := (Below.refl _ ((w2.setCell ⟨B, 0, none⟩ v0).setCell ⟨B, 1, none⟩ v1)).alloc (Nat.le_refl _) o
  have h2 := (hb.block _ (Array.getElem?_eq_some_iff.1 h1).1).trans h1
  have hg9 : w2.grownBy (((w2.setCell ⟨B, 0, none⟩ v0).setCell ⟨B, 1, none⟩ v1).alloc o).drew (some B) := hg1.trans (grown_of_below (below_drew hb) (some B))
  obtain ⟨hp2, L, hg⟩ := hr
  have hr1 : RnP p r (((w2.setCell ⟨B, 0, none⟩ v0).setCell ⟨B, 1, none⟩ v1).alloc o).drew := blk_keep hg9 (by omega) hp2
  exact ⟨cell_of_row _ _ 0 _ _ _ h2, cell_of_row _ _ 1 _ _ _ h2, ⟨hr1, L, mrow_keep hg hg9 hov⟩, hf.new hg9 hB (by omega)⟩
set_option maxRecDepth 10000 in
set_option maxHeartbeats 4000000 in
theorem block_ev {F : Nat → Prop} {p D g n c : Nat} {l : List (Int × Ex)} {r : Rn} {outs o2 : List Int} {z kk s1 : Int} (w : World) (hn : n = l.length) (hn2 : n ≤ 1000000) (hrow : RowB F w D l g) (hkd : ∀ y ∈ l, (y.1 = 6 ∨ y.1 = 7) ∧ arX y.2 = true) (hr : RnO p r outs w) (hFg : F g) (hF : ∀ b, F b → b < p) (hok : RnOk r)
    (hrun : runB r.ls l r.st outs = some (z, kk, s1, o2)) (ho : o2.length < 4096) :
    Calls Try.prog 50 #[.pointer (some ⟨p, 0, none⟩), .slice (some ⟨g, 0, none⟩) n c] w (StG p z kk s1 o2 r w) := by
  have plt : p < w.heap.size := (Array.getElem?_eq_some_iff.1 hr.1).1
  have hgp : g < p := hF g hFg
  have hb1 := (Below.refl _ w).alloc (Nat.le_refl _) (.cells #[.int .i64 0, .int .i64 0] 86)
  have hZ1 := heap_alloc_new w (.cells #[.int .i64 0, .int .i64 0] 86)
  have hsz1 : w.heap.size < (w.alloc (.cells #[.int .i64 0, .int .i64 0] 86)).heap.size := by simp
  have HOw : Hid (∀ b, r.ov.ownBlock = some b → b < w.heap.size) := Lib.hid (fun b hb => by obtain ⟨_, L, h⟩ := hr; exact (h.own.lt b hb).2)
  have HR1 := Lib.hid (hr.below hb1)
  have HX := Lib.hid (fun (w' : World) (hb : Below p w w') i k x (hi : l[i]? = some (k, x)) => by
    obtain ⟨es, h⟩ := hrow i k x hi
    exact (⟨es, h.keep hFg (fun b hb' => hb.block b (hF b hb'))⟩ : ∃ es, PtrS F w' (D + 1) g (i * 5) k (x :: es)))
  have HB1 := Lib.hid hb1
  have HZ1 := Lib.hid hZ1
  have HF := Lib.hid hF
  have HFg := Lib.hid hFg
  have HKd := Lib.hid hkd
  have Hn := Lib.hid hn
  have HOk := Lib.hid hok
  have HRun := Lib.hid hrun
  clear hrow hkd hr hFg hF hok hrun hb1 hZ1 hn
  go_enter Try.func50, Try.ntmps50
  go_wp2_with fail
  obtain ⟨W1, hW1⟩ : ∃ W1, W1 = w.alloc (.cells #[.int .i64 0, .int .i64 0] 86) := ⟨_, rfl⟩
  rw [← hW1] at HR1 HB1 HZ1 hsz1 ⊢
  clear hW1
  go_loopw [11] (fun v wr => BkR p l z kk s1 o2 r W1 v wr) (fun v _ => n - (intOf v).toNat)
  case atStart => exact ⟨[], l, r.st, outs, r.ov, rfl, rfl, HRun.out, HR1.out, ⟨Below.refl p W1, fun _ _ _ _ => rfl, fun b e => .inl e⟩, HOk.out⟩
  case round =>
    obtain ⟨pre, rest, st, os, ov, hl, rfl, hru, hro, hfr, hokr⟩ := hrel
    have hpn : pre.length ≤ n := by rw [Hn.out, hl]; simp
    have hZr := (hfr.keep w.heap.size hsz1 (by omega) (fun e => by have := HOw.out _ e; omega)).trans HZ1.out
    have hszr := hfr.lo.size
    have hov : ov.ownBlock ≠ some w.heap.size := fun e => by
      rcases hfr.own _ e with h | h
      · have := HOw.out _ h
        omega
      · omega
    have HFr := Lib.hid hfr
    have HRo := Lib.hid hro
    have HZr := Lib.hid hZr
    have HOv := Lib.hid hov
    have HOkr := Lib.hid hokr
    have HL := Lib.hid hl
    have HF0 : Hid (Fr p r.ov r.ov w W1) := Lib.hid (Fr.of_grown (grown_of_below HB1.out (some p)) (by omega))
    clear hfr hro hZr hov hokr
    cases rest with
    | nil =>
      have hpn2 : n ≤ pre.length := by rw [Hn.out, hl]; simp
      injection hru with hru
      injection hru with q1 hru
      injection hru with q2 hru
      injection hru with q3 q4
      subst q1 q2 q3 q4
      clear hl
      go_wp2_with (with_reducible refine re_pause ?_)
      refine Pause.of (wpList_store_new _ rfl _ _ _ rfl w.heap.size _ rfl (by rfl) _ _ HZr.out (by kernel_rfl) (by rfl) (by simp [Value.oneCell']) ?_)
      intro w9 hrow9 hg9
      have j0 := cell_of_row _ _ 0 _ _ _ hrow9
      have j1 := cell_of_row _ _ 1 _ _ _ hrow9
      have HH : Hid (StG p 0 0 st os r w (.returned (.tuple #[.int .i64 0, .agg #[.int .i64 0, .int .i64 0]])) w9) := Lib.hid (by
        obtain ⟨hp5, L5, hgr5⟩ := HRo.out
        exact ⟨rfl, ov, ⟨blk_keep hg9 (by omega) hp5, L5, mrow_keep hgr5 hg9 HOv.out⟩, (HF0.out.trans HFr.out).new hg9 (Nat.le_refl _) (by omega), HOkr.out⟩)
      clear hrow9 hg9
      go_wp2_with fail
      exact bodyPost_ret (by simp [results, Try.results50, go_sem, j0, j1]) rfl HH.out
    | cons y rest =>
      obtain ⟨k0, x0⟩ := y
      obtain ⟨z0, t0, hst, hev, hnx⟩ := runB_cons hru
      have hlt : pre.length < n := by rw [Hn.out, hl]; simp
      have hi : l[pre.length]? = some (k0, x0) := by rw [hl]; simp
      obtain ⟨es, hps⟩ := HX.out wr (HB1.out.mono (by omega) |>.trans HFr.out.lo) _ _ _ hi
      obtain ⟨hk0, ha0⟩ := HKd.out _ (List.mem_of_getElem? hi)
      have hos : os.length < 4096 := Nat.lt_of_le_of_lt (runB_len hru) ho
      obtain ⟨kx, ox, ax, lx, sx, yx⟩ := x0
      rcases hk0 with rfl | rfl
      · have HC : Hid (Calls Try.prog 66 #[.pointer (some ⟨p, 0, none⟩), .pointer (some ⟨g, pre.length * 5, none⟩)] wr (StG p z0 1 t0 os { r with st := st, ov := ov } wr)) := Lib.hid (stmt_ev (r := { r with st := st, ov := ov }) wr hps (.inl rfl) ha0 HRo.out HFg.out HF.out HOkr.out hst hev rfl hos)
        rw [if_pos rfl] at hnx
        injection hnx with hnx
        injection hnx with q1 hnx
        injection hnx with q2 hnx
        injection hnx with q3 q4
        subst q1 q2 q3 q4
        clear hru hst hev hi hps ha0 hl hos
        go_wp2_with fail
        refine HC.out.mono ?_
        rintro e w2 ⟨rfl, ov2, hro2, hfr2, hok2⟩
        dsimp only at hfr2
        have hZ2 := (hfr2.keep w.heap.size (by omega) (by omega) HOv.out).trans HZr.out
        have hs2 : w.heap.size < w2.heap.size := (Array.getElem?_eq_some_iff.1 hZ2).1
        have hov2 : ov2.ownBlock ≠ some w.heap.size := fun e => by
          rcases hfr2.own _ e with h | h
          · exact HOv.out h
          · omega
        have y0 := cell_of_row _ _ 0 _ _ _ hZ2
        have y1 := cell_of_row _ _ 1 _ _ _ hZ2
        have f0 := rp_fz hZ2 0
        have f1 := rp_fz hZ2 1
        have hE3 := heap_alloc_new w2 (.cells #[.int .i64 1, .int .i64 0] 86)
        have e0 := cell_of_row _ _ 0 _ _ _ hE3
        have e1 := cell_of_row _ _ 1 _ _ _ hE3
        have HT := Lib.hid (cell2_fr (v0 := .int .i64 1) (v1 := .int .i64 0) (o := .cells #[.int .i64 1, .int .i64 0] 86) hZ2 hro2 ((HF0.out.trans HFr.out).trans hfr2) (Nat.le_refl _) (by omega) hov2)
        have HK2 := Lib.hid hok2
        clear hro2 hfr2 hok2 hZ2 hov2 hE3 HC HX HKd
        go_wp2_with fail
        go_region
        go_wp2_with fail
        obtain ⟨j0, j1, hro9, hfr9⟩ := HT.out
        have HH : Hid (StG p z0 1 t0 os r w (.returned (.tuple #[.int .i64 z0, .agg #[.int .i64 1, .int .i64 0]])) _) := Lib.hid ⟨rfl, ov2, hro9, hfr9, HK2.out⟩
        clear hro9 hfr9
        exact bodyPost_ret (by simp [results, Try.results50, go_sem, j0, j1]) rfl HH.out
      · have HC : Hid (Calls Try.prog 66 #[.pointer (some ⟨p, 0, none⟩), .pointer (some ⟨g, pre.length * 5, none⟩)] wr (StG p 0 0 t0 (os ++ [z0]) { r with st := st, ov := ov } wr)) := Lib.hid (stmt_ev (r := { r with st := st, ov := ov }) wr hps (.inr rfl) ha0 HRo.out HFg.out HF.out HOkr.out hst hev rfl hos)
        rw [if_neg (by decide)] at hnx
        have HNx := Lib.hid hnx
        clear hru hst hev hi hps ha0 hl hos hnx
        go_wp2_with fail
        refine HC.out.mono ?_
        rintro e w2 ⟨rfl, ov2, hro2, hfr2, hok2⟩
        dsimp only at hfr2
        have hb3 := (Below.refl _ w2).alloc (Nat.le_refl _) (.cells #[.int .i64 0, .int .i64 0] 86)
        have hlo2 := hfr2.lo.size
        have HB : Hid (BkR p l z kk s1 o2 r W1 (.int .i64 ((pre.length : Int) + 1)) (w2.alloc (.cells #[.int .i64 0, .int .i64 0] 86))) := Lib.hid ⟨pre ++ [(7, .mk kx ox ax lx sx yx)], rest, t0, os ++ [z0], ov2, by rw [HL.out]; simp, by simp, HNx.out, RnO.below hro2 hb3, (HFr.out.trans hfr2).trans (Fr.of_grown (grown_of_below hb3 (some p)) (by omega)), hok2⟩
        clear hro2 hfr2 hok2 hb3 HC HX HKd HNx
        go_wp2_with fail
        exact ⟨HB.out, by simp [intOf]; omega⟩
end Go.Proofs.Ytjmbllbnlnjanaa
