/-
  The walks of package predictor: New, Predict, Update, Each, Count. Conditions: tables of 1 to 4096 counters from 0 to 3; addresses and kinds of fetches up to a million, addresses of single branches up to 4294967295; at most 1000 fetches.
-/
import Derived.Test.YtanjggfcahjkfaaRefPd
import Derived.Test.YtanjggfcahjkfaaSlRep
namespace Go.Proofs.Ytanjggfcahjkfaa
open Go.RowKit

theorem own_base {w : World} {b b' n s : Nat} {T : TypeId} {v : Value} {xs : List Value} (h : w.ownsRow b T s v n xs) (hb : b' ≤ b) : w.ownsRow b' T s v n xs := by
  refine ⟨h.1, ?_⟩
  rcases h.2 with h2 | ⟨g, cap, cur, h1, h2, h3⟩
  · exact .inl h2
  · exact .inr ⟨g, cap, cur, h1, Nat.le_trans hb h2, h3⟩
set_option maxRecDepth 10000 in
theorem pnew_own (size : Int) (w : World) : Calls Try.prog 11 #[.int .i64 size] w (OwnP (newP size) w) := by
  by_cases h : 1 ≤ size ∧ size ≤ 4096
  · obtain ⟨n, rfl⟩ := Int.eq_ofNat_of_zero_le (show 0 ≤ size by omega)
    have hP : Hid (newP (n : Int) = List.replicate n 1) := Lib.hid (by unfold newP; rw [if_pos h]; simp)
    have hn1 : 1 ≤ n := by omega
    have hn2 : n ≤ 4096 := by omega
    clear h
    have t1 : ((n : Int) < 1) = False := by simp; omega
    have t2 : (4096 < (n : Int)) = False := by simp; omega
    go_enter Try.func11, Try.ntmps11
    go_wp2_with fail
    refine (repeat_one 1 n 1 w.heap.size _ (by simp [nv]) hn1 hn2).mono ?_
    rintro e w1 ⟨v, rfl, hown, hb⟩
    have HO := Lib.hid (own_base (b' := w.heap.size) hown (by simp))
    have HB := Lib.hid (((Below.refl w.heap.size w).alloc (Nat.le_refl _) _).trans (hb.mono (by simp)))
    clear hown hb
    go_wp2_with fail
    go_ret
    rw [hP.out]
    exact ownP_at (n := n) (by simp) HO.out HB.out
  · have hP : Hid (newP size = []) := Lib.hid (by unfold newP; rw [if_neg h])
    by_cases h1 : size < 1
    · clear h
      go_enter Try.func11, Try.ntmps11
      go_wp2_with fail
      go_ret
      rw [hP.out]
      exact ⟨_, rfl, World.ownsRow_nil _ _ _ _, Below.refl _ _⟩
    · have h2 : 4096 < size := by omega
      clear h
      go_enter Try.func11, Try.ntmps11
      go_wp2_with fail
      go_ret
      rw [hP.out]
      exact ⟨_, rfl, World.ownsRow_nil _ _ _ _, Below.refl _ _⟩
theorem pnew_any (size : Int) (w : World) : Calls Try.prog 11 #[.int .i64 size] w (IntsP (newP size) w) := (pnew_own size w).mono fun _ _ h => h.ints
/-- The place of an address's counter. -/
theorem counter_any (ad : Addr) (n c a k : Nat) (w : World) (hk : a % n = k) (h1 : 1 ≤ n) (h2 : n ≤ 4096) (ha : a ≤ 4294967295) :
    Calls Try.prog 25 #[.slice (some ad) n c, .int .i64 (a : Int)] w fun e w' => e = .returned (.pointer (some (ad.add k))) ∧ w = w' := by
  have hkn : k < n := by rw [← hk]; exact Nat.mod_lt _ h1
  have hm : (a : Int) % (n : Int) = (k : Int) := by omega
  clear hk
  go_enter Try.func25, Try.ntmps25
  go_wp2_with fail
  go_ret
  exact ⟨rfl, rfl⟩
set_option maxRecDepth 10000 in
theorem predict_at (b : Bool) (t : List Nat) (A : Option Addr) (n c a : Nat) (w : World) (hb : prN t a = b) (hn : t.length = n) (hr : Rd w A (t.map nv)) (h1 : 1 ≤ n) (h2 : n ≤ 4096) (ha : a ≤ 4294967295) :
    Calls Try.prog 13 #[.slice A n c, .int .i64 (a : Int)] w fun e w' => e = .returned (.bool b) ∧ w = w' := by
  have hk : a % n < n := Nat.mod_lt _ h1
  obtain ⟨ad, rfl, hc⟩ := hr (a % n) (nv (ctr t a)) (by rw [List.getElem?_map, ctr_at hn h1]; rfl)
  have HB : Hid (decide ((2 : Int) ≤ ((ctr t a : Nat) : Int)) = b) := Lib.hid (by rw [← hb]; unfold prN; simp; omega)
  generalize ctr t a = x at *
  obtain ⟨k, hkk⟩ : ∃ k, a % n = k := ⟨_, rfl⟩
  have C := Lib.hid (counter_any ad n c a k w hkk h1 h2 ha)
  rw [hkk] at hc hk
  unfold nv at hc
  clear hb hn hr hkk
  go_enter Try.func13, Try.ntmps13
  go_wp2_with fail
  refine C.out.mono ?_
  rintro e w1 ⟨rfl, rfl⟩
  go_wp2_with fail
  go_ret
  exact ⟨by rw [← HB.out]; simp, rfl⟩
theorem predict_any (b : Bool) (t : List Nat) (A : Option Addr) (n c a : Nat) (w : World) (hb : prN t a = b) (hn : t.length = n) (_hc : n ≤ c) (hr : Rd w A (t.map nv)) (h1 : 1 ≤ n) (h2 : n ≤ 4096) (_ht : Ctrs t) (ha : a ≤ 4294967295) :
    Calls Try.prog 13 #[.slice A n c, .int .i64 (a : Int)] w (BolQ b w) := (predict_at b t A n c a w hb hn hr h1 h2 ha).mono fun _ _ h => ⟨h.1, 0, h.2 ▸ rfl⟩
theorem moved_any (y : Nat) (b : Bool) (w : World) (hy : y ≤ 3) : Calls Try.prog 30 #[.int .i64 (y : Int), .bool b] w fun e w' => e = .returned (.int .i64 ((upN y b : Nat) : Int)) ∧ w = w' := by
  cases b with
  | true =>
    have h : Hid (((upN y true : Nat) : Int) = min ((y : Int) + 1) 3) := Lib.hid (by unfold upN; simp; omega)
    go_enter Try.func30, Try.ntmps30
    go_wp2_with fail
    go_ret
    exact ⟨by rw [h.out]; rfl, rfl⟩
  | false =>
    have h : Hid (((upN y false : Nat) : Int) = max ((y : Int) - 1) 0) := Lib.hid (by unfold upN; simp; omega)
    go_enter Try.func30, Try.ntmps30
    go_wp2_with fail
    go_ret
    exact ⟨by rw [h.out]; rfl, rfl⟩
/-- A counter is stored anew in place. -/
theorem learn_any (p n c a k y : Nat) (b : Bool) (w : World) (hk : a % n = k) (h1 : 1 ≤ n) (h2 : n ≤ 4096) (ha : a ≤ 4294967295) (hy : y ≤ 3) (hc : w.cell? ⟨p, k, none⟩ = some (.int .i64 (y : Int))) (hf : w.frozen? ⟨p, k, none⟩ = false) :
    Calls Try.prog 27 #[.slice (some ⟨p, 0, none⟩) n c, .int .i64 (a : Int), .bool b] w fun e w' => e = .returned (.tuple #[]) ∧ w' = w.setCell ⟨p, k, none⟩ (.int .i64 ((upN y b : Nat) : Int)) := by
  have C := Lib.hid (counter_any ⟨p, 0, none⟩ n c a k w hk h1 h2 ha)
  rw [Addr.add_lit, Nat.zero_add] at C
  have M := Lib.hid (moved_any y b w hy)
  obtain ⟨z, hz⟩ : ∃ z, upN y b = z := ⟨_, rfl⟩
  rw [hz] at M ⊢
  clear hk hz
  go_enter Try.func27, Try.ntmps27
  go_wp2_with fail
  refine C.out.mono ?_
  rintro e w1 ⟨rfl, rfl⟩
  go_wp2_with fail
  refine M.out.mono ?_
  rintro e w1 ⟨rfl, rfl⟩
  go_wp2_with fail
  go_end0
  exact ⟨rfl, rfl⟩
set_option maxRecDepth 10000 in
theorem clonei_any (A : Option Addr) (l : List Nat) (m c : Nat) (w : World) (hm : l.length = m) (hr : Rd w A (l.map nv)) (h1 : 1 ≤ m) (hreach : m ≤ 1000000) :
    Calls Try.prog 26 #[.slice A m c] w fun e w' => ∃ v', e = .returned v' ∧ w'.ownsRow w.heap.size 3 1 v' m (l.map nv) ∧ Go.RowKit.Below w.heap.size w w' := by
  have q22 := fun (w : World) (a : Option Addr) (n c n' c' : Nat) => Lib.run_eql_slice_nil w _ _ a n c n' c' Try.underlying27
  obtain ⟨ad, rfl⟩ := hr.some_ (by intro e; have := congrArg List.length e; simp at this; subst this; simp at hm; omega)
  obtain ⟨i5, hi, hz0, hz1, hz2⟩ := info_parts infoI
  have Hr := Lib.hid hr; clear hr
  have Hm := Lib.hid hm; clear hm
  go_enter Try.func26, Try.ntmps26
  go_wp2_with (at_builtin; refine Pause.out ?_)
  refine Pause.of (wpList_append_own _ rfl _ _ 27 rfl w.heap.size 3 i5 (.int .i64 0) 1 8 Try.underlying27 hi hz0 hz1 hz2 rfl Nat.one_pos _ _ _ rfl (World.ownsRow_made w #[] 0 (Nat.le_refl _) (Nat.zero_le _) (by simp)) ad m c (l.map nv) rfl (by rw [List.length_map, Hm.out, Nat.mul_one]) (Hr.out.alloc _).cells (nv_one _) (by unfold maxLen; omega) (by omega) (by simp) ?_)
  intro v' w1 hown hgrow _
  have Ho := Lib.hid hown; clear hown
  have Hg := Lib.hid hgrow; clear hgrow
  go_wp2_with fail
  go_ret
  refine ⟨v', rfl, by simpa using Ho.out, ((Below.refl _ w).alloc (Nat.le_refl _) _).grown Hg.out (by simp) (fun k hk => ?_)⟩
  have hk' : some w.heap.size = some k := hk
  injection hk' with hk'
  omega
set_option maxRecDepth 10000 in
theorem update_any (t : List Nat) (A : Option Addr) (n c a : Nat) (b : Bool) (w : World) (hn : t.length = n) (_hc : n ≤ c) (hr : Rd w A (t.map nv)) (h1 : 1 ≤ n) (h2 : n ≤ 4096) (ht : Ctrs t) (ha : a ≤ 4294967295) :
    Calls Try.prog 15 #[.slice A n c, .int .i64 (a : Int), .bool b] w (IntsP (upT t a b) w) := by
  have C := Lib.hid (clonei_any A t n c w hn hr h1 (by omega))
  have hk : a % n < n := Nat.mod_lt _ h1
  have HM : Hid (∀ x, upN (ctr t a) b = x → (t.map nv).set (a % n) (nv x) = (upT t a b).map nv) := Lib.hid (fun x hx => upT_map hn hx)
  have HL : Hid ((upT t a b).length = n) := Lib.hid (by rw [upT_len, hn])
  have HC : Hid (t[a % n]? = some (ctr t a)) := Lib.hid (ctr_at hn h1)
  have h3 := ht.ctr a
  obtain ⟨k, hkk⟩ : ∃ k, a % n = k := ⟨_, rfl⟩
  rw [hkk] at HM HC hk
  have HK := Lib.hid hkk
  clear hn hr hkk ht
  go_enter Try.func15, Try.ntmps15
  go_wp2_with fail
  refine C.out.mono ?_
  rintro e w1 ⟨v, rfl, hown, hb⟩
  obtain ⟨q, cap, rfl, hq1, hq2⟩ := own_at hown h1
  have f1 := hown.frozenAt k
  have c1 := hown.cellAt k (by omega)
  rw [List.getElem?_map, HC.out] at c1
  simp only [Option.map_some, nv] at c1
  have hst : (w1.setCell ⟨q, k, none⟩ (.int .i64 ((upN (ctr t a) b : Nat) : Int))).ownsRow w.heap.size 3 1 (.slice (some ⟨q, 0, none⟩) n cap) n ((upT t a b).map nv) := by
    have := (hown.stored k (nv (upN (ctr t a) b))).1
    rw [HM.out _ rfl] at this
    exact this
  have L := Lib.hid (learn_any q n cap a k (ctr t a) b w1 HK.out h1 h2 ha h3 c1 f1)
  have Hst := Lib.hid hst
  have Hb1 := Lib.hid (hb.setCell (p := ⟨q, k, none⟩) hq1 (.int .i64 ((upN (ctr t a) b : Nat) : Int)))
  clear hst hown hb HM HC HK c1 f1 C h3
  go_wp2_with fail
  refine L.out.mono ?_
  rintro e w2 ⟨rfl, rfl⟩
  go_wp2_with fail
  go_ret
  exact ints_own HL.out Hst.out Hb1.out
theorem isbr_any (fa fz fk : Nat) (w : World) : Calls Try.prog 28 #[.agg #[.int .i64 (fa : Int), .int .i64 (fz : Int), .int .i64 (fk : Int)]] w fun e w' => e = .returned (.bool (isBr (fa, fk))) ∧ Below w.heap.size w w' := by
  have HB : Hid (Below w.heap.size w (w.alloc (.cells #[.int .i64 (fa : Int), .int .i64 (fz : Int), .int .i64 (fk : Int)] 42))) := Lib.hid ((Below.refl _ w).alloc (Nat.le_refl _) _)
  by_cases h1 : fk = 1
  · subst h1
    go_enter Try.func28, Try.ntmps28
    go_wp2_with fail
    go_ret
    exact ⟨rfl, HB.out⟩
  · have k1 : ((fk : Int) == 1) = false := by rw [beq_eq_false_iff_ne]; omega
    by_cases h2 : fk = 2
    · subst h2
      go_enter Try.func28, Try.ntmps28
      go_wp2_with fail
      go_ret
      exact ⟨rfl, HB.out⟩
    · have k2 : ((fk : Int) == 2) = false := by rw [beq_eq_false_iff_ne]; omega
      have HI : Hid (isBr (fa, fk) = false) := Lib.hid (by simp [isBr, h1, h2])
      clear h1 h2
      go_enter Try.func28, Try.ntmps28
      go_wp2_with fail
      go_ret
      exact ⟨by rw [HI.out]; rfl, HB.out⟩
set_option maxRecDepth 10000 in
theorem each_zero (fs : List F3) (A : Option Addr) (n c : Nat) (w : World) (hn : fs.length = n) (hl : n ≤ 1000) :
    Calls Try.prog 21 #[.int .i64 0, .slice A n c] w (BolsP (eachS 0 (fs.map ft)) w) := by
  have HE : Hid (eachS 0 (fs.map ft) = List.replicate n false) := Lib.hid (by unfold eachS; rw [if_pos rfl, List.length_map, hn])
  have HN : Hid (newP 0 = []) := Lib.hid rfl
  clear hn
  go_enter Try.func21, Try.ntmps21
  go_wp2_with (at_make; refine Pause.out ?_)
  refine Pause.of (wpList_make_bools w rfl _ _ rfl w.heap.size (Nat.le_refl _) _ n rfl rfl rfl (by omega) ?_)
  intro w2 hown hb2
  have Hown := Lib.hid hown
  have Hb2 := Lib.hid hb2
  clear hown hb2
  go_wp2_with fail
  refine (pnew_any 0 w2).mono ?_
  rintro e w1 ⟨v, rfl, hr1, hb1⟩
  rw [HN.out] at hr1
  obtain ⟨A1, c1, rfl, _, _⟩ := hr1
  have HO := Lib.hid (Hown.out.kept (row := none) (grown_of_below hb1 none) (.inr (by simp [Value.ownBlock])))
  have HB := Lib.hid (below_next Hb2.out hb1)
  clear hb1
  go_wp2_with fail
  go_ret
  rw [HE.out]
  exact bools_own (n := n) (base := w.heap.size) (T := 4) (by simp) HO.out HB.out
theorem E16.below {w wr w' : World} {size n p cp q j : Nat} {fl : List Ft} (h : E16 w size n fl p cp q j wr) (hb : Below wr.heap.size wr w') : E16 w size n fl p cp q j w' :=
  ⟨h.tab.kept (row := none) (grown_of_below hb none) (.inr (by simp [Value.ownBlock])), h.out.kept (row := none) (grown_of_below hb none) (.inr (by simp [Value.ownBlock])), h.bel.trans (hb.mono h.bel.size), h.ne, h.lp, h.lq⟩
set_option maxRecDepth 10000 in
set_option maxHeartbeats 1000000 in
theorem each_pos (size : Nat) (fs : List F3) (A : Option Addr) (n c : Nat) (w : World) (hn : fs.length = n) (hc : n ≤ c) (hr : Rd w A (fcs fs)) (hs : size ≤ 4096) (hs1 : 1 ≤ size) (hl : n ≤ 1000) (hf : smallF fs) :
    Calls Try.prog 21 #[.int .i64 (size : Int), .slice A n c] w (BolsP (eachS size (fs.map ft)) w) := by
  have HE : Hid (eachS size (fs.map ft) = eachT (List.replicate size 1) (fs.map ft)) := Lib.hid (by unfold eachS; rw [if_neg (by omega)])
  have Hn := Lib.hid hn
  have Hr := Lib.hid hr
  have Hf := Lib.hid hf
  have HN : Hid (newP (size : Int) = List.replicate size 1) := Lib.hid (by unfold newP; rw [if_pos (by omega)]; simp)
  have hz0 : ((size : Int) == 0) = false := by rw [beq_eq_false_iff_ne]; omega
  clear hn hr hf
  go_enter Try.func21, Try.ntmps21
  go_wp2_with (at_make; refine Pause.out ?_)
  refine Pause.of (wpList_make_bools w rfl _ _ rfl w.heap.size (Nat.le_refl _) _ n rfl rfl rfl (by omega) ?_)
  intro w1 hown hb1
  have Hown := Lib.hid hown
  have Hb1 := Lib.hid hb1
  have hw1 : w.heap.size < w1.heap.size := by
    rcases hown.2 with ⟨h, _⟩ | ⟨g, cap, cur, h, _, hg, _⟩
    · cases h
    · injection h with h
      injection h with h
      injection h with h
      rw [← h] at hg
      exact (Array.getElem?_eq_some_iff.1 hg).1
  clear hown hb1
  go_wp2_with fail
  refine (pnew_own size w1).mono ?_
  rintro e w2 ⟨v, rfl, hown1, hb2⟩
  rw [HN.out, List.length_replicate] at hown1
  obtain ⟨p, cp, rfl, hp1, hp2⟩ := own_at hown1 hs1
  have Hst : Hid (E16 w size n (fs.map ft) p cp w.heap.size 0 w2) := Lib.hid ⟨own_base hown1 (by omega), by simpa [eachT] using Hown.out.kept (row := none) (grown_of_below hb2 none) (.inr (by simp [Value.ownBlock])), below_next Hb1.out hb2, by omega, by omega, Nat.le_refl _⟩
  clear Hown Hb1 hown1 hb2
  obtain ⟨q, hq⟩ : ∃ q, w.heap.size = q := ⟨_, rfl⟩
  rw [hq] at Hst hw1 ⊢
  have HQ := Lib.hid hq; clear hq
  go_wp2_with fail
  go_loopw [21] (fun i wr => E16R w size n (fs.map ft) p cp q i wr) (fun i _ => n - (intOf i).toNat)
  case atStart => exact ⟨0, Nat.zero_le _, rfl, Hst.out⟩
  case round =>
    clear Hst
    obtain ⟨j, hj, rfl, hst⟩ := hrel
    by_cases hlt : j < n
    · obtain ⟨f, hf⟩ : ∃ f, fs[j]? = some f := ⟨fs[j]'(by rw [Hn.out]; exact hlt), List.getElem?_eq_getElem _⟩
      obtain ⟨ad, rfl, d0, d1, d2⟩ := ft_cells (Hr.out.below hst.bel) hf
      have hsm := Hf.out f (List.mem_of_getElem? hf)
      have hfa := hsm.1
      have hqw : q < wr.heap.size := (hst.out.lt q rfl).2
      have Hst := Lib.hid hst; clear hst
      have HF := Lib.hid hf; clear hf
      have HBR := fun w => Lib.hid (isbr_any f.a f.s f.k w)
      obtain ⟨br, hbr⟩ : ∃ br, isBr (f.a, f.k) = br := ⟨_, rfl⟩
      rw [hbr] at HBR
      have HBr := Lib.hid hbr; clear hbr
      go_wp2_with fail
      refine (HBR _).out.mono ?_
      rintro e w3 ⟨rfl, hb3⟩
      have g0 : w3.cell? ⟨wr.heap.size, 0, none⟩ = some (.int .i64 (f.a : Int)) := bel_cellk hb3 (cell_of_row _ _ 0 _ _ _ (heap_alloc_new wr _))
      have g1 : w3.cell? ⟨wr.heap.size, 1, none⟩ = some (.int .i64 (f.s : Int)) := bel_cellk hb3 (cell_of_row _ _ 1 _ _ _ (heap_alloc_new wr _))
      have g2 : w3.cell? ⟨wr.heap.size, 2, none⟩ = some (.int .i64 (f.k : Int)) := bel_cellk hb3 (cell_of_row _ _ 2 _ _ _ (heap_alloc_new wr _))
      have Hst3 := Lib.hid (Hst.out.below (below_next ((Below.refl _ wr).alloc (Nat.le_refl _) _) hb3))
      clear hb3 Hst HBR d0 d1 d2
      cases br with
      | false =>
        have HE2 := Lib.hid (Hst3.out.skip HF.out hlt Hn.out HBr.out)
        clear g0 g1 g2
        go_wp2_with fail
        exact ⟨⟨j + 1, by omega, by go_num, HE2.out⟩, by simp [intOf]; omega⟩
      | true =>
        have hst := Hst3.out
        have hbr := HBr.out
        have hf := HF.out
        have hE2 := fun b x => hst.branch hf hlt Hn.out hbr (b := b) (x := x)
        obtain ⟨t, ht⟩ : ∃ t, runT (List.replicate size 1) ((fs.map ft).take j) = t := ⟨_, rfl⟩
        have htl : t.length = size := by rw [← ht, runT_len, List.length_replicate]
        have hct : Ctrs t := by rw [← ht]; exact (ctrs_new size).run _
        rw [ht] at hE2
        have htab := hst.tab
        rw [ht] at htab
        have hk : f.a % size < size := Nat.mod_lt _ hs1
        have c1 := htab.cellAt (f.a % size) (by omega)
        rw [List.getElem?_map, ctr_at htl hs1] at c1
        have f1 := htab.frozenAt (f.a % size)
        have hne := hst.ne
        have c3 := hst.out.cellAt j (by omega)
        rw [List.getElem?_eq_getElem (by simp [eachT_len]; have := Hn.out; omega)] at c3
        have f3 := hst.out.frozenAt j
        obtain ⟨pb, hpb⟩ : ∃ pb, prN t f.a = pb := ⟨_, rfl⟩
        have HP := Lib.hid (predict_at pb t (some ⟨p, 0, none⟩) size cp f.a w3 hpb htl (Rd.of_own htab) hs1 hs (by omega))
        obtain ⟨k, hkk⟩ : ∃ k, f.a % size = k := ⟨_, rfl⟩
        have hy3 := hct.ctr f.a
        have HL : ∀ (g : Bool) (u : Value), Hid (Calls Try.prog 27 #[.slice (some ⟨p, 0, none⟩) size cp, .int .i64 (f.a : Int), .bool g] (w3.setCell ⟨q, j, none⟩ u) fun e w' => e = .returned (.tuple #[]) ∧ w' = (w3.setCell ⟨q, j, none⟩ u).setCell ⟨p, f.a % size, none⟩ (.int .i64 ((upN (ctr t f.a) g : Nat) : Int))) := fun g u =>
          Lib.hid (learn_any p size cp f.a (f.a % size) (ctr t f.a) g _ rfl hs1 hs (by omega) hy3 ((World.cell?_setCell_other _ _ _ _ (fun e => hne (congrArg Addr.block e).symm)).trans c1) ((ownsRow_setCell_other htab (a := ⟨q, j, none⟩) (by simp only [Value.ownBlock]; intro e; injection e with e; exact hne e) u).frozenAt _))
        simp only [wrT, hbr, hpb, Bool.true_and] at hE2
        have HE2 := Lib.hid hE2
        have G0 : Hid (∀ u, (w3.setCell ⟨q, j, none⟩ u).cell? ⟨wr.heap.size, 0, none⟩ = some (.int .i64 (f.a : Int))) := Lib.hid (fun u => (World.cell?_setCell_other _ _ _ _ (fun e => by have := congrArg Addr.block e; simp only [] at this; omega)).trans g0)
        have C3 := Lib.hid c3
        have F3_ := Lib.hid f3
        clear hE2 hst hct htl ht htab c1 f1 hy3 c3 f3 hpb hk
        have h12 : f.k = 1 ∨ f.k = 2 := by unfold isBr at hbr; simpa using hbr
        clear hbr hf
        rcases h12 with h12 | h12
        · rw [h12] at g2 HE2
          cases pb with
          | true =>
            have HE3 := Lib.hid (HE2.out false _ rfl rfl)
            have HL1 := HL true (.bool false)
            have g3 := G0.out (.bool false)
            have c3 := C3.out
            have f3 := F3_.out
            clear HL HE2 h12 G0 C3 F3_
            go_wp2_with fail
            refine HP.out.mono ?_
            rintro e w4 ⟨rfl, rfl⟩
            clear HP
            go_wp2_with fail
            refine HL1.out.mono ?_
            rintro e w4 ⟨rfl, rfl⟩
            go_wp2_with fail
            exact ⟨⟨j + 1, by omega, by go_num, by have h := HE3.out; rw [hkk] at h; exact h⟩, by simp [intOf]; omega⟩
          | false =>
            have HE3 := Lib.hid (HE2.out true _ rfl rfl)
            have HL1 := HL true (.bool true)
            have g3 := G0.out (.bool true)
            have c3 := C3.out
            have f3 := F3_.out
            clear HL HE2 h12 G0 C3 F3_
            go_wp2_with fail
            refine HP.out.mono ?_
            rintro e w4 ⟨rfl, rfl⟩
            clear HP
            go_wp2_with fail
            refine HL1.out.mono ?_
            rintro e w4 ⟨rfl, rfl⟩
            go_wp2_with fail
            exact ⟨⟨j + 1, by omega, by go_num, by have h := HE3.out; rw [hkk] at h; exact h⟩, by simp [intOf]; omega⟩
        · rw [h12] at g2 HE2
          cases pb with
          | true =>
            have HE3 := Lib.hid (HE2.out true _ rfl rfl)
            have HL1 := HL false (.bool true)
            have g3 := G0.out (.bool true)
            have c3 := C3.out
            have f3 := F3_.out
            clear HL HE2 h12 G0 C3 F3_
            go_wp2_with fail
            refine HP.out.mono ?_
            rintro e w4 ⟨rfl, rfl⟩
            clear HP
            go_wp2_with fail
            refine HL1.out.mono ?_
            rintro e w4 ⟨rfl, rfl⟩
            go_wp2_with fail
            exact ⟨⟨j + 1, by omega, by go_num, by have h := HE3.out; rw [hkk] at h; exact h⟩, by simp [intOf]; omega⟩
          | false =>
            have HE3 := Lib.hid (HE2.out false _ rfl rfl)
            have HL1 := HL false (.bool false)
            have g3 := G0.out (.bool false)
            have c3 := C3.out
            have f3 := F3_.out
            clear HL HE2 h12 G0 C3 F3_
            go_wp2_with fail
            refine HP.out.mono ?_
            rintro e w4 ⟨rfl, rfl⟩
            clear HP
            go_wp2_with fail
            refine HL1.out.mono ?_
            rintro e w4 ⟨rfl, rfl⟩
            go_wp2_with fail
            exact ⟨⟨j + 1, by omega, by go_num, by have h := HE3.out; rw [hkk] at h; exact h⟩, by simp [intOf]; omega⟩
    · obtain rfl : j = n := by omega
      have Hst := Lib.hid hst; clear hst
      go_wp2_with fail
      go_ret
      rw [HE.out]
      have ho := Hst.out.out
      rw [List.take_of_length_le (by rw [List.length_map, Hn.out]; exact Nat.le_refl _), Nat.sub_self, List.replicate_zero, List.append_nil] at ho
      exact bools_own (n := j) (base := w.heap.size) (T := 4) (by rw [eachT_len, List.length_map, Hn.out]) ho Hst.out.bel
theorem each_any (size : Nat) (fs : List F3) (A : Option Addr) (n c : Nat) (w : World) (hn : fs.length = n) (hc : n ≤ c) (hr : Rd w A (fcs fs)) (hs : size ≤ 4096) (hl : n ≤ 1000) (hf : ∀ f ∈ fs, f.a ≤ 1000000 ∧ f.k ≤ 1000000) :
    Calls Try.prog 21 #[.int .i64 (size : Int), .slice A n c] w (BolsP (eachS size (fs.map ft)) w) := by
  by_cases h : size = 0
  · subst h
    exact each_zero fs A n c w hn hl
  · exact each_pos size fs A n c w hn hc hr hs (by omega) hl hf
set_option maxRecDepth 10000 in
set_option maxHeartbeats 1000000 in
theorem count_any (size : Nat) (fs : List F3) (A : Option Addr) (n c : Nat) (w : World) (hn : fs.length = n) (hc : n ≤ c) (hr : Rd w A (fcs fs)) (hs : size ≤ 4096) (hl : n ≤ 1000) (hf : ∀ f ∈ fs, f.a ≤ 1000000 ∧ f.k ≤ 1000000) :
    Calls Try.prog 19 #[.int .i64 (size : Int), .slice A n c] w (CntP (nBr (fs.map ft)) (wrongS size (fs.map ft)) w) := by
  have HE := Lib.hid (each_any size fs A n c w hn hc hr hs hl hf)
  have HL : Hid ((eachS size (fs.map ft)).length = n) := Lib.hid (by rw [eachS_len, List.length_map, hn])
  have HW := Lib.hid (wrongS_count size (fs.map ft))
  generalize eachS size (fs.map ft) = es at *
  have Hn := Lib.hid hn
  have Hr := Lib.hid hr
  clear hn hr hf
  go_enter Try.func19, Try.ntmps19
  go_wp2_with fail
  refine HE.out.mono ?_
  rintro e w1 ⟨v, rfl, hre, hb1⟩
  rw [HL.out] at hre
  obtain ⟨Ae, ce, rfl, hce, hre⟩ := hre
  have Hre := Lib.hid hre
  have Hb1 := Lib.hid hb1
  clear hre hb1 HE
  go_wp2_with fail
  go_loopw [4, 5, 12] (fun vb vx vi wr => CtR w1 (fs.map ft) es n vb vx vi wr) (fun _ _ vi _ => n - (intOf vi).toNat)
  case atStart => exact ⟨0, Nat.zero_le _, rfl, rfl, rfl, Below.refl _ _⟩
  case round =>
    obtain ⟨j, hj, rfl, rfl, rfl, hb⟩ := hrel
    have Hb := Lib.hid hb
    obtain ⟨B, hB⟩ : ∃ B, nBr ((fs.map ft).take j) = B := ⟨_, rfl⟩
    obtain ⟨X, hX⟩ : ∃ X, (es.take j).countP id = X := ⟨_, rfl⟩
    have hBj : B ≤ j := by rw [← hB]; exact Nat.le_trans List.countP_le_length (List.length_take_le _ _)
    have hXj : X ≤ j := by rw [← hX]; exact Nat.le_trans List.countP_le_length (List.length_take_le _ _)
    rw [hB, hX]
    have HB := Lib.hid hB
    have HX := Lib.hid hX
    clear hB hX
    by_cases hlt : j < n
    · obtain ⟨f, hf⟩ : ∃ f, fs[j]? = some f := ⟨fs[j]'(by rw [Hn.out]; exact hlt), List.getElem?_eq_getElem _⟩
      obtain ⟨b, hb2⟩ : ∃ b, es[j]? = some b := ⟨es[j]'(by rw [HL.out]; exact hlt), List.getElem?_eq_getElem _⟩
      obtain ⟨ad, rfl, d0, d1, d2⟩ := ft_cells (Hr.out.below (below_next Hb1.out hb)) hf
      obtain ⟨ae, rfl, d4⟩ := (Hre.out.below hb) j (bov b) (by rw [List.getElem?_map, hb2]; rfl)
      unfold bov at d4
      have hs1 := ft_snoc hf
      have hs2 := es_snoc hb2
      rw [HB.out] at hs1
      rw [HX.out] at hs2
      obtain ⟨fa, fz, fk⟩ := f
      simp only [] at hs1 d0 d1 d2
      have HBR := Lib.hid (isbr_any fa fz fk wr)
      obtain ⟨br, hbr⟩ : ∃ br, isBr (fa, fk) = br := ⟨_, rfl⟩
      rw [hbr] at HBR hs1
      clear hf hb2 hb HB HX hbr
      have HS1 := Lib.hid hs1
      have HS2 := Lib.hid hs2
      clear hs1 hs2
      go_wp2_with fail
      refine HBR.out.mono ?_
      rintro e w3 ⟨rfl, hb3⟩
      have Hb3 := Lib.hid (below_next Hb.out hb3)
      clear hb3 d0 d1 d2 d4 Hb HBR
      cases br <;> cases b
      all_goals
        go_wp2_with fail
        exact ⟨⟨j + 1, by omega, by go_num, by rw [HS1.out]; first | rfl | go_num, by rw [HS2.out]; first | rfl | go_num, Hb3.out⟩, by simp [intOf]; omega⟩
    · obtain rfl : j = n := by omega
      have h1 : (fs.map ft).take j = fs.map ft := List.take_of_length_le (by rw [List.length_map, Hn.out]; exact Nat.le_refl _)
      have h2 : es.take j = es := List.take_of_length_le (by rw [HL.out]; exact Nat.le_refl _)
      rw [h1] at HB
      rw [h2, ← HW.out] at HX
      clear h1 h2 hb
      go_wp2_with fail
      go_ret2
      rw [HB.out, HX.out]
      exact ⟨rfl, below_next Hb1.out Hb.out⟩
end Go.Proofs.Ytanjggfcahjkfaa
