/-
  The walks of the reference's chapter 16: New, Predict, Update, Each, Count. Conditions: tables of 1 to 4096 counters from 0 to 3; at most 1000 fetches.
-/
import Derived.Test.YtanjggfcahjkfaaPdD
import Derived.Deep.QuietTactic
import Derived.BigQuiet
import Derived.Lib.MinMax
namespace Go.Proofs.Ytanjggfcahjkfaa
open Go.RowKit

/-- Numbers in memory of the call's own. -/
def OwnP (xs : List Nat) (w : World) (e : Ending) (w' : World) : Prop := ∃ v, e = .returned v ∧ w'.ownsRow w.heap.size 3 1 v xs.length (xs.map nv) ∧ Below w.heap.size w w'
theorem OwnP.ints {xs : List Nat} {w w' : World} {e : Ending} (h : OwnP xs w e w') : IntsP xs w e w' := by
  obtain ⟨v, h1, h2, h3⟩ := h
  exact ⟨v, h1, own_form h2, h3⟩
theorem ownP_at {w w' : World} {v : Value} {n : Nat} {xs : List Nat} (hl : xs.length = n) (h : w'.ownsRow w.heap.size 3 1 v n (xs.map nv)) (hb : Below w.heap.size w w') : OwnP xs w (.returned v) w' := by
  subst hl
  exact ⟨v, rfl, h, hb⟩
theorem ints_own {w w' : World} {v : Value} {n : Nat} {xs : List Nat} {base : Nat} {T : TypeId} (hl : xs.length = n) (h : w'.ownsRow base T 1 v n (xs.map nv)) (hb : Below w.heap.size w w') : IntsP xs w (.returned v) w' := by
  subst hl
  exact ⟨v, rfl, own_form h, hb⟩
def NwR (w : World) (n : Nat) (vi : Value) (wr : World) : Prop :=
  ∃ k : Nat, k ≤ n ∧ vi = .int .i64 (k : Int) ∧ wr.ownsRow w.heap.size 3 1 (.slice (some ⟨w.heap.size, 0, none⟩) n n) n ((List.replicate k 1 ++ List.replicate (n - k) 0).map nv) ∧ Below w.heap.size w wr
theorem set_next {n k : Nat} (hk : k < n) : ((List.replicate k 1 ++ List.replicate (n - k) 0).map nv).set k (nv 1) = (List.replicate (k + 1) 1 ++ List.replicate (n - (k + 1)) 0).map nv := by
  rw [← List.map_set]
  congr 1
  have h : n - k = (n - (k + 1)) + 1 := by omega
  rw [h, List.replicate_succ, List.set_append, if_neg (by simp)]
  simp only [List.length_replicate, Nat.sub_self, List.set_cons_zero]
  rw [List.replicate_succ', List.append_assoc]
  rfl
set_option maxRecDepth 10000 in
theorem rnew16_own (size : Int) (w : World) : Calls Try.prog 12 #[.int .i64 size] w (OwnP (newP size) w) := by
  by_cases h : 1 ≤ size ∧ size ≤ 4096
  · obtain ⟨n, rfl⟩ := Int.eq_ofNat_of_zero_le (show 0 ≤ size by omega)
    have hP : Hid (newP (n : Int) = List.replicate n 1) := Lib.hid (by unfold newP; rw [if_pos h]; simp)
    have hn1 : 1 ≤ n := by omega
    have hn2 : n ≤ 4096 := by omega
    clear h
    have t1 : decide ((n : Int) < 1) = false := by simp; omega
    have t2 : decide ((n : Int) > 4096) = false := by simp; omega
    go_enter Try.func12, Try.ntmps12
    go_wp2_with (at_make; refine Pause.out ?_)
    refine Pause.of (wpList_make_nats w rfl _ _ rfl _ n rfl rfl rfl (by omega) ?_)
    intro w1 hown hb
    have Hown := Lib.hid hown
    have Hb := Lib.hid hb
    clear hown hb
    go_wp2_with fail
    go_loopw [4] (fun i wr => NwR w n i wr) (fun i _ => n - (intOf i).toNat)
    case atStart => exact ⟨0, Nat.zero_le _, rfl, by simpa using Hown.out, Hb.out⟩
    case round =>
      clear Hown Hb
      obtain ⟨k, hk, rfl, hown, hb⟩ := hrel
      have Hb := Lib.hid hb
      have hsz := hb.size
      by_cases hlt : k < n
      · have f1 := hown.frozenAt k
        have c1 := hown.cellAt k (by omega)
        have hst := hown.stored k (nv 1)
        rw [set_next hlt] at hst
        have Hst := Lib.hid hst.1
        have Hb2 := Lib.hid (Hb.out.setCell (p := ⟨w.heap.size, k, none⟩) (Nat.le_refl _) (nv 1))
        rw [List.getElem?_eq_getElem (by simp; omega)] at c1
        clear hst hown hb
        unfold nv at Hst Hb2
        go_wp2_with fail
        exact ⟨⟨k + 1, by omega, by go_num, Hst.out, Hb2.out⟩, by simp [intOf]; omega⟩
      · obtain rfl : k = n := by omega
        have Hown := Lib.hid hown
        clear hown hb
        go_wp2_with fail
        go_ret
        rw [hP.out]
        refine ownP_at (n := k) (by simp) ?_ Hb.out
        simpa using Hown.out
  · have hP : Hid (newP size = []) := Lib.hid (by unfold newP; rw [if_neg h])
    by_cases h1 : size < 1
    · clear h
      go_enter Try.func12, Try.ntmps12
      go_wp2_with fail
      go_ret
      rw [hP.out]
      exact ⟨_, rfl, World.ownsRow_nil _ _ _ _, Below.refl _ _⟩
    · have h2 : 4096 < size := by omega
      clear h
      go_enter Try.func12, Try.ntmps12
      go_wp2_with fail
      go_ret
      rw [hP.out]
      exact ⟨_, rfl, World.ownsRow_nil _ _ _ _, Below.refl _ _⟩
theorem rnew16_any (size : Int) (w : World) : Calls Try.prog 12 #[.int .i64 size] w (IntsP (newP size) w) := (rnew16_own size w).mono fun _ _ h => h.ints
theorem ctr_at {t : List Nat} {n a : Nat} (hn : t.length = n) (h1 : 1 ≤ n) : t[a % n]? = some (ctr t a) := by
  unfold ctr
  rw [hn, List.getD_eq_getElem?_getD, List.getElem?_eq_getElem (by rw [hn]; exact Nat.mod_lt _ h1)]
  rfl
set_option maxRecDepth 10000 in
theorem rpredict_any (b : Bool) (t : List Nat) (A : Option Addr) (n c a : Nat) (w : World) (hb : prN t a = b) (hn : t.length = n) (hr : Rd w A (t.map nv)) (h1 : 1 ≤ n) (h2 : n ≤ 4096) (ha : a ≤ 4294967295) :
    Calls Try.prog 14 #[.slice A n c, .int .i64 (a : Int)] w (BolQ b w) := by
  have hk : a % n < n := Nat.mod_lt _ h1
  obtain ⟨ad, rfl, hc⟩ := hr (a % n) (nv (ctr t a)) (by rw [List.getElem?_map, ctr_at hn h1]; rfl)
  have HB : Hid (decide ((2 : Int) ≤ ((ctr t a : Nat) : Int)) = b) := Lib.hid (by rw [← hb]; unfold prN; simp; omega)
  generalize ctr t a = x at *
  obtain ⟨k, hkk⟩ : ∃ k, a % n = k := ⟨_, rfl⟩
  have hm : (a : Int) % (n : Int) = (k : Int) := by omega
  rw [hkk] at hc hk
  unfold nv at hc
  clear hb hn hr hkk
  go_enter Try.func14, Try.ntmps14
  go_wp2_with fail
  go_ret
  exact ⟨by rw [← HB.out]; simp, 0, rfl⟩
theorem upT_map {t : List Nat} {n a : Nat} {b : Bool} {x : Nat} (hn : t.length = n) (hx : upN (ctr t a) b = x) : (t.map nv).set (a % n) (nv x) = (upT t a b).map nv := by
  unfold upT
  rw [hn, hx, List.map_set]
set_option maxRecDepth 10000 in
theorem rupdate_any (t : List Nat) (A : Option Addr) (n c a : Nat) (b : Bool) (w : World) (hn : t.length = n) (hr : Rd w A (t.map nv)) (h1 : 1 ≤ n) (h2 : n ≤ 4096) (ht : Ctrs t) (ha : a ≤ 4294967295) :
    Calls Try.prog 16 #[.slice A n c, .int .i64 (a : Int), .bool b] w (IntsP (upT t a b) w) := by
  have hk : a % n < n := Nat.mod_lt _ h1
  have HM : Hid (∀ x, upN (ctr t a) b = x → (t.map nv).set (a % n) (nv x) = (upT t a b).map nv) := Lib.hid (fun x hx => upT_map hn hx)
  have HL : Hid ((upT t a b).length = n) := Lib.hid (by rw [upT_len, hn])
  have HC : Hid (t[a % n]? = some (ctr t a)) := Lib.hid (ctr_at hn h1)
  have h3 := ht.ctr a
  obtain ⟨k, hkk⟩ : ∃ k, a % n = k := ⟨_, rfl⟩
  have hm : (a : Int) % (n : Int) = (k : Int) := by omega
  rw [hkk] at HM HC hk
  have Hn := Lib.hid hn
  have Hr := Lib.hid hr
  obtain ⟨i, hi, hz, hsz, hby⟩ := info_parts infoI
  have Hi := Lib.hid (And.intro hi (And.intro hz (And.intro hsz hby)))
  clear hn hr hkk ht hi hz hsz hby
  go_enter Try.func16, Try.ntmps16
  go_wp2_with (at_builtin; refine Pause.out ?_)
  refine Pause.of (wpList_append_rd w rfl _ (.tmp 9) _ rfl w.heap.size 3 i _ 1 8 Try.underlying27 Hi.out.1 Hi.out.2.1 Hi.out.2.2.1 Hi.out.2.2.2 rfl (by decide) (.slice none 0 0) 0 [] rfl (World.ownsRow_nil _ _ _ _) A n c (t.map nv) rfl (by rw [List.length_map, Hn.out, Nat.mul_one]) Hr.out (nv_one t) (by unfold maxLen; omega) (by omega) (Nat.le_refl _) ?_)
  intro v1 w1 hown hg
  rw [Nat.zero_add, List.nil_append] at hown
  have hb1 : Below w.heap.size w w1 := (Below.refl _ _).grown hg (Nat.le_refl _) (fun q hq => by simp [Value.ownBlock] at hq)
  obtain ⟨q, cap, rfl, hq1, hq2⟩ := own_at hown h1
  have f1 := hown.frozenAt k
  have c1 := hown.cellAt k (by omega)
  rw [List.getElem?_map, HC.out] at c1
  simp only [Option.map_some, nv] at c1
  have hst : ∀ x : Nat, upN (ctr t a) b = x → (w1.setCell ⟨q, k, none⟩ (.int .i64 (x : Int))).ownsRow w.heap.size 3 1 (.slice (some ⟨q, 0, none⟩) n cap) n ((upT t a b).map nv) := fun x hx => by
    have := (hown.stored k (nv x)).1
    rw [HM.out x hx] at this
    exact this
  have Hst := Lib.hid hst
  have Hb1 := Lib.hid hb1
  clear hst hown hb1 hg HM HC
  generalize ctr t a = y at *
  cases b with
  | true =>
    have hs2 := Hst.out (min (y + 1) 3) rfl
    rw [show (((min (y + 1) 3 : Nat)) : Int) = min ((y : Int) + 1) 3 by omega] at hs2
    have Hs2 := Lib.hid hs2
    have Hb2 := Lib.hid (Hb1.out.setCell (p := ⟨q, k, none⟩) hq1 (.int .i64 (min ((y : Int) + 1) 3)))
    clear Hst hs2
    go_wp2_with fail
    go_ret
    exact ints_own HL.out Hs2.out Hb2.out
  | false =>
    have hs2 := Hst.out (y - 1) rfl
    rw [show (((y - 1 : Nat)) : Int) = max ((y : Int) - 1) 0 by omega] at hs2
    have Hs2 := Lib.hid hs2
    have Hb2 := Lib.hid (Hb1.out.setCell (p := ⟨q, k, none⟩) hq1 (.int .i64 (max ((y : Int) - 1) 0)))
    clear Hst hs2
    go_wp2_with fail
    go_ret
    exact ints_own HL.out Hs2.out Hb2.out
theorem infoB : (Try.prog.info? 4).map (fun i => (i.zero, i.size, i.bytes)) = some (some (.bool false), 1, 1) := by kernel_rfl
/-- make of n bools. -/
theorem wpList_make_bools {ops : Array Oper} {rest : List Oper} {o : Oper} {a : Act} {Q : Exit → Act → World → Prop} (w : World) (hg : o.guard = none) (l c : Operand) (hop : o.op = .makeSlice 38 l c) (base : Nat) (hbase : base ≤ w.heap.size) (L : Int) (n : Nat)
    (hl : a.eval l = .int .i64 L) (hc : a.eval c = .int .i64 L) (hL : L = (n : Int)) (h1 : n ≤ 1000000)
    (hK : ∀ w', w'.ownsRow base 4 1 (.slice (some ⟨w.heap.size, 0, none⟩) n n) n ((List.replicate n false).map bov) → Below w.heap.size w w' → wpList Try.prog ops Q rest (a.put o.dst (.slice (some ⟨w.heap.size, 0, none⟩) n n)) w') :
    wpList Try.prog ops Q (o :: rest) a w := by
  obtain ⟨i, hi, hz, hsz, hby⟩ := info_parts infoB
  refine wpList_make_full w hg l c 38 hop base 4 i _ 1 Try.underlying38 hi hz hsz .i64 .i64 L L n hl hc hL hL (by rw [hby]; omega) (by unfold maxLen; omega) hbase fun w' h2 h3 => hK w' ?_ ((Below.refl _ _).grown h3 (Nat.le_refl _) (fun q hq => by cases hq))
  rw [Nat.mul_one, show (Value.bool false).cells = #[Value.bool false] from rfl, made_list] at h2
  rw [List.map_replicate]
  exact h2
def FsAt (w : World) (A : Option Addr) (fs : List F3) : Prop := Rd w A (fcs fs)
theorem bools_own {w w' : World} {v : Value} {n : Nat} {xs : List Bool} {base : Nat} {T : TypeId} (hl : xs.length = n) (h : w'.ownsRow base T 1 v n (xs.map bov)) (hb : Below w.heap.size w w') : BolsP xs w (.returned v) w' := by
  subst hl
  exact ⟨v, rfl, own_form h, hb⟩
def ZR (n : Nat) (w : World) (v : Value) (wr : World) : Prop := ∃ k : Nat, k ≤ n ∧ v = .int .i64 (k : Int) ∧ wr = w
set_option maxRecDepth 10000 in
theorem reach16_zero (fs : List F3) (A : Option Addr) (n c : Nat) (w : World) (hn : fs.length = n) (hr : Rd w A (fcs fs)) (hl : n ≤ 1000) :
    Calls Try.prog 22 #[.int .i64 0, .slice A n c] w (BolsP (eachS 0 (fs.map ft)) w) := by
  have HE : Hid (eachS 0 (fs.map ft) = List.replicate n false) := Lib.hid (by unfold eachS; rw [if_pos rfl, List.length_map, hn])
  have Hn := Lib.hid hn
  have Hr := Lib.hid hr
  have HN : Hid (newP 0 = []) := Lib.hid rfl
  clear hn hr
  go_enter Try.func22, Try.ntmps22
  go_wp2_with fail
  refine (rnew16_any 0 w).mono ?_
  rintro e w1 ⟨v, rfl, hr1, hb1⟩
  rw [HN.out] at hr1
  obtain ⟨A1, c1, rfl, _, _⟩ := hr1
  have Hb1 := Lib.hid hb1
  clear hb1
  go_wp2_with (at_make; refine Pause.out ?_)
  refine Pause.of (wpList_make_bools w1 rfl _ _ rfl w.heap.size Hb1.out.size _ n rfl rfl rfl (by omega) ?_)
  intro w2 hown hb2
  have Hown := Lib.hid hown
  have Hb2 := Lib.hid (below_next Hb1.out hb2)
  clear hown hb2
  go_wp2_with fail
  go_loopw [7] (fun i wr => ZR n w2 i wr) (fun i _ => n - (intOf i).toNat)
  case atStart => exact ⟨0, Nat.zero_le _, rfl, rfl⟩
  case round =>
    obtain ⟨j, hj, rfl, rfl⟩ := hrel
    by_cases hlt : j < n
    · obtain ⟨f, hf⟩ : ∃ f, fs[j]? = some f := ⟨fs[j]'(by rw [Hn.out]; exact hlt), List.getElem?_eq_getElem _⟩
      obtain ⟨ad, rfl, d0, d1, d2⟩ := ft_cells (Hr.out.below Hb2.out) hf
      clear hf d0 d1
      go_wp2_with fail
      exact ⟨⟨j + 1, by omega, by go_num, rfl⟩, by simp [intOf]; omega⟩
    · obtain rfl : j = n := by omega
      go_wp2_with fail
      go_ret
      rw [HE.out]
      exact bools_own (n := j) (base := w.heap.size) (T := 4) (by simp) Hown.out Hb2.out
/-- The reference's table and answers under way. -/
structure E16 (w : World) (size n : Nat) (fl : List Ft) (p cp q j : Nat) (wr : World) : Prop where
  tab : wr.ownsRow w.heap.size 3 1 (.slice (some ⟨p, 0, none⟩) size cp) size ((runT (List.replicate size 1) (fl.take j)).map nv)
  out : wr.ownsRow w.heap.size 4 1 (.slice (some ⟨q, 0, none⟩) n n) n ((eachT (List.replicate size 1) (fl.take j) ++ List.replicate (n - j) false).map bov)
  bel : Below w.heap.size w wr
  ne : p ≠ q
  lp : w.heap.size ≤ p
  lq : w.heap.size ≤ q
def E16R (w : World) (size n : Nat) (fl : List Ft) (p cp q : Nat) (v : Value) (wr : World) : Prop := ∃ j : Nat, j ≤ n ∧ v = .int .i64 (j : Int) ∧ E16 w size n fl p cp q j wr
theorem out_same {l : List Bool} {m : Nat} (hm : 1 ≤ m) : l ++ List.replicate m false = (l ++ [false]) ++ List.replicate (m - 1) false := by
  obtain ⟨k, rfl⟩ : ∃ k, m = k + 1 := ⟨m - 1, by omega⟩
  rw [List.replicate_succ, List.append_assoc]
  rfl
theorem out_set {l : List Bool} {m j : Nat} {b : Bool} (hm : 1 ≤ m) (hl : l.length = j) : ((l ++ List.replicate m false).map bov).set j (bov b) = ((l ++ [b]) ++ List.replicate (m - 1) false).map bov := by
  obtain ⟨k, rfl⟩ : ∃ k, m = k + 1 := ⟨m - 1, by omega⟩
  rw [← List.map_set, List.replicate_succ, List.set_append, if_neg (by omega), hl, Nat.sub_self, List.set_cons_zero, List.append_assoc]
  rfl
section
variable {w wr : World} {size n p cp q j : Nat} {fs : List F3} {f : F3}
theorem ft_take (h : fs[j]? = some f) : (fs.map ft).take (j + 1) = (fs.map ft).take j ++ [(f.a, f.k)] := by
  rw [List.take_add_one, List.getElem?_map, h]
  rfl
theorem E16.skip (h : E16 w size n (fs.map ft) p cp q j wr) (hf : fs[j]? = some f) (hj : j < n) (hn : fs.length = n) (hb : isBr (f.a, f.k) = false) : E16 w size n (fs.map ft) p cp q (j + 1) wr := by
  have h1 := h.tab
  have h2 := h.out
  have e1 : runT (List.replicate size 1) ((fs.map ft).take (j + 1)) = runT (List.replicate size 1) ((fs.map ft).take j) := by
    rw [ft_take hf, runT_snoc]
    unfold stT
    rw [hb]
    rfl
  have e2 : eachT (List.replicate size 1) ((fs.map ft).take (j + 1)) = eachT (List.replicate size 1) ((fs.map ft).take j) ++ [false] := by
    rw [ft_take hf, eachT_snoc]
    simp [wrT, hb]
  refine ⟨by rw [e1]; exact h1, ?_, h.bel, h.ne, h.lp, h.lq⟩
  rw [e2]
  rw [out_same (by omega : 1 ≤ n - j)] at h2
  have : n - (j + 1) = n - j - 1 := by omega
  rw [this]
  exact h2
/-- A branch: the answer and the counter are stored. -/
theorem E16.branch (h : E16 w size n (fs.map ft) p cp q j wr) (hf : fs[j]? = some f) (hj : j < n) (hn : fs.length = n) (hbr : isBr (f.a, f.k) = true) {b : Bool} {x : Nat} (hb : wrT (runT (List.replicate size 1) ((fs.map ft).take j)) (f.a, f.k) = b)
    (hx : upN (ctr (runT (List.replicate size 1) ((fs.map ft).take j)) f.a) (f.k == 1) = x) :
    E16 w size n (fs.map ft) p cp q (j + 1) ((wr.setCell ⟨q, j, none⟩ (.bool b)).setCell ⟨p, f.a % size, none⟩ (.int .i64 (x : Int))) := by
  have hl : (eachT (List.replicate size 1) ((fs.map ft).take j)).length = j := by
    rw [eachT_len, List.length_take, List.length_map, hn]
    omega
  have hrl : (runT (List.replicate size 1) ((fs.map ft).take j)).length = size := by rw [runT_len, List.length_replicate]
  have h2 := (h.out.stored j (bov b)).1
  rw [out_set (by omega) hl] at h2
  have h1 := ownsRow_setCell_other h.tab (a := ⟨q, j, none⟩) (by simp only [Value.ownBlock]; intro e; injection e with e; exact h.ne e) (bov b)
  have h3 := (h1.stored (f.a % size) (nv x)).1
  rw [show (runT (List.replicate size 1) ((fs.map ft).take j)) = runT (List.replicate size 1) ((fs.map ft).take j) from rfl, upT_map hrl hx] at h3
  have h4 := ownsRow_setCell_other h2 (a := ⟨p, f.a % size, none⟩) (by simp only [Value.ownBlock]; intro e; injection e with e; exact h.ne e.symm) (nv x)
  have e1 : runT (List.replicate size 1) ((fs.map ft).take (j + 1)) = upT (runT (List.replicate size 1) ((fs.map ft).take j)) f.a (f.k == 1) := by
    rw [ft_take hf, runT_snoc]
    unfold stT
    rw [hbr]
    rfl
  have e2 : eachT (List.replicate size 1) ((fs.map ft).take (j + 1)) = eachT (List.replicate size 1) ((fs.map ft).take j) ++ [b] := by
    rw [ft_take hf, eachT_snoc, hb]
  refine ⟨by rw [e1]; exact h3, ?_, (h.bel.setCell h.lq _).setCell h.lp _, h.ne, h.lp, h.lq⟩
  rw [e2]
  have : n - (j + 1) = n - j - 1 := by omega
  rw [this]
  exact h4
end
set_option maxRecDepth 10000 in
set_option maxHeartbeats 1000000 in
theorem reach16_pos (size : Nat) (fs : List F3) (A : Option Addr) (n c : Nat) (w : World) (hn : fs.length = n) (hr : Rd w A (fcs fs)) (hs : size ≤ 4096) (hs1 : 1 ≤ size) (hl : n ≤ 1000) (hf : smallF fs) :
    Calls Try.prog 22 #[.int .i64 (size : Int), .slice A n c] w (BolsP (eachS size (fs.map ft)) w) := by
  have HE : Hid (eachS size (fs.map ft) = eachT (List.replicate size 1) (fs.map ft)) := Lib.hid (by unfold eachS; rw [if_neg (by omega)])
  have Hn := Lib.hid hn
  have Hr := Lib.hid hr
  have Hf := Lib.hid hf
  have HN : Hid (newP (size : Int) = List.replicate size 1) := Lib.hid (by unfold newP; rw [if_pos (by omega)]; simp)
  have hz0 : ((size : Int) == 0) = false := by rw [beq_eq_false_iff_ne]; omega
  clear hn hr hf
  go_enter Try.func22, Try.ntmps22
  go_wp2_with fail
  refine (rnew16_own size w).mono ?_
  rintro e w1 ⟨v, rfl, hown1, hb1⟩
  rw [HN.out, List.length_replicate] at hown1
  obtain ⟨p, cp, rfl, hp1, hp2⟩ := own_at hown1 hs1
  have Hown1 := Lib.hid hown1
  have Hb1 := Lib.hid hb1
  clear hb1 hown1
  go_wp2_with (at_make; refine Pause.out ?_)
  refine Pause.of (wpList_make_bools w1 rfl _ _ rfl w.heap.size Hb1.out.size _ n rfl rfl rfl (by omega) ?_)
  intro w2 hown hb2
  have Hst : Hid (E16 w size n (fs.map ft) p cp w1.heap.size 0 w2) := Lib.hid ⟨Hown1.out.kept (row := none) (grown_of_below hb2 none) (.inr (by simp [Value.ownBlock])), by simpa [eachT] using hown, below_next Hb1.out hb2, by omega, hp1, Hb1.out.size⟩
  have hq1 := Hb1.out.size
  clear hown hb2 Hb1 Hown1
  obtain ⟨q, hq⟩ : ∃ q, w1.heap.size = q := ⟨_, rfl⟩
  rw [hq] at Hst hp2 hq1 ⊢
  clear hq
  go_wp2_with fail
  go_loopw [7] (fun i wr => E16R w size n (fs.map ft) p cp q i wr) (fun i _ => n - (intOf i).toNat)
  case atStart => exact ⟨0, Nat.zero_le _, rfl, Hst.out⟩
  case round =>
    clear Hst
    obtain ⟨j, hj, rfl, hst⟩ := hrel
    have Hst := Lib.hid hst
    have hne := hst.ne
    by_cases hlt : j < n
    · obtain ⟨f, hf⟩ : ∃ f, fs[j]? = some f := ⟨fs[j]'(by rw [Hn.out]; exact hlt), List.getElem?_eq_getElem _⟩
      obtain ⟨ad, rfl, d0, d1, d2⟩ := ft_cells (Hr.out.below hst.bel) hf
      have hsm := Hf.out f (List.mem_of_getElem? hf)
      have hfa := hsm.1
      by_cases hbr : isBr (f.a, f.k) = true
      · have hE2 := fun b x => hst.branch hf hlt Hn.out hbr (b := b) (x := x)
        obtain ⟨t, ht⟩ : ∃ t, runT (List.replicate size 1) ((fs.map ft).take j) = t := ⟨_, rfl⟩
        have htl : t.length = size := by rw [← ht, runT_len, List.length_replicate]
        rw [ht] at hE2
        have hy3 : ctr t f.a ≤ 3 := by rw [← ht]; exact ((ctrs_new size).run _).ctr _
        have hk : f.a % size < size := Nat.mod_lt _ hs1
        have c1 := hst.tab.cellAt (f.a % size) (by omega)
        rw [ht, List.getElem?_map, ctr_at htl hs1] at c1
        have f1 := hst.tab.frozenAt (f.a % size)
        have HF : Hid (∀ b : Bool, (wr.setCell ⟨q, j, none⟩ (.bool b)).frozen? ⟨p, f.a % size, none⟩ = false) := Lib.hid (fun b => (ownsRow_setCell_other hst.tab (a := ⟨q, j, none⟩) (by simp only [Value.ownBlock]; intro e; injection e with e; exact hne e) (.bool b)).frozenAt _)
        have c3 := hst.out.cellAt j (by omega)
        rw [List.getElem?_eq_getElem (by simp [eachT_len]; have := Hn.out; omega)] at c3
        have f3 := hst.out.frozenAt j
        simp only [Option.map_some, nv, wrT, prN, hbr, Bool.true_and] at c1 hE2
        obtain ⟨fa, fz, fk⟩ := f
        simp only [] at *
        obtain ⟨k, hkk⟩ : ∃ k, fa % size = k := ⟨_, rfl⟩
        have hm : (fa : Int) % (size : Int) = (k : Int) := by omega
        rw [hkk] at c1 f1 HF hk
        simp only [hkk] at hE2
        generalize ctr t fa = y at *
        generalize (List.map bov (eachT (List.replicate size 1) (List.take j (List.map ft fs)) ++ List.replicate (n - j) false))[j]'_ = u3 at *
        clear hst hf hsm ht htl hkk d1
        have h12 : fk = 1 ∨ fk = 2 := by
          unfold isBr at hbr
          simpa using hbr
        clear hbr
        by_cases hy : 2 ≤ y
        · have hy2 : decide ((2 : Int) ≤ (y : Int)) = true := by simp; omega
          have hd : decide (2 ≤ y) = true := by simp; omega
          simp only [hd] at hE2
          have HE2 := Lib.hid hE2
          clear hE2 hd
          rcases h12 with rfl | rfl
          · have hE2 := HE2.out false (min (y + 1) 3) (by rfl) (by rfl)
            rw [show (((min (y + 1) 3) : Nat) : Int) = (min ((y : Int) + 1) 3) by omega] at hE2
            have c2 : (wr.setCell ⟨q, j, none⟩ (.bool false)).cell? ⟨p, k, none⟩ = some (.int .i64 (y : Int)) := (World.cell?_setCell_other _ _ _ _ (fun e => hne (congrArg Addr.block e).symm)).trans c1
            have f2 : (wr.setCell ⟨q, j, none⟩ (.bool false)).frozen? ⟨p, k, none⟩ = false := HF.out false
            have HE3 := Lib.hid hE2
            clear hE2 HE2 HF
            go_wp2_with fail
            exact ⟨⟨j + 1, by omega, by go_num, HE3.out⟩, by simp [intOf]; omega⟩
          · have hE2 := HE2.out true (y - 1) (by rfl) (by rfl)
            rw [show (((y - 1) : Nat) : Int) = (max ((y : Int) - 1) 0) by omega] at hE2
            have c2 : (wr.setCell ⟨q, j, none⟩ (.bool true)).cell? ⟨p, k, none⟩ = some (.int .i64 (y : Int)) := (World.cell?_setCell_other _ _ _ _ (fun e => hne (congrArg Addr.block e).symm)).trans c1
            have f2 : (wr.setCell ⟨q, j, none⟩ (.bool true)).frozen? ⟨p, k, none⟩ = false := HF.out true
            have HE3 := Lib.hid hE2
            clear hE2 HE2 HF
            go_wp2_with fail
            exact ⟨⟨j + 1, by omega, by go_num, HE3.out⟩, by simp [intOf]; omega⟩
        · have hy2 : decide ((2 : Int) ≤ (y : Int)) = false := by simp; omega
          have hd : decide (2 ≤ y) = false := by simp; omega
          simp only [hd] at hE2
          have HE2 := Lib.hid hE2
          clear hE2 hd
          rcases h12 with rfl | rfl
          · have hE2 := HE2.out true (min (y + 1) 3) (by rfl) (by rfl)
            rw [show (((min (y + 1) 3) : Nat) : Int) = (min ((y : Int) + 1) 3) by omega] at hE2
            have c2 : (wr.setCell ⟨q, j, none⟩ (.bool true)).cell? ⟨p, k, none⟩ = some (.int .i64 (y : Int)) := (World.cell?_setCell_other _ _ _ _ (fun e => hne (congrArg Addr.block e).symm)).trans c1
            have f2 : (wr.setCell ⟨q, j, none⟩ (.bool true)).frozen? ⟨p, k, none⟩ = false := HF.out true
            have HE3 := Lib.hid hE2
            clear hE2 HE2 HF
            go_wp2_with fail
            exact ⟨⟨j + 1, by omega, by go_num, HE3.out⟩, by simp [intOf]; omega⟩
          · have hE2 := HE2.out false (y - 1) (by rfl) (by rfl)
            rw [show (((y - 1) : Nat) : Int) = (max ((y : Int) - 1) 0) by omega] at hE2
            have c2 : (wr.setCell ⟨q, j, none⟩ (.bool false)).cell? ⟨p, k, none⟩ = some (.int .i64 (y : Int)) := (World.cell?_setCell_other _ _ _ _ (fun e => hne (congrArg Addr.block e).symm)).trans c1
            have f2 : (wr.setCell ⟨q, j, none⟩ (.bool false)).frozen? ⟨p, k, none⟩ = false := HF.out false
            have HE3 := Lib.hid hE2
            clear hE2 HE2 HF
            go_wp2_with fail
            exact ⟨⟨j + 1, by omega, by go_num, HE3.out⟩, by simp [intOf]; omega⟩
      · have hE := hst.skip hf hlt Hn.out (by simpa using hbr)
        obtain ⟨fa, fz, fk⟩ := f
        have h1 : ((fk : Int) == 1) = false := by
          rw [beq_eq_false_iff_ne]
          intro e
          have : fk = 1 := by omega
          exact hbr (by simp [isBr, this])
        have h2 : ((fk : Int) != 2) = true := by
          rw [bne_iff_ne]
          intro e
          have : fk = 2 := by omega
          exact hbr (by simp [isBr, this])
        have HE2 := Lib.hid hE
        clear hE hst hf hsm hbr d0 d1
        simp only [] at d2
        go_wp2_with fail
        exact ⟨⟨j + 1, by omega, by go_num, HE2.out⟩, by simp [intOf]; omega⟩
    · obtain rfl : j = n := by omega
      clear hst
      go_wp2_with fail
      go_ret
      rw [HE.out]
      have ho := Hst.out.out
      rw [List.take_of_length_le (by rw [List.length_map, Hn.out]; exact Nat.le_refl _), Nat.sub_self, List.replicate_zero, List.append_nil] at ho
      exact bools_own (n := j) (base := w.heap.size) (T := 4) (by rw [eachT_len, List.length_map, Hn.out]) ho Hst.out.bel
theorem reach16_any (size : Nat) (fs : List F3) (A : Option Addr) (n c : Nat) (w : World) (hn : fs.length = n) (hr : Rd w A (fcs fs)) (hs : size ≤ 4096) (hl : n ≤ 1000) (hf : smallF fs) :
    Calls Try.prog 22 #[.int .i64 (size : Int), .slice A n c] w (BolsP (eachS size (fs.map ft)) w) := by
  by_cases h : size = 0
  · subst h
    exact reach16_zero fs A n c w hn hr hl
  · exact reach16_pos size fs A n c w hn hr hs (by omega) hl hf
theorem eachS_len (size : Nat) (l : List Ft) : (eachS size l).length = l.length := by
  unfold eachS
  split
  · simp
  · exact eachT_len _ _
theorem wrongS_count (size : Nat) (l : List Ft) : wrongS size l = (eachS size l).countP id := by
  unfold wrongS eachS
  by_cases h : size = 0
  · rw [if_pos h, if_pos h, List.countP_replicate]
    simp
  · rw [if_neg h, if_neg h]
    rfl
def CtR (w : World) (fl : List Ft) (es : List Bool) (n : Nat) (vb vx vi : Value) (wr : World) : Prop :=
  ∃ j : Nat, j ≤ n ∧ vi = .int .i64 (j : Int) ∧ vb = .int .i64 ((nBr (fl.take j) : Nat) : Int) ∧ vx = .int .i64 (((es.take j).countP id : Nat) : Int) ∧ Below w.heap.size w wr
theorem ft_snoc {fs : List F3} {j : Nat} {f : F3} (h : fs[j]? = some f) : nBr ((fs.map ft).take (j + 1)) = nBr ((fs.map ft).take j) + if isBr (f.a, f.k) then 1 else 0 := by rw [ft_take h, nBr_snoc]
theorem es_snoc {es : List Bool} {j : Nat} {b : Bool} (h : es[j]? = some b) : (es.take (j + 1)).countP id = (es.take j).countP id + if b then 1 else 0 := by
  rw [List.take_add_one, h, List.countP_append]
  cases b <;> rfl
set_option maxRecDepth 10000 in
set_option maxHeartbeats 1000000 in
theorem rcount16_any (size : Nat) (fs : List F3) (A : Option Addr) (n c : Nat) (w : World) (hn : fs.length = n) (hr : Rd w A (fcs fs)) (hs : size ≤ 4096) (hl : n ≤ 1000) (hf : smallF fs) :
    Calls Try.prog 20 #[.int .i64 (size : Int), .slice A n c] w (CntP (nBr (fs.map ft)) (wrongS size (fs.map ft)) w) := by
  have HE := Lib.hid (reach16_any size fs A n c w hn hr hs hl hf)
  have HL : Hid ((eachS size (fs.map ft)).length = n) := Lib.hid (by rw [eachS_len, List.length_map, hn])
  have HW := Lib.hid (wrongS_count size (fs.map ft))
  generalize eachS size (fs.map ft) = es at *
  have Hn := Lib.hid hn
  have Hr := Lib.hid hr
  clear hn hr hf
  go_enter Try.func20, Try.ntmps20
  go_wp2_with fail
  refine HE.out.mono ?_
  rintro e w1 ⟨v, rfl, hre, hb1⟩
  rw [HL.out] at hre
  obtain ⟨Ae, ce, rfl, hce, hre⟩ := hre
  have Hre := Lib.hid hre
  have Hb1 := Lib.hid hb1
  clear hre hb1 HE
  go_wp2_with fail
  go_loopw [4, 5, 7] (fun vb vx vi wr => CtR w1 (fs.map ft) es n vb vx vi wr) (fun _ _ vi _ => n - (intOf vi).toNat)
  case atStart => exact ⟨0, Nat.zero_le _, rfl, rfl, rfl, Below.refl _ _⟩
  case round =>
    obtain ⟨j, hj, rfl, rfl, rfl, hb⟩ := hrel
    have Hb := Lib.hid hb
    obtain ⟨B, hB⟩ : ∃ B, nBr ((fs.map ft).take j) = B := ⟨_, rfl⟩
    obtain ⟨X, hX⟩ : ∃ X, (es.take j).countP id = X := ⟨_, rfl⟩
    have hBj : B ≤ j := by rw [← hB]; exact Nat.le_trans List.countP_le_length (List.length_take_le _ _)
    have hXj : X ≤ j := by rw [← hX]; exact Nat.le_trans List.countP_le_length (List.length_take_le _ _)
    rw [hB, hX]
    have HB := Lib.hid hB
    have HX := Lib.hid hX
    clear hB hX
    by_cases hlt : j < n
    · obtain ⟨f, hf⟩ : ∃ f, fs[j]? = some f := ⟨fs[j]'(by rw [Hn.out]; exact hlt), List.getElem?_eq_getElem _⟩
      obtain ⟨b, hb2⟩ : ∃ b, es[j]? = some b := ⟨es[j]'(by rw [HL.out]; exact hlt), List.getElem?_eq_getElem _⟩
      obtain ⟨ad, rfl, d0, d1, d2⟩ := ft_cells (Hr.out.below (below_next Hb1.out hb)) hf
      obtain ⟨ae, rfl, d4⟩ := (Hre.out.below hb) j (bov b) (by rw [List.getElem?_map, hb2]; rfl)
      unfold bov at d4
      have hs1 := ft_snoc hf
      have hs2 := es_snoc hb2
      rw [HB.out] at hs1
      rw [HX.out] at hs2
      obtain ⟨fa, fz, fk⟩ := f
      simp only [] at hs1 d2
      clear hf hb2 hb d0 d1 HB HX
      have HS1 := Lib.hid hs1
      have HS2 := Lib.hid hs2
      clear hs1 hs2
      by_cases hbr : fk = 1 ∨ fk = 2
      · have h1 : isBr (fa, fk) = true := by rcases hbr with rfl | rfl <;> rfl
        rw [h1] at HS1
        clear h1
        rcases hbr with rfl | rfl
        · cases b with
          | true =>
            go_wp2_with fail
            exact ⟨⟨j + 1, by omega, by go_num, by rw [HS1.out]; go_num, by rw [HS2.out]; go_num, Hb.out⟩, by simp [intOf]; omega⟩
          | false =>
            go_wp2_with fail
            exact ⟨⟨j + 1, by omega, by go_num, by rw [HS1.out]; go_num, by rw [HS2.out]; rfl, Hb.out⟩, by simp [intOf]; omega⟩
        · cases b with
          | true =>
            go_wp2_with fail
            exact ⟨⟨j + 1, by omega, by go_num, by rw [HS1.out]; go_num, by rw [HS2.out]; go_num, Hb.out⟩, by simp [intOf]; omega⟩
          | false =>
            go_wp2_with fail
            exact ⟨⟨j + 1, by omega, by go_num, by rw [HS1.out]; go_num, by rw [HS2.out]; rfl, Hb.out⟩, by simp [intOf]; omega⟩
      · have e1 : ¬ fk = 1 := fun h => hbr (.inl h)
        have e2 : ¬ fk = 2 := fun h => hbr (.inr h)
        have h1 : isBr (fa, fk) = false := by simp [isBr, e1, e2]
        rw [h1] at HS1
        have k1 : ((fk : Int) == 1) = false := by rw [beq_eq_false_iff_ne]; omega
        have k2 : ((fk : Int) == 2) = false := by rw [beq_eq_false_iff_ne]; omega
        clear h1 hbr e1 e2
        cases b with
        | true =>
          go_wp2_with fail
          exact ⟨⟨j + 1, by omega, by go_num, by rw [HS1.out]; rfl, by rw [HS2.out]; go_num, Hb.out⟩, by simp [intOf]; omega⟩
        | false =>
          go_wp2_with fail
          exact ⟨⟨j + 1, by omega, by go_num, by rw [HS1.out]; rfl, by rw [HS2.out]; rfl, Hb.out⟩, by simp [intOf]; omega⟩
    · obtain rfl : j = n := by omega
      have h1 : (fs.map ft).take j = fs.map ft := List.take_of_length_le (by rw [List.length_map, Hn.out]; exact Nat.le_refl _)
      have h2 : es.take j = es := List.take_of_length_le (by rw [HL.out]; exact Nat.le_refl _)
      rw [h1] at HB
      rw [h2, ← HW.out] at HX
      clear h1 h2 hb
      go_wp2_with fail
      go_ret2
      rw [HB.out, HX.out]
      exact ⟨rfl, below_next Hb1.out Hb.out⟩
end Go.Proofs.Ytanjggfcahjkfaa
