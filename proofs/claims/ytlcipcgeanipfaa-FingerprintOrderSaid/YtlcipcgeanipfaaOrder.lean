/-
  The walk of FingerprintOrder: the order of elements changes neither fingerprint of a set, repetition none of a set of distinct ones, another element changes a list's. No condition.
-/
import Derived.Test.YtlcipcgeanipfaaOrderParts
import Derived.WalkLawsBesides
namespace Go.Proofs.Ytlcipcgeanipfaa
open Go.RowKit

/-- Where numbers lie, all before block B. -/
def LowU (B : Nat) (w : World) (A : Option Addr) (l : List Nat) : Prop := Rd w A (l.map uv) ∧ ∀ ad, A = some ad → l ≠ [] → ad.block < B
theorem LowU.of_rd {w : World} {A : Option Addr} {l : List Nat} (h : Rd w A (l.map uv)) : LowU w.heap.size w A l := ⟨h, fun ad hA hne => by
  subst hA
  obtain ⟨_, he, hcell⟩ := h.at_ (k := 0) (by simpa using List.length_pos_iff.2 hne)
  injection he with he
  subst he
  have := World.block_lt_of_cell? w _ hcell
  rwa [block_add] at this⟩
theorem LowU.low {B : Nat} {w w' : World} {A : Option Addr} {l : List Nat} (h : LowU B w A l) (hb : Below B w w') : LowU B w' A l := ⟨fun j u hu => by
  obtain ⟨ad, e, hc⟩ := h.1 j u hu
  have hne : l ≠ [] := fun h0 => by subst h0; simp at hu
  exact ⟨ad, e, (hb.cell (p := ad.add j) (by rw [block_add]; exact h.2 ad e hne)).trans hc⟩, h.2⟩
theorem LowU.only {B g k : Nat} {w w' : World} {A : Option Addr} {l l0 : List Nat} (hg : Codes w g l0 k) (h : LowU B w A l) (hb : w.grownBy w' (some g)) : LowU B w' A l := ⟨rdU_only hg h.1 hb, h.2⟩
theorem Sl.base {B B' : Nat} {w : World} {e : TypeId} {v : Value} {xs : List Value} (h : Sl w B e v xs) (hB : B' ≤ B) : Sl w B' e v xs := by
  rcases h with h | h
  · refine .inl ⟨h.1, ?_⟩
    rcases h.2 with h0 | ⟨g, cap, cur, hv, hbg, hrest⟩
    · exact .inl h0
    · exact .inr ⟨g, cap, cur, hv, by omega, hrest⟩
  · exact .inr h
theorem Sl.numsN {w : World} {base : Nat} {e : TypeId} {v : Value} {l : List Nat} (h : Sl w base e v (l.map uv)) : ∃ A c, v = .slice A l.length c ∧ Rd w A (l.map uv) ∧ l.length ≤ c ∧ (A = none → c = 0) ∧ (A = none → l = []) := by
  rcases h with h | ⟨A, rfl, hr, h0⟩
  · rcases h.2 with ⟨rfl, h0⟩ | ⟨g, cap, cur, rfl, _, _, hnc, _⟩
    · have hx : l = [] := List.eq_nil_of_length_eq_zero (by simpa using h0)
      subst hx
      exact ⟨none, 0, rfl, Rd.nil, Nat.le_refl _, fun _ => rfl, fun _ => rfl⟩
    · exact ⟨some ⟨g, 0, none⟩, cap, by rw [List.length_map], Rd.of_own h, by simpa using hnc, ⟨fun h => (nomatch h), fun h => (nomatch h)⟩⟩
  · exact ⟨A, _, by rw [List.length_map], hr, Nat.le_refl _, fun h => by rw [List.map_eq_nil_iff.1 (h0 h)]; rfl, fun h => List.map_eq_nil_iff.1 (h0 h)⟩
/-- The relation of the first loop: the list so far. -/
def O1Rel (w : World) (B g : Nat) (cs : List Nat) (v kv : Value) (wr : World) : Prop :=
  ∃ (l : List Nat) (n k : Nat), kv = .int .i64 (n : Int) ∧ l.length + n ≤ 11 ∧ (∀ x ∈ l, x < 6) ∧ Sl wr B 22 v (l.map uv) ∧ Codes wr g cs k ∧ Below w.heap.size w wr ∧ B ≤ wr.heap.size
theorem o1_step {w w1 w2 : World} {B g n k r : Nat} {cs l : List Nat} {v : Value} {o : Obj} {z : Int} (hz : z = ((n - 1 : Nat) : Int)) (hn : 1 ≤ n) (hl : l.length + n ≤ 11) (h6 : ∀ x ∈ l, x < 6) (hr : r < 6) (hs : Sl w2 B 22 v ((l ++ [r]).map uv)) (hb2 : Below B (w1.alloc o) w2) (hc : Codes w1 g cs k) (hg : g < B) (hb : Below w.heap.size w w1) (hB : B ≤ w1.heap.size) (hw : w.heap.size ≤ B) :
    O1Rel w B g cs v (.int .i64 z) w2 := by
  have hb3 : Below B w1 w2 := ((Below.refl B w1).alloc hB _).trans hb2
  refine ⟨l ++ [r], n - 1, k, by rw [hz], by simp; omega, ?_, hs, codes_low hc hb3 hg, hb.trans (hb3.mono hw), Nat.le_trans hB hb3.size⟩
  intro x hx
  rcases List.mem_append.1 hx with hx | hx
  · exact h6 x hx
  · simp at hx
    omega
/-- The relation of the second loop: the same elements, in another order. -/
def O2Rel (w : World) (B g : Nat) (cs : List Nat) (A : Option Addr) (l : List Nat) (v iv : Value) (wr : World) : Prop :=
  ∃ (t : List Nat) (i k : Nat), i ≤ l.length ∧ iv = .int .i64 (i : Int) ∧ t.Perm (l.take i) ∧ Sl wr B 22 v (t.map uv) ∧ LowU B wr A l ∧ Codes wr g cs k ∧ Below w.heap.size w wr ∧ B ≤ wr.heap.size
theorem grown_g {w wr w1 : World} {g : Nat} (hb : Below w.heap.size w wr) (hg : wr.grownBy w1 (some g)) (hw : w.heap.size ≤ g) : Below w.heap.size w w1 :=
  hb.trans (grown_any hg (fun k hk => by injection hk with hk; omega) hb.size)
theorem le_one (w : World) (o : Obj) : w.heap.size ≤ (w.alloc o).drew.heap.size := ((Below.refl _ w).alloc (Nat.le_refl _) o).size
theorem below_first {w w' : World} {o : Obj} (h : Below w.heap.size (w.alloc o).drew w') : Below w.heap.size w w' :=
  have h2 : Below w.heap.size w (w.alloc o) := (Below.refl _ w).alloc (Nat.le_refl _) o
  have h3 : Below w.heap.size w (w.alloc o).drew := ⟨h2.os, h2.tape, h2.output, h2.size, h2.block⟩
  h3.trans h
theorem o2_step {w w5 w6 w8 : World} {g q k x : Nat} {cs l t : List Nat} {A : Option Addr} {v : Value} {z : Int} (hz : z = ((t.length + 1 : Nat) : Int)) (hil : t.length < l.length) (hx : l[t.length] = x) (hp : t.Perm (l.take t.length)) (hs : Sl w8 w6.heap.size 22 v ((t.take q ++ ([x] ++ t.drop q)).map uv)) (hlow : LowU w5.heap.size w6 A l) (hc : Codes w6 g cs k) (hg : g < w5.heap.size) (hb : Below w.heap.size w w6) (hB : w5.heap.size ≤ w6.heap.size) (hw : w.heap.size ≤ w5.heap.size) (hb8 : Below w6.heap.size w6 w8) :
    O2Rel w w5.heap.size g cs A l v (.int .i64 z) w8 :=
  ⟨_, t.length + 1, k, hil, by rw [hz], perm_insert hp hil hx, hs.base hB, hlow.low (hb8.mono hB), codes_low hc hb8 (by omega), hb.trans (hb8.mono (by omega)), Nat.le_trans hB hb8.size⟩
theorem sl_full {w w' : World} {T : Option Addr} {t : List Nat} {B q : Nat} (hr : Rd w T (t.map uv)) (hT : T = none → t = []) (hb : Below w.heap.size w w') (hq : q ≤ t.length) : Sl w' B 22 (.slice T q q) ((t.take q).map uv) := by
  refine .inr ⟨T, by rw [List.length_map, List.length_take, Nat.min_eq_left hq], ?_, fun h => by rw [hT h]; simp⟩
  rw [List.map_take]
  exact (hr.below hb).take q
theorem sl_one (w : World) (x B : Nat) (t : TypeId) : Sl (w.alloc (.cells #[.int .u64 (x : Int)] t)) B 22 (.slice (some ⟨w.heap.size, 0, none⟩) 1 1) ([x].map uv) := .inr ⟨_, rfl, rd_box w x t, fun h => (nomatch h)⟩
/-- append behind '||', where it is wanted. -/
theorem wpList_appendUG (w : World) {ops : Array Oper} {rest : List Oper} {o : Oper} {a : Act} {Q : Exit → Act → World → Prop} (hw : Region.wanted o (yielded ops a.tmps) = true) (s x : Operand)
    (ho : o.op = .call { callee := .builtin .append, args := #[s, x], argTypes := #[24, 24] })
    (base : Nat) (v : Value) (l : List Nat) (hs : a.eval s = v) (hown : Sl w base 22 v (l.map uv)) (A : Option Addr) (m c : Nat) (news : List Nat) (hx : a.eval x = .slice A m c) (hm : news.length = m) (hr : Rd w A (news.map uv))
    (h63 : l.length + m ≤ 1000000000000) (hbase : base ≤ w.heap.size)
    (h : ∀ v' w', Sl w' base 22 v' ((l ++ news).map uv) → Below base w w' → wpList Try.prog ops Q rest (a.put o.dst v') w') : wpList Try.prog ops Q (o :: rest) a w := by
  obtain ⟨i5, hi, hz0, hz1, hz2⟩ := info_parts Try.infoU64
  refine wpList_step fun K hK => ?_
  rw [if_pos hw]
  obtain ⟨v', w', hrun, h2, h3⟩ := run_append_sl (P := Try.prog) w base 24 o.type 22 i5 (.int .u64 0) 8 Try.underlying24 hi hz0 hz1 hz2 rfl v (l.map uv) hown A m c (news.map uv) (by simpa using hm) hr (uv_one _) (by unfold maxLen; simp; omega) (by simp; omega) hbase
  rw [← List.map_append] at h2
  unfold Oper.wp execOp
  simp only [ho, resolve, invoke, builtin, Sem.run_bind, Sem.run_pure, Result.andThen_ok, List.map_toArray, List.map_cons, List.map_nil, hs, hx, hrun]
  exact hK _ _ (h v' w' h2 h3)
/-- append onto nil, some numbers: a new row of the call's own. -/
theorem wpList_appendNewU (w : World) {ops : Array Oper} {rest : List Oper} {o : Oper} {a : Act} {Q : Exit → Act → World → Prop} (hgd : o.guard = none) (s x : Operand)
    (ho : o.op = .call { callee := .builtin .append, args := #[s, x], argTypes := #[24, 24] })
    (hs : a.eval s = .slice none 0 0) (A : Option Addr) (m c : Nat) (news : List Nat) (hx : a.eval x = .slice A m c) (hm : news.length = m) (hr : Rd w A (news.map uv))
    (h63 : m ≤ 1000000000000) (hne : news ≠ [])
    (h : ∀ g cap cur w', m ≤ cap → w.heap.size ≤ g → w'.heap[g]? = some (.cells cur 22 (0, 0)) → Rd w' (some ⟨g, 0, none⟩) (news.map uv) → Below w.heap.size w w' → wpList Try.prog ops Q rest (a.put o.dst (.slice (some ⟨g, 0, none⟩) m cap)) w') : wpList Try.prog ops Q (o :: rest) a w := by
  obtain ⟨i5, hi, hz0, hz1, hz2⟩ := info_parts Try.infoU64
  have hpos := List.length_pos_iff.2 hne
  obtain ⟨ad, rfl⟩ := hr.some_ (fun h0 => hne (List.map_eq_nil_iff.1 h0))
  refine wpList_append_own w hgd s x 24 ho w.heap.size 22 i5 (.int .u64 0) 1 8 Try.underlying24 hi hz0 hz1 hz2 rfl Nat.one_pos (.slice none 0 0) 0 [] hs (World.ownsRow_nil w _ _ 1) ad m c (news.map uv) hx (by simp; omega) hr.cells (uv_one _) (by unfold maxLen; omega) (by omega) (Nat.le_refl _) ?_
  intro v' w' hown hg _
  rcases hown.2 with ⟨_, h0⟩ | ⟨g, cap, cur, rfl, hbg, hcur, hnc, hcm, hsz, htk⟩
  · omega
  · have hr' := Rd.of_own (A := some ⟨g, 0, none⟩) hown
    simp only [Nat.zero_add, List.nil_append] at hr' hnc ⊢
    exact h g cap cur w' hnc hbg hcur hr' ((Below.refl _ w).grown hg (Nat.le_refl _) (fun k hk => by simp [Value.ownBlock] at hk))
theorem list_here (A : Option Addr) (l : List Nat) (m c : Nat) (W : World) (hm : l.length = m) (hr : Rd W A (l.map uv)) (hl : ∀ x ∈ l, x < 18446744073709551616) (h : m ≤ 1000) :
    Calls Try.prog 15 #[.slice A m c] W fun e w' => e = .returned (.int .u64 ((flist l : Nat) : Int)) ∧ w' = W :=
  (list_any A l m c W hm hr hl (by omega)).mono fun _ _ h => ⟨h.1, h.2.symm⟩
theorem set_small {l : List Nat} {q x B : Nat} (hl : ∀ y ∈ l, y < B) (hx : x < B) : ∀ y ∈ l.set q x, y < B := fun y hy => (List.mem_or_eq_of_mem_set hy).elim (hl y) (fun h => h ▸ hx)
set_option maxRecDepth 100000 in
set_option maxHeartbeats 1600000 in
theorem order_any (A0 : Option Addr) (codes : List Nat) (m c0 x : Nat) (w : World) (hx : x < 18446744073709551616) (hm : codes.length = m) (hmc : m ≤ c0) (hr : Rd w A0 (codes.map bv)) (hcs : ∀ x ∈ codes, x < 256) :
    Calls Try.prog 5 #[.slice A0 m c0, .int .u64 (x : Int)] w fun e w' => e = .returned (.bool true) ∧ Below w.heap.size w w' := by
  have Hn := Lib.hid (new_any A0 codes m c0 100 w hm hmc hr (by decide)); clear hr
  have Hcs := Lib.hid hcs; clear hcs
  go_enter Try.func5, Try.ntmps5
  go_wp2_with fail
  refine (awake_any _).mono ?_
  rintro e w1 ⟨rfl, rfl⟩
  go_wp2_with fail
  refine Hn.out.mono ?_
  rintro e w1 ⟨g, cs, rfl, hg, hlen, rfl, hc1, hb1⟩
  have Hcl : Hid (∀ x ∈ codes.take 100, x < 256) := Lib.hid (fun x hx => Hcs.out x (List.mem_of_mem_take hx))
  generalize codes.take 100 = cs at *
  have hgB : g < w1.heap.size := codes_lt hc1
  have Hc1 := Lib.hid hc1; clear hc1
  have Hb1 := Lib.hid hb1; clear hb1
  clear Hn Hcs
  go_wp2_with fail
  refine (next_any g cs 0 12 _ Hc1.out (by decide) (by omega) Hcl.out).mono ?_
  rintro e w2 ⟨r, k, rfl, hr12, _, hc2, hg2⟩
  have hr12 : r < 12 := by have := hr12 (by omega); omega
  have Hb2 := Lib.hid (grown_g Hb1.out hg2 hg)
  have hB2 : w1.heap.size ≤ w2.heap.size := hg2.size
  have Hc2 := Lib.hid hc2
  have hwB := Hb1.out.size
  generalize hBB : w1.heap.size = B at *
  clear hBB hg2 hc2 Hc1 Hb1
  go_wp2_with fail
  go_loopw [6, 8] (fun v kv wr => O1Rel w B g cs v kv wr) (fun _ kv _ => (intOf kv).toNat)
  case atStart => exact ⟨[], r, k, rfl, by simp; omega, by simp, Sl.nil_, Hc2.out, Hb2.out, hB2⟩
  case round =>
    obtain ⟨l, n, k1, rfl, hln, h6, hs, hc, hb, hB⟩ := hrel
    have H6 := Lib.hid h6; clear h6
    have Hs := Lib.hid hs; clear hs
    have Hc := Lib.hid hc; clear hc
    have Hb := Lib.hid hb; clear hb
    by_cases hn : n = 0
    · subst hn
      obtain ⟨A, c, rfl, hr, hlc, hA0, hA⟩ := Hs.out.numsN
      have HL := Lib.hid (LowU.of_rd hr)
      have HA := Lib.hid hA
      have hgw := codes_lt Hc.out
      have hl2 : Hid (∀ x ∈ l, x < 18446744073709551616) := Lib.hid (fun x hx => Nat.lt_trans (H6.out x hx) (by decide))
      have hln2 : l.length ≤ 11 := by omega
      have hB0 : w.heap.size ≤ wr.heap.size := Hb.out.size
      obtain ⟨w5, rfl⟩ : ∃ w5 : World, w5 = wr := ⟨_, rfl⟩
      clear hr hA0 hA Hs H6 hln hB
      go_wp2_with fail
      go_loopw [7, 9, 10] (fun v iv _ wr => O2Rel w w5.heap.size g cs A l v iv wr) (fun _ iv _ _ => l.length - (intOf iv).toNat)
      case atStart => exact ⟨[], 0, k1, Nat.zero_le _, rfl, by simp, Sl.nil_, HL.out, Hc.out, Hb.out, Nat.le_refl _⟩
      case round =>
        clear Hb Hc HL
        obtain ⟨t, i, k2, hi, rfl, hp, hs, hlow, hc, hb, hB⟩ := hrel
        obtain ⟨T, ct, rfl, hr, htc, hT0, hT⟩ := hs.numsN
        have Hp := Lib.hid hp
        have htl : t.length = i := by rw [hp.length_eq, List.length_take]; omega
        have Hs := Lib.hid hs; clear hs hp
        subst htl
        have Hlow := Lib.hid hlow; clear hlow
        have Hc := Lib.hid hc; clear hc
        have Hb := Lib.hid hb; clear hb
        have Hr := Lib.hid hr; clear hr
        have HT0 := Lib.hid hT0; clear hT0
        have HT := Lib.hid hT; clear hT
        by_cases hil : t.length < l.length
        · have hd : decide ((t.length : Int) < (l.length : Int)) = true := by simp; omega
          have htw : IntKind.i64.wrap ((t.length : Int) + 1) = ((t.length + 1 : Nat) : Int) := by rw [IntWalk.i64_in _ (by omega)]; omega
          have HN := Lib.hid (next_any g cs k2 (t.length + 1) wr Hc.out (by omega) (by omega) Hcl.out)
          go_wp2_with fail
          refine HN.out.mono ?_
          rintro e w6 ⟨q, k3, rfl, hq, _, hc3, hg3⟩
          have hq : q ≤ t.length := by have := hq (by omega); omega
          have Hs3 := Lib.hid (slU_only Hc.out Hs.out hg3)
          have Hr3 := Lib.hid (rdU_only Hc.out Hr.out hg3)
          have Hlow3 := Lib.hid (LowU.only Hc.out Hlow.out hg3)
          have Hb3 := Lib.hid (grown_g Hb.out hg3 hg)
          have hB3 : w5.heap.size ≤ w6.heap.size := Nat.le_trans hB hg3.size
          have Hc3 := Lib.hid hc3
          clear hc3 hg3 Hs Hb Hc Hlow Hr HN
          obtain ⟨ad, rfl, hcx⟩ := Hlow3.out.1.at_ (k := t.length) (by simp; omega)
          simp only [List.getElem_map] at hcx
          unfold uv at hcx
          have HR := Lib.hid (fun v w8 z x hz hx hs hb8 => @o2_step w w5 w6 w8 g q k3 x cs l t (some ad) v z hz hil hx Hp.out hs Hlow3.out Hc3.out hgw Hb3.out hB3 hB0 hb8)
          generalize hlx : l[t.length] = x1 at hcx
          have Hlx := Lib.hid hlx; clear hlx
          have i0 : (0 : Int) ≤ (q : Int) := by omega
          have i1 : (q : Int) ≤ (ct : Int) := by omega
          have i2 : (q : Int) ≤ (t.length : Int) := by omega
          have i3 : (t.length : Int) ≤ (ct : Int) := by omega
          have i4 : (t.length : Int) < (l.length : Int) := by omega
          have i5 : (0 : Int) ≤ (t.length : Int) := by omega
          by_cases hcq : ct = q
          · obtain rfl : ct = t.length := by omega
            obtain rfl : q = t.length := by omega
            go_wp2_with fail
            go_region_law (first | (refine step_appendU rfl (.tmp 48) (.tmp 51) rfl w6.heap.size (.slice (some ⟨w6.heap.size, 0, none⟩) 1 1) [x1] (by simp [Act.eval]) (sl_one w6 x1 _ _).drew T 0 0 (t.drop t.length) (by simp [Act.eval]) (by rw [List.drop_length]; rfl) (by rw [List.drop_length]; exact Rd.nil) (by simp) (le_one w6 _) ?_; intro v7 w7 hs7 hb7; obtain ⟨A7, c7, rfl, hr7, _⟩ := hs7.nums) | (refine step_appendU rfl (.tmp 43) (.tmp 52) rfl w6.heap.size (.slice T t.length t.length) (t.take t.length) (by simp [Act.eval]) (sl_full Hr3.out HT.out (below_first hb7) (Nat.le_refl _)) A7 _ c7 ([x1] ++ t.drop t.length) (by simp [Act.eval]) rfl hr7 (by simp; omega) (below_first hb7).size ?_; intro v8 w8 hs8 hb8))
            have HQ := Lib.hid (fun z hz => HR.out v8 w8 z x1 hz Hlx.out hs8 ((below_first hb7).trans hb8))
            clear hs7 hb7 hr7 hs8 hb8
            go_wp2_with fail
            refine ⟨?_, ?measure⟩
            (repeat apply Exists.intro)
            refine ⟨?rel, rfl⟩
            case rel => exact HQ.out _ (by go_num)
            case measure => simp [intOf]; omega
          · obtain ⟨td, rfl⟩ : ∃ td, T = some td := by
              cases T with
              | none => have := HT0.out rfl; omega
              | some td => exact ⟨td, rfl⟩
            have hcr := Hr3.out.cut_lt (k := q) (c := ct) (by simpa using htc) (by omega)
            simp only [Option.map_some, ← List.map_drop] at hcr
            have HC := Lib.hid hcr; clear hcr
            go_wp2_with fail
            go_region_law (first | (refine step_appendU rfl (.tmp 48) (.tmp 51) rfl w6.heap.size (.slice (some ⟨w6.heap.size, 0, none⟩) 1 1) [x1] (by simp [Act.eval]) (sl_one w6 x1 _ _).drew (some (td.add q)) (t.length - q) (ct - q) (t.drop q) (by simp [Act.eval]) (by rw [List.length_drop]) (HC.out.alloc _) (by simp; omega) (le_one w6 _) ?_; intro v7 w7 hs7 hb7; obtain ⟨A7, c7, rfl, hr7, _⟩ := hs7.nums) | (refine step_appendU rfl (.tmp 43) (.tmp 52) rfl w6.heap.size (.slice (some td) q q) (t.take q) (by simp [Act.eval]) (sl_full Hr3.out HT.out (below_first hb7) hq) A7 _ c7 ([x1] ++ t.drop q) (by simp [Act.eval]) rfl hr7 (by simp; omega) (below_first hb7).size ?_; intro v8 w8 hs8 hb8))
            have HQ := Lib.hid (fun z hz => HR.out v8 w8 z x1 hz Hlx.out hs8 ((below_first hb7).trans hb8))
            clear hs7 hb7 hr7 hs8 hb8
            go_wp2_with fail
            refine ⟨?_, ?measure⟩
            (repeat apply Exists.intro)
            refine ⟨?rel, rfl⟩
            case rel => exact HQ.out _ (by go_num)
            case measure => simp [intOf]; omega
        · have hil2 : t.length = l.length := by omega
          have Hpl : Hid (t.Perm l) := Lib.hid (by have := Hp.out; rwa [hil2, List.take_length] at this)
          have Ht2 : Hid (∀ x ∈ t, x < 18446744073709551616) := Lib.hid (fun x hx => hl2.out x (Hpl.out.mem_iff.1 hx))
          have Hd1 := Lib.hid (set_any T t t.length ct wr rfl Hr.out Ht2.out (by omega))
          have Hf1 := Lib.hid (fset_perm Hpl.out)
          have Hf2 := Lib.hid (fset_twice Hpl.out)
          have hd : decide ((t.length : Int) < (l.length : Int)) = false := by simp; omega
          have htl : t.length ≤ 11 := by omega
          have hge : l.length ≤ t.length := by omega
          clear Hp HT0 hil hil2 hi
          go_wp2_with fail
          refine (set_any A l l.length c _ rfl Hlow.out.1 hl2.out (by omega)).mono ?_
          rintro e w6 ⟨rfl, rfl⟩
          go_wp2_with fail
          refine Hd1.out.mono ?_
          rw [Hf1.out]
          rintro e w6 ⟨rfl, rfl⟩
          clear Hd1 Hf1
          go_wp2_with fail
          refine (distinct_any A l l.length c _ rfl Hlow.out.1 HA.out hl2.out (by omega)).mono ?_
          rintro e w6 ⟨rfl, hb6⟩
          have Hb6 := Lib.hid (hb6.mono hB)
          have hB6 : w5.heap.size ≤ w6.heap.size := Nat.le_trans hB hb6.size
          have Hs6 := Lib.hid (Hs.out.below hb6)
          have Hlow6 := Lib.hid (Hlow.out.low Hb6.out)
          clear hb6
          go_wp2_with (at_builtin; refine Pause.out ?_)
          refine Pause.of (wpList_appendUG _ rfl _ _ rfl w5.heap.size _ t rfl Hs6.out A l.length c l rfl rfl Hlow6.out.1 (by omega) hB6 ?_)
          intro v8 w8 hs8 hb8
          obtain ⟨A8, c8, rfl, hr8, _, _, hA8⟩ := hs8.numsN
          have Hd8 := Lib.hid (distinct_any A8 (t ++ l) (t.length + l.length) c8 w8 List.length_append hr8 hA8 (fun x hx => (List.mem_append.1 hx).elim (Ht2.out x) (hl2.out x)) (by omega))
          have Hb8 := Lib.hid ((Hb.out.trans (Hb6.out.mono hB0)).trans (hb8.mono hB0))
          have hB8 : w5.heap.size ≤ w8.heap.size := Nat.le_trans hB6 hb8.size
          have Hc8 := Lib.hid (codes_low (codes_low Hc.out Hb6.out hgw) hb8 hgw)
          have Hlow8 := Lib.hid (Hlow6.out.low hb8)
          clear hs8 hb8 hr8 hA8 Hb Hb6 Hc Hlow6 Hlow Hs6 Hs Hpl Ht2 Hr HT
          go_wp2_with fail
          refine Hd8.out.mono ?_
          rw [← Hf2.out]
          rintro e w9 ⟨rfl, hb9⟩
          have Hb9 := Lib.hid (Hb8.out.trans (hb9.mono Hb8.out.size))
          have hB9 : w5.heap.size ≤ w9.heap.size := Nat.le_trans hB8 hb9.size
          have Hc9 := Lib.hid (codes_below Hc8.out hb9)
          have Hlow9 := Lib.hid (Hlow8.out.low (hb9.mono hB8))
          clear hb9 Hb8 Hc8 Hlow8 Hd8 Hf2
          by_cases h0 : l.length = 0
          · obtain rfl : l = [] := List.eq_nil_of_length_eq_zero h0
            go_wp2_with fail
            refine (list_any A [] 0 c _ rfl Rd.nil (by simp) (by decide)).mono ?_
            rintro e w10 ⟨rfl, rfl⟩
            go_wp2_with fail
            go_ret
            exact ⟨rfl, Hb9.out⟩
          · have hpos : 0 < l.length := by omega
            have hne : ((l.length : Int) == 0) = false := by rw [beq_eq_false_iff_ne]; omega
            have HN := Lib.hid (next_any g cs k2 l.length w9 Hc9.out (by omega) (by omega) Hcl.out)
            clear h0
            go_wp2_with fail
            refine HN.out.mono ?_
            rintro e w10 ⟨q, k3, rfl, hq, _, hc3, hg3⟩
            have hq : q < l.length := by have := hq (by omega); omega
            have Hb10 := Lib.hid (grown_g Hb9.out hg3 hg)
            have Hlow10 := Lib.hid (LowU.only Hc9.out Hlow9.out hg3)
            clear hc3 hg3 HN Hc9 Hlow9 Hb9 hB9
            go_wp2_with (at_builtin; refine Pause.out ?_)
            refine Pause.of (wpList_appendNewU _ rfl _ _ rfl rfl A l.length c l rfl rfl Hlow10.out.1 (by omega) (List.length_pos_iff.1 hpos) ?_)
            intro go cap cur w11 hcap hgo hcur hr11 hb11
            have hcell : w11.cell? ⟨go, q, none⟩ = some (.int .u64 (l[q] : Int)) := by
              have := hr11.cells q (uv l[q]) (by rw [List.getElem?_map, List.getElem?_eq_getElem hq]; rfl)
              rw [Addr.add_lit, Nat.zero_add] at this
              exact this
            have hfz : w11.frozen? ⟨go, q, none⟩ = false := codes_frozen hcur q
            have hb12 : Below w10.heap.size w10 (w11.setCell ⟨go, q, none⟩ (.int .u64 (x : Int))) := hb11.setCell hgo _
            have Hb12 := Lib.hid (Hb10.out.trans (hb12.mono Hb10.out.size))
            have Hr12 := Lib.hid (Hlow10.out.1.below hb12)
            have ho12 : Rd (w11.setCell ⟨go, q, none⟩ (.int .u64 (x : Int))) (some ⟨go, 0, none⟩) ((l.set q x).map uv) := by
              rw [List.map_set]
              exact hr11.set_ q (by simpa using hq) _
            have Ho12 := Lib.hid ho12
            have Hfl := Lib.hid (flist_set (x := x) hl2.out hx (by omega) hq)
            have Hlx := Lib.hid (set_small (q := q) hl2.out hx)
            clear hcur hr11 hb11 hb12 ho12 Hb10 Hlow10
            obtain ⟨ad, rfl, hc⟩ := Hr12.out.at_ (k := q) (by simpa using hq)
            simp only [List.getElem_map] at hc
            unfold uv at hc
            have C1 := Lib.hid (fun W hr => list_here (some ad) l l.length c W rfl hr hl2.out (by omega))
            have C2 := Lib.hid (fun W hr => list_here (some ⟨go, 0, none⟩) (l.set q x) l.length cap W (by simp) hr Hlx.out (by omega))
            generalize hw : w11.setCell ⟨go, q, none⟩ (.int .u64 (x : Int)) = w12 at *
            have Hw := Lib.hid hw; clear hw
            have j0 : (0 : Int) ≤ (q : Int) := by omega
            have j1 : (q : Int) < (l.length : Int) := by omega
            by_cases hxx : l[q] = x
            · have hff := Hfl.out.2 hxx
              rw [← hff] at C2
              generalize flist l = f at *
              generalize l[q] = y at *
              subst hxx
              clear hff Hfl
              go_wp2_with fail
              rw [Hw.out]
              go_quiet ((go_at_call 15; first | with_reducible exact Calls.quiet_of_same (C1.out _ (Hr12.out.drewN _)) | with_reducible exact Calls.quiet_of_same (C2.out _ (Ho12.out.drewN _))))
              go_wp2_with fail
              go_ret
              exact ⟨rfl, below_drewN Hb12.out _⟩
            · have hff : ¬ flist l = flist (l.set q x) := fun h => hxx (Hfl.out.1 h)
              have b1 : (((flist l : Nat) : Int) == ((flist (l.set q x) : Nat) : Int)) = false := by rw [beq_eq_false_iff_ne]; omega
              have b2 : (((l[q] : Nat) : Int) == ((x : Nat) : Int)) = false := by rw [beq_eq_false_iff_ne]; omega
              clear hff hxx Hfl
              generalize flist l = f at *
              generalize flist (l.set q x) = f2 at *
              generalize l[q] = y at *
              go_wp2_with fail
              rw [Hw.out]
              go_quiet ((go_at_call 15; first | with_reducible exact Calls.quiet_of_same (C1.out _ (Hr12.out.drewN _)) | with_reducible exact Calls.quiet_of_same (C2.out _ (Ho12.out.drewN _))))
              go_wp2_with fail
              go_ret
              exact ⟨rfl, below_drewN Hb12.out _⟩
    · have hn1 : 1 ≤ n := by omega
      have hd : decide ((0 : Int) < (n : Int)) = true := by simp; omega
      have hnn : IntKind.i64.wrap ((n : Int) - 1) = (n : Int) - 1 := IntWalk.i64_in _ (by omega)
      go_wp2_with fail
      refine (next_any g cs k1 6 _ Hc.out (by decide) (by omega) Hcl.out).mono ?_
      rintro e w3 ⟨r6, k3, rfl, hr6, _, hc3, hg3⟩
      have hr6 : r6 < 6 := by have := hr6 (by omega); omega
      have Hs3 := Lib.hid (slU_only Hc.out Hs.out hg3)
      have Hb3 := Lib.hid (grown_g Hb.out hg3 hg)
      have hB3 : B ≤ w3.heap.size := Nat.le_trans hB hg3.size
      have Hc3 := Lib.hid hc3
      clear hc3 hg3 Hs Hb Hc
      go_wp2_with (at_builtin; refine Pause.out ?_)
      refine Pause.of (wpList_appendU _ rfl _ _ rfl B _ l rfl (Hs3.out.alloc _) _ 1 1 [r6] rfl rfl (rd_box w3 r6 _) (by omega) (by simp; omega) ?_)
      intro v4 w4 hs4 hb4
      have HR := Lib.hid (fun z hz => o1_step (z := z) hz hn1 hln H6.out hr6 hs4 hb4 Hc3.out hgB Hb3.out hB3 hwB)
      clear hs4 hb4
      go_wp2_with fail
      go_roundw
      case rel => exact HR.out _ (by go_num)
      case measure => simp [intOf]; omega
end Go.Proofs.Ytlcipcgeanipfaa
