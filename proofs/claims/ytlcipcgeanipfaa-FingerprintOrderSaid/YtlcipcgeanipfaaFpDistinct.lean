/-
  The walk of Distinct: a clone, sorted, its runs cut, is a set of the elements, each one once. Condition: at most a million elements.
-/
import Derived.Test.YtlcipcgeanipfaaFpSetMath
import Derived.Test.YtlcipcgeanipfaaSortTop
namespace Go.Proofs.Ytlcipcgeanipfaa
open Go.RowKit Go.Sort Go.Lib

set_option maxRecDepth 10000 in
theorem clone_any (A : Option Addr) (l : List Nat) (m c : Nat) (w : World) (hm : l.length = m) (hr : Rd w A (l.map uv)) (hA : A = none → l = []) (hreach : m ≤ 1000000) :
    Calls Try.prog 23 #[.slice A m c] w fun e w' => ∃ v', e = .returned v' ∧ w'.ownsRow w.heap.size 22 1 v' m (l.map uv) ∧ Go.RowKit.Below w.heap.size w w' := by
  have q22 := fun (w : World) (a : Option Addr) (n c n' c' : Nat) => Lib.run_eql_slice_nil w _ _ a n c n' c' Try.underlying24
  cases A with
  | none =>
    obtain rfl := hA rfl
    subst hm
    go_enter Try.func23, Try.ntmps23
    go_wp2_with fail
    go_ret
    exact ⟨_, rfl, World.ownsRow_nil w _ _ 1, Below.refl _ _⟩
  | some ad =>
    obtain ⟨i5, hi, hz0, hz1, hz2⟩ := info_parts Try.infoU64
    have Hr := Lib.hid hr; clear hr
    have Hm := Lib.hid hm; clear hm
    go_enter Try.func23, Try.ntmps23
    go_wp2_with (at_builtin; refine Pause.out ?_)
    refine Pause.of (wpList_append_own _ rfl _ _ 24 rfl w.heap.size 22 i5 (.int .u64 0) 1 8 Try.underlying24 hi hz0 hz1 hz2 rfl Nat.one_pos _ _ _ rfl (World.ownsRow_made w #[] 0 (Nat.le_refl _) (Nat.zero_le _) (by simp)) ad m c (l.map uv) rfl (by rw [List.length_map, Hm.out, Nat.mul_one]) (Hr.out.alloc _).cells (uv_one _) (by unfold maxLen; omega) (by omega) (by simp) ?_)
    intro v' w1 hown hgrow _
    have Ho := Lib.hid hown; clear hown
    have Hg := Lib.hid hgrow; clear hgrow
    go_wp2_with fail
    go_ret
    refine ⟨v', rfl, by simpa using Ho.out, ((Below.refl _ w).alloc (Nat.le_refl _) _).grown Hg.out (by simp) (fun k hk => ?_)⟩
    have hk' : some w.heap.size = some k := hk
    injection hk' with hk'
    omega

/-! ### The empty row -/
set_option maxRecDepth 100000 in
theorem insertion_zero (A : Option Addr) (c : Nat) (w : World) : Calls Try.prog 28 #[.slice A 0 c, .int .i64 0, .int .i64 0] w fun e w' => e = .returned (.tuple #[]) ∧ w = w' := by
  go_enter Try.func28, Try.ntmps28
  go_wp2_with fail
  go_loopw [6] (fun v wr => v = .int .i64 1 ∧ wr = w) (fun _ _ => 0)
  case atStart => exact ⟨rfl, rfl⟩
  case round =>
    obtain ⟨rfl, rfl⟩ := hrel
    go_wp2_with fail
    go_end0
    exact ⟨rfl, rfl⟩
set_option maxRecDepth 100000 in
set_option maxHeartbeats 800000 in
theorem pdq_zero (A : Option Addr) (c : Nat) (lim : Int) (w : World) : Calls Try.prog 26 #[.slice A 0 c, .int .i64 0, .int .i64 0, .int .i64 lim] w fun e w' => e = .returned (.tuple #[]) ∧ w = w' := by
  go_enter Try.func26, Try.ntmps26
  go_wp2_with fail
  go_loopg [1, 2] 0 (fun g v1 v2 wr => v1 = .int .i64 0 ∧ v2 = .int .i64 0 ∧ wr = w ∧ g = 0)
  case atStart => exact ⟨rfl, rfl, rfl, rfl⟩
  case round =>
    obtain ⟨rfl, rfl, rfl, rfl⟩ := hrel
    go_wp2_with fail
    refine (insertion_zero A c _).mono ?_
    rintro e w1 ⟨rfl, rfl⟩
    go_wp2_with fail
    refine bodyPost_ret (results_zero rfl _ _ _) rfl ⟨rfl, rfl⟩
set_option maxRecDepth 100000 in
theorem sort_zero (A : Option Addr) (c : Nat) (w : World) : Calls Try.prog 24 #[.slice A 0 c] w fun e w' => e = .returned (.tuple #[]) ∧ w = w' := by
  go_enter Try.func24, Try.ntmps24
  go_wp2_with fail
  refine (Try.bits_Len 0 _ (by decide) (by decide)).mono ?_
  rintro e w1 ⟨rfl, rfl⟩
  go_wp2_with fail
  refine (pdq_zero A c _ _).mono ?_
  rintro e w1 ⟨rfl, rfl⟩
  go_wp2_with fail
  go_end0
  exact ⟨rfl, rfl⟩
theorem compact_zero (A : Option Addr) (c : Nat) (w : World) : Calls Try.prog 25 #[.slice A 0 c] w fun e w' => e = .returned (.slice A 0 c) ∧ w = w' := by
  go_enter Try.func25, Try.ntmps25
  go_wp2_with fail
  go_ret
  exact ⟨rfl, rfl⟩

/-! ### A row that holds something -/
theorem below_sorted {w0 W : World} {blk off len B : Nat} {d : Array Int} (h : St w0 blk off len d W) (hB : B ≤ blk) (hw : B ≤ w0.heap.size) : Go.RowKit.Below B w0 W := by
  obtain ⟨_, n, os, rfl⟩ := h
  refine ⟨rfl, rfl, rfl, ?_, fun k hk => ?_⟩
  · unfold sortWorld
    simp
  · unfold sortWorld
    rw [heap_grow_old _ _ (by simp; omega)]
    simp only [putRow, mapBlock, heap_ahead, Array.getElem?_modify]
    rw [if_neg (by omega)]
theorem below_put {w : World} {blk off B q : Nat} {d : Array Int} (hB : B ≤ blk) : Go.RowKit.Below B w (putRow (Value.int .u64) (Sort.ahead w q) blk off d) := by
  refine ⟨rfl, rfl, rfl, by simp, fun k hk => ?_⟩
  simp only [putRow, mapBlock, heap_ahead, Array.getElem?_modify]
  rw [if_neg (by omega)]
theorem holds_own {w : World} {g n : Nat} {cur : Array Value} {e : TypeId} {l : List Nat} (hb : w.heap[g]? = some (.cells cur e (0, 0))) (hl : l.length = n) (ht : cur.toList.take n = l.map uv) : Holds (Value.int .u64) w g 0 (ints l).toArray := by
  intro j hj
  have hj' : j < l.length := by simpa [ints] using hj
  refine ⟨?_, by simp [World.frozen?, hb]⟩
  rw [Nat.zero_add, cell_of_row w g j cur e (0, 0) hb]
  have h1 : (cur.toList.take n)[j]? = some (uv l[j]) := by rw [ht]; simp [hj']
  rw [List.getElem?_take_of_lt (by omega)] at h1
  rw [show cur[j]? = cur.toList[j]? by simp, h1]
  simp [uv, ints, hj']
/-- What the cut row reads as. -/
theorem rd_cut {w : World} {g q cap : Nat} {R : Array Int} {xs l' : List Int} {l2 : List Nat} (hH : Holds (Value.int .u64) w g 0 R) (hsz : (xs ++ l').length = R.size) (hx : xs = ints l2) (_ : R.size ≤ cap) :
    Rd (putRow (Value.int .u64) (Sort.ahead w q) g 0 (xs ++ l').toArray) (some ⟨g, 0, none⟩) (l2.map uv) := Rd.of_cells fun j u hu => by
  rw [Addr.add_lit]
  have hj : j < l2.length := by
    rcases Nat.lt_or_ge j l2.length with hl | hl
    · exact hl
    · rw [List.getElem?_eq_none (by simpa using hl)] at hu; cases hu
  have hj2 : j < xs.length := by rw [hx]; simpa [ints] using hj
  have h := (holds_putRow (Value.int .u64) (Sort.ahead w q) g 0 R (xs ++ l').toArray (holds_ahead _ _ _ _ _ _ hH) (by simpa using hsz) j (by simp; omega)).1
  rw [h, ← hu]
  subst hx
  simp only [List.getElem?_map, List.getElem?_eq_getElem hj, Option.map_some]
  congr 1
  rw [getElem!_pos _ j (by simp; omega)]
  simp only [uv, ints, List.getElem_toArray, Value.int.injEq, true_and]
  rw [List.getElem_append_left (by simpa using hj)]
  simp
set_option maxRecDepth 100000 in
set_option maxHeartbeats 800000 in
theorem distinct_some (A : Option Addr) (l : List Nat) (m c : Nat) (w : World) (hm : l.length = m) (hr : Rd w A (l.map uv)) (hA : A = none → l = []) (hl : ∀ x ∈ l, x < 18446744073709551616) (hpos : 1 ≤ m) (hreach : m ≤ 1000000) :
    Calls Try.prog 19 #[.slice A m c] w fun f w' => f = .returned (.int .u64 ((fset (onces [] l) : Nat) : Int)) ∧ Go.RowKit.Below w.heap.size w w' := by
  have HC := Lib.hid (clone_any A l m c w hm hr hA hreach)
  have Hm := Lib.hid hm; clear hm
  have Hl := Lib.hid hl; clear hl
  clear hr hA
  go_enter Try.func19, Try.ntmps19
  go_wp2_with fail
  refine HC.out.mono ?_
  rintro e w1 ⟨v, rfl, hown, hb1⟩
  rcases hown.2 with ⟨_, h0⟩ | ⟨g, cap, cur, rfl, hbg, hcur, hnc, hcm, hsz, htk⟩
  · omega
  · rw [Nat.mul_one] at htk
    have hglt : g < w1.heap.size := by
      rcases Nat.lt_or_ge g w1.heap.size with hlt | hge
      · exact hlt
      · rw [Array.getElem?_eq_none hge] at hcur; cases hcur
    have HH := Lib.hid (holds_own hcur Hm.out htk)
    have Hb1 := Lib.hid hb1; clear hb1
    have hsz1 : w.heap.size ≤ w1.heap.size := Hb1.out.size
    clear hown hcur hsz htk
    go_wp2_with fail
    refine (sort_any g 0 m cap (ints l).toArray w1 (by simpa [ints] using Hm.out) HH.out hglt (by omega)).mono ?_
    rintro e w2 ⟨rfl, R, hs, hp, hsrt⟩
    obtain ⟨l', hc, hperm⟩ := compact_once (by rw [Hm.out]; exact hp) (by rw [Hm.out]; exact hsrt)
    have hR : R.size = m := hs.1
    have HB2 := Lib.hid (Hb1.out.trans (below_sorted hs hbg hsz1))
    have HH2 := Lib.hid (hs.2.holds hglt HH.out (by rw [hR]; simpa [ints] using Hm.out.symm))
    have hk := Try.slices_Compact (Value.int .u64) (fun _ => rfl) (EqlAt.intD _ _ _) (NeqAt.intD _ _ _) 0 Try.zeroValue22 g 0 cap R w2 HH2.out (by omega) (by omega)
    rw [hc, hR] at hk
    have hl2 : (ints l').length = l'.length := by simp [ints]
    have hlen2 : l'.length ≤ m := by
      rw [hperm.length_eq, ← Hm.out]
      have := onces_len [] l
      simpa using this
    have hsm2 : ∀ x ∈ l', x < 18446744073709551616 := fun x hx => onces_small (acc := []) (by simp) Hl.out x (hperm.mem_iff.1 hx)
    have HF := Lib.hid (fset_once hperm)
    rw [hl2] at hk
    have HK := Lib.hid hk
    have HRd := Lib.hid (fun q => rd_cut (q := q) (cap := cap) (xs := ints l') (l' := List.replicate (m - l'.length) 0) HH2.out (by rw [List.length_append, hl2, List.length_replicate, hR]; omega) rfl (by omega))
    clear hs hp hsrt hk hl2 hR hc hperm
    go_wp2_with fail
    refine HK.out.mono ?_
    rintro e w3 ⟨rfl, q, rfl⟩
    have HR3 := Lib.hid (HRd.out q)
    have HB3 := Lib.hid (HB2.out.trans (below_put (q := q) (off := 0) (d := (ints l' ++ List.replicate (m - l'.length) 0).toArray) hbg))
    generalize putRow (Value.int .u64) (Sort.ahead w2 q) g 0 (ints l' ++ List.replicate (m - l'.length) 0).toArray = w3 at *
    go_wp2_with fail
    refine (set_any _ l' _ _ _ rfl HR3.out hsm2 (by omega)).mono ?_
    rintro e w4 ⟨rfl, rfl⟩
    go_wp2_with fail
    go_ret
    exact ⟨ret_u64 (congrArg (fun q => ((q : Nat) : Int)) HF.out), HB3.out⟩
set_option maxRecDepth 100000 in
theorem distinct_zero (A : Option Addr) (c : Nat) (w : World) (hA : Rd w A []) (hn : A = none → ([] : List Nat) = []) :
    Calls Try.prog 19 #[.slice A 0 c] w fun f w' => f = .returned (.int .u64 ((fset (onces [] []) : Nat) : Int)) ∧ Go.RowKit.Below w.heap.size w w' := by
  have HC := Lib.hid (clone_any A [] 0 c w rfl hA hn (by decide))
  clear hA hn
  go_enter Try.func19, Try.ntmps19
  go_wp2_with fail
  refine HC.out.mono ?_
  rintro e w1 ⟨v, rfl, hown, hb1⟩
  obtain ⟨A', c', rfl, hr', _⟩ := Sl.nums (l := []) (.inl hown)
  have Hb1 := Lib.hid hb1; clear hb1
  have Hr' := Lib.hid hr'; clear hr' hown
  simp only [List.length_nil]
  go_wp2_with fail
  refine (sort_zero A' c' _).mono ?_
  rintro e w2 ⟨rfl, rfl⟩
  go_wp2_with fail
  refine (compact_zero A' c' _).mono ?_
  rintro e w2 ⟨rfl, rfl⟩
  go_wp2_with fail
  refine (set_any A' [] 0 c' _ rfl Hr'.out (by simp) (by decide)).mono ?_
  rintro e w2 ⟨rfl, rfl⟩
  go_wp2_with fail
  go_ret
  exact ⟨rfl, Hb1.out⟩
theorem distinct_any (A : Option Addr) (l : List Nat) (m c : Nat) (w : World) (hm : l.length = m) (hr : Rd w A (l.map uv)) (hA : A = none → l = []) (hl : ∀ x ∈ l, x < 18446744073709551616) (hreach : m ≤ 1000000) :
    Calls Try.prog 19 #[.slice A m c] w fun f w' => f = .returned (.int .u64 ((fset (onces [] l) : Nat) : Int)) ∧ Go.RowKit.Below w.heap.size w w' := by
  by_cases hpos : 1 ≤ m
  · exact distinct_some A l m c w hm hr hA hl hpos hreach
  · obtain rfl : m = 0 := by omega
    obtain rfl := List.eq_nil_of_length_eq_zero hm
    exact distinct_zero A c w hr (fun _ => rfl)
end Go.Proofs.Ytlcipcgeanipfaa
