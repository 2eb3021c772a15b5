/-
  The walk of PredictorApart. Condition: arguments that can be read.
-/
import Derived.Test.YtanjggfcahjkfaaPdSteady
namespace Go.Proofs.Ytanjggfcahjkfaa
open Go.RowKit

theorem okF_small {f : F3} (h : okF f) : f.a ≤ 1000000 ∧ f.k ≤ 1000000 := by
  obtain ⟨h1, _, _, h4⟩ := h
  omega
def pick3 (n k : Nat) (fs : List F3) : List F3 := fs.filter (fun f => f.a % n == k)
theorem pick3_ft (n k : Nat) : ∀ fs : List F3, (pick3 n k fs).map ft = partT n k (fs.map ft)
  | [] => rfl
  | f :: fs => by
    have ih := pick3_ft n k fs
    unfold pick3 partT at ih ⊢
    rw [List.map_cons, List.filter_cons, List.filter_cons]
    have : ((ft f).1 % n == k) = (f.a % n == k) := rfl
    rw [this]
    cases f.a % n == k with
    | true => simp [ih]
    | false => simpa using ih
theorem pick3_at {n k i : Nat} {fs : List F3} {f : F3} (h : fs[i]? = some f) : pick3 n k (fs.take (i + 1)) = pick3 n k (fs.take i) ++ (if f.a % n == k then [f] else []) := by
  rw [List.take_add_one, h]
  unfold pick3
  rw [List.filter_append]
  simp only [Option.toList, List.filter_cons, List.filter_nil]
def ApI (w : World) (n k : Nat) (fs : List F3) (v vi : Value) (wr : World) : Prop :=
  ∃ i q : Nat, i ≤ fs.length ∧ vi = .int .i64 (i : Int) ∧ (pick3 n k (fs.take i)).length = q ∧ q ≤ i ∧ OR w 42 3 v q (fcs (pick3 n k (fs.take i))) wr
def ApO (w : World) (n : Nat) (fl : List Ft) (vs vk : Value) (wr : World) : Prop :=
  ∃ k : Nat, k ≤ n ∧ vk = .int .i64 (k : Int) ∧ vs = .int .i64 ((sumTo (fun k => nWrong (List.replicate n 1) (partT n k fl)) k : Nat) : Int) ∧ Below w.heap.size w wr
theorem nWrong_len (t : List Nat) (l : List Ft) : nWrong t l ≤ l.length := by
  have := wrong_le_br l t
  have h2 : nBr l ≤ l.length := List.countP_le_length
  omega
theorem sumTo_le {f : Nat → Nat} {c : Nat} : ∀ k, (∀ i, f i ≤ c) → sumTo f k ≤ k * c
  | 0, _ => Nat.zero_le _
  | k + 1, h => by
    have := sumTo_le k h
    have := h k
    rw [sumTo, Nat.add_mul]
    omega
set_option maxRecDepth 10000 in
set_option maxHeartbeats 1000000 in
theorem apart_any (A : Option Addr) (l : List Nat) (m c : Nat) (W : World) (hm : l.length = m) (hmc : m ≤ c) (hr : Rd W A (l.map bv)) (hl : ∀ x ∈ l, x < 256) :
    Calls Try.prog 6 #[.slice A m c] W (TrueP W) := by
  have Hm := Lib.hid hm; clear hm
  have Hr := Lib.hid hr; clear hr
  have Hl := Lib.hid hl; clear hl
  go_enter Try.func6, Try.ntmps6
  go_wp2_with fail
  refine (awake_16 _).mono ?_
  rintro e w1 ⟨rfl, hb1⟩
  have Hb1 := Lib.hid hb1; clear hb1
  go_wp2_with fail
  refine (new_any A l m c 300 w1 Hm.out hmc (Hr.out.below Hb1.out) (by decide)).mono ?_
  rintro e w2 ⟨g, l2, rfl, hg, hl2, hl2e, hc2, hb2⟩
  have Hb2 := Lib.hid (below_next Hb1.out hb2)
  have hgW : W.heap.size ≤ g := Nat.le_trans Hb1.out.size hg
  have Hl2 : Hid (∀ x ∈ l2, x < 256) := Lib.hid (by rw [hl2e]; exact fun x hx => Hl.out x (List.mem_of_mem_take hx))
  have Hc2 := Lib.hid hc2
  clear hb2 hl2e hc2 hg Hm Hr Hl
  go_wp2_with fail
  refine (drawn_any g l2 0 6 _ Hc2.out (by decide) (by omega) Hl2.out).mono ?_
  rintro e w3 ⟨r, k3, rfl, hr3, _, hc3, hg3⟩
  have hr12 : r < 6 := by have := hr3 (by omega); omega
  have Hc3 := Lib.hid hc3
  have Hb3 := Lib.hid (Hb2.out.trans (grown_any hg3 (fun k hk => by injection hk with hk; omega) Hb2.out.size))
  clear hr3 hc3 hg3
  go_wp2_with fail
  refine (trace_any g l2 k3 50 w3 Hc3.out (by omega) Hl2.out (by decide)).mono ?_
  rintro e w4 ⟨fs, v, rfl, hfn, hok, hd⟩
  have Hb4 := Lib.hid (dr_below hd Hb3.out hgW)
  obtain ⟨Af, cf, rfl, hcf, hrf⟩ := own_form hd.own
  obtain ⟨n, hn⟩ : ∃ n, fs.length = n := ⟨_, rfl⟩
  rw [hn] at hcf hfn
  have Hn := Lib.hid hn
  have Hok := Lib.hid hok
  have Hrf := Lib.hid hrf
  simp only [hn]
  clear hd hok hrf hn
  go_wp2_with fail
  have hs1 : (1 : Int) + (r : Int) = ((1 + r : Nat) : Int) := by omega
  rw [hs1]
  obtain ⟨size, hsz⟩ : ∃ size, 1 + r = size := ⟨_, rfl⟩
  rw [hsz]
  have hsz1 : 1 ≤ size := by omega
  have hsz2 : size ≤ 6 := by omega
  clear hs1 hsz hr12
  refine (count_any size fs Af n cf w4 Hn.out hcf Hrf.out (by omega) (by omega) (fun f hf => okF_small (Hok.out f hf))).mono ?_
  rintro e w5 ⟨rfl, hb5⟩
  obtain ⟨B, hB⟩ : ∃ B, nBr (fs.map ft) = B := ⟨_, rfl⟩
  obtain ⟨X, hX⟩ : ∃ X, wrongS size (fs.map ft) = X := ⟨_, rfl⟩
  rw [hB, hX]
  have HX := Lib.hid hX
  have Hb5 := Lib.hid (below_next Hb4.out hb5)
  have Hf5 := Lib.hid (Hrf.out.below hb5)
  clear hb5 Hrf hB hX
  go_wp2_with fail
  go_loopw [8, 9] (fun vs vk wr => ApO w5 size (fs.map ft) vs vk wr) (fun _ vk _ => size - (intOf vk).toNat)
  case atStart => exact ⟨0, Nat.zero_le _, rfl, rfl, Below.refl _ _⟩
  case round =>
    obtain ⟨k, hk, rfl, rfl, hb⟩ := hrel
    have Hb := Lib.hid hb
    obtain ⟨S, hS⟩ : ∃ S, sumTo (fun k => nWrong (List.replicate size 1) (partT size k (fs.map ft))) k = S := ⟨_, rfl⟩
    have hSl : S ≤ k * n := by
      rw [← hS]
      refine sumTo_le k (fun i => ?_)
      have h1 := nWrong_len (List.replicate size 1) (partT size i (fs.map ft))
      have h2 : (partT size i (fs.map ft)).length ≤ (fs.map ft).length := List.length_filter_le _ _
      rw [List.length_map, Hn.out] at h2
      omega
    have hSl : S ≤ 300 := Nat.le_trans hSl (Nat.mul_le_mul (by omega : k ≤ 6) hfn)
    rw [hS]
    have HS := Lib.hid hS
    clear hb hS
    by_cases hlt : k < size
    · go_wp2_with fail
      go_loopw [10, 11] (fun v vi wr2 => ApI w5 size k fs v vi wr2) (fun _ vi _ => n - (intOf vi).toNat)
      case atStart => exact ⟨0, 0, Nat.zero_le _, rfl, rfl, Nat.le_refl _, OR.nil_ Hb.out⟩
      case round =>
        clear Hb
        obtain ⟨i, q, hi, rfl, hq, hqi, ho⟩ := hrel
        rw [Hn.out] at hi
        have Ho := Lib.hid ho
        have Hq := Lib.hid hq
        clear ho hq
        by_cases hlt2 : i < n
        · obtain ⟨f, hf⟩ : ∃ f, fs[i]? = some f := ⟨fs[i]'(by rw [Hn.out]; exact hlt2), List.getElem?_eq_getElem _⟩
          obtain ⟨ad, rfl, d0, d1, d2⟩ := ft_cells (Hf5.out.below Ho.out.bel) hf
          have HTk := Lib.hid (pick3_at (n := size) (k := k) hf)
          have hok := Hok.out f (List.mem_of_getElem? hf)
          obtain ⟨fa, fz, fk⟩ := f
          simp only [] at d0 d1 d2
          have hfa : fa < 80 := hok.1
          clear hf hok
          by_cases he : fa % size = k
          · have ht : ((fa : Int) % (size : Int) == (k : Int)) = true := by
              rw [beq_iff_eq]
              omega
            have HTk2 : Hid (pick3 size k (fs.take (i + 1)) = pick3 size k (fs.take i) ++ [⟨fa, fz, fk⟩]) := Lib.hid (by rw [HTk.out]; simp [he])
            clear HTk he
            go_wp2_with (at_builtin; refine Pause.out ?_)
            refine Pause.of (wpList_append_ft wr rfl (.tmp 49) (.tmp 54) rfl w5.heap.size _ _ q ⟨fa, fz, fk⟩ _ _ _ Hq.out (by simp [fc, nv]) rfl rfl Ho.out.own (by omega) Ho.out.bel.size ?_)
            intro v' w6 hown hg
            have Ho2 := Lib.hid (Ho.out.app hown hg)
            clear hown hg
            go_wp2_with fail
            exact ⟨⟨i + 1, q + 1, by rw [Hn.out]; omega, by go_num, by rw [HTk2.out, List.length_append, Hq.out]; rfl, by omega, by rw [HTk2.out]; exact Ho2.out⟩, by simp [intOf]; omega⟩
          · have ht : ((fa : Int) % (size : Int) == (k : Int)) = false := by
              rw [beq_eq_false_iff_ne]
              omega
            have HTk2 : Hid (pick3 size k (fs.take (i + 1)) = pick3 size k (fs.take i)) := Lib.hid (by rw [HTk.out]; simp [he])
            clear HTk he
            go_wp2_with fail
            exact ⟨⟨i + 1, q, by rw [Hn.out]; omega, by go_num, by rw [HTk2.out, Hq.out], by omega, by rw [HTk2.out]; exact Ho.out⟩, by simp [intOf]; omega⟩
        · obtain rfl : i = n := by omega
          obtain ⟨Ap, cp, rfl, hcp, hrp⟩ := own_form Ho.out.own
          have hall : fs.take i = fs := List.take_of_length_le (by have := Hn.out; omega)
          rw [hall] at Hq hrp
          have HK := Lib.hid (count_any size (pick3 size k fs) Ap q cp wr Hq.out hcp hrp (by omega) (by omega) (fun f hf => okF_small (Hok.out f (List.mem_filter (p := fun f : F3 => f.a % size == k).1 hf).1)))
          obtain ⟨Y, hY⟩ : ∃ Y, wrongS size ((pick3 size k fs).map ft) = Y := ⟨_, rfl⟩
          have hYq : Y ≤ q := by
            rw [← hY]
            unfold wrongS
            rw [if_neg (by omega)]
            have := nWrong_len (List.replicate size 1) ((pick3 size k fs).map ft)
            rw [List.length_map, Hq.out] at this
            exact this
          rw [hY] at HK
          have hYs : nWrong (List.replicate size 1) (partT size k (fs.map ft)) = Y := by
            rw [← hY, pick3_ft]
            unfold wrongS
            rw [if_neg (by omega)]
          have HY := Lib.hid hYs
          clear hrp hall hY hYs
          go_wp2_with fail
          refine HK.out.mono ?_
          rintro e w6 ⟨rfl, hb6⟩
          have Hb6 := Lib.hid (Ho.out.bel.trans (hb6.mono Ho.out.bel.size))
          clear hb6 HK
          go_wp2_with fail
          exact ⟨⟨k + 1, by omega, by go_num, by rw [sumTo, HS.out, HY.out]; go_num, Hb6.out⟩, by simp [intOf]; omega⟩
    · obtain rfl : k = size := by omega
      have hfin : X = S := by
        rw [← HX.out, ← HS.out]
        unfold wrongS
        rw [if_neg (by omega)]
        exact wrong_apart hsz1 _ _ (List.length_replicate)
      subst hfin
      go_wp2_with fail
      go_ret
      exact ⟨rfl, Hb5.out.trans (Hb.out.mono Hb5.out.size)⟩
end Go.Proofs.Ytanjggfcahjkfaa
