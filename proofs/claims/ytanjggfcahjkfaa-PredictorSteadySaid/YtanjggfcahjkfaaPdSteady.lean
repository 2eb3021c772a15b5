/-
  The walk of PredictorSteady. Condition: arguments that can be read.
-/
import Derived.Test.YtanjggfcahjkfaaPdL
namespace Go.Proofs.Ytanjggfcahjkfaa
open Go.RowKit

def SyR (W : World) (b : Bool) (N : Nat) (vt vx vj : Value) (wr : World) : Prop :=
  ∃ (j x : Nat) (t : List Nat), j ≤ N ∧ vj = .int .i64 (j : Int) ∧ vx = .int .i64 (x : Int) ∧ 1 ≤ t.length ∧ t.length ≤ 8 ∧ Ctrs t ∧ x + steadyN b (ctr t 5) ≤ 2 ∧ RdS wr vt (t.map nv) t.length ∧ Below W.heap.size W wr
def tfs (n : Nat) : List F3 := (List.range n).map (fun k => ⟨0, 2, 1 + k % 2⟩)
theorem tfs_ft (n : Nat) : (tfs n).map ft = turns n := by simp [tfs, turns, ft, Function.comp_def]
theorem tfs_len (n : Nat) : (tfs n).length = n := by simp [tfs]
theorem tfs_snoc (n : Nat) : tfs (n + 1) = tfs n ++ [⟨0, 2, 1 + n % 2⟩] := by simp [tfs, List.range_succ]
theorem tfs_small (n : Nat) : ∀ f ∈ tfs n, f.a ≤ 1000000 ∧ f.k ≤ 1000000 := by
  intro f hf
  obtain ⟨k, _, rfl⟩ := List.mem_map.1 hf
  simp only []
  omega
def TfR (W : World) (N : Nat) (v vj : Value) (wr : World) : Prop :=
  ∃ j : Nat, j ≤ N ∧ vj = .int .i64 (j : Int) ∧ OR W 42 3 v j (fcs (tfs j)) wr
theorem steady_end {n : Nat} : wrongS 4 (turns n) = n := by
  have := (turns_all n).1
  simpa [wrongS, List.replicate] using this
def TrueP (W : World) (e : Ending) (w' : World) : Prop := e = .returned (.bool true) ∧ Below W.heap.size W w'
theorem dr_below {w wr : World} {g s n : Nat} {l : List Nat} {T : TypeId} {v : Value} {xs : List Value} {W : World} (h : DR w g l T s v n xs wr) (hb : Below W.heap.size W w) (hg : W.heap.size ≤ g) : Below W.heap.size W wr :=
  hb.trans ((grown_any h.gro (fun k hk => by injection hk with hk; omega) hb.size))
set_option maxRecDepth 10000 in
set_option maxHeartbeats 1000000 in
theorem steady_any (A : Option Addr) (l : List Nat) (m c : Nat) (b : Bool) (n : Nat) (W : World) (hm : l.length = m) (hmc : m ≤ c) (hr : Rd W A (l.map bv)) (hl : ∀ x ∈ l, x < 256) (hn : n < 256) :
    Calls Try.prog 5 #[.slice A m c, .bool b, .int .u8 (n : Int)] W (TrueP W) := by
  have Hm := Lib.hid hm; clear hm
  have Hr := Lib.hid hr; clear hr
  have Hl := Lib.hid hl; clear hl
  obtain ⟨N, hN⟩ : ∃ N, N = n % 40 := ⟨_, rfl⟩
  have hmod : (n : Int) % 40 = (N : Int) := by omega
  have hN40 : N < 40 := by omega
  clear hN
  go_enter Try.func5, Try.ntmps5
  go_wp2_with fail
  refine (awake_16 _).mono ?_
  rintro e w1 ⟨rfl, hb1⟩
  have Hb1 := Lib.hid hb1; clear hb1
  go_wp2_with fail
  refine (new_any A l m c 20 w1 Hm.out hmc (Hr.out.below Hb1.out) (by decide)).mono ?_
  rintro e w2 ⟨g, l2, rfl, hg, hl2, hl2e, hc2, hb2⟩
  have Hb2 := Lib.hid (below_next Hb1.out hb2)
  have hgW : W.heap.size ≤ g := Nat.le_trans Hb1.out.size hg
  have Hl2 : Hid (∀ x ∈ l2, x < 256) := Lib.hid (by rw [hl2e]; exact fun x hx => Hl.out x (List.mem_of_mem_take hx))
  have Hc2 := Lib.hid hc2
  clear hb2 hl2e hc2 hg Hm Hr Hl
  go_wp2_with fail
  refine (table_any g l2 0 w2 Hc2.out (by omega) Hl2.out).mono ?_
  rintro e w3 ⟨t, v, rfl, ht1, ht8, hct, hd⟩
  have Hb3 := Lib.hid (dr_below hd Hb2.out hgW)
  have Hrd : Hid (RdS w3 v (t.map nv) t.length) := Lib.hid (own_form hd.own)
  have Hct := Lib.hid hct
  have HS : Hid (0 + steadyN b (ctr t 5) ≤ 2) := Lib.hid (by have := steadyN_le (b := b) (hct.ctr 5); omega)
  clear hd hct
  go_wp2_with fail
  go_loopw [7, 8, 9] (fun vt vx vj wr => SyR W b N vt vx vj wr) (fun _ _ vj _ => N - (intOf vj).toNat)
  case atStart => exact ⟨0, 0, t, Nat.zero_le _, rfl, rfl, ht1, ht8, Hct.out, HS.out, Hrd.out, Hb3.out⟩
  case round =>
    clear Hrd Hct HS Hb3 ht1 ht8
    obtain ⟨j, x, t, hj, rfl, rfl, ht1, ht8, hct, hs, hrd, hb⟩ := hrel
    have Hb := Lib.hid hb
    have Hct := Lib.hid hct
    have Hs := Lib.hid hs
    have hx2 : x ≤ 2 := by omega
    obtain ⟨At, ct, rfl, hcn, hrt⟩ := hrd
    obtain ⟨q, hq⟩ : ∃ q, t.length = q := ⟨_, rfl⟩
    rw [hq] at hcn ht1 ht8
    have Hq := Lib.hid hq
    have Hrt := Lib.hid hrt
    simp only [hq]
    clear hb hct hs hrt hq
    by_cases hlt : j < N
    · obtain ⟨pb, hpb⟩ : ∃ pb, prN t 5 = pb := ⟨_, rfl⟩
      have HP := Lib.hid (predict_any pb t At q ct 5 wr hpb Hq.out hcn Hrt.out ht1 (by omega) Hct.out (by decide))
      have Hst := Lib.hid (prN_steady Hct.out (a := 5) (by have := Hq.out; omega) b)
      have HU : Hid (∀ r, Calls Try.prog 15 #[.slice At q ct, .int .i64 5, .bool b] (wr.drewN r) (IntsP (upT t 5 b) (wr.drewN r))) := Lib.hid (fun r => update_any t At q ct 5 b _ Hq.out hcn (Hrt.out.drewN r) ht1 (by omega) Hct.out (by decide))
      have Hu := Lib.hid (Hct.out.up 5 b)
      rw [hpb] at Hst
      have HuL : Hid ((upT t 5 b).length = q) := Lib.hid (by rw [upT_len, Hq.out])
      clear hpb
      go_wp2_with fail
      refine HP.out.mono ?_
      rintro e w4 ⟨rfl, r, rfl⟩
      clear HP
      by_cases hd : pb = b
      · have hne : (pb != b) = false := by simp [hd]
        have Hs2 : Hid (x + steadyN b (ctr (upT t 5 b) 5) ≤ 2) := Lib.hid (by have := Hst.out; have := Hs.out; simp [hne] at *; omega)
        have heq : (pb == b) = true := by simp [hd]
        clear Hst Hs hd hne
        go_wp2_with fail
        refine (HU.out r).mono ?_
        rintro e w5 ⟨v5, rfl, hr5, hb5⟩
        have Hb5 := Lib.hid (Hb.out.trans (Below.mono (below_next (bel_q (Below.refl _ wr) r) hb5) Hb.out.size))
        have Hr5 := Lib.hid hr5
        clear hb5 hr5
        go_wp2_with fail
        exact ⟨⟨j + 1, x, upT t 5 b, by omega, by go_num, rfl, by rw [HuL.out]; exact ht1, by rw [HuL.out]; exact ht8, Hu.out, Hs2.out, Hr5.out, Hb5.out⟩, by simp [intOf]; omega⟩
      · have hne : (pb != b) = true := by simp [hd]
        have Hs2 : Hid (x + 1 + steadyN b (ctr (upT t 5 b) 5) ≤ 2) := Lib.hid (by have := Hst.out; have := Hs.out; simp [hne] at *; omega)
        have heq : (pb == b) = false := by simp [hd]
        clear Hst Hs hd hne
        go_wp2_with fail
        refine (HU.out r).mono ?_
        rintro e w5 ⟨v5, rfl, hr5, hb5⟩
        have Hb5 := Lib.hid (Hb.out.trans (Below.mono (below_next (bel_q (Below.refl _ wr) r) hb5) Hb.out.size))
        have Hr5 := Lib.hid hr5
        clear hb5 hr5
        go_wp2_with fail
        exact ⟨⟨j + 1, x + 1, upT t 5 b, by omega, by go_num, by go_num, by rw [HuL.out]; exact ht1, by rw [HuL.out]; exact ht8, Hu.out, Hs2.out, Hr5.out, Hb5.out⟩, by simp [intOf]; omega⟩
    · obtain rfl : j = N := by omega
      have hx : decide ((j : Int) < (n : Int) % 40) = false := by simp; omega
      have Hmod := Lib.hid hmod
      clear Hs Hct Hrt Hq hmod
      go_wp2_with fail
      clear hx
      go_loopw [11, 12] (fun v vj wr => TfR W j v vj wr) (fun _ vj _ => j - (intOf vj).toNat)
      case atStart => exact ⟨0, Nat.zero_le _, rfl, OR.nil_ Hb.out⟩
      case round =>
        clear Hb
        obtain ⟨i, hi, rfl, ho⟩ := hrel
        have Ho := Lib.hid ho; clear ho
        by_cases hlt : i < j
        · have HL : Hid ((tfs i).length = i) := Lib.hid (tfs_len i)
          have hx : decide ((i : Int) < (n : Int) % 40) = true := by have := Hmod.out; simp; omega
          go_wp2_with (at_builtin; refine Pause.out ?_)
          refine Pause.of (wpList_append_ft wr rfl (.tmp 44) (.tmp 49) rfl W.heap.size _ (tfs i) i ⟨0, 2, 1 + i % 2⟩ _ _ _ HL.out (by simp [fc, nv]) rfl rfl Ho.out.own (by omega) Ho.out.bel.size ?_)
          intro v' w6 hown hg
          rw [← tfs_snoc] at hown
          have Ho2 := Lib.hid (Ho.out.app hown hg)
          clear hown hg
          go_wp2_with fail
          exact ⟨⟨i + 1, by omega, by go_num, Ho2.out⟩, by simp [intOf]; omega⟩
        · obtain rfl : i = j := by omega
          obtain ⟨Af, cf, rfl, hcf, hrf⟩ := own_form Ho.out.own
          have HK := Lib.hid (count_any 4 (tfs i) Af i cf wr (tfs_len i) hcf hrf (by decide) (by omega) (tfs_small i))
          rw [tfs_ft, steady_end] at HK
          have hx : decide ((i : Int) < (n : Int) % 40) = false := by have := Hmod.out; simp; omega
          clear hrf
          go_wp2_with fail
          clear hx
          refine HK.out.mono ?_
          rintro e w6 ⟨rfl, hb6⟩
          have Hb6 := Lib.hid (Ho.out.bel.trans (hb6.mono Ho.out.bel.size))
          clear hb6 HK
          have hfin : decide ((n : Int) % 40 ≤ 2 * (i : Int)) = true := by have := Hmod.out; simp; omega
          go_wp2_with fail
          go_ret
          exact ⟨rfl, Hb6.out⟩
end Go.Proofs.Ytanjggfcahjkfaa
