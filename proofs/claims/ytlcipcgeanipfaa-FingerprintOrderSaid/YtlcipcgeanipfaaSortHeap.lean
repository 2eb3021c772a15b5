/-
  slices.Sort at numbers of 64 bits: the walks of reverseRangeOrdered, siftDownOrdered and heapSortOrdered. Conditions: the row lies in old memory; the bounds lie in the row.
-/
import Derived.Test.YtlcipcgeanipfaaSortIns
import Derived.Laws.AppendOwn
namespace Go.Proofs.Ytlcipcgeanipfaa
open Go.RowKit Go.Sort

theorem results_zero {fn : Func} (h : fn.results = #[]) (tmps : Array Value) (P : Program) (w : World) : (results fn tmps).run P w = .ok (.tuple #[]) w := by simp [results, h]

def RvRel (w0 : World) (blk off len b : Nat) (r : Array Int) (vi vj : Value) (wr : World) : Prop :=
  ∃ (i j : Nat) (dk : Array Int), vi = .int .i64 (i : Int) ∧ vj = .int .i64 (j : Int) ∧ i ≤ b ∧ j < b ∧ St w0 blk off len dk wr ∧ reverseLoop i j dk = r
theorem rvRel_step {w0 wr : World} {blk off len b i j : Nat} {dk r : Array Int} (R : Row64 w0 blk off len) (hij : i < j) (hjb : j < b) (hb : b ≤ len) (S : St w0 blk off len dk wr) (h : reverseLoop i j dk = r) {x y : Int} (hx : x = dk[j]!) (hy : y = dk[i]!) {v u : Int} (hv : v = ((i + 1 : Nat) : Int)) (hu : u = ((j - 1 : Nat) : Int)) (q : Nat) :
    RvRel w0 blk off len b r (.int .i64 v) (.int .i64 u) (((wr.setCell ⟨blk, off + i, none⟩ (.int .u64 x)).setCell ⟨blk, off + j, none⟩ (.int .u64 y)).drewN q) := by
  refine ⟨i + 1, j - 1, swp dk i j, by rw [hv], by rw [hu], by omega, by omega, (S.swap R (by omega) (by omega) hx hy).drewN q, ?_⟩
  rw [← h]
  conv => rhs; rw [reverseLoop, if_pos hij]
set_option maxHeartbeats 4000000 in
set_option maxRecDepth 100000 in
theorem reverse_any (w0 : World) (blk off len cap a b : Nat) (R : Row64 w0 blk off len) (d : Array Int) (W : World) (hS : St w0 blk off len d W) (hab : a < b) (hb : b ≤ len) :
    Calls Try.prog 32 #[.slice (some ⟨blk, off, none⟩) len cap, .int .i64 (a : Int), .int .i64 (b : Int)] W fun e w' =>
      e = .returned (.tuple #[]) ∧ St w0 blk off len (reverseRange d a b) w' := by
  have hsm := R.small
  have HS := Lib.hid hS; clear hS
  have HR := Lib.hid R; clear R
  go_enter Try.func32, Try.ntmps32
  go_wp2_with fail
  go_loopw [6, 7] (fun vi vj wr => RvRel w0 blk off len b (reverseRange d a b) vi vj wr) (fun _ vj _ => (RowKit.intOf vj).toNat)
  case atStart => exact ⟨a, b - 1, d, rfl, by go_num, by omega, by omega, HS.out, rfl⟩
  case round =>
    obtain ⟨i, j, dk, rfl, rfl, hib, hjb, hs, ho⟩ := hrel
    have Ho := Lib.hid ho; clear ho
    have Hs := Lib.hid hs
    obtain ⟨G, HG, hcw, hfw⟩ := hs.names HR.out
    clear hs
    by_cases hlt : i < j
    · have HE := Lib.hid (fun v u q hv hu => @rvRel_step w0 wr blk off len b i j dk (reverseRange d a b) HR.out hlt hjb hb Hs.out Ho.out (G j) (G i) (HG.out _) (HG.out _) v u hv hu q)
      go_wp2_with fail
      go_region
      all_goals go_wp2_with fail
      go_roundw
      case rel => exact HE.out _ _ 1 (by go_num) (by go_num)
      case measure => simp [RowKit.intOf]; omega
    · go_wp2_with fail
      go_end0
      refine ⟨rfl, ?_⟩
      rw [← Ho.out, reverseLoop, if_neg hlt]
      exact Hs.out

/-- Which child is taken: e is 1 or 2. -/
def Child (hi first root : Nat) (d : Array Int) (e : Nat) : Prop :=
  (decide (2 * root + 1 + 1 < hi) && ltInt d[first + (2 * root + 1)]! d[first + (2 * root + 1) + 1]!) = decide (e = 2) ∧ (e = 1 ∨ e = 2)
theorem child_one {hi first root : Nat} {d : Array Int} (h : 2 * root + 1 + 1 < hi → ltInt d[first + 2 * root + 1]! d[first + 2 * root + 2]! = false) : Child hi first root d 1 := by
  refine ⟨?_, .inl rfl⟩
  by_cases h1 : 2 * root + 1 + 1 < hi
  · have h2 : ltInt d[first + (2 * root + 1)]! d[first + (2 * root + 1) + 1]! = false := h h1
    rw [h2]; simp
  · simp [h1]
theorem child_two {hi first root : Nat} {d : Array Int} (h1 : 2 * root + 1 + 1 < hi) (h : ltInt d[first + 2 * root + 1]! d[first + 2 * root + 2]! = true) : Child hi first root d 2 := by
  refine ⟨?_, .inr rfl⟩
  have h2 : ltInt d[first + (2 * root + 1)]! d[first + (2 * root + 1) + 1]! = true := h
  rw [h2]
  simp [h1]
theorem siftDown_stop {hi first root e : Nat} {d : Array Int} (hc : 2 * root + 1 < hi) (hch : Child hi first root d e) (hl : ltInt d[first + root]! d[first + 2 * root + e]! = false) :
    siftDown ltInt hi first root d = d := by
  rw [siftDown, dif_neg (by omega)]
  obtain ⟨h1, rfl | rfl⟩ := hch
  · have h2 : ltInt d[first + root]! d[first + (2 * root + 1)]! = false := hl
    rw [h1, if_neg (by simp), h2]; rfl
  · have h2 : ltInt d[first + root]! d[first + (2 * root + 2)]! = false := hl
    rw [h1, if_pos (by simp), h2]; rfl
theorem siftDown_go {hi first root e : Nat} {d : Array Int} (hc : 2 * root + 1 < hi) (hch : Child hi first root d e) (hl : ltInt d[first + root]! d[first + 2 * root + e]! = true) :
    siftDown ltInt hi first root d = siftDown ltInt hi first (2 * root + e) (swp d (first + root) (first + 2 * root + e)) := by
  rw [siftDown, dif_neg (by omega)]
  obtain ⟨h1, rfl | rfl⟩ := hch
  · have h2 : ltInt d[first + root]! d[first + (2 * root + 1)]! = true := hl
    rw [h1, if_neg (by simp), h2]; rfl
  · have h2 : ltInt d[first + root]! d[first + (2 * root + 2)]! = true := hl
    have h3 : 2 * root + 2 < hi := by
      have h4 := h1
      simp at h4
      omega
    rw [h1, if_pos (by simp), h2, dif_pos h3]; rfl
def SdRel (w0 : World) (blk off len hi first : Nat) (r : Array Int) (v : Value) (wr : World) : Prop :=
  ∃ (root : Nat) (dk : Array Int), v = .int .i64 (root : Int) ∧ root ≤ len ∧ St w0 blk off len dk wr ∧ siftDown ltInt hi first root dk = r
theorem sdRel_step {w0 wr : World} {blk off len hi first root e : Nat} {dk r : Array Int} (R : Row64 w0 blk off len) (hf : first + hi ≤ len) (hc : 2 * root + e < hi) (he : 1 ≤ e) (S : St w0 blk off len dk wr) (h : siftDown ltInt hi first root dk = r)
    (hch : Child hi first root dk e) (hl : ltInt dk[first + root]! dk[first + 2 * root + e]! = true) {x y : Int} (hx : x = dk[first + 2 * root + e]!) (hy : y = dk[first + root]!) {v : Int} (hv : v = ((2 * root + e : Nat) : Int)) (q : Nat) :
    SdRel w0 blk off len hi first r (.int .i64 v) (((wr.drewN q).setCell ⟨blk, off + (first + root), none⟩ (.int .u64 x)).setCell ⟨blk, off + (first + 2 * root + e), none⟩ (.int .u64 y)) := by
  refine ⟨2 * root + e, swp dk (first + root) (first + 2 * root + e), by rw [hv], by omega, (S.drewN q).swap R (by omega) (by omega) hx hy, ?_⟩
  rw [← h, siftDown_go (by omega) hch hl]
set_option maxHeartbeats 8000000 in
set_option maxRecDepth 100000 in
theorem siftDown_any (w0 : World) (blk off len cap lo hi first : Nat) (R : Row64 w0 blk off len) (d : Array Int) (W : World) (hS : St w0 blk off len d W) (hlo : lo ≤ len) (hf : first + hi ≤ len) :
    Calls Try.prog 39 #[.slice (some ⟨blk, off, none⟩) len cap, .int .i64 (lo : Int), .int .i64 (hi : Int), .int .i64 (first : Int)] W fun e w' =>
      e = .returned (.tuple #[]) ∧ St w0 blk off len (siftDown ltInt hi first lo d) w' := by
  have hsm := R.small
  have HS := Lib.hid hS; clear hS
  have HR := Lib.hid R; clear R
  go_enter Try.func39, Try.ntmps39
  go_wp2_with fail
  go_loopw [8] (fun v wr => SdRel w0 blk off len hi first (siftDown ltInt hi first lo d) v wr) (fun v _ => hi - (RowKit.intOf v).toNat)
  case atStart => exact ⟨lo, d, rfl, hlo, HS.out, rfl⟩
  case round =>
    obtain ⟨root, dk, rfl, hrt, hs, ho⟩ := hrel
    have Ho := Lib.hid ho; clear ho
    have Hs := Lib.hid hs
    obtain ⟨G, HG, hcw, hfw⟩ := hs.names HR.out
    clear hs
    by_cases hc : 2 * root + 1 < hi
    · by_cases hc1 : 2 * root + 1 + 1 < hi
      · cases hl1 : ltInt (G (first + 2 * root + 1)) (G (first + 2 * root + 2))
        · have hg1 : decide ((2 * (root : Int) + 1 + 1) < (hi : Int)) = true := by simp; omega
          have HC := Lib.hid (child_one (hi := hi) (fun _ => by rw [← HG.out, ← HG.out]; exact hl1))
          cases hl : ltInt (G (first + root)) (G (first + 2 * root + 1))
          · have HE := Lib.hid (siftDown_stop hc HC.out (by rw [← HG.out, ← HG.out]; exact hl))
            go_wp2_with fail
            go_quiet ((go_at_call 34; exact quietHere (less_any _ _ _) ⟨_, rfl⟩))
            go_wp2_with fail
            go_quiet ((go_at_call 34; exact quietHere (less_any _ _ _) ⟨_, rfl⟩))
            go_wp2_with fail
            refine bodyPost_ret (results_zero rfl _ _ _) rfl ⟨rfl, ?_⟩
            rw [← Ho.out, HE.out]
            exact (Hs.out.drewN _).drewN _
          · have HE := Lib.hid (fun v q hv => @sdRel_step w0 wr blk off len hi first root 1 dk (siftDown ltInt hi first lo d) HR.out hf (by omega) (by omega) Hs.out Ho.out HC.out (by rw [← HG.out, ← HG.out]; exact hl) (G (first + 2 * root + 1)) (G (first + root)) (HG.out _) (HG.out _) v hv q)
            go_wp2_with fail
            go_quiet ((go_at_call 34; exact quietHere (less_any _ _ _) ⟨_, rfl⟩))
            go_wp2_with fail
            go_quiet ((go_at_call 34; exact quietHere (less_any _ _ _) ⟨_, rfl⟩))
            go_wp2_with fail
            go_region
            all_goals go_wp2_with fail
            go_roundw
            case rel => exact HE.out _ _ (by go_num)
            case measure => simp [RowKit.intOf]; omega
        · have hg1 : decide ((2 * (root : Int) + 1 + 1) < (hi : Int)) = true := by simp; omega
          have HC := Lib.hid (child_two hc1 (by rw [← HG.out, ← HG.out]; exact hl1))
          cases hl : ltInt (G (first + root)) (G (first + 2 * root + 2))
          · have HE := Lib.hid (siftDown_stop hc HC.out (by rw [← HG.out, ← HG.out]; exact hl))
            go_wp2_with fail
            go_quiet ((go_at_call 34; exact quietHere (less_any _ _ _) ⟨_, rfl⟩))
            go_wp2_with fail
            go_quiet ((go_at_call 34; exact quietHere (less_any _ _ _) ⟨_, rfl⟩))
            go_wp2_with fail
            refine bodyPost_ret (results_zero rfl _ _ _) rfl ⟨rfl, ?_⟩
            rw [← Ho.out, HE.out]
            exact (Hs.out.drewN _).drewN _
          · have HE := Lib.hid (fun v q hv => @sdRel_step w0 wr blk off len hi first root 2 dk (siftDown ltInt hi first lo d) HR.out hf (by omega) (by omega) Hs.out Ho.out HC.out (by rw [← HG.out, ← HG.out]; exact hl) (G (first + 2 * root + 2)) (G (first + root)) (HG.out _) (HG.out _) v hv q)
            go_wp2_with fail
            go_quiet ((go_at_call 34; exact quietHere (less_any _ _ _) ⟨_, rfl⟩))
            go_wp2_with fail
            go_quiet ((go_at_call 34; exact quietHere (less_any _ _ _) ⟨_, rfl⟩))
            go_wp2_with fail
            go_region
            all_goals go_wp2_with fail
            go_roundw
            case rel => exact HE.out _ _ (by go_num)
            case measure => simp [RowKit.intOf]; omega
      · have hg1 : decide ((2 * (root : Int) + 1 + 1) < (hi : Int)) = false := by simp; omega
        have HC := Lib.hid (child_one (d := dk) (first := first) (fun h => absurd h hc1))
        cases hl : ltInt (G (first + root)) (G (first + 2 * root + 1))
        · have HE := Lib.hid (siftDown_stop hc HC.out (by rw [← HG.out, ← HG.out]; exact hl))
          go_wp2_with fail
          go_quiet (fail)
          go_wp2_with fail
          go_quiet ((go_at_call 34; exact quietHere (less_any _ _ _) ⟨_, rfl⟩))
          go_wp2_with fail
          refine bodyPost_ret (results_zero rfl _ _ _) rfl ⟨rfl, ?_⟩
          rw [← Ho.out, HE.out]
          exact (Hs.out.drewN _).drewN _
        · have HE := Lib.hid (fun v q hv => @sdRel_step w0 wr blk off len hi first root 1 dk (siftDown ltInt hi first lo d) HR.out hf (by omega) (by omega) Hs.out Ho.out HC.out (by rw [← HG.out, ← HG.out]; exact hl) (G (first + 2 * root + 1)) (G (first + root)) (HG.out _) (HG.out _) v hv q)
          go_wp2_with fail
          go_quiet (fail)
          go_wp2_with fail
          go_quiet ((go_at_call 34; exact quietHere (less_any _ _ _) ⟨_, rfl⟩))
          go_wp2_with fail
          go_region
          all_goals go_wp2_with fail
          go_roundw
          case rel => exact HE.out _ _ (by go_num)
          case measure => simp [RowKit.intOf]; omega
    · have HE := Lib.hid (show siftDown ltInt hi first root dk = dk by rw [siftDown, dif_pos (by omega)])
      go_wp2_with fail
      go_end0
      refine ⟨rfl, ?_⟩
      rw [← Ho.out, HE.out]
      exact Hs.out
theorem siftDown_at (w0 : World) (blk off len cap lo hi first : Nat) (R : Row64 w0 blk off len) (d : Array Int) (W : World) (hS : St w0 blk off len d W) (hlo : lo ≤ len) (hf : first + hi ≤ len) (x y z : Int) (hx : x = (lo : Int)) (hy : y = (hi : Int)) (hz : z = (first : Int)) :
    Calls Try.prog 39 #[.slice (some ⟨blk, off, none⟩) len cap, .int .i64 x, .int .i64 y, .int .i64 z] W fun e w' =>
      e = .returned (.tuple #[]) ∧ St w0 blk off len (siftDown ltInt hi first lo d) w' := by
  subst hx hy hz
  exact siftDown_any w0 blk off len cap lo hi first R d W hS hlo hf
end Go.Proofs.Ytlcipcgeanipfaa
