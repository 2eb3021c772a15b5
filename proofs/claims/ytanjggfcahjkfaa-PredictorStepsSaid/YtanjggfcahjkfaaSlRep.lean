/-
  The walks of math/bits.Mul and of slices.Repeat at one number. Condition: at most 4096 times.
-/
import Derived.Test.YtanjggfcahjkfaaNums
import Derived.Shelf.Bits.Mul64
import Derived.Laws.CopyOwn
import Derived.Deep.RegionLaw
import Derived.Deep.Cut
import Derived.Deep.CutRange
namespace Go.Proofs.Ytanjggfcahjkfaa
open Go.RowKit

set_option maxHeartbeats 1000000 in
theorem mul64_any (x y : Nat) (hx : x < 18446744073709551616) (hy : y < 18446744073709551616) (w : World) :
    Calls Try.prog 32 #[.int .u64 x, .int .u64 y] w fun e w' => e = .returned (.tuple #[.int .u64 ((x * y / 18446744073709551616 : Nat) : Int), .int .u64 ((x * y % 18446744073709551616 : Nat) : Int)]) ∧ w = w' := by
  obtain ⟨bd, bt, bw, hhi⟩ := Lib.mul64_hi x y hx hy
  have ba := Lib.half_mul_le (a := x / 4294967296) (b := y / 4294967296) (by omega) (by omega)
  have bb := Lib.half_mul_le (a := x / 4294967296) (b := y % 4294967296) (by omega) (by omega)
  have bc := Lib.half_mul_le (a := x % 4294967296) (b := y / 4294967296) (by omega) (by omega)
  have ba' : x / 4294967296 * (y / 4294967296) < 18446744073709551616 := by omega
  have bb' : x / 4294967296 * (y % 4294967296) < 18446744073709551616 := by omega
  have bc' : x % 4294967296 * (y / 4294967296) < 18446744073709551616 := by omega
  have bh1 : x / 4294967296 * (y / 4294967296) + (x / 4294967296 * (y % 4294967296) + x % 4294967296 * (y % 4294967296) / 4294967296) / 4294967296 < 18446744073709551616 := by omega
  have bh : x / 4294967296 * (y / 4294967296) + (x / 4294967296 * (y % 4294967296) + x % 4294967296 * (y % 4294967296) / 4294967296) / 4294967296 + ((x / 4294967296 * (y % 4294967296) + x % 4294967296 * (y % 4294967296) / 4294967296) % 4294967296 + x % 4294967296 * (y / 4294967296)) / 4294967296 < 18446744073709551616 := by omega
  go_enter Try.func32, Try.ntmps32
  go_wp2
  simp only [Mul64.maskN x hx, Mul64.maskN y hy, Mul64.divN, Mul64.mulN, Mul64.addN, Mul64.wrapN _ bd, Mul64.wrapN _ bb', Mul64.wrapN _ bt, Mul64.maskN _ bt, Mul64.wrapN _ bc', Mul64.wrapN _ bw, Mul64.wrapN _ ba', Mul64.wrapN _ bh1, Mul64.wrapN _ bh, Mul64.wrapM (x * y)]
  rw [hhi]
  go_ret2
  exact ⟨rfl, rfl⟩

theorem mul_any (x y : Nat) (hx : x < 18446744073709551616) (hy : y < 18446744073709551616) (hxy : x * y < 18446744073709551616) (w : World) :
    Calls Try.prog 29 #[.int .u64 x, .int .u64 y] w fun e w' => e = .returned (.tuple #[.int .u64 0, .int .u64 ((x * y : Nat) : Int)]) ∧ w = w' := by
  have c64 := mul64_any x y hx hy w
  rw [Nat.div_eq_of_lt hxy, Nat.mod_eq_of_lt hxy] at c64
  have C := Lib.hid c64; clear c64
  obtain ⟨z, hz⟩ : ∃ z, x * y = z := ⟨_, rfl⟩
  rw [hz] at C hxy ⊢
  have HZ := Lib.hid hz; clear hz
  go_enter Try.func29, Try.ntmps29
  go_wp2_with (go_at_call 32; refine C.out.mono ?_; rintro e w' ⟨rfl, rfl⟩)
  go_ret2
  exact ⟨rfl, rfl⟩

/-- A row of the call's own while it is filled by doubling: k places are x. -/
def RepR (w : World) (x n : Nat) (v : Value) (wr : World) : Prop :=
  ∃ k : Nat, v = .int .i64 (k : Int) ∧ 1 ≤ k ∧ k ≤ n ∧ wr.heap[w.heap.size]? = some (.cells ((List.replicate k (nv x)) ++ List.replicate (n - k) (nv 0)).toArray 3 (0, 0)) ∧ Below w.heap.size w wr
def RepP (w : World) (x n : Nat) (e : Ending) (w' : World) : Prop :=
  ∃ v, e = .returned v ∧ w'.ownsRow w.heap.size 3 1 v n ((List.replicate n x).map nv) ∧ Below w.heap.size w w'
theorem rep_splice (x n k c : Nat) (hk : k + c ≤ n) : splice (List.replicate k (nv x) ++ List.replicate (n - k) (nv 0)) k (List.replicate c (nv x)) = List.replicate (k + c) (nv x) ++ List.replicate (n - (k + c)) (nv 0) := by
  unfold splice
  rw [List.take_left' (by simp), List.length_replicate, List.drop_append, List.length_replicate, List.drop_eq_nil_of_le (by simp), List.nil_append, List.drop_replicate, ← List.append_assoc, List.replicate_append_replicate]
  congr 2
  omega
theorem row_whole {w : World} {base g n : Nat} {T : TypeId} {xs : List Value} (h : w.ownsRow base T 1 (.slice (some ⟨g, 0, none⟩) n n) n xs) : w.heap[g]? = some (.cells xs.toArray T (0, 0)) := by
  rcases h.2 with ⟨h1, _⟩ | ⟨g', cap, cur, h1, _, h2, _, _, h3, h4⟩
  · cases h1
  · injection h1 with h5 _ h6
    injection h5 with h5
    injection h5 with h5
    subst h5 h6
    rw [h2, ← h4, List.take_of_length_le (by simp; omega)]
theorem bel_cellk {w w' : World} {p : Addr} {v : Value} (hb : Below w.heap.size w w') (h : w.cell? p = some v) : w'.cell? p = some v := (hb.cell (World.block_lt_of_cell? w _ h)).trans h
theorem infoI1 : (Try.prog.info? 3).map (·.size) = some 1 := by kernel_rfl
theorem rep_cells {w : World} {g : Nat} (x n k q : Nat) (h : q ≤ k) (hg : w.heap[g]? = some (.cells (List.replicate k (nv x) ++ List.replicate (n - k) (nv 0)).toArray 3 (0, 0))) :
    ∀ j v, (List.replicate q (nv x))[j]? = some v → w.cell? ((⟨g, 0, none⟩ : Addr).add j) = some v := by
  intro j v hj
  rw [Addr.add_lit, Nat.zero_add]
  refine (cell_of_row _ _ j _ _ _ hg).trans ?_
  rw [List.getElem?_replicate] at hj
  split at hj
  · simp only [List.getElem?_toArray]
    rw [List.getElem?_append_left (by simp; omega), List.getElem?_replicate, if_pos (by omega)]
    exact hj
  · cases hj
theorem row_own {w w0 : World} {g n : Nat} {x : Nat} (hg : w.heap[g]? = some (.cells (List.replicate n (nv x) ++ List.replicate (n - n) (nv 0)).toArray 3 (0, 0))) (hs : n ≤ 4096) (hb : w0.heap.size ≤ g) :
    w.ownsRow w0.heap.size 3 1 (.slice (some ⟨g, 0, none⟩) n n) n ((List.replicate n x).map nv) := by
  refine ⟨by simp, .inr ⟨g, n, _, rfl, hb, hg, Nat.le_refl _, by unfold maxLen; omega, by simp, ?_⟩⟩
  simp
/-- The walk stands still at a copy. -/
theorem wpList_pause_copy {P : Program} {w : World} {ops : Array Oper} {rest : List Oper} {a : Act} {Q : Exit → Act → World → Prop} {dst : Option Tmp} {args : Array Operand} {ts : Array TypeId} {ty : TypeId} {pos : String} {af : Array Edge} {g : Option (Nat × Bool)}
    (h : Pause (wpList P ops Q (⟨dst, .call { callee := .builtin .copy, args := args, argTypes := ts }, ty, pos, af, g⟩ :: rest) a w)) : wpList P ops Q (⟨dst, .call { callee := .builtin .copy, args := args, argTypes := ts }, ty, pos, af, g⟩ :: rest) a w := h
theorem rep_start (x n : Nat) (h : 1 ≤ n) : splice ((List.replicate n 0).map nv) 0 [nv x] = List.replicate 1 (nv x) ++ List.replicate (n - 1) (nv 0) := by
  have h2 := rep_splice x n 0 1 (by omega)
  rw [List.replicate_zero, List.nil_append, Nat.sub_zero] at h2
  rw [List.map_replicate]
  exact h2
set_option maxRecDepth 10000 in
set_option maxHeartbeats 2000000 in
theorem repeat_one (x n c : Nat) (b : Nat) (w : World) (hr : w.cell? ⟨b, 0, none⟩ = some (nv x)) (h1 : 1 ≤ n) (h2 : n ≤ 4096) :
    Calls Try.prog 24 #[.slice (some ⟨b, 0, none⟩) 1 c, .int .i64 (n : Int)] w (RepP w x n) := by
  have HR := Lib.hid hr; clear hr
  have C := Lib.hid (mul_any 1 n (by omega) (by omega) (by omega) w)
  simp only [Nat.one_mul] at C
  go_enter Try.func24, Try.ntmps24
  go_wp2_with fail
  refine C.out.mono ?_
  rintro e w1 ⟨rfl, rfl⟩
  go_wp2_with (at_make; refine Pause.out ?_)
  refine Pause.of (wpList_make_nats w rfl (.tmp 29) (.tmp 29) rfl n n (by go_num) (by go_num) rfl (by omega) ?_)
  intro w2 hown hb
  have HG := Lib.hid (row_whole hown)
  have HB := Lib.hid hb
  clear hown hb
  have HX := Lib.hid (bel_cellk HB.out HR.out)
  go_upto_region 7 with fail
  go_wp2_with (with_reducible refine wpList_pause_copy ?_)
  refine Pause.of (wpList_copy_splice rfl (.tmp 31) (.tmp 32) 27 27 rfl 3 Try.underlying27 infoI1 _ _ n n 1 c rfl rfl w.heap.size 0 _ 3 HG.out [nv x] (by show 1 = min 1 n; omega) ?_ (by simp; omega) (by simp [nv, Value.oneCell']) w.heap.size w HB.out (Nat.le_refl _) ?_)
  · refine fun _ => ⟨rfl, _, rfl, ?_⟩
    intro j v hj
    cases j with
    | zero => injection hj with hj; subst hj; exact HX.out
    | succ j => simp at hj
  intro w3 hg3 hb3
  have HG3 := Lib.hid (show w3.heap[w.heap.size]? = some (.cells (List.replicate 1 (nv x) ++ List.replicate (n - 1) (nv 0)).toArray 3 (0, 0)) by rw [← rep_start x n h1]; exact hg3.out)
  clear hg3 HX HB HG
  have HB3 := Lib.hid hb3; clear hb3
  go_wp2_with fail
  go_loopw [8] (fun v wr => RepR w x n v wr) (fun v _ => n - (intOf v).toNat)
  case atStart => exact ⟨1, rfl, by omega, by omega, HG3.out, HB3.out⟩
  case round =>
    obtain ⟨k, rfl, hk1, hk2, hg, hb⟩ := hrel
    have HG := Lib.hid hg; clear hg
    have HB := Lib.hid hb; clear hb
    by_cases h0 : k < n
    · obtain ⟨q, hq1, hq2, hq3⟩ : ∃ q, q = Nat.min k (n - k) ∧ 1 ≤ q ∧ k + q ≤ n := ⟨_, rfl, by show 1 ≤ min k (n - k); omega, by show k + min k (n - k) ≤ n; omega⟩
      have HQ := Lib.hid hq1; clear hq1
      go_wp2_with fail
      have HB2 := Lib.hid (bel_q HB.out 1)
      go_region_law (refine step_copy_splice rfl (.tmp 41) (.tmp 44) 27 27 rfl 3 Try.underlying27 infoI1 (some ⟨w.heap.size, k, none⟩) (some ⟨w.heap.size, 0, none⟩) (n - k) (n - k) k n (by simp [Act.eval, Act.put]; omega) (by simp [Act.eval, Act.put]) w.heap.size k _ 3 HG.out (List.replicate q (nv x)) (by rw [List.length_replicate]; exact HQ.out) (fun _ => ⟨rfl, _, rfl, rep_cells x n k q (by rw [HQ.out]; exact Nat.min_le_left _ _) HG.out⟩) (by simp; omega) (fun v hv => by rw [List.eq_of_mem_replicate hv]; rfl) w.heap.size w HB2.out (Nat.le_refl _) ?_; intro w4 hg4 hb4)
      have HG4 := Lib.hid (show w4.heap[w.heap.size]? = some (.cells (List.replicate (k + q) (nv x) ++ List.replicate (n - (k + q)) (nv 0)).toArray 3 (0, 0)) by rw [← rep_splice x n k q hq3]; exact hg4.out)
      have HB4 := Lib.hid hb4
      clear hg4 hb4 HG HB HB2
      go_wp2_with fail
      have hw : IntKind.i64.wrap ((k : Int) + (q : Int)) = ((k + q : Nat) : Int) := by rw [IntKind.wrap_i64]; omega
      exact ⟨⟨k + q, by rw [← hw], by omega, hq3, HG4.out, HB4.out⟩, by simp only [intOf]; rw [hw]; simp; omega⟩
    · obtain rfl : k = n := by omega
      have HO := Lib.hid (row_own HG.out h2 (Nat.le_refl _))
      go_wp2_with fail
      go_ret
      exact ⟨_, rfl, HO.out, HB.out⟩
end Go.Proofs.Ytanjggfcahjkfaa
