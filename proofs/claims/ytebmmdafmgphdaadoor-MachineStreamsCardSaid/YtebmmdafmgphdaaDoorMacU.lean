/-
  The walk of machine's reader of numbers. Condition: the bytes can be read.
-/
import Derived.Test.YtebmmdafmgphdaaDoorMacE3
import Derived.Laws.BitsAllLaws
namespace Go.Proofs.YtebmmdafmgphdaaDoor
open Go.RowKit

theorem ofInt_wrap (n : Int) : (BitVec.ofInt 64 (IntKind.i64.wrap n)).toNat = (n % 18446744073709551616).toNat := by
  rw [BitVec.toNat_ofInt, IntKind.wrap_i64]
  omega
theorem or_step (k x y : Nat) (hk : k < 8) (hy : y < 256 ^ k) (hx : x < 256) : bits .or .i64 (IntKind.i64.wrap (y : Int)) (IntKind.i64.wrap ((x : Int) * 2 ^ (8 * k))) = IntKind.i64.wrap ((y + x * 256 ^ k : Nat) : Int) := by
  have hp : (256 : Nat) ^ k = 2 ^ (8 * k) := by rw [Nat.pow_mul]
  have h7 : (256 : Nat) ^ k ≤ 256 ^ 7 := Nat.pow_le_pow_right (by decide) (by omega)
  have e7 : (256 : Nat) ^ 7 = 72057594037927936 := by decide
  have hxk : x * 256 ^ k ≤ 255 * 256 ^ k := Nat.mul_le_mul_right _ (by omega)
  show IntKind.i64.wrap ((BitVec.ofInt 64 _ ||| BitVec.ofInt 64 _).toNat : Int) = _
  rw [BitVec.toNat_or, ofInt_wrap, ofInt_wrap]
  have e1 : ((y : Int) % 18446744073709551616).toNat = y := by omega
  have e2 : ((x : Int) * 2 ^ (8 * k) % 18446744073709551616).toNat = x * 256 ^ k := by
    have : (x : Int) * 2 ^ (8 * k) = ((x * 256 ^ k : Nat) : Int) := by
      rw [hp]
      push_cast
      rfl
    rw [this]
    omega
  rw [e1, e2, Nat.or_comm, nat_join (8 * k) (x * 256 ^ k) y (by rw [hp]; exact Nat.mul_mod_left _ _) (by rw [← hp]; exact hy), Nat.add_comm]
theorem leN_snoc : ∀ (l : List Nat) (x : Nat), leN (l ++ [x]) = leN l + x * 256 ^ l.length
  | [], x => by simp [leN]
  | y :: l, x => by
    have := leN_snoc l x
    simp only [List.cons_append, leN, List.length_cons, this, Nat.pow_succ]
    rw [Nat.mul_add, ← Nat.add_assoc, Nat.mul_comm 256 (x * 256 ^ l.length), Nat.mul_assoc]
theorem leN_lt : ∀ (l : List Nat), (∀ x ∈ l, x < 256) → leN l < 256 ^ l.length
  | [], _ => by simp [leN]
  | y :: l, h => by
    have h1 := leN_lt l (fun x hx => h x (List.mem_cons_of_mem _ hx))
    have h2 := h y (List.mem_cons_self ..)
    simp only [leN, List.length_cons, Nat.pow_succ]
    omega
theorem wrap64_in0 : wrap64 0 = 0 := IntWalk.wrap64_in 0 ⟨by decide, by decide⟩
/-- A reader in its block. -/
def Rdr (q : Nat) (A : Option Addr) (n c : Nat) (sh : Bool) (w : World) : Prop := w.heap[q]? = some (.cells #[.slice A n c, .bool sh] 56 (0, 0))
def UnP (q : Nat) (A : Option Addr) (l : List Nat) (n c size : Nat) (w : World) (e : Ending) (w' : World) : Prop :=
  if n < size then e = .returned (.int .i64 0) ∧ w' = w.setCell ⟨q, 1, none⟩ (.bool true)
  else e = .returned (.int .i64 (wrap64 (leN (l.take size) : Nat))) ∧ w' = w.setCell ⟨q, 0, none⟩ (.slice (if c = size then A else A.map (·.add size)) (n - size) (c - size))
set_option maxRecDepth 10000 in
theorem unsigned_any (q : Nat) (A : Option Addr) (l : List Nat) (n c size : Nat) (sh : Bool) (w : World) (hq : Rdr q A n c sh w) (hn : l.length = n) (hc : n ≤ c) (hr : Rd w A (l.map bv)) (hl : ∀ x ∈ l, x < 256) (hs : size ≤ 8) :
    Calls Tryd.prog 27 #[.pointer (some ⟨q, 0, none⟩), .int .i64 (size : Int)] w (UnP q A l n c size w) := by
  have c0 : w.cell? ⟨q, 0, none⟩ = some (.slice A n c) := (cell_of_row _ _ _ _ _ _ hq).trans rfl
  have c1 : w.cell? ⟨q, 1, none⟩ = some (.bool sh) := (cell_of_row _ _ _ _ _ _ hq).trans rfl
  have f0 := codes_frozen hq 0
  have f1 := codes_frozen hq 1
  have Hn := Lib.hid hn; clear hn
  have Hr := Lib.hid hr; clear hr
  have Hl := Lib.hid hl; clear hl
  clear hq
  unfold UnP
  by_cases hlt : n < size
  · simp only [if_pos hlt]
    go_enter Tryd.func27, Tryd.ntmps27
    go_wp2_with fail
    go_ret
    exact ⟨rfl, rfl⟩
  · simp only [if_neg hlt]
    have hsn : size ≤ n := by omega
    clear hlt
    go_enter Tryd.func27, Tryd.ntmps27
    go_wp2_with fail
    go_loop [5, 6, 7, 25] (fun v _ _ i => ∃ k : Nat, k ≤ size ∧ i = .int .i64 (k : Int) ∧ v = .int .i64 (wrap64 (leN (l.take k) : Nat))) (fun _ _ _ i => size - (intOf i).toNat)
    case atStart => exact ⟨0, Nat.zero_le _, rfl, by simp [leN, wrap64_in0]⟩
    case round =>
      obtain ⟨k, hk, rfl, rfl⟩ := hrel
      by_cases hks : k < size
      · have hkl : k < l.length := by rw [Hn.out]; omega
        obtain ⟨ad, rfl, hc0⟩ := Hr.out.at_ (k := k) (by simpa using hkl)
        simp only [List.getElem_map] at hc0
        have hx := Hl.out _ (List.getElem_mem hkl)
        have hyl := leN_lt (l.take k) (fun x hx => Hl.out x (List.mem_of_mem_take hx))
        have h6 : Hid (leN (l.take (k + 1)) = leN (l.take k) + l[k] * 256 ^ k) := Lib.hid (by
          rw [take_step hkl, leN_snoc, List.length_take, Nat.min_eq_left (by omega)])
        rw [List.length_take, Nat.min_eq_left (by omega)] at hyl
        generalize l[k] = x at *
        generalize leN (l.take k) = y at *
        have H7 := Lib.hid (or_step k x y (by omega) hyl hx)
        simp only [IntWalk.i64_left] at H7
        clear hyl
        unfold bv at hc0
        go_wp2_with fail
        exact ⟨⟨k + 1, by omega, by go_num, by rw [h6.out, H7.out]⟩, by simp [intOf]; omega⟩
      · obtain rfl : k = size := by omega
        by_cases hcs : c = k
        · subst hcs
          go_wp2_with fail
          go_ret
          exact ⟨rfl, rfl⟩
        · go_wp2_with fail
          go_ret
          exact ⟨rfl, rfl⟩
end Go.Proofs.YtebmmdafmgphdaaDoor
