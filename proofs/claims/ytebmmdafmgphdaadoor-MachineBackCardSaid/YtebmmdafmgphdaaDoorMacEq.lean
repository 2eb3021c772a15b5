/-
  Bytes compared, bytes appended to a row of the call's own. No condition.
-/
import Derived.Test.YtebmmdafmgphdaaDoorMacL
import Derived.Test.YtebmmdafmgphdaaDoorMacC
namespace Go.Proofs.YtebmmdafmgphdaaDoor
open Go.RowKit

def EqbR (l : List Nat) (w : World) (i : Value) (wr : World) : Prop := ∃ (k n : Nat), k ≤ l.length ∧ i = .int .i64 (k : Int) ∧ wr = w.drewN n
set_option maxRecDepth 10000 in
theorem equalB_same (A B : Option Addr) (l : List Nat) (m c d : Nat) (w : World) (hm : l.length = m) (ha : Rd w A (l.map bv)) (hb : Rd w B (l.map bv)) (hreach : m ≤ 140737488351232) :
    Calls Tryd.prog 12 #[.slice A m c, .slice B m d] w fun e w' => e = .returned (.bool true) ∧ Below w.heap.size w w' := by
  subst hm
  go_enter Tryd.func12, Tryd.ntmps12
  go_wp2_with fail
  go_loopw [5] (fun i wr => EqbR l w i wr) (fun i _ => l.length - (intOf i).toNat)
  case atStart => exact ⟨0, 0, by omega, rfl, rfl⟩
  case round =>
    obtain ⟨k, n, hk, rfl, rfl⟩ := hrel
    by_cases hkl : k < l.length
    · obtain ⟨ad, rfl, hca⟩ := ha.at_ (k := k) (by simp; omega)
      obtain ⟨bd, rfl, hcb⟩ := hb.at_ (k := k) (by simp; omega)
      simp only [List.getElem_map] at hca hcb
      unfold bv at hca hcb
      generalize l[k] = x at *
      have Ha := Lib.hid ha; clear ha
      have Hb := Lib.hid hb; clear hb
      go_wp2_with fail
      go_quiet (fail)
      go_wp2_with fail
      exact ⟨⟨k + 1, n + nq, by omega, by simp, rfl⟩, by simp [intOf]; omega⟩
    · go_wp2_with fail
      go_ret
      exact ⟨rfl, ⟨rfl, rfl, rfl, Nat.le_refl _, fun _ _ => rfl⟩⟩
theorem infoB8 : (Tryd.prog.info? 5).map (fun i => (i.zero, i.size, i.bytes)) = some (some (.int .u8 0), 1, 1) := by kernel_rfl
/-- A row of bytes of the call's own. -/
def OwB (base : Nat) (v : Value) (n : Nat) (l : List Nat) (w : World) : Prop := w.ownsRow base 5 1 v n (l.map bv)
theorem wpList_app_b {ops : Array Oper} {rest : List Oper} {o : Oper} {a : Act} {Q : Exit → Act → World → Prop} (w : World) (hgd : o.guard = none) (s x : Operand)
    (ho : o.op = .call { callee := .builtin .append, args := #[s, x], argTypes := #[22, 22] }) (base : Nat) (v : Value) (n : Nat) (l : List Nat) (hs : a.eval s = v) (hown : OwB base v n l w)
    (A : Option Addr) (m c : Nat) (l2 : List Nat) (hx : a.eval x = .slice A m c) (hl : l2.length = m) (hr : Rd w A (l2.map bv)) (h63 : n + m ≤ 140737488355328) (hbase : base ≤ w.heap.size)
    (h : ∀ v' w', OwB base v' (n + m) (l ++ l2) w' → w.grownBy w' v.ownBlock → wpList Tryd.prog ops Q rest (a.put o.dst v') w') : wpList Tryd.prog ops Q (o :: rest) a w := by
  obtain ⟨i, hi, hz, hsz, hby⟩ := info_parts infoB8
  refine wpList_append_rd w hgd s x 22 ho base 5 i _ 1 1 Tryd.underlying22 hi hz hsz hby rfl (by decide) v n (l.map bv) hs hown A m c (l2.map bv) hx (by rw [List.length_map, hl, Nat.mul_one]) hr (fun u hu => bv_one l2 u hu) (by unfold maxLen; omega) (by omega) hbase fun v' w' h1 h2 => h v' w' ?_ h2
  unfold OwB
  rw [List.map_append]
  exact h1
theorem OwB.form {base n : Nat} {v : Value} {l : List Nat} {w : World} (h : OwB base v n l w) : ∃ A c, v = .slice A n c ∧ n ≤ c ∧ Rd w A (l.map bv) := own_form h
theorem OwB.nil_ (base : Nat) (w : World) : OwB base (.slice none 0 0) 0 [] w := World.ownsRow_nil w _ _ _
end Go.Proofs.YtebmmdafmgphdaaDoor
