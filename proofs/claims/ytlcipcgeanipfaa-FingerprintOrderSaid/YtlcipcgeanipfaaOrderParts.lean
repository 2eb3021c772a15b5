/-
  What the walk of FingerprintOrder leans on: slices of numbers beside a source of choices, append as a step of a drawing region, and the mathematics of its two claims. No condition.
-/
import Derived.Test.YtlcipcgeanipfaaFpAwake
import Derived.Test.YtlcipcgeanipfaaFpDistinct
import Derived.Test.YtlcipcgeanipfaaDraw
import Derived.Deep.RegionLaw
namespace Go.Proofs.Ytlcipcgeanipfaa
open Go.RowKit

/-- Numbers do not lie in a source's block. -/
theorem rdU_only {w w' : World} {g k : Nat} {A : Option Addr} {l0 l : List Nat} (hg : Codes w g l0 k) (h : Rd w A (l.map uv)) (hb : w.grownBy w' (some g)) : Rd w' A (l.map uv) := fun j u hu => by
  obtain ⟨A', c', hgg, _⟩ := hg
  obtain ⟨ad, e, hc⟩ := h j u hu
  refine ⟨ad, e, (World.cell?_of_block (hb.block _ (World.block_lt_of_cell? w _ hc) (fun he => ?_))).trans hc⟩
  injection he with he
  obtain ⟨b, _, rfl⟩ := List.mem_map.1 (List.mem_of_getElem? hu)
  simp only [World.cell?, he, hgg] at hc
  revert hc
  cases (ad.add j).spot with
  | some _ => simp
  | none =>
    simp only [Option.isSome_none]
    match (ad.add j).off with
    | 0 => simp [uv]
    | 1 => simp [uv]
    | n + 2 => simp
theorem slU_only {w w' : World} {g k base : Nat} {v : Value} {l0 l : List Nat} (hg : Codes w g l0 k) (h : Sl w base 22 v (l.map uv)) (hb : w.grownBy w' (some g)) : Sl w' base 22 v (l.map uv) := by
  rcases h with h | ⟨A, rfl, hr, h0⟩
  · refine .inl (h.kept hb (.inr fun he => ?_))
    rcases h.2 with ⟨rfl, _⟩ | ⟨g', cap, cur, rfl, _, hcur, _⟩
    · simp [Value.ownBlock] at he
    · obtain ⟨A', c', hgg, _⟩ := hg
      simp only [Value.ownBlock, Option.some.injEq] at he
      rw [he, hgg] at hcur
      injection hcur with hcur
      injection hcur with _ ht
      exact absurd ht (by decide)
  · exact .inr ⟨A, rfl, rdU_only hg hr hb, h0⟩
/-- append, as one step of a region that draws. -/
theorem step_appendU {ops : Array Oper} {o : Oper} {a : Act} {w : World} {K : Act → World → Prop} {Q : Exit → Act → World → Prop} {E : Prop} (hgd : o.guard = none) (s x : Operand)
    (hop : o.op = .call { callee := .builtin .append, args := #[s, x], argTypes := #[24, 24] })
    (base : Nat) (v : Value) (l : List Nat) (hs : a.eval s = v) (hown : Sl w base 22 v (l.map uv)) (A : Option Addr) (m c : Nat) (news : List Nat) (hx : a.eval x = .slice A m c) (hm : news.length = m) (hr : Rd w A (news.map uv))
    (h63 : l.length + m ≤ 1000000000000) (hbase : base ≤ w.heap.size)
    (hK : ∀ v' w', Sl w' base 22 v' ((l ++ news).map uv) → Below base w w' → K (a.put o.dst v') w') :
    if Region.wanted o (yielded ops a.tmps) = true then Oper.wp Try.prog o a w K Q else E := by
  obtain ⟨i5, hi, hz0, hz1, hz2⟩ := info_parts Try.infoU64
  have hw : Region.wanted o (yielded ops a.tmps) = true := by simp [Region.wanted, hgd]
  rw [if_pos hw]
  obtain ⟨v', w', hrun, h2, h3⟩ := run_append_sl (P := Try.prog) w base 24 o.type 22 i5 (.int .u64 0) 8 Try.underlying24 hi hz0 hz1 hz2 rfl v (l.map uv) hown A m c (news.map uv) (by simpa using hm) hr (uv_one _) (by unfold maxLen; simp; omega) (by simp; omega) hbase
  rw [← List.map_append] at h2
  unfold Oper.wp
  simp [execOp, hop, resolve, invoke, builtin, hs, hx, hrun, Result.andThen]
  exact hK v' w' h2 h3

/-! ### The mathematics -/
theorem perm_insert {l t : List Nat} {i k x : Nat} (hp : t.Perm (l.take i)) (hi : i < l.length) (hx : l[i] = x) : (t.take k ++ ([x] ++ t.drop k)).Perm (l.take (i + 1)) := by
  rw [take_step hi, hx]
  refine List.Perm.trans ?_ (List.Perm.append_right [x] hp)
  conv => rhs; rw [← List.take_append_drop k t]
  rw [List.append_assoc]
  exact List.Perm.append_left _ List.perm_append_comm
theorem onces_perm {l t : List Nat} (h : ∀ a, a ∈ l ↔ a ∈ t) : (onces [] l).Perm (onces [] t) := by
  rw [List.perm_ext_iff_of_nodup (onces_nodup l [] List.nodup_nil) (onces_nodup t [] List.nodup_nil)]
  intro a
  rw [onces_mem, onces_mem, h a]
theorem fset_twice {l t : List Nat} (hp : t.Perm l) : fset (onces [] l) = fset (onces [] (t ++ l)) :=
  fset_perm (onces_perm fun a => by rw [List.mem_append, hp.mem_iff, or_self])
theorem flist_set {l : List Nat} {k x : Nat} (hl : ∀ y ∈ l, y < 18446744073709551616) (hx : x < 18446744073709551616) (hlen : l.length < 18446744073709551616) (hk : k < l.length) : flist l = flist (l.set k x) ↔ l[k] = x := by
  constructor
  · intro h
    unfold flist at h
    rw [List.length_set, List.set_eq_take_append_cons_drop, if_pos hk] at h
    conv at h => lhs; rw [← List.take_append_drop k l, List.drop_eq_getElem_cons hk]
    simp only [List.length_append, List.length_take, List.length_cons, List.length_drop] at h
    rw [show min k l.length + (l.length - (k + 1) + 1) = l.length by omega, jns_append, jns_append] at h
    have h0 : jns l.length (l.take k) < 18446744073709551616 := jns_lt hlen
    have h1 : jns (jn (jns l.length (l.take k)) l[k]) (l.drop (k + 1)) = jns (jn (jns l.length (l.take k)) x) (l.drop (k + 1)) := h
    exact jn_right (hl _ (List.getElem_mem _)) hx (jns_inj jn_lt jn_lt h1)
  · intro h
    rw [← h, List.set_getElem_self]
end Go.Proofs.Ytlcipcgeanipfaa
