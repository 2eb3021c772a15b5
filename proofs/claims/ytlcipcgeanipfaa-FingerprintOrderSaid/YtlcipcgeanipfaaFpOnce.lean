/-
  The walk of the reference's Distinct: each element once, in the order of their first places. Condition: at most a million elements.
-/
import Derived.Test.YtlcipcgeanipfaaFpList
import Derived.Deep.QuietTactic
import Derived.BigQuiet
namespace Go.Proofs.Ytlcipcgeanipfaa
open Go.RowKit

theorem Try.infoU64 : (Try.prog.info? 22).map (fun i => (i.zero, i.size, i.bytes)) = some (some (.int .u64 0), 1, 8) := by kernel_rfl

/-- A list's elements, each one once. -/
def seenB (acc : List Nat) (x : Nat) : Bool := acc.contains x
def onceStep (acc : List Nat) (x : Nat) : List Nat := if seenB acc x = true then acc else acc ++ [x]
def onces (acc : List Nat) (l : List Nat) : List Nat := l.foldl onceStep acc
theorem onces_snoc (acc l : List Nat) (x : Nat) : onces acc (l ++ [x]) = onceStep (onces acc l) x := by
  unfold onces
  rw [List.foldl_append, List.foldl_cons, List.foldl_nil]
theorem onceStep_len (acc : List Nat) (x : Nat) : (onceStep acc x).length ≤ acc.length + 1 := by
  unfold onceStep
  split <;> simp
theorem onces_len (acc l : List Nat) : (onces acc l).length ≤ acc.length + l.length := by
  induction l generalizing acc with
  | nil => exact Nat.le_refl _
  | cons x r ih =>
    have h1 := ih (onceStep acc x)
    have h2 := onceStep_len acc x
    show (onces (onceStep acc x) r).length ≤ _
    simp only [List.length_cons]
    omega
theorem onces_small {l acc : List Nat} {b : Nat} (ha : ∀ x ∈ acc, x < b) (hl : ∀ x ∈ l, x < b) : ∀ x ∈ onces acc l, x < b := by
  induction l generalizing acc with
  | nil => exact ha
  | cons y r ih =>
    refine ih ?_ (fun x hx => hl x (by simp [hx]))
    unfold onceStep
    split
    · exact ha
    · intro x hx
      rcases List.mem_append.1 hx with hx | hx
      · exact ha x hx
      · simp at hx
        subst hx
        exact hl _ (by simp)
theorem onces_take {l : List Nat} {k : Nat} (hl : k < l.length) : onces [] (l.take (k + 1)) = onceStep (onces [] (l.take k)) l[k] := by
  rw [take_step hl, onces_snoc]
theorem seen_take {acc : List Nat} {j x : Nat} (hj : j < acc.length) : seenB (acc.take (j + 1)) x = (seenB (acc.take j) x || acc[j] == x) := by
  unfold seenB
  rw [take_step hj, Bool.eq_iff_iff]
  simp only [List.contains_iff_mem, List.mem_append, List.mem_singleton, Bool.or_eq_true, beq_iff_eq]
  exact or_congr Iff.rfl eq_comm
/-- The relation of the outer loop: what has been collected. -/
def OcRel (l : List Nat) (w : World) (v i : Value) (wr : World) : Prop :=
  ∃ k : Nat, k ≤ l.length ∧ i = .int .i64 (k : Int) ∧ Sl wr w.heap.size 22 v ((onces [] (l.take k)).map uv) ∧ Below w.heap.size w wr
theorem ocRel_start (l : List Nat) (w : World) : OcRel l w (.slice none 0 0) (.int .i64 0) w := ⟨0, Nat.zero_le _, rfl, Sl.nil_, Below.refl _ _⟩
/-- The relation of the inner loop: whether it has been met. -/
def InRel (acc : List Nat) (x : Nat) (wo : World) (s j : Value) (wr : World) : Prop :=
  ∃ k q : Nat, k ≤ acc.length ∧ j = .int .i64 (k : Int) ∧ s = .bool (seenB (acc.take k) x) ∧ wr = wo.drewN q
theorem inRel_start (acc : List Nat) (x : Nat) (wo : World) : InRel acc x wo (.bool false) (.int .i64 0) wo := ⟨0, 0, Nat.zero_le _, rfl, rfl, rfl⟩
theorem inRel_step {acc : List Nat} {x j : Nat} {wo : World} {i : Int} {b : Bool} {q : Nat} (hj : j < acc.length) (hi : i = ((j + 1 : Nat) : Int)) (hb : b = (seenB (acc.take j) x || acc[j] == x)) : InRel acc x wo (.bool b) (.int .i64 i) (wo.drewN q) :=
  ⟨j + 1, q, hj, by rw [hi], by rw [hb, seen_take hj], rfl⟩
theorem Sl.nums {w : World} {base : Nat} {e : TypeId} {v : Value} {l : List Nat} (h : Sl w base e v (l.map uv)) : ∃ A c, v = .slice A l.length c ∧ Rd w A (l.map uv) ∧ l.length ≤ c := by
  obtain ⟨A, c, rfl, hr, hc⟩ := h.form
  exact ⟨A, c, by simp, hr, by simpa using hc⟩
theorem seen_true {acc : List Nat} {j x : Nat} (hj : j < acc.length) (h : seenB (acc.take j) x = true) : true = (seenB (acc.take j) x || acc[j] == x) := by rw [h, Bool.true_or]
theorem seen_eq {acc : List Nat} {j x : Nat} (hj : j < acc.length) (h : acc[j] = x) : true = (seenB (acc.take j) x || acc[j] == x) := by
  subst h
  simp
theorem seen_ne {acc : List Nat} {j x : Nat} (hj : j < acc.length) (h0 : ¬ seenB (acc.take j) x = true) (h : acc[j] ≠ x) : false = (seenB (acc.take j) x || acc[j] == x) := by
  simp [h0, h]
theorem wpList_appendU (w : World) {ops : Array Oper} {rest : List Oper} {o : Oper} {a : Act} {Q : Exit → Act → World → Prop} (hgd : o.guard = none) (s x : Operand)
    (ho : o.op = .call { callee := .builtin .append, args := #[s, x], argTypes := #[24, 24] })
    (base : Nat) (v : Value) (l : List Nat) (hs : a.eval s = v) (hown : Sl w base 22 v (l.map uv)) (A : Option Addr) (m c : Nat) (news : List Nat) (hx : a.eval x = .slice A m c) (hm : news.length = m) (hr : Rd w A (news.map uv))
    (h63 : l.length + m ≤ 1000000000000) (hbase : base ≤ w.heap.size)
    (h : ∀ v' w', Sl w' base 22 v' ((l ++ news).map uv) → Below base w w' → wpList Try.prog ops Q rest (a.put o.dst v') w') : wpList Try.prog ops Q (o :: rest) a w := by
  obtain ⟨i5, hi, hz0, hz1, hz2⟩ := info_parts Try.infoU64
  refine wpList_append_sl w hgd s x 24 ho base 22 i5 (.int .u64 0) 8 Try.underlying24 hi hz0 hz1 hz2 rfl v (l.map uv) hs hown A m c (news.map uv) hx (by simpa using hm) hr (uv_one _) (by unfold maxLen; simp; omega) (by simp; omega) hbase ?_
  rw [← List.map_append]
  exact h
theorem rd_box (w : World) (x : Nat) (t : TypeId) : Rd (w.alloc (.cells #[.int .u64 (x : Int)] t)) (some ⟨w.heap.size, 0, none⟩) ([x].map uv) := Rd.of_cells (cell_one_new _ _ _)
theorem ocRel_drop {l : List Nat} {w wo : World} {v : Value} {k x q : Nat} {i : Int} {acc : List Nat} (hl : k < l.length) (hi : i = ((k + 1 : Nat) : Int)) (hn : onces [] (l.take (k + 1)) = onceStep acc x) (hseen : seenB acc x = true) (hs : Sl wo w.heap.size 22 v (acc.map uv)) (hb : Below w.heap.size w wo) : OcRel l w v (.int .i64 i) (wo.drewN q) := by
  refine ⟨k + 1, hl, by rw [hi], ?_, ⟨hb.os, hb.tape, hb.output, hb.size, hb.block⟩⟩
  rw [hn, onceStep, if_pos hseen]
  exact hs.below ⟨rfl, rfl, rfl, Nat.le_refl _, fun _ _ => rfl⟩
theorem ocRel_keep {l : List Nat} {w w1 : World} {v : Value} {k x : Nat} {i : Int} {acc : List Nat} (hl : k < l.length) (hi : i = ((k + 1 : Nat) : Int)) (hn : onces [] (l.take (k + 1)) = onceStep acc x) (hseen : seenB acc x = false) (hs : Sl w1 w.heap.size 22 v ((acc ++ [x]).map uv)) (hb : Below w.heap.size w w1) : OcRel l w v (.int .i64 i) w1 := by
  refine ⟨k + 1, hl, by rw [hi], ?_, hb⟩
  rw [hn, onceStep, if_neg (by rw [hseen]; decide)]
  exact hs
theorem below_drewN {B : Nat} {a w : World} (h : Below B a w) (n : Nat) : Below B a (w.drewN n) := ⟨h.os, h.tape, h.output, h.size, h.block⟩
theorem Sl.drewN {w : World} {base : Nat} {e : TypeId} {v : Value} {xs : List Value} (h : Sl w base e v xs) (n : Nat) : Sl (w.drewN n) base e v xs := h.below ⟨rfl, rfl, rfl, Nat.le_refl _, fun _ _ => rfl⟩
set_option maxRecDepth 10000 in
set_option maxHeartbeats 800000 in
theorem refDistinct_any (A : Option Addr) (l : List Nat) (m c : Nat) (w : World) (hm : l.length = m) (hr : Rd w A (l.map uv)) (hl : ∀ x ∈ l, x < 18446744073709551616) (hreach : m ≤ 1000000) :
    Calls Try.prog 20 #[.slice A m c] w fun f w' => f = .returned (.int .u64 ((fset (onces [] l) : Nat) : Int)) ∧ Below w.heap.size w w' := by
  subst hm
  have Hl := Lib.hid hl; clear hl
  have Hr := Lib.hid hr; clear hr
  go_enter Try.func20, Try.ntmps20
  go_wp2_with fail
  go_loopw [3, 4] (fun v i wr => OcRel l w v i wr) (fun _ i _ => l.length - (intOf i).toNat)
  case atStart => exact ocRel_start l w
  case round =>
    obtain ⟨k, hk, rfl, hs, hb⟩ := hrel
    obtain ⟨wo, rfl⟩ : ∃ wo : World, wo = wr := ⟨_, rfl⟩
    have hlen := onces_len [] (l.take k)
    simp only [List.length_nil, List.length_take] at hlen
    have hsm := onces_small (acc := []) (l := l.take k) (b := 18446744073709551616) (by simp) (fun x hx => Hl.out x (List.mem_of_mem_take hx))
    by_cases hlt : k < l.length
    · have Hn := Lib.hid (onces_take hlt)
      obtain ⟨ad, rfl, hc⟩ := ((Hr.out).below hb).at_ (k := k) (by simp; omega)
      simp only [List.getElem_map] at hc
      generalize l[k] = x at *
      generalize onces [] (l.take k) = acc at *
      obtain ⟨B, d, rfl, hB, hd⟩ := hs.nums
      have Hs := Lib.hid hs; clear hs
      have HB := Lib.hid hB; clear hB
      have Hb := Lib.hid hb; clear hb
      have Hsm := Lib.hid hsm; clear hsm
      unfold uv at hc
      go_wp2_with fail
      go_loopw [5, 6] (fun s j wr => InRel acc x wo s j wr) (fun _ j _ => acc.length - (intOf j).toNat)
      case atStart => exact inRel_start acc x wo
      case round =>
        obtain ⟨j, q, hj, rfl, rfl, rfl⟩ := hrel
        by_cases hjl : j < acc.length
        · obtain ⟨bd, rfl, hcb⟩ := HB.out.at_ (k := j) (by simp; omega)
          simp only [List.getElem_map] at hcb
          unfold uv at hcb
          have HS := Lib.hid (fun (b : Bool) i q hi hb => inRel_step (x := x) (wo := wo) (b := b) (i := i) (q := q) hjl hi hb)
          have HT := Lib.hid (@seen_true acc j x hjl)
          have HE := Lib.hid (@seen_eq acc j x hjl)
          have HN := Lib.hid (@seen_ne acc j x hjl)
          generalize hsb : seenB (acc.take j) x = sb at *
          have Hsb := Lib.hid hsb; clear hsb
          cases sb
          · by_cases he : acc[j] = x
            · have he' : ((acc[j] : Int) == (x : Int)) = true := by rw [beq_iff_eq]; omega
              have HQ := Lib.hid (HS.out true · · · (HE.out he))
              clear he
              generalize acc[j] = y at *
              go_wp2_with fail
              go_quiet (fail)
              go_wp2_with fail
              go_roundw
              case rel => exact HQ.out _ _ (by go_num)
              case measure => simp [intOf]; omega
            · have he' : ((acc[j] : Int) == (x : Int)) = false := by rw [beq_eq_false_iff_ne]; omega
              have HQ := Lib.hid (HS.out false · · · (HN.out (by decide) he))
              clear he
              generalize acc[j] = y at *
              go_wp2_with fail
              go_quiet (fail)
              go_wp2_with fail
              go_roundw
              case rel => exact HQ.out _ _ (by go_num)
              case measure => simp [intOf]; omega
          · clear hcb hc
            have HQ := Lib.hid (HS.out true · · · (HT.out rfl))
            go_wp2_with fail
            go_quiet (fail)
            go_wp2_with fail
            go_roundw
            case rel => exact HQ.out _ _ (by go_num)
            case measure => simp [intOf]; omega
        · obtain rfl : j = acc.length := by omega
          have hbs := Hb.out.size
          have Hap := Lib.hid (fun b => (Hs.out.alloc b).drewN q)
          rw [List.take_length]
          by_cases hseen : seenB acc x = true
          · have HR := Lib.hid (fun i q hi => ocRel_drop (i := i) (q := q) hlt hi Hn.out hseen Hs.out Hb.out)
            rw [hseen]
            clear hseen
            go_wp2_with fail
            go_roundw
            case rel => exact HR.out _ _ (by go_num)
            case measure => simp [intOf]; omega
          · have hseen' : seenB acc x = false := by simpa using hseen
            have HK := Lib.hid (fun v w1 i hi => @ocRel_keep l w w1 v k x i acc hlt hi Hn.out hseen')
            rw [hseen']
            clear hseen hseen'
            go_wp2_with (at_builtin; refine Pause.out ?_)
            refine Pause.of (wpList_appendU _ rfl _ _ rfl w.heap.size _ acc rfl (Hap.out _) _ 1 1 [x] rfl rfl ((rd_box wo x _).drewN q) (by omega) (by simp; omega) ?_)
            intro v' w1 hs1 hb1
            have Hs1 := Lib.hid hs1; clear hs1
            have Hb1 := Lib.hid ((below_drewN (Hb.out.alloc hbs _) q).trans hb1); clear hb1
            go_wp2_with fail
            go_roundw
            case rel => exact HK.out _ _ _ (by go_num) Hs1.out Hb1.out
            case measure => simp [intOf]; omega
    · obtain rfl : k = l.length := by omega
      rw [List.take_length] at hs hsm hlen
      obtain ⟨B, d, rfl, hB, hd⟩ := hs.nums
      have hm2 : (onces [] l).length ≤ 1000000 := by omega
      generalize hacc : onces [] l = acc at *
      have Hacc := Lib.hid hacc; clear hacc hs
      go_wp2_with fail
      refine (refSet_any B acc _ _ _ rfl hB hsm (by omega)).mono ?_
      rintro e w1 ⟨rfl, rfl⟩
      go_wp2_with fail
      go_ret
      exact ⟨ret_u64 (congrArg (fun q => ((fset q : Nat) : Int)) Hacc.out.symm), hb⟩
end Go.Proofs.Ytlcipcgeanipfaa
