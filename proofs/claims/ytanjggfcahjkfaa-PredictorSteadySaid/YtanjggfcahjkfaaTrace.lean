/-
  Fetches in memory, and the walk of the drawing helper Trace. Condition: at most a million codes.
-/
import Derived.Test.YtanjggfcahjkfaaNums
namespace Go.Proofs.Ytanjggfcahjkfaa
open Go.RowKit

/-- A fetch: address, size, kind. -/
structure F3 where
  a : Nat
  s : Nat
  k : Nat
def fc (f : F3) : List Value := [nv f.a, nv f.s, nv f.k]
def fcs (l : List F3) : List Value := l.flatMap fc
theorem fcs_append (a b : List F3) : fcs (a ++ b) = fcs a ++ fcs b := by simp [fcs]
theorem fcs_length : ∀ l : List F3, (fcs l).length = l.length * 3
  | [] => rfl
  | f :: r => by
    have := fcs_length r
    simp only [fcs, List.flatMap_cons, List.length_append, List.length_cons] at this ⊢
    rw [this]
    simp [fc]; omega
theorem fcs_one (l : List F3) : ∀ u ∈ fcs l, u.oneCell' = true := by
  intro u hu
  obtain ⟨f, _, h⟩ := List.mem_flatMap.1 hu
  simp only [fc, List.mem_cons, List.not_mem_nil, or_false] at h
  rcases h with rfl | rfl | rfl <;> rfl
theorem fcs_at : ∀ (l : List F3) (i : Nat) (f : F3), l[i]? = some f → (fcs l)[i * 3]? = some (nv f.a) ∧ (fcs l)[i * 3 + 1]? = some (nv f.s) ∧ (fcs l)[i * 3 + 2]? = some (nv f.k)
  | [], _, _, h => by simp at h
  | x :: l, 0, f, h => by
    simp at h
    subst h
    exact ⟨rfl, rfl, rfl⟩
  | x :: l, i + 1, f, h => by
    obtain ⟨h1, h2, h3⟩ := fcs_at l i f (by simpa using h)
    have e : fcs (x :: l) = fc x ++ fcs l := rfl
    refine ⟨?_, ?_, ?_⟩
    · rw [e, List.getElem?_append_right (by simp [fc]; omega)]
      simpa [fc, Nat.add_mul] using h1
    · rw [e, List.getElem?_append_right (by simp [fc]; omega)]
      have : (i + 1) * 3 + 1 - (fc x).length = i * 3 + 1 := by simp [fc]; omega
      rw [this]; exact h2
    · rw [e, List.getElem?_append_right (by simp [fc]; omega)]
      have : (i + 1) * 3 + 2 - (fc x).length = i * 3 + 2 := by simp [fc]; omega
      rw [this]; exact h3
/-- A fetch's three cells, as the walk spells them. -/
theorem ft_cells {w : World} {A : Option Addr} {l : List F3} {j : Nat} {f : F3} (h : Rd w A (fcs l)) (hf : l[j]? = some f) :
    ∃ ad, A = some ad ∧ w.cell? (ad.add (j * 3)) = some (.int .i64 (f.a : Int)) ∧ w.cell? ⟨(ad.add (j * 3)).block, (ad.add (j * 3)).off + 1, none⟩ = some (.int .i64 (f.s : Int)) ∧ w.cell? ⟨(ad.add (j * 3)).block, (ad.add (j * 3)).off + 2, none⟩ = some (.int .i64 (f.k : Int)) := by
  obtain ⟨h1, h2, h3⟩ := fcs_at l j f hf
  obtain ⟨ad, rfl, c0⟩ := h _ _ h1
  have c1 := h.cells _ _ h2
  have c2 := h.cells _ _ h3
  rw [← add_add] at c1 c2
  exact ⟨ad, rfl, c0, c1, c2⟩
theorem infoF : (Try.prog.info? 42).map (fun i => (i.zero, i.size, i.bytes)) = some (some (.agg #[.int .i64 0, .int .i64 0, .int .i64 0]), 3, 24) := by kernel_rfl
theorem wpList_append_ft {ops : Array Oper} {rest : List Oper} {o : Oper} {a : Act} {Q : Exit → Act → World → Prop} (w : World) (hgd : o.guard = none) (s x : Operand)
    (ho : o.op = .call { callee := .builtin .append, args := #[s, x], argTypes := #[33, 33] }) (base : Nat) (v : Value) (ts : List F3) (n : Nat) (t : F3) (y0 y1 y2 : Value) (hn : ts.length = n) (hy : fc t = [y0, y1, y2])
    (hs : a.eval s = v) (hx : a.eval x = .slice (some ⟨w.heap.size, 0, none⟩) 1 1) (hown : w.ownsRow base 42 3 v n (fcs ts)) (hlen : n ≤ 1000000) (hbase : base ≤ w.heap.size)
    (h : ∀ v' w', w'.ownsRow base 42 3 v' (n + 1) (fcs (ts ++ [t])) → w.grownBy w' v.ownBlock → wpList Try.prog ops Q rest (a.put o.dst v') w') :
    wpList Try.prog ops Q (o :: rest) a (w.alloc (.cells #[y0, y1, y2] 42)) := by
  subst hn
  obtain ⟨i, hi, hz, hsz, hby⟩ := info_parts infoF
  refine wpList_append_own _ hgd s x _ ho base 42 i _ 3 24 Try.underlying33 hi hz hsz hby rfl (by decide) v ts.length (fcs ts) hs (hown.alloc _) ⟨w.heap.size, 0, none⟩ 1 1 [y0, y1, y2] hx (by simp) ?_ ?_ (by unfold maxLen; omega) (by omega) (by simp; omega) fun v' w' h1 h2 _ => h v' w' ?_ ((World.grownBy_alloc _ _ _).trans h2)
  · intro j u hu
    rw [Addr.add_lit, Nat.zero_add]
    exact (cell_of_row _ _ _ _ _ _ (heap_alloc_new w _)).trans (by simpa using hu)
  · intro u hu
    exact fcs_one [t] u (by simpa [fcs, hy] using hu)
  · rw [fcs_append]
    simpa [fcs, hy] using h1
/-- A fetch as Trace draws it. -/
def okF (f : F3) : Prop := f.a < 80 ∧ 1 ≤ f.s ∧ f.s ≤ 10 ∧ f.k < 6
def TrPost (g : Nat) (l : List Nat) (most : Nat) (w : World) (e : Ending) (w' : World) : Prop :=
  ∃ fs v, e = .returned v ∧ fs.length ≤ most ∧ (∀ f ∈ fs, okF f) ∧ DR w g l 42 3 v fs.length (fcs fs) w'
def TrR (g : Nat) (l : List Nat) (w : World) (m : Nat) (v i : Value) (wr : World) : Prop :=
  ∃ (j : Nat) (fs : List F3), i = .int .i64 (j : Int) ∧ fs.length + j = m ∧ (∀ f ∈ fs, okF f) ∧ DR w g l 42 3 v fs.length (fcs fs) wr
set_option maxRecDepth 10000 in
theorem trace_any (g : Nat) (l : List Nat) (k : Nat) (most : Nat) (w : World) (hc : Codes w g l k) (hlen : l.length ≤ 1000000) (hl : ∀ x ∈ l, x < 256) (hm : most ≤ 1000) :
    Calls Try.prog 17 #[.pointer (some ⟨g, 0, none⟩), .int .i64 (most : Int)] w (TrPost g l most w) := by
  have Hc := Lib.hid hc; clear hc
  have Hl := Lib.hid hl; clear hl
  go_enter Try.func17, Try.ntmps17
  go_wp2_with fail
  refine (drawn_any g l k (most + 1) _ Hc.out (by omega) hlen Hl.out).mono ?_
  rintro e w1 ⟨r, k1, rfl, hr, _, hc1, hg1⟩
  have hr8 : r ≤ most := by have := hr (by omega); omega
  have Hd := Lib.hid (DR.begun (T := 42) (s := 3) hc1 hg1 (codes_lt Hc.out))
  clear hr hc1 hg1
  go_wp2_with fail
  go_loopw [5, 6] (fun v i wr => TrR g l w r v i wr) (fun _ i _ => (intOf i).toNat)
  case atStart => exact ⟨r, [], by simp, by simp, (fun x hx => by cases hx), Hd.out⟩
  case round =>
    obtain ⟨j, fs, rfl, hj, ht, hd⟩ := hrel
    obtain ⟨n, hn⟩ : ∃ n, fs.length = n := ⟨_, rfl⟩
    rw [hn] at hd hj
    have Hn := Lib.hid hn; clear hn
    have Hd1 := Lib.hid hd; clear hd
    have Ht := Lib.hid ht; clear ht
    by_cases h0 : 0 < j
    · obtain ⟨k2, hc2⟩ := Hd1.out.cod
      have Hc2 := Lib.hid hc2; clear hc2
      have hle : j ≤ 1000 := by omega
      go_wp2_with fail
      refine (drawn_any g l k2 80 _ Hc2.out (by decide) hlen Hl.out).mono ?_
      rintro e w2 ⟨x, k3, rfl, hx, _, hc3, hg3⟩
      have hx4 : x < 80 := by have := hx (by omega); omega
      have Hc3 := Lib.hid hc3
      have Hd2 := Lib.hid (Hd1.out.next hc3 hg3)
      clear hx hc3 hg3
      go_wp2_with fail
      refine (drawn_any g l k3 10 _ Hc3.out (by decide) hlen Hl.out).mono ?_
      rintro e w3 ⟨y, k4, rfl, hy, _, hc4, hg4⟩
      have hy4 : y < 10 := by have := hy (by omega); omega
      have Hc4 := Lib.hid hc4
      have Hd3 := Lib.hid (Hd2.out.next hc4 hg4)
      clear hy hc4 hg4
      go_wp2_with fail
      refine (drawn_any g l k4 6 _ Hc4.out (by decide) hlen Hl.out).mono ?_
      rintro e w4 ⟨z, k5, rfl, hz, _, hc5, hg5⟩
      have hz4 : z < 6 := by have := hz (by omega); omega
      have Hd4 := Lib.hid (Hd3.out.next hc5 hg5)
      clear hz hc5 hg5
      go_wp2_with (at_builtin; refine Pause.out ?_)
      refine Pause.of (wpList_append_ft w4 rfl (.tmp 15) (.tmp 24) rfl w.heap.size _ fs n ⟨x, 1 + y, z⟩ _ _ _ Hn.out (by simp [fc, nv]) rfl rfl Hd4.out.own (by omega) Hd4.out.gro.size ?_)
      intro v' w5 hown hg
      have Hd5 := Lib.hid (Hd4.out.app hown hg)
      clear hown hg
      go_wp2_with fail
      refine ⟨⟨j - 1, fs ++ [⟨x, 1 + y, z⟩], by go_num, by rw [List.length_append, Hn.out]; simp; omega, ?_, ?_⟩, by simp [intOf]; omega⟩
      · intro f hf
        rcases List.mem_append.1 hf with h | h
        · exact Ht.out f h
        · simp at h
          subst h
          exact ⟨hx4, by simp, by simp; omega, hz4⟩
      · rw [List.length_append, Hn.out]
        exact Hd5.out
    · obtain rfl : j = 0 := by omega
      obtain ⟨A, c, rfl, _, _⟩ := own_form Hd1.out.own
      go_wp2_with fail
      go_ret
      exact ⟨fs, _, rfl, by have := Hn.out; omega, Ht.out, by rw [Hn.out]; exact Hd1.out⟩
end Go.Proofs.Ytanjggfcahjkfaa
