/-
  The walks of the drawing helpers New and Next: choices from codes. They answer a number in range, and change their own block alone. Condition: at most a million codes.
-/
import Derived.Test.YtanjggfcahjkfaaGrow
import Derived.Test.YtanjggfcahjkfaaRows
import Derived.Test.YtanjggfcahjkfaaBase
import Derived.Test.YtanjggfcahjkfaaWords
import Derived.Deep.QuietTactic
import Derived.BigQuiet
namespace Go.Proofs.Ytanjggfcahjkfaa
open Go.RowKit

/-- The block of a source of choices: its codes, and how many are used. -/
def Codes (w : World) (g : Nat) (l : List Nat) (k : Nat) : Prop :=
  ∃ A c, w.heap[g]? = some (.cells #[.slice A l.length c, .int .i64 (k : Int)] 47 (0, 0)) ∧ Rd w A (l.map bv) ∧ l.length ≤ c ∧ k ≤ l.length ∧ (∀ ad, A = some ad → l ≠ [] → ad.block < g)

theorem codes_frozen {w : World} {g : Nat} {cs : Array Value} {t : TypeId} (h : w.heap[g]? = some (.cells cs t (0, 0))) (i : Nat) : w.frozen? ⟨g, i, none⟩ = false := by simp [World.frozen?, h]
/-- Bytes do not lie in a source's block. -/
theorem rd_other {w w' : World} {g : Nat} {A B : Option Addr} {m c : Nat} {x : Int} {t : TypeId} {l : List Nat} (hg : w.heap[g]? = some (.cells #[.slice B m c, .int .i64 x] t (0, 0))) (h : Rd w A (l.map bv)) (hk : ∀ p : Addr, p.block ≠ g → p.block < w.heap.size → w'.cell? p = w.cell? p) : Rd w' A (l.map bv) := fun j u hu => by
  obtain ⟨ad, e, hc⟩ := h j u hu
  refine ⟨ad, e, (hk _ (fun he => ?_) (World.block_lt_of_cell? w _ hc)).trans hc⟩
  obtain ⟨b, _, rfl⟩ := List.mem_map.1 (List.mem_of_getElem? hu)
  have h1 : ∃ i : Nat, (#[Value.slice B m c, Value.int .i64 x] : Array Value)[i]? = some (bv b) := by
    refine ⟨(ad.add j).off, ?_⟩
    simp only [World.cell?, he, hg] at hc
    revert hc
    cases (ad.add j).spot <;> simp
  obtain ⟨i, hi⟩ := h1
  match i, hi with
  | 0, hi => simp [bv] at hi
  | 1, hi => simp [bv] at hi
  | n + 2, hi => simp at hi

theorem Rd.only {w w' : World} {g : Nat} {A B : Option Addr} {m c : Nat} {x : Int} {t : TypeId} {l : List Nat} (h : Rd w A (l.map bv)) (hg : w.heap[g]? = some (.cells #[.slice B m c, .int .i64 x] t (0, 0))) (hb : w.grownBy w' (some g)) : Rd w' A (l.map bv) :=
  rd_other hg h fun p hp hlt => World.cell?_of_block (hb.block p.block hlt (fun he => hp (by injection he)))
theorem codes_new {w : World} {A : Option Addr} {l : List Nat} {m c : Nat} (hm : l.length = m) (hr : Rd w A (l.map bv)) (hc : m ≤ c) : Codes (w.alloc (.cells #[.slice A m c, .int .i64 0] 47)) w.heap.size l 0 := by
  subst hm
  refine ⟨A, c, heap_alloc_new w _, hr.alloc _, hc, Nat.zero_le _, fun ad hA hne => ?_⟩
  subst hA
  obtain ⟨_, he, hcell⟩ := hr.at_ (k := 0) (by simpa using List.length_pos_iff.2 hne)
  injection he with he
  subst he
  have := World.block_lt_of_cell? w _ hcell
  rwa [block_add] at this
theorem codes_step {w : World} {g : Nat} {l : List Nat} {k : Nat} (h : Codes w g l k) (hk : k < l.length) :
    Codes (w.setCell ⟨g, 1, none⟩ (.int .i64 ((k : Int) + 1))) g l (k + 1) ∧ w.grownBy (w.setCell ⟨g, 1, none⟩ (.int .i64 ((k : Int) + 1))) (some g) := by
  obtain ⟨A, c, hg, hr, hlc, _, hlow⟩ := h
  have hgr : w.grownBy (w.setCell ⟨g, 1, none⟩ (.int .i64 ((k : Int) + 1))) (some g) :=
    ⟨rfl, rfl, rfl, by simp [World.setCell], fun i _ hne => Below.heap_setCell w _ _ i (fun he => hne (by rw [he]))⟩
  refine ⟨⟨A, c, ?_, hr.only hg hgr, hlc, hk, hlow⟩, hgr⟩
  have := heap_setCell_same w g 1 _ _ (.int .i64 ((k : Int) + 1)) hg
  simpa using this
theorem codes_drewN {w : World} {g : Nat} {l : List Nat} {k : Nat} (h : Codes w g l k) (n : Nat) : Codes (w.drewN n) g l k := h
/-- Next answers a number below n, and changes the source's block alone. -/
def NxPost (g : Nat) (l : List Nat) (n : Int) (w : World) (e : Ending) (w' : World) : Prop :=
  ∃ r k : Nat, e = .returned (.int .i64 (r : Int)) ∧ (1 ≤ n → (r : Int) < n) ∧ (n < 1 → r = 0) ∧ Codes w' g l k ∧ w.grownBy w' (some g)
theorem only_drewN' {a w : World} {row : Option Nat} (h : a.grownBy w row) (n : Nat) : a.grownBy (w.drewN n) row := ⟨h.os, h.tape, h.output, h.size, h.block⟩
theorem grown_drewN (w : World) (row : Option Nat) (n : Nat) : w.grownBy (w.drewN n) row := ⟨rfl, rfl, rfl, Nat.le_refl _, fun _ _ _ => rfl⟩
theorem nxPost_end {g : Nat} {l : List Nat} {k : Nat} {n : Int} {w : World} (h : Codes w g l k) (q : Nat) : NxPost g l n w (.returned (.int .i64 0)) (w.drewN q) :=
  ⟨0, k, rfl, fun h => by omega, fun _ => rfl, codes_drewN h q, grown_drewN w _ q⟩
theorem nxPost_step {g : Nat} {l : List Nat} {k x n : Nat} {w : World} {z : Int} (h : Codes w g l k) (q : Nat) (hk : k < l.length) (hn : 1 ≤ n) (hz : z = ((x % n : Nat) : Int)) : NxPost g l n w (.returned (.int .i64 z)) ((w.setCell ⟨g, 1, none⟩ (.int .i64 ((k : Int) + 1))).drewN q) := by
  subst hz
  have hs := codes_step h hk
  refine ⟨x % n, k + 1, rfl, fun _ => ?_, fun h => by omega, codes_drewN hs.1 q, only_drewN' hs.2 q⟩
  have := Nat.mod_lt x hn
  omega
set_option maxRecDepth 10000 in
theorem new_any (A : Option Addr) (l : List Nat) (m c : Nat) (n : Nat) (w : World) (hm : l.length = m) (hmc : m ≤ c) (hr : Rd w A (l.map bv)) (hn : n ≤ 1000000) :
    Calls Try.prog 8 #[.slice A m c, .int .i64 (n : Int)] w fun e w' => ∃ g l', e = .returned (.pointer (some ⟨g, 0, none⟩)) ∧ w.heap.size ≤ g ∧ l'.length ≤ n ∧ l' = l.take n ∧ Codes w' g l' 0 ∧ Below w.heap.size w w' := by
  by_cases hbig : n < m
  · have Hm := Lib.hid hm; clear hm
    have Hr := Lib.hid hr; clear hr
    go_enter Try.func8, Try.ntmps8
    go_wp2_with fail
    go_ret
    refine ⟨_, l.take n, rfl, Nat.le_refl _, List.length_take_le _ _, rfl, ?_, (Below.refl _ _).alloc (Nat.le_refl _) _⟩
    have hlen : (l.take n).length = n := by rw [List.length_take, Hm.out]; omega
    refine codes_new hlen ?_ (by omega)
    rw [List.map_take]
    exact Hr.out.take n
  · have Hm := Lib.hid hm; clear hm
    have Hr := Lib.hid hr; clear hr
    go_enter Try.func8, Try.ntmps8
    go_wp2_with fail
    go_ret
    exact ⟨_, l, rfl, Nat.le_refl _, by have := Hm.out; omega, (List.take_of_length_le (by have := Hm.out; omega)).symm, codes_new Hm.out Hr.out hmc, (Below.refl _ _).alloc (Nat.le_refl _) _⟩
set_option maxRecDepth 10000 in
theorem next_end (g : Nat) (l : List Nat) (k : Nat) (n : Int) (w : World) (hc : Codes w g l k) (h : l.length ≤ k ∨ n < 1) :
    Calls Try.prog 18 #[.pointer (some ⟨g, 0, none⟩), .int .i64 n] w (NxPost g l n w) := by
  have Hc := Lib.hid hc
  obtain ⟨A, c, hg, hr, hlc, hkl, _⟩ := hc
  have c0 : w.cell? ⟨g, 0, none⟩ = some (.slice A l.length c) := by rw [cell_of_row w g 0 _ _ _ hg]; rfl
  have c1 : w.cell? ⟨g, 1, none⟩ = some (.int .i64 (k : Int)) := by rw [cell_of_row w g 1 _ _ _ hg]; rfl
  clear hg hr
  by_cases h1 : l.length ≤ k
  · have hd : decide ((l.length : Int) ≤ (k : Int)) = true := by simp; omega
    clear h
    go_enter Try.func18, Try.ntmps18
    go_wp2_with fail
    go_quiet (fail)
    go_wp2_with fail
    go_ret
    exact nxPost_end Hc.out _
  · have hd : decide ((l.length : Int) ≤ (k : Int)) = false := by simp; omega
    have hn : n < 1 := by omega
    clear h
    go_enter Try.func18, Try.ntmps18
    go_wp2_with fail
    go_quiet (fail)
    go_wp2_with fail
    go_ret
    exact nxPost_end Hc.out _
set_option maxRecDepth 10000 in
set_option maxHeartbeats 800000 in
theorem next_small (g : Nat) (l : List Nat) (k : Nat) (n : Nat) (w : World) (hc : Codes w g l k) (hk : k < l.length) (hn : 1 ≤ n) (hn2 : n ≤ 256) (hlen : l.length ≤ 1000000) (hl : ∀ x ∈ l, x < 256) :
    Calls Try.prog 18 #[.pointer (some ⟨g, 0, none⟩), .int .i64 (n : Int)] w (NxPost g l n w) := by
  have Hc := Lib.hid hc
  obtain ⟨A, c, hg, hr, hlc, hkl, _⟩ := hc
  have c0 : w.cell? ⟨g, 0, none⟩ = some (.slice A l.length c) := by rw [cell_of_row w g 0 _ _ _ hg]; rfl
  have c1 : w.cell? ⟨g, 1, none⟩ = some (.int .i64 (k : Int)) := by rw [cell_of_row w g 1 _ _ _ hg]; rfl
  have f1 : w.frozen? ⟨g, 1, none⟩ = false := codes_frozen hg 1
  obtain ⟨ad, rfl, hcx⟩ := hr.at_ (k := k) (by simp; omega)
  simp only [List.getElem_map] at hcx
  have hx : l[k] < 256 := hl _ (List.getElem_mem _)
  generalize l[k] = x at *
  unfold bv at hcx
  have Hl := Lib.hid hl; clear hl
  clear hg hr
  have hd : decide ((l.length : Int) ≤ (k : Int)) = false := by simp; omega
  go_enter Try.func18, Try.ntmps18
  go_wp2_with fail
  go_quiet (fail)
  go_wp2_with fail
  go_quiet (fail)
  go_wp2_with fail
  go_ret
  exact nxPost_step (x := x) Hc.out _ hk hn (by simp)
theorem next_byte (g : Nat) (l : List Nat) (k : Nat) (n : Nat) (w : World) (hc : Codes w g l k) (hn2 : n ≤ 256) (hlen : l.length ≤ 1000000) (hl : ∀ x ∈ l, x < 256) :
    Calls Try.prog 18 #[.pointer (some ⟨g, 0, none⟩), .int .i64 (n : Int)] w (NxPost g l n w) := by
  by_cases h : l.length ≤ k ∨ (n : Int) < 1
  · exact next_end g l k n w hc h
  · exact next_small g l k n w hc (by omega) (by omega) hn2 hlen hl
theorem nxPost_big {g : Nat} {l : List Nat} {n x : Nat} {w w1 w2 : World} {z : Int} {y k : Nat} (hn : 1 ≤ n) (hz : z = (((256 * x + y) % n : Nat) : Int)) (hc : Codes w2 g l k) (h1 : w.grownBy w1 (some g)) (h2 : w1.grownBy w2 (some g)) : NxPost g l n w (.returned (.int .i64 z)) w2 := by
  subst hz
  refine ⟨(256 * x + y) % n, k, rfl, fun _ => ?_, fun h => by omega, hc, h1.trans h2⟩
  have := Nat.mod_lt (256 * x + y) hn
  omega
set_option maxRecDepth 10000 in
set_option maxHeartbeats 800000 in
theorem next_large (g : Nat) (l : List Nat) (k : Nat) (n : Nat) (w : World) (hc : Codes w g l k) (hk : k < l.length) (hn2 : 256 < n) (hn3 : n ≤ 1000000000) (hlen : l.length ≤ 1000000) (hl : ∀ x ∈ l, x < 256) :
    Calls Try.prog 18 #[.pointer (some ⟨g, 0, none⟩), .int .i64 (n : Int)] w (NxPost g l n w) := by
  have Hc := Lib.hid hc
  have Hs := Lib.hid (codes_step hc hk)
  obtain ⟨A, c, hg, hr, hlc, hkl, _⟩ := hc
  have c0 : w.cell? ⟨g, 0, none⟩ = some (.slice A l.length c) := by rw [cell_of_row w g 0 _ _ _ hg]; rfl
  have c1 : w.cell? ⟨g, 1, none⟩ = some (.int .i64 (k : Int)) := by rw [cell_of_row w g 1 _ _ _ hg]; rfl
  have f1 : w.frozen? ⟨g, 1, none⟩ = false := codes_frozen hg 1
  obtain ⟨ad, rfl, hcx⟩ := hr.at_ (k := k) (by simp; omega)
  simp only [List.getElem_map] at hcx
  have hx : l[k] < 256 := hl _ (List.getElem_mem _)
  generalize l[k] = x at *
  unfold bv at hcx
  have Hl := Lib.hid hl; clear hl
  clear hg hr
  have hd : decide ((l.length : Int) ≤ (k : Int)) = false := by simp; omega
  go_enter Try.func18, Try.ntmps18
  go_wp2_with fail
  go_quiet (fail)
  go_wp2_with fail
  go_quiet (fail)
  go_wp2_with fail
  refine (next_byte g l (k + 1) 256 _ (codes_drewN Hs.out.1 _) (by decide) hlen Hl.out).mono ?_
  rintro e w2 ⟨y, k2, rfl, hy, _, hc2, hg2⟩
  have hy2 : y < 256 := by have := hy (by omega); omega
  have Hc2 := Lib.hid hc2; clear hc2
  have Hg2 := Lib.hid hg2; clear hg2 hy
  go_wp2_with fail
  go_ret
  exact nxPost_big (x := x) (y := y) (by omega) (by simp) Hc2.out (only_drewN' Hs.out.2 _) Hg2.out
theorem drawn_any (g : Nat) (l : List Nat) (k : Nat) (n : Nat) (w : World) (hc : Codes w g l k) (hn3 : n ≤ 1000000000) (hlen : l.length ≤ 1000000) (hl : ∀ x ∈ l, x < 256) :
    Calls Try.prog 18 #[.pointer (some ⟨g, 0, none⟩), .int .i64 (n : Int)] w (NxPost g l n w) := by
  by_cases h : n ≤ 256
  · exact next_byte g l k n w hc h hlen hl
  · by_cases hk : k < l.length
    · exact next_large g l k n w hc hk (by omega) hn3 hlen hl
    · exact next_end g l k n w hc (Or.inl (by omega))
theorem codes_lt {w : World} {g : Nat} {l : List Nat} {k : Nat} (h : Codes w g l k) : g < w.heap.size := by
  obtain ⟨A, c, hg, _⟩ := h
  rcases Nat.lt_or_ge g w.heap.size with hlt | hge
  · exact hlt
  · rw [Array.getElem?_eq_none hge] at hg; cases hg
theorem codes_below {w w' : World} {g : Nat} {l : List Nat} {k : Nat} (h : Codes w g l k) (hb : Below w.heap.size w w') : Codes w' g l k := by
  have hlt := codes_lt h
  obtain ⟨A, c, hg, hr, h1, h2, h3⟩ := h
  exact ⟨A, c, (hb.block g hlt).trans hg, hr.below hb, h1, h2, h3⟩
theorem codes_low {w w' : World} {g B : Nat} {l : List Nat} {k : Nat} (h : Codes w g l k) (hb : Below B w w') (hB : g < B) : Codes w' g l k := by
  obtain ⟨A, c, hg, hr, h1, h2, h3⟩ := h
  refine ⟨A, c, (hb.block g hB).trans hg, fun j u hu => ?_, h1, h2, h3⟩
  obtain ⟨ad, rfl, hc⟩ := hr j u hu
  have hne : l ≠ [] := fun h0 => by subst h0; simp at hu
  exact ⟨ad, rfl, (hb.cell (p := ad.add j) (by rw [block_add]; have := h3 ad rfl hne; omega)).trans hc⟩
theorem codes_rd {w w' : World} {g k : Nat} {l b : List Nat} {A : Option Addr} (h : Codes w g l k) (hr : Rd w A (b.map bv)) (hb : w.grownBy w' (some g)) : Rd w' A (b.map bv) := by
  obtain ⟨A', c, hg, _⟩ := h
  exact hr.only hg hb
theorem grown_undrew {w w' : World} {row : Option Nat} (h : w.drew.grownBy w' row) : w.grownBy w' row := ⟨h.os, h.tape, h.output, h.size, h.block⟩
theorem codes_other {w w' : World} {g go : Nat} {l : List Nat} {k : Nat} (h : Codes w g l k) (hb : w.grownBy w' (some go)) (hlt : g < go) : Codes w' g l k := by
  have hgw := codes_lt h
  exact codes_low h (B := g + 1) (grown_any hb (fun k hk => by injection hk with hk; omega) hgw) (by omega)
end Go.Proofs.Ytanjggfcahjkfaa
