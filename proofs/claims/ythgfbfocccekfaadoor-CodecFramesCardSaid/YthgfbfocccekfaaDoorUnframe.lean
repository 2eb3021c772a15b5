/-
  The walk of codec.Frame: what any bytes mean as a frame. Conditions: the table reads as the program's text lays it; the slice is not longer than 2 to the 46.
-/
import Derived.Test.YthgfbfocccekfaaDoorFrame
namespace Go.Proofs.YthgfbfocccekfaaDoor
open Go.RowKit

/-- What Frame leaves: a new slice, which reads as the payload. -/
def FrPost (p : List Nat) (k e : Nat) (w : World) (f : Ending) (w' : World) : Prop :=
  ∃ v, f = .returned (.tuple #[v, .int .i64 (k : Int), .int .i64 (e : Int)]) ∧ Sl w' w.heap.size 5 v (p.map bv) ∧ Below w.heap.size w w'
theorem frPost_none {p : List Nat} {k e e' : Nat} {w : World} {b : List Nat} (h : unframe b = (p, k, e)) (h' : unframe b = ([], 0, e')) :
    FrPost p k e w (.returned (.tuple #[.slice none 0 0, .int .i64 0, .int .i64 (e' : Int)])) w := by
  rw [h] at h'
  simp only [Prod.mk.injEq] at h'
  obtain ⟨rfl, rfl, rfl⟩ := h'
  exact ⟨_, rfl, Sl.nil_, Below.refl _ _⟩
theorem frPost_some {p p' : List Nat} {k e k' : Nat} {z : Int} {w w' : World} {v : Value} {b : List Nat} (h : unframe b = (p, k, e)) (h' : unframe b = (p', k', 0)) (hz : z = k') (hs : Sl w' w.heap.size 5 v ([] ++ p'.map bv)) (hb : Below w.heap.size w w') :
    FrPost p k e w (.returned (.tuple #[v, .int .i64 z, .int .i64 0])) w' := by
  rw [h] at h'
  simp only [Prod.mk.injEq] at h'
  obtain ⟨rfl, rfl, rfl⟩ := h'
  subst hz
  exact ⟨_, rfl, by simpa using hs, hb⟩
set_option maxRecDepth 10000 in
set_option maxHeartbeats 800000 in
theorem frame_any (A : Option Addr) (l : List Nat) (m c : Nat) (p : List Nat) (k e : Nat) (w : World) (hm : l.length = m) (h : m ≤ c) (hr : Rd w A (l.map bv)) (hl : ∀ x ∈ l, x < 256) (hreach : m ≤ 70368744177664) (ht : Tab w) (hu : unframe l = (p, k, e)) :
    Calls Tryd.prog 24 #[.slice A m c] w (FrPost p k e w) := by
  have hf := dec_fits l
  have Hm := Lib.hid hm
  have Hu := Lib.hid hu; clear hu
  have Ht := Lib.hid ht; clear ht
  have Hl := Lib.hid hl; clear hl
  have Hr := Lib.hid hr; clear hr
  have hue : unframe l = _ := rfl
  conv at hue => rhs; unfold unframe
  rw [hm] at hue hf
  have C := uint_any A l m c (dec l).1 (dec l).2.1 (dec l).2.2 w hm h Hr.out Hl.out (by omega) rfl
  generalize hn : (dec l).1 = n at *
  generalize hk0 : (dec l).2.1 = s at *
  generalize he : (dec l).2.2 = q at *
  clear hn hk0 he hm
  have Hc := Lib.hid C; clear C
  have Hf := Lib.hid hf.1
  obtain ⟨_, hs10, hsm⟩ := hf
  by_cases hq : q = 0
  · subst hq
    rw [if_neg (by simp)] at hue
    by_cases hbig : 65535 < n
    · rw [if_pos hbig] at hue
      have Hue := Lib.hid hue; clear hue
      go_enter Tryd.func24, Tryd.ntmps24
      go_wp2_with fail
      refine Hc.out.mono ?_
      rintro f w1 ⟨rfl, rfl⟩
      go_wp2_with fail
      go_ret3
      exact frPost_none Hu.out Hue.out
    · rw [if_neg hbig] at hue
      by_cases hshort : m < s + n + 4
      · rw [if_pos hshort] at hue
        have Hue := Lib.hid hue; clear hue
        go_enter Tryd.func24, Tryd.ntmps24
        go_wp2_with fail
        refine Hc.out.mono ?_
        rintro f w1 ⟨rfl, rfl⟩
        go_wp2_with fail
        go_ret3
        exact frPost_none Hu.out Hue.out
      · rw [if_neg hshort] at hue
        have Hue := Lib.hid hue; clear hue
        go_enter Tryd.func24, Tryd.ntmps24
        go_wp2_with fail
        refine Hc.out.mono ?_
        rintro f w1 ⟨rfl, rfl⟩
        go_wp2_with fail
        refine (sumAt_any _ (l.drop (s + n)) _ _ _ (by rw [List.length_drop, Hm.out]) (by omega) (by omega) (by rw [List.map_drop]; exact Hr.out.cut_lt (by rw [List.length_map, Hm.out]; exact h) (by omega)) (fun x hx => Hl.out x (List.mem_of_mem_drop hx))).mono ?_
        rintro f w1 ⟨rfl, rfl⟩
        have e4 := sum4_leOf (l := l.drop (s + n)) (fun x hx => Hl.out x (List.mem_of_mem_drop hx)) (by rw [List.length_drop, Hm.out]; omega)
        have E4 := Lib.hid e4; clear e4
        generalize hle : leOf ((l.drop (s + n)).take 4) = le at *
        clear hle
        go_wp2_with fail
        refine (checksum_any _ ((l.drop s).take n) _ _ _ (by rw [List.length_take, List.length_drop, Hm.out]; omega) (by rw [List.map_take, List.map_drop]; exact (Hr.out.cut_lt (by rw [List.length_map, Hm.out]; exact h) (by omega)).take n) (fun x hx => Hl.out x (List.mem_of_mem_drop (List.mem_of_mem_take hx))) (by omega) Ht.out).mono ?_
        rintro f w1 ⟨rfl, rfl⟩
        have hcl := Lib.hid (crc_lt ((l.drop s).take n))
        by_cases hsame : le = crc ((l.drop s).take n)
        · have hcond : ¬ ((l.drop (s + n)).take 4 ≠ sum4 (crc ((l.drop s).take n))) := fun hne => hne (by rw [← hsame]; exact E4.out.1.symm)
          have Hue2 := Lib.hid (Hue.out.trans (if_neg hcond)); clear Hue hcond
          have hb : (((le : Nat) : Int) != ((crc ((l.drop s).take n) : Nat) : Int)) = false := by rw [hsame]; simp
          generalize hcr : crc ((l.drop s).take n) = cr at *
          clear hcr hsame
          go_wp2_with (at_builtin; refine Pause.out ?_)
          refine Pause.of (wpList_appendB _ rfl _ _ rfl w.heap.size _ _ rfl Sl.nil_ (Option.map (fun x => x.add s) A) _ (c - s) (((l.drop s).take n).map bv) rfl (by rw [List.length_map, List.length_take, List.length_drop, Hm.out]; omega) (by rw [List.map_take, List.map_drop]; exact (Hr.out.cut_lt (by rw [List.length_map, Hm.out]; exact h) (by omega)).take n) (bv_one _) (by simp; omega) (Nat.le_refl _) ?_)
          intro v1 w1 hs1 hb1
          have Hs1 := Lib.hid hs1; clear hs1
          have Hb1 := Lib.hid hb1; clear hb1
          go_wp2_with fail
          go_ret3
          exact frPost_some Hu.out Hue2.out (by simp) Hs1.out Hb1.out
        · have hcond : (l.drop (s + n)).take 4 ≠ sum4 (crc ((l.drop s).take n)) := fun heq => hsame (sum4_inj E4.out.2 hcl.out (E4.out.1.trans heq))
          have Hue2 := Lib.hid (Hue.out.trans (if_pos hcond)); clear Hue hcond
          have hb : (((le : Nat) : Int) != ((crc ((l.drop s).take n) : Nat) : Int)) = true := by rw [bne_iff_ne]; omega
          generalize hcr : crc ((l.drop s).take n) = cr at *
          clear hcr hsame
          go_wp2_with fail
          go_ret3
          exact frPost_none Hu.out Hue2.out
  · have Hq : ((q : Int) != 0) = true := by rw [bne_iff_ne]; omega
    rw [if_pos hq] at hue
    have Hue := Lib.hid hue; clear hue
    go_enter Tryd.func24, Tryd.ntmps24
    go_wp2_with fail
    refine Hc.out.mono ?_
    rintro f w1 ⟨rfl, rfl⟩
    go_wp2_with fail
    go_ret3
    exact frPost_none Hu.out Hue.out
end Go.Proofs.YthgfbfocccekfaaDoor
