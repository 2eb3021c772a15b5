/-
  The walks of the reference's Checksum, PutFrame and Frame. Condition: the slices are not longer than 2 to the 45.
-/
import Derived.Test.YthgfbfocccekfaaDoorRefGet
import Derived.Test.YthgfbfocccekfaaDoorUnframe
namespace Go.Proofs.YthgfbfocccekfaaDoor
open Go.RowKit

def RkRel (l : List Nat) (u i : Value) : Prop :=
  ∃ k : Nat, k ≤ l.length ∧ i = .int .i64 (k : Int) ∧ u = .int .u32 ((crcFold 4294967295 (l.take k) : Nat) : Int)
def RbRel (c0 : Nat) (u i : Value) : Prop := ∃ j : Nat, j ≤ 8 ∧ i = .int .i64 (j : Int) ∧ u = .int .u32 ((crcBits j c0 : Nat) : Int)
theorem crcBit_odd {c : Nat} (h : c < 4294967296) (h2 : c % 2 = 1) : bits .xor .u32 ((c : Int) / 2) 3988292384 = ((crcBit c : Nat) : Int) := by
  have e : (c : Int) / 2 = ((c / 2 : Nat) : Int) := by omega
  rw [e]
  refine (xor32 (c / 2) 3988292384 (by omega) (by decide)).trans ?_
  unfold crcBit
  rw [if_pos h2]
theorem crcBit_ev {c : Nat} (h2 : c % 2 = 0) : (c : Int) / 2 = ((crcBit c : Nat) : Int) := by
  unfold crcBit
  rw [if_neg (by omega)]
  omega
set_option maxRecDepth 10000 in
set_option maxHeartbeats 800000 in
theorem refChecksum_any (A : Option Addr) (l : List Nat) (m c : Nat) (w : World) (hm : l.length = m) (hr : Rd w A (l.map bv)) (hl : ∀ x ∈ l, x < 256) (hreach : m ≤ 140737488351232) :
    Calls Tryd.prog 23 #[.slice A m c] w fun f w' => f = .returned (.int .u32 ((crc l : Nat) : Int)) ∧ w = w' := by
  subst hm
  go_enter Tryd.func23, Tryd.ntmps23
  go_wp2_with fail
  go_loop [3, 4] (fun u i => RkRel l u i) (fun _ i => l.length - (intOf i).toNat)
  case atStart => exact ⟨0, by omega, rfl, rfl⟩
  case round =>
    obtain ⟨k, hk, rfl, rfl⟩ := hrel
    have hcl : crcFold 4294967295 (l.take k) < 4294967296 := crcFold_lt (by decide) (fun x hx => hl x (List.mem_of_mem_take hx))
    by_cases hlt : k < l.length
    · have Hs := Lib.hid (crcFold_take (c := 4294967295) hlt)
      obtain ⟨ad, rfl, hc⟩ := hr.at_ (k := k) (by simp; omega)
      simp only [List.getElem_map] at hc
      have hx : l[k] < 256 := hl _ (List.getElem_mem _)
      generalize l[k] = x at *
      generalize crcFold 4294967295 (l.take k) = c0 at *
      unfold bv at hc
      have Hr := Lib.hid hr; clear hr
      have Hl := Lib.hid hl; clear hl
      have e1 := xor32 c0 x hcl (by omega)
      have b1 : c0 ^^^ x < 4294967296 := xor_lt32 hcl (by omega)
      have Hs2 : Hid (crcFold 4294967295 (l.take (k + 1)) = crcBits 8 (c0 ^^^ x)) := Hs
      clear Hs
      generalize c0 ^^^ x = c1 at *
      have B1 := Lib.hid b1; clear b1
      go_wp2_with fail
      go_loop [3, 5] (fun u i => RbRel c1 u i) (fun _ i => 8 - (intOf i).toNat)
      case atStart => exact ⟨0, by omega, rfl, rfl⟩
      case round =>
        obtain ⟨j, hj, rfl, rfl⟩ := hrel
        have hcb := crcBits_lt j B1.out
        by_cases hj8 : j < 8
        · have Hstep : Hid (crcBits (j + 1) c1 = crcBit (crcBits j c1)) := Lib.hid rfl
          generalize crcBits j c1 = q at *
          have Hq := Lib.hid hcb; clear hcb
          rcases Nat.mod_two_eq_zero_or_one q with h2 | h2
          · have ha : bits .and .u32 (q : Int) 1 = 0 := by rw [and1 q Hq.out, h2]; rfl
            have He := Lib.hid (crcBit_ev h2)
            clear h2
            go_wp2_with fail
            exact ⟨⟨j + 1, by omega, by simp, by rw [Hstep.out, He.out]⟩, by simp [intOf]; omega⟩
          · have ha : bits .and .u32 (q : Int) 1 = 1 := by rw [and1 q Hq.out, h2]; rfl
            have He := crcBit_odd Hq.out h2
            clear h2
            go_wp2_with fail
            exact ⟨⟨j + 1, by omega, by simp, by rw [Hstep.out]⟩, by simp [intOf]; omega⟩
        · obtain rfl : j = 8 := by omega
          go_wp2_with fail
          exact ⟨⟨k + 1, by omega, by simp, by rw [Hs2.out]⟩, by simp [intOf]; omega⟩
    · go_wp2_with fail
      go_ret
      have hk' : l.take k = l := List.take_of_length_le (by omega)
      rw [hk'] at hcl
      exact ⟨by rw [hk']; exact congrArg (fun q => Ending.returned (.int .u32 q)) (comp32 _ hcl), rfl⟩

set_option maxRecDepth 10000 in
theorem refPutFrame_long (A : Option Addr) (k c : Nat) (B : Option Addr) (m d : Nat) (w : World) (hn : 65535 < m) :
    Calls Tryd.prog 21 #[.slice A k c, .slice B m d] w fun f w' => f = .returned (.tuple #[.slice none 0 0, .int .i64 5]) ∧ w = w' := by
  go_enter Tryd.func21, Tryd.ntmps21
  go_wp2_with fail
  go_ret2
  exact ⟨rfl, rfl⟩
theorem sum4_spelled (s : Nat) : ([.int .u8 ((s : Int) % 256), .int .u8 ((s : Int) / 256 % 256), .int .u8 ((s : Int) / 65536 % 256), .int .u8 ((s : Int) / 16777216 % 256)] : List Value) = (sum4 s).map bv := by simp [sum4, bv]
set_option maxRecDepth 10000 in
theorem refPutFrame_any (A : Option Addr) (xs : List Value) (k c : Nat) (B : Option Addr) (l : List Nat) (m d : Nat) (w : World) (hk : xs.length = k) (hr : Rd w A xs) (h1 : ∀ u ∈ xs, u.oneCell' = true) (hreach : k ≤ 35184372088832)
    (hm : l.length = m) (hrl : Rd w B (l.map bv)) (hl : ∀ x ∈ l, x < 256) (hn : m ≤ 65535) :
    Calls Tryd.prog 21 #[.slice A k c, .slice B m d] w fun f w' => ∃ v, f = .returned (.tuple #[v, .int .i64 0]) ∧ Sl w' w.heap.size 5 v (xs ++ (frame l).map bv) ∧ Below w.heap.size w w' := by
  have Hr := Lib.hid hr; clear hr
  have Hrl := Lib.hid hrl; clear hrl
  have Hl := Lib.hid hl; clear hl
  have Hk := Lib.hid hk; clear hk
  have Hm := Lib.hid hm; clear hm
  have H1 := Lib.hid h1; clear h1
  have hlen := Lib.hid (encF_len 10 m)
  go_enter Tryd.func21, Tryd.ntmps21
  go_wp2_with fail
  refine (refPutUint_any A xs k c m _ Hk.out Hr.out H1.out (by omega) (by omega)).mono ?_
  rintro e w1 ⟨v1, rfl, hs1, hb1⟩
  have Hs1 := Lib.hid hs1; clear hs1
  have Hb1 := Lib.hid hb1; clear hb1
  have b1 : Hid ((xs ++ (enc m).map bv).length ≤ 35184372088842) := Lib.hid (by have := hlen.out; have := Hk.out; unfold enc; simp; omega)
  go_wp2_with (at_builtin; refine Pause.out ?_)
  refine Pause.of (wpList_appendB _ rfl _ _ rfl w.heap.size _ _ rfl Hs1.out B _ d _ rfl (by rw [List.length_map]; exact Hm.out) (Hrl.out.below Hb1.out) (bv_one _) (by have := b1.out; omega) Hb1.out.size ?_)
  intro v2 w2 hs2 hb2
  have Hs2 := Lib.hid hs2; clear hs2
  have Hb2 := Lib.hid (Hb1.out.trans hb2); clear hb2 Hs1 Hb1
  go_wp2_with fail
  refine (refChecksum_any B l m d _ Hm.out (Hrl.out.below Hb2.out) Hl.out (by omega)).mono ?_
  rintro e w3 ⟨rfl, rfl⟩
  generalize hs : crc l = s at *
  have Hcs := Lib.hid hs; clear hs
  go_wp2_with (at_builtin; refine Pause.out ?_)
  refine Pause.of (wpList_appendB _ rfl _ _ rfl w.heap.size _ _ rfl (Hs2.out.alloc _) (some ⟨w2.heap.size, 0, none⟩) 4 4 ((sum4 s).map bv) rfl rfl (by rw [← sum4_spelled]; exact Rd.new w2 _ _ _) (bv_one _) (by have := b1.out; have := Hm.out; simp at *; omega) (by have := Hb2.out.size; simp; omega) ?_)
  intro v4 w4 hs4 hb4
  have Hs4 := Lib.hid hs4; clear hs4
  have Hb4 := Lib.hid ((Hb2.out.alloc Hb2.out.size _).trans hb4); clear hb4 Hs2 Hb2
  go_wp2_with fail
  go_ret2
  refine ⟨_, rfl, ?_, Hb4.out⟩
  have := Hs4.out
  unfold frame
  rw [Hm.out, Hcs.out]
  simpa [List.append_assoc] using this
theorem take4 {l : List Nat} {i y0 y1 y2 y3 : Nat} (h0 : l[i]? = some y0) (h1 : l[i + 1]? = some y1) (h2 : l[i + 2]? = some y2) (h3 : l[i + 3]? = some y3) : (l.drop i).take 4 = [y0, y1, y2, y3] := by
  refine List.ext_getElem? fun j => ?_
  rw [List.getElem?_take]
  match j with
  | 0 => simpa using h0
  | 1 => simpa using h1
  | 2 => simpa using h2
  | 3 => simpa using h3
  | j + 4 => simp; omega
theorem frPost_none2 {p : List Nat} {k e e' : Nat} {w w' : World} {b : List Nat} (h : unframe b = (p, k, e)) (h' : unframe b = ([], 0, e')) (hb : Below w.heap.size w w') :
    FrPost p k e w (.returned (.tuple #[.slice none 0 0, .int .i64 0, .int .i64 (e' : Int)])) w' := by
  rw [h] at h'
  simp only [Prod.mk.injEq] at h'
  obtain ⟨rfl, rfl, rfl⟩ := h'
  exact ⟨_, rfl, Sl.nil_, hb⟩
theorem sum4_cases {y0 y1 y2 y3 s : Nat} : (((y0 : Int) != (s : Int) % 256) = true ∧ [y0, y1, y2, y3] ≠ sum4 s) ∨
    (((y0 : Int) != (s : Int) % 256) = false ∧ ((y1 : Int) != (s : Int) / 256 % 256) = true ∧ [y0, y1, y2, y3] ≠ sum4 s) ∨
    (((y0 : Int) != (s : Int) % 256) = false ∧ ((y1 : Int) != (s : Int) / 256 % 256) = false ∧ ((y2 : Int) != (s : Int) / 65536 % 256) = true ∧ [y0, y1, y2, y3] ≠ sum4 s) ∨
    (((y0 : Int) != (s : Int) % 256) = false ∧ ((y1 : Int) != (s : Int) / 256 % 256) = false ∧ ((y2 : Int) != (s : Int) / 65536 % 256) = false ∧ ((y3 : Int) != (s : Int) / 16777216 % 256) = true ∧ [y0, y1, y2, y3] ≠ sum4 s) ∨
    (((y0 : Int) != (s : Int) % 256) = false ∧ ((y1 : Int) != (s : Int) / 256 % 256) = false ∧ ((y2 : Int) != (s : Int) / 65536 % 256) = false ∧ ((y3 : Int) != (s : Int) / 16777216 % 256) = false ∧ [y0, y1, y2, y3] = sum4 s) := by
  simp only [bne_iff_ne, bne_eq_false_iff_eq, sum4, List.cons.injEq, ne_eq]
  by_cases h0 : y0 = s % 256 <;> by_cases h1 : y1 = s / 256 % 256 <;> by_cases h2 : y2 = s / 65536 % 256 <;> by_cases h3 : y3 = s / 16777216 % 256 <;> simp [h0, h1, h2, h3] <;> omega
set_option maxRecDepth 10000 in
set_option maxHeartbeats 1600000 in
theorem refFrame_any (A : Option Addr) (l : List Nat) (m c : Nat) (p : List Nat) (k e : Nat) (w : World) (hm : l.length = m) (h : m ≤ c) (hr : Rd w A (l.map bv)) (hl : ∀ x ∈ l, x < 256) (hreach : m ≤ 70368744177664) (hu : unframe l = (p, k, e)) :
    Calls Tryd.prog 25 #[.slice A m c] w (FrPost p k e w) := by
  have hf := dec_fits l
  have Hm := Lib.hid hm
  have Hu := Lib.hid hu; clear hu
  have Hl := Lib.hid hl; clear hl
  have Hr := Lib.hid hr; clear hr
  have hue : unframe l = _ := rfl
  conv at hue => rhs; unfold unframe
  rw [hm] at hue hf
  have C := refUint_any A l m c (dec l).1 (dec l).2.1 (dec l).2.2 w hm Hr.out Hl.out (by omega) rfl
  generalize hn : (dec l).1 = n at *
  generalize hk0 : (dec l).2.1 = s at *
  generalize he : (dec l).2.2 = q at *
  clear hn hk0 he hm
  have Hc := Lib.hid C; clear C
  have Hf := Lib.hid hf.1
  obtain ⟨_, hs10, hsm⟩ := hf
  by_cases hq : q = 0
  · subst hq
    rw [if_neg (by simp)] at hue
    by_cases hbig : 65535 < n
    · rw [if_pos hbig] at hue
      have Hue := Lib.hid hue; clear hue
      go_enter Tryd.func25, Tryd.ntmps25
      go_wp2_with fail
      refine Hc.out.mono ?_
      rintro f w1 ⟨rfl, rfl⟩
      go_wp2_with fail
      go_ret3
      exact frPost_none Hu.out Hue.out
    · rw [if_neg hbig] at hue
      by_cases hshort : m < s + n + 4
      · rw [if_pos hshort] at hue
        have Hue := Lib.hid hue; clear hue
        go_enter Tryd.func25, Tryd.ntmps25
        go_wp2_with fail
        refine Hc.out.mono ?_
        rintro f w1 ⟨rfl, rfl⟩
        go_wp2_with fail
        go_ret3
        exact frPost_none Hu.out Hue.out
      · rw [if_neg hshort] at hue
        have Hue := Lib.hid hue; clear hue
        go_enter Tryd.func25, Tryd.ntmps25
        go_wp2_with fail
        refine Hc.out.mono ?_
        rintro f w1 ⟨rfl, rfl⟩
        obtain ⟨ad, rfl⟩ := Hr.out.some_ (fun h0 => by have h1 := congrArg List.length h0; rw [List.length_map, Hm.out] at h1; simp at h1; omega)
        obtain ⟨P, hP⟩ : ∃ P, P = (l.drop s).take n := ⟨_, rfl⟩
        have hPl : P.length = s + n - s := by rw [hP, List.length_take, List.length_drop, Hm.out]; omega
        have hPr : Rd w ((some ad).map (·.add s)) (P.map bv) := by rw [hP, List.map_take, List.map_drop]; exact (Hr.out.cut_lt (by rw [List.length_map, Hm.out]; exact h) (by omega)).take n
        have hPb : ∀ x ∈ P, x < 256 := fun x hx => by rw [hP] at hx; exact Hl.out x (List.mem_of_mem_drop (List.mem_of_mem_take hx))
        have HPl := Lib.hid hPl
        have HPr := Lib.hid hPr
        have HPb := Lib.hid hPb
        have hget : ∀ j, j < 4 → ∃ y, l[s + n + j]? = some y ∧ w.cell? (ad.add (s + n + j)) = some (.int .u8 (y : Int)) := fun j hj => by
          have hi : s + n + j < l.length := by have := Hm.out; omega
          exact ⟨l[s + n + j], List.getElem?_eq_getElem hi, Hr.out.cells _ (bv l[s + n + j]) (by rw [List.getElem?_map, List.getElem?_eq_getElem hi]; rfl)⟩
        have htk : ∀ {y0 y1 y2 y3 : Nat}, l[s + n]? = some y0 → l[s + n + 1]? = some y1 → l[s + n + 2]? = some y2 → l[s + n + 3]? = some y3 → (l.drop (s + n)).take 4 = [y0, y1, y2, y3] := fun h0 h1 h2 h3 => take4 h0 h1 h2 h3
        obtain ⟨y0, g0, c0⟩ := hget 0 (by decide)
        obtain ⟨y1, g1, c1⟩ := hget 1 (by decide)
        obtain ⟨y2, g2, c2⟩ := hget 2 (by decide)
        obtain ⟨y3, g3, c3⟩ := hget 3 (by decide)
        have ht := htk g0 g1 g2 g3
        rw [← hP, ht] at Hue
        have Hcells := Lib.hid (And.intro c0 (And.intro c1 (And.intro c2 c3)))
        clear hP hPl hPr hPb hget htk g0 g1 g2 g3 c0 c1 c2 c3 ht
        go_wp2_with (at_builtin; refine Pause.out ?_)
        refine Pause.of (wpList_appendB _ rfl _ _ rfl w.heap.size _ _ rfl Sl.nil_ _ _ (c - s) (P.map bv) rfl (by rw [List.length_map]; exact HPl.out) HPr.out (bv_one _) (by simp; omega) (Nat.le_refl _) ?_)
        intro v1 w1 hs1 hb1
        have Hs1 := Lib.hid hs1
        have Hb1 := Lib.hid hb1
        obtain ⟨A1, d1, rfl, hr1, _⟩ := hs1.bytesN (l := P) (n := n) (by simp) (by have := HPl.out; omega)
        have Hr1 := Lib.hid hr1
        have cells1 : ∀ {p : Addr} {u : Value}, w.cell? p = some u → w1.cell? p = some u := fun hcell => (hb1.cell (World.block_lt_of_cell? w _ hcell)).trans hcell
        have k0 := cells1 Hcells.out.1
        have k1 := cells1 Hcells.out.2.1
        have k2 := cells1 Hcells.out.2.2.1
        have k3 := cells1 Hcells.out.2.2.2
        rw [Nat.add_zero] at k0
        simp [Addr.add] at k1 k2 k3
        clear hs1 hb1 hr1 cells1 Hcells
        go_wp2_with fail
        refine (refChecksum_any A1 P n d1 _ (by have := HPl.out; omega) Hr1.out HPb.out (by omega)).mono ?_
        rintro f w2 ⟨rfl, rfl⟩
        generalize hcr : crc P = cr at *
        clear hcr
        rcases @sum4_cases y0 y1 y2 y3 cr with ⟨t0, hne⟩ | ⟨t0, t1, hne⟩ | ⟨t0, t1, t2, hne⟩ | ⟨t0, t1, t2, t3, hne⟩ | ⟨t0, t1, t2, t3, heq⟩
        case inr.inr.inr.inr =>
          have Hue2 := Lib.hid (Hue.out.trans (if_neg (fun hx => hx heq))); clear Hue heq
          go_wp2_with fail
          go_ret3
          exact frPost_some Hu.out Hue2.out (by simp) (by simpa using Hs1.out) Hb1.out
        all_goals
          have Hue2 := Lib.hid (Hue.out.trans (if_pos hne)); clear Hue hne
          go_wp2_with fail
          go_ret3
          exact frPost_none2 Hu.out Hue2.out Hb1.out
  · have Hq : ((q : Int) != 0) = true := by rw [bne_iff_ne]; omega
    rw [if_pos hq] at hue
    have Hue := Lib.hid hue; clear hue
    go_enter Tryd.func25, Tryd.ntmps25
    go_wp2_with fail
    refine Hc.out.mono ?_
    rintro f w1 ⟨rfl, rfl⟩
    go_wp2_with fail
    go_ret3
    exact frPost_none Hu.out Hue.out
end Go.Proofs.YthgfbfocccekfaaDoor
