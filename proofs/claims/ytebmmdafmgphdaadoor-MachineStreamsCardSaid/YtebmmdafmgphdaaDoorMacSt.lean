/-
  The walk of MachineStreams. Condition: arguments that can be read.
-/
import Derived.Test.YtebmmdafmgphdaaDoorMacBk
namespace Go.Proofs.YtebmmdafmgphdaaDoor
open Go.RowKit

/-- The bytes of an instruction that is right. -/
def Ck (bs : List Nat) : Prop := ∃ x : Cd, chkC x = 0 ∧ i64C x.val ∧ bs = encC x ∧ x.args.length ≤ 3
theorem Ck.size {bs : List Nat} (h : Ck bs) : bs.length ≤ 16 := by
  obtain ⟨x, h1, _, rfl, h3⟩ := h
  have := enc_most h1
  omega
theorem flat_size : ∀ bss : List (List Nat), (∀ b ∈ bss, Ck b) → bss.flatten.length ≤ 16 * bss.length
  | [], _ => by simp
  | b :: r, h => by
    have h1 := (h b (List.mem_cons_self ..)).size
    have h2 := flat_size r (fun x hx => h x (List.mem_cons_of_mem _ hx))
    simp only [List.flatten_cons, List.length_append, List.length_cons]
    omega
theorem flat_byte (bss : List (List Nat)) (h : ∀ b ∈ bss, Ck b) : ∀ z ∈ bss.flatten, z < 256 := by
  intro z hz
  obtain ⟨b, hb, hz⟩ := List.mem_flatten.1 hz
  obtain ⟨x, _, _, rfl, _⟩ := h b hb
  exact enc_byte x z hz
/-- Each instruction is decoded where it begins. -/
theorem dec_stream (bss : List (List Nat)) (h : ∀ b ∈ bss, Ck b) (i : Nat) (b : List Nat) (hb : bss[i]? = some b) : ∃ y : Cd, decAt bss.flatten (((bss.take i).flatten.length : Nat) : Int) = (y, b.length, 0) ∧ y.args.length ≤ 3 := by
  obtain ⟨x, h1, h2, rfl, h3⟩ := h b (List.mem_of_getElem? hb)
  have hs : bss = bss.take i ++ encC x :: bss.drop (i + 1) := by
    have hi : i < bss.length := (List.getElem?_eq_some_iff.1 hb).1
    have e : bss[i] = encC x := (List.getElem?_eq_some_iff.1 hb).2
    rw [← e, List.getElem_cons_drop, List.take_append_drop]
  refine ⟨cutC x, ?_, ?_⟩
  · have hf : bss.flatten = (bss.take i).flatten ++ encC x ++ (bss.drop (i + 1)).flatten := by
      conv => lhs; rw [hs]
      rw [List.flatten_append, List.flatten_cons, ← List.append_assoc]
    rw [hf]
    exact dec_at h1 h2 _ _ _ rfl
  · rcases cut_args x h1 with h | h
    · rw [h]; simp
    · rw [h]; exact h3
/-- Bytes and sizes under way. -/
structure Stm (W : World) (g : Nat) (l : List Nat) (B : Nat) (bss : List (List Nat)) (v4 v5 : Value) (n q : Nat) (wr : World) : Prop where
  byt : OwB B v4 n bss.flatten wr
  siz : wr.ownsRow B 3 1 v5 q ((bss.map List.length).map nv)
  cod : ∃ k, Codes wr g l k
  bel : Below W.heap.size W wr
  gB : g < B
  WB : W.heap.size ≤ B
  Bw : B ≤ wr.heap.size
  gW : W.heap.size ≤ g
  len : bss.flatten.length = n
  num : bss.length = q
  all : ∀ b ∈ bss, Ck b
section
variable {W wr w' : World} {g B n q : Nat} {l : List Nat} {bss : List (List Nat)} {v4 v5 v' : Value}
theorem Stm.code (h : Stm W g l B bss v4 v5 n q wr) (hc : ∃ k, Codes w' g l k) (hg : wr.grownBy w' (some g)) : Stm W g l B bss v4 v5 n q w' :=
  ⟨h.byt.kept hg (.inr (fun e => by have := own_lo h.byt g e; have := h.gB; omega)), h.siz.kept hg (.inr (fun e => by have := own_lo h.siz g e; have := h.gB; omega)), hc,
    h.bel.trans (grown_any hg (fun k hk => by injection hk with hk; have := h.gW; omega) h.bel.size), h.gB, h.WB, Nat.le_trans h.Bw hg.size, h.gW, h.len, h.num, h.all⟩
theorem Stm.low (h : Stm W g l B bss v4 v5 n q wr) (hb : Below wr.heap.size wr w') : Stm W g l B bss v4 v5 n q w' := by
  obtain ⟨k, hc⟩ := h.cod
  exact ⟨h.byt.kept (row := none) (grown_of_below hb none) (by cases hv : v4.ownBlock <;> simp), h.siz.kept (row := none) (grown_of_below hb none) (by cases hv : v5.ownBlock <;> simp), ⟨k, codes_below hc hb⟩,
    h.bel.trans (hb.mono h.bel.size), h.gB, h.WB, Nat.le_trans h.Bw hb.size, h.gW, h.len, h.num, h.all⟩
end
theorem own_block {w : World} {base n size : Nat} {T : TypeId} {v : Value} {xs : List Value} (h : w.ownsRow base T size v n xs) (k : Nat) (hk : v.ownBlock = some k) : ∃ cs fz, w.heap[k]? = some (.cells cs T fz) := by
  rcases h.2 with ⟨rfl, _⟩ | ⟨g, cap, cur, rfl, _, hh, _⟩
  · cases hk
  · simp only [Value.ownBlock, Option.some.injEq] at hk
    subst hk
    exact ⟨_, _, hh⟩
/-- Rows of other elements lie in other blocks. -/
theorem own_apart {w : World} {base b2 n n2 size s2 : Nat} {T U : TypeId} {v v2 : Value} {xs ys : List Value} (h : w.ownsRow base T size v n xs) (h2 : w.ownsRow b2 U s2 v2 n2 ys) (hne : T ≠ U) : v.ownBlock = none ∨ v.ownBlock ≠ v2.ownBlock := by
  cases hv : v.ownBlock with
  | none => exact .inl rfl
  | some k =>
    refine .inr (fun e => ?_)
    obtain ⟨cs, fz, h3⟩ := own_block h k hv
    obtain ⟨ds, gz, h4⟩ := own_block h2 k e.symm
    rw [h3] at h4
    injection h4 with h4
    injection h4 with _ h4
    exact hne h4
theorem Stm.push {W wr w1 w2 : World} {g B n q L : Nat} {l bs : List Nat} {bss : List (List Nat)} {v4 v5 v6 v7 : Value} (h : Stm W g l B bss v4 v5 n q wr) (h1 : OwB B v6 (n + L) (bss.flatten ++ bs) w1) (g1 : wr.grownBy w1 v4.ownBlock)
    (h2 : w2.ownsRow B 3 1 v7 (q + 1) ((bss.map List.length ++ [L]).map nv)) (g2 : w1.grownBy w2 v5.ownBlock) (h5 : w1.ownsRow B 3 1 v5 q ((bss.map List.length).map nv)) (hL : bs.length = L) (hc : Ck bs) : Stm W g l B (bss ++ [bs]) v6 v7 (n + L) (q + 1) w2 := by
  have hb1 : Below B wr w1 := grown_any g1 (own_lo h.byt) h.Bw
  have hb2 : Below B w1 w2 := grown_any g2 (own_lo h5) (Nat.le_trans h.Bw hb1.size)
  have hb : Below B wr w2 := hb1.trans hb2
  obtain ⟨k, hk⟩ := h.cod
  refine ⟨?_, ?_, ⟨k, codes_low hk hb h.gB⟩, h.bel.trans (hb.mono h.WB), h.gB, h.WB, Nat.le_trans h.Bw hb.size, h.gW, ?_, ?_, ?_⟩
  · have := h1.kept g2 (own_apart h1 h5 (by decide))
    unfold OwB
    simpa using this
  · subst hL
    simpa using h2
  · simp [h.len, hL]
  · simp [h.num]
  · intro b hb
    rcases List.mem_append.1 hb with hb | hb
    · exact h.all b hb
    · simp at hb
      subst hb
      exact hc
set_option maxRecDepth 100000 in
set_option maxHeartbeats 4000000 in
theorem streams_any (A : Option Addr) (l : List Nat) (m c : Nat) (W : World) (hm : l.length = m) (hmc : m ≤ c) (hr : Rd W A (l.map bv)) (hl : ∀ x ∈ l, x < 256) (hT : RowsT W) :
    Calls Tryd.prog 4 #[.slice A m c] W (TrueM W) := by
  have Hm := Lib.hid hm; clear hm
  have Hr := Lib.hid hr; clear hr
  have Hl := Lib.hid hl; clear hl
  have HT := Lib.hid hT; clear hT
  go_enter Tryd.func4, Tryd.ntmps4
  go_wp2_with fail
  refine (awake_12 _ HT.out).mono ?_
  rintro e w1 ⟨rfl, hb1⟩
  have Hb1 := Lib.hid hb1; clear hb1
  go_wp2_with fail
  refine (new_any A l m c 300 w1 Hm.out hmc (Hr.out.below Hb1.out) (by decide)).mono ?_
  rintro e w2 ⟨g, l2, rfl, hg, hl2, hl2e, hc2, hb2⟩
  have Hb2 := Lib.hid (below_next Hb1.out hb2)
  have hgW : W.heap.size ≤ g := Nat.le_trans Hb1.out.size hg
  have Hl2 : Hid (∀ x ∈ l2, x < 256) := Lib.hid (by rw [hl2e]; exact fun x hx => Hl.out x (List.mem_of_mem_take hx))
  have Hc2 := Lib.hid hc2
  clear hb2 hl2e hc2 hg Hm Hr Hl
  go_wp2_with fail
  refine (drawn_any g l2 0 12 _ Hc2.out (by decide) (by omega) Hl2.out).mono ?_
  rintro e w3 ⟨r, k3, rfl, hr3, _, hc3, hg3⟩
  have hr12 : r < 12 := by have := hr3 (by omega); omega
  have H3 : Hid (Stm W g l2 w3.heap.size [] (.slice none 0 0) (.slice none 0 0) 0 0 w3) := Lib.hid
    ⟨OwB.nil_ _ _, World.ownsRow_nil _ _ _ _, ⟨k3, hc3⟩, Hb2.out.trans (grown_any hg3 (fun k hk => by injection hk with hk; omega) Hb2.out.size), codes_lt hc3, Nat.le_trans Hb2.out.size hg3.size, Nat.le_refl _, hgW, rfl, rfl, (fun b hb => by cases hb)⟩
  obtain ⟨B, hB⟩ : ∃ B, w3.heap.size = B := ⟨_, rfl⟩
  rw [hB] at H3
  clear hr3 hc3 hg3 hB Hc2 Hb2 Hb1
  go_wp2_with fail
  go_loopw [4, 5, 6] (fun v4 v5 v6 wr => ∃ (j : Nat) (bss : List (List Nat)) (n q : Nat), v6 = .int .i64 (j : Int) ∧ q + j ≤ 11 ∧ Stm W g l2 B bss v4 v5 n q wr) (fun _ _ v6 _ => (intOf v6).toNat)
  case atStart => exact ⟨r, [], 0, 0, rfl, by omega, H3.out⟩
  case round =>
    obtain ⟨j, bss, n, q, rfl, hj, hst⟩ := hrel
    have Hst := Lib.hid hst
    by_cases h0 : 0 < j
    · obtain ⟨k4, hc4⟩ := hst.cod
      have Hc4 := Lib.hid hc4
      clear hst hc4
      go_wp2_with fail
      refine (code_any g l2 k4 wr Hc4.out (by omega) Hl2.out).mono ?_
      intro e w5 hcd
      obtain ⟨⟨op, ari, dst, a, b, val, wide, args⟩, Ax, nx, cx, rfl, ho, hk5, hg5⟩ := hcd.open_
      have Hst5 := Lib.hid (Hst.out.code hk5 hg5)
      dsimp only [cdv]
      have Ho := Lib.hid ho
      clear hcd ho hg5 hk5 Hc4 Hst
      obtain ⟨E, hE⟩ : ∃ E, chkC ⟨op, ari, dst, a, b, val, wide, args⟩ = E := ⟨_, rfl⟩
      obtain ⟨bs, hbs⟩ : ∃ bs, encO ⟨op, ari, dst, a, b, val, wide, args⟩ = bs := ⟨_, rfl⟩
      obtain ⟨L, hL⟩ : ∃ L, bs.length = L := ⟨_, rfl⟩
      have HEn := mencode_any ⟨op, ari, dst, a, b, val, wide, args⟩ Ax nx cx w5 (HT.out.below Hst5.out.bel) Ho.out.len Ho.out.cap Ho.out.rd (by have := Ho.out.few; omega) Ho.out.val.2.2.2.2.2
      unfold EncP at HEn
      rw [hE, hbs, hL] at HEn
      have HEn := Lib.hid HEn
      have HE := Lib.hid hE
      have HBS := Lib.hid hbs
      have HL := Lib.hid hL
      clear hE hbs hL
      go_wp2_with fail
      refine HEn.out.mono ?_
      rintro e w6 ⟨v, rfl, ⟨Av, cv, rfl, hcv, hrv⟩, hb6⟩
      have Hst6 := Lib.hid (Hst5.out.low hb6)
      have Hrv := Lib.hid hrv
      clear hrv hb6 Hst5 HEn
      by_cases h1 : E = 0
      · subst h1
        have hck : Ck bs := ⟨⟨op, ari, dst, a, b, val, wide, args⟩, HE.out, Ho.out.val.2.2.2.2.2, by rw [← HBS.out]; unfold encO; rw [if_pos HE.out], by have h1 := Ho.out.few; have h2 := Ho.out.len; simp only at h2 ⊢; omega⟩
        have hLs : L ≤ 16 := by rw [← HL.out]; exact hck.size
        have hns : n ≤ 16 * q := by rw [← Hst6.out.len, ← Hst6.out.num]; exact flat_size _ Hst6.out.all
        have Hck := Lib.hid hck
        clear hck
        go_wp2_with (at_builtin; refine Pause.out ?_)
        refine Pause.of (wpList_app_b _ rfl (.tmp 35) (.tmp 36) rfl B _ n bss.flatten rfl Hst6.out.byt Av L cv bs rfl HL.out Hrv.out (by omega) Hst6.out.Bw ?_)
        intro v7 w7 ho7 hg7
        have hb7 : Below B w6 w7 := grown_any hg7 (own_lo Hst6.out.byt) Hst6.out.Bw
        have Ho7 := Lib.hid ho7
        have Hg7 := Lib.hid hg7
        have Hs7 := Lib.hid (Hst6.out.siz.kept hg7 (own_apart Hst6.out.siz Hst6.out.byt (by decide)))
        have Hw7 := Lib.hid (Nat.le_trans Hst6.out.Bw hb7.size)
        have Hlm : Hid ((bss.map List.length).length = q) := Lib.hid (by rw [List.length_map, Hst6.out.num])
        clear ho7 hg7 hb7
        go_wp2_with (at_builtin; refine Pause.out ?_)
        refine Pause.of (wpList_append_nat w7 rfl (.tmp 38) (.tmp 41) rfl B _ (bss.map List.length) q L _ Hlm.out rfl rfl rfl Hs7.out (by omega) Hw7.out ?_)
        intro v8 w8 ho8 hg8
        have HE9 := Lib.hid (Hst6.out.push Ho7.out Hg7.out ho8 hg8 Hs7.out HL.out Hck.out)
        clear ho8 hg8
        go_wp2_with fail
        exact ⟨⟨j - 1, bss ++ [bs], n + L, q + 1, by go_num, by omega, HE9.out⟩, by simp [intOf]; omega⟩
      · have hne : ((E : Int) == 0) = false := by simp; omega
        clear h1
        go_wp2_with fail
        exact ⟨⟨j - 1, bss, n, q, by go_num, by omega, Hst6.out⟩, by simp [intOf]; omega⟩
    · obtain rfl : j = 0 := by omega
      clear h0
      obtain ⟨A4, c4, rfl, hc4, hr4⟩ := hst.byt.form
      obtain ⟨A5, c5, rfl, hc5, hr5⟩ := own_form hst.siz
      have hns : n ≤ 16 * q := by rw [← hst.len, ← hst.num]; exact flat_size _ hst.all
      have Hr4 := Lib.hid hr4
      have Hr5 := Lib.hid hr5
      clear hst hr4 hr5
      obtain ⟨w0, hw0⟩ : ∃ w0, w0 = wr := ⟨_, rfl⟩
      rw [← hw0] at Hr4 Hr5 Hst ⊢
      clear hw0 wr
      go_wp2_with fail
      go_loopw [9, 10] (fun v9 v10 wz => ∃ k : Nat, k ≤ q ∧ v9 = .int .i64 (((bss.take k).flatten.length : Nat) : Int) ∧ v10 = .int .i64 (k : Int) ∧ Below w0.heap.size w0 wz) (fun _ v10 _ => q - (intOf v10).toNat)
      case atStart => exact ⟨0, Nat.zero_le _, by simp, rfl, Below.refl _ _⟩
      case round =>
        obtain ⟨k, hk, rfl, rfl, hbz⟩ := hrel
        have Hbz := Lib.hid hbz
        obtain ⟨s, hs⟩ : ∃ s, (bss.take k).flatten.length = s := ⟨_, rfl⟩
        have hsn : s ≤ 16 * k := by
          rw [← hs]
          have := flat_size (bss.take k) (fun b hb => Hst.out.all b (List.mem_of_mem_take hb))
          have h2 : (bss.take k).length ≤ k := List.length_take_le _ _
          omega
        rw [hs]
        have Hs := Lib.hid hs
        clear hbz hs
        by_cases hlt : k < q
        · obtain ⟨b, hb⟩ : ∃ b, bss[k]? = some b := ⟨bss[k]'(by rw [Hst.out.num]; exact hlt), List.getElem?_eq_getElem _⟩
          obtain ⟨y, hy, hya⟩ := dec_stream bss Hst.out.all k b hb
          rw [Hs.out] at hy
          have hck := Hst.out.all b (List.mem_of_getElem? hb)
          have hbl : b.length ≤ 16 := hck.size
          have Hstep : Hid ((bss.take (k + 1)).flatten.length = s + b.length) := Lib.hid (by
            rw [List.take_add_one, hb, List.flatten_append, List.length_append, Hs.out]
            simp)
          have hc := (Hr5.out.below Hbz.out) k (nv b.length) (by rw [List.getElem?_map, List.getElem?_map, hb]; rfl)
          obtain ⟨ad, rfl, hc⟩ := hc
          have HD := Lib.hid (mdecode_any bss.flatten A4 n c4 (s : Int) y b.length 0 wr (HT.out.below (below_next Hst.out.bel Hbz.out)) Hst.out.len hc4 (Hr4.out.below Hbz.out) (flat_byte _ Hst.out.all) (by omega) hy)
          obtain ⟨bl, hble⟩ : ∃ bl, b.length = bl := ⟨_, rfl⟩
          rw [hble] at HD hc hbl Hstep
          obtain ⟨yo, yr, yd, ya, yb, yv, yw, yl⟩ := y
          have Hc := Lib.hid hc
          clear hy hck hb hc hble hya
          go_wp2_with fail
          refine HD.out.mono ?_
          rintro e w9 ⟨v9, rfl, hr9, hb9⟩
          obtain ⟨A9, c9, rfl, hc9, hr9⟩ := hr9
          dsimp only [cdv] at hc9 ⊢
          have Hb9 := Lib.hid hb9
          clear hr9 hb9 HD
          go_upto_region 17 with fail
          obtain ⟨w10, hw10⟩ : ∃ w10, w9.alloc (.cells (kRow yo yr yd ya yb yv yw (.slice A9 yl.length c9)) 26) = w10 := ⟨_, rfl⟩
          have hb10 : Below w9.heap.size w9 w10 := by rw [← hw10]; exact (Below.refl _ _).alloc (Nat.le_refl _) _
          unfold kRow at hw10
          rw [hw10]
          have hc10 : w10.cell? (ad.add k) = some (.int .i64 (bl : Int)) := hold hb10 (hold Hb9.out Hc.out)
          have Hb10 := Lib.hid (Hbz.out.trans ((below_next Hb9.out hb10).mono Hbz.out.size))
          clear hw10 hb10 hc9
          go_wp2_with fail
          refine ⟨⟨k + 1, by omega, ?_, by go_num, Hb10.out⟩, by simp [intOf]; omega⟩
          rw [Hstep.out]
          go_num
        · obtain rfl : k = q := by omega
          have hall : bss.take k = bss := List.take_of_length_le (by have := Hst.out.num; omega)
          have hsn2 : s = n := by
            have h1 := Hs.out
            rw [hall, Hst.out.len] at h1
            omega
          subst hsn2
          have HD := Lib.hid (mdecode_any bss.flatten A4 s c4 (s : Int) zeroC 0 2 wr (HT.out.below (below_next Hst.out.bel Hbz.out)) Hst.out.len hc4 (Hr4.out.below Hbz.out) (flat_byte _ Hst.out.all) (by omega) (dec_end _ _ Hst.out.len))
          clear hall hlt
          go_wp2_with fail
          refine HD.out.mono ?_
          rintro e w9 ⟨v9, rfl, hr9, hb9⟩
          obtain ⟨A9, c9, rfl, hc9, hr9⟩ := hr9
          dsimp only [cdv, zeroC] at hc9 ⊢
          have Hb9 := Lib.hid (Hst.out.bel.trans ((Hbz.out.trans (hb9.mono Hbz.out.size)).mono Hst.out.bel.size))
          clear hr9 hb9 HD
          go_wp2_with fail
          go_ret
          exact ⟨rfl, Hb9.out.trans (((Below.refl _ w9).alloc (Nat.le_refl _) _).mono Hb9.out.size)⟩
end Go.Proofs.YtebmmdafmgphdaaDoor
