/-
  The walks of the reference reader's done and of Parse. No condition.
-/
import Derived.Test.YtjmbllbnlnjanaaRpSrcA
import Derived.Test.YtjmbllbnlnjanaaRTokA
namespace Go.Proofs.Ytjmbllbnlnjanaa
open Go.RowKit

/-- A line and an error's number are handed back. -/
def DoneG (q : Nat × Nat) (w : World) (e : Ending) (w' : World) : Prop := e = .returned (.tuple #[.int .i64 (q.1 : Int), .int .i64 (q.2 : Int)]) ∧ Below w.heap.size w w'
set_option maxRecDepth 100000 in
set_option maxHeartbeats 2000000 in
theorem done_r {p tb : Nat} {s : RS} (w : World) (h : RA w p tb s) : Calls Try.prog 26 #[.pointer (some ⟨p, 0, none⟩)] w (DoneG (doneR s) w) := by
  have HN := Lib.hid (fun w1 (hb : Below w.heap.size w w1) => now_r w1 (h.below hb))
  have HA := Lib.hid h
  have HNow := Lib.hid (now_r w h)
  obtain ⟨a, c, N, hr⟩ := h
  have plt := hr.plt
  have c2 := hr.cells.2.2.1
  have c3 := hr.cells.2.2.2.1
  have HR := Lib.hid hr
  have hfd0 : ∀ w : World, (Instr.field 90 (.agg #[.int .i64 ((hdR s).kind : Int), .int .i64 ((hdR s).line : Int), .int .i64 ((hdR s).value : Int), .string (nmB (hdR s).text)]) 0).run Try.prog w = .ok (.int .i64 ((hdR s).kind : Int)) w := fun _ => by kernel_rfl
  have hfd1 : ∀ w : World, (Instr.field 90 (.agg #[.int .i64 ((hdR s).kind : Int), .int .i64 ((hdR s).line : Int), .int .i64 ((hdR s).value : Int), .string (nmB (hdR s).text)]) 1).run Try.prog w = .ok (.int .i64 ((hdR s).line : Int)) w := fun _ => by kernel_rfl
  clear hr
  cases hb : s.bad with
  | true =>
    rw [hb] at c2
    have HD : Hid (doneR s = ((hdR s).line, 7)) := Lib.hid (by unfold doneR; rw [if_pos (.inl hb)])
    clear hb c3
    go_enter Try.func26, Try.ntmps26
    go_wp2_with fail
    refine HNow.out.mono ?_
    rintro e w1 ⟨rfl, hb1⟩
    unfold tokVR
    have HB := Lib.hid hb1
    clear hb1 HNow HN
    go_wp2_with fail
    go_ret2
    exact ⟨by rw [HD.out]; rfl, HB.out⟩
  | false =>
    rw [hb] at c2
    by_cases hk : (hdR s).kind = 0
    · have hk' : (((hdR s).kind : Int) != 0) = false := by simp [hk]
      by_cases hw : 0 < s.wrong
      · have HD : Hid (doneR s = (s.wrong, 1)) := Lib.hid (by unfold doneR; rw [if_neg (fun h => by rcases h with h | h; rw [hb] at h; cases h; exact h hk), if_pos hw])
        have hw' : 0 < (s.wrong : Int) := by omega
        clear hb hk hw
        go_enter Try.func26, Try.ntmps26
        go_wp2_with fail
        refine HNow.out.mono ?_
        rintro e w1 ⟨rfl, hb1⟩
        unfold tokVR
        have h1 := HR.out.keep (hb1.block _ plt) (hb1.block _ HR.out.tlt)
        have d3 := h1.cells.2.2.2.1
        have HB := Lib.hid hb1
        clear hb1 HNow HN h1
        go_wp2_with fail
        go_ret2
        exact ⟨by rw [HD.out]; rfl, HB.out⟩
      · have HD : Hid (doneR s = (0, 0)) := Lib.hid (by unfold doneR; rw [if_neg (fun h => by rcases h with h | h; rw [hb] at h; cases h; exact h hk), if_neg hw])
        have hw0 : s.wrong = 0 := by omega
        rw [hw0] at c3
        clear hb hk hw
        go_enter Try.func26, Try.ntmps26
        go_wp2_with fail
        refine HNow.out.mono ?_
        rintro e w1 ⟨rfl, hb1⟩
        unfold tokVR
        have h1 := HR.out.keep (hb1.block _ plt) (hb1.block _ HR.out.tlt)
        have d3 := h1.cells.2.2.2.1
        rw [hw0] at d3
        have HB := Lib.hid hb1
        clear hb1 HNow HN h1 hw0
        go_wp2_with fail
        go_ret2
        exact ⟨by rw [HD.out]; rfl, HB.out⟩
    · have hk' : (((hdR s).kind : Int) != 0) = true := by simp; omega
      have HD : Hid (doneR s = ((hdR s).line, 7)) := Lib.hid (by unfold doneR; rw [if_pos (.inr hk)])
      clear hb hk c3
      go_enter Try.func26, Try.ntmps26
      go_wp2_with fail
      refine HNow.out.mono ?_
      rintro e w1 ⟨rfl, hb1⟩
      unfold tokVR
      have HN1 := Lib.hid (HN.out w1 hb1)
      have HB := Lib.hid hb1
      clear hb1 HNow HN
      go_wp2_with fail
      refine HN1.out.mono ?_
      rintro e w2 ⟨rfl, hb2⟩
      unfold tokVR
      have HB2 := Lib.hid (below_next HB.out hb2)
      clear hb2 HN1
      go_wp2_with fail
      go_ret2
      exact ⟨by rw [HD.out]; rfl, HB2.out⟩
/-- What a text means as a source: nothing where the depth d does not do. -/
def parseR (d : Nat) (l : Bytes) : Option (Except (Nat × Nat) (Gls × List Fn)) :=
  match scanT l with
  | .error q => some (.error q)
  | .ok ts =>
    match sourceR (blockR (stmtA d)) (ts.length + 1) [] [] ⟨ts, false, 0⟩ with
    | none => none
    | some (gl, fl, s) => if (doneR s).2 = 0 then some (.ok (gl, fl)) else some (.error (doneR s))
/-- A source, or the line and the number of its error. -/
def ParseG (x : Except (Nat × Nat) (Gls × List Fn)) (w : World) (e : Ending) (w' : World) : Prop :=
  match x with
  | .error (n, c) => e = .returned (.tuple #[.agg #[.slice none 0 0, .slice none 0 0], .int .i64 (n : Int), .int .i64 (c : Int)]) ∧ Below w.heap.size w w'
  | .ok (gl, fl) => ∃ D d gA gc fA fc, e = .returned (.tuple #[.agg #[.slice gA gl.length gc, .slice fA fl.length fc], .int .i64 0, .int .i64 0]) ∧
    RowG 2 MGl (fun q => w.heap.size ≤ q ∧ q < w'.heap.size) w' gl gA gc ∧ RowG 4 (MFn D d) (fun q => w.heap.size ≤ q ∧ q < w'.heap.size) w' fl fA fc ∧ Below w.heap.size w w'
theorem ra_start {w : World} {base : Nat} {v : Value} {ts : List Tok} (hown : w.ownsRow base 90 4 v ts.length (tks ts)) (hwf : WFt ts) (hlen : ts.length ≤ 1000000) : ∃ g c, v = .slice (some ⟨g, 0, none⟩) ts.length c ∧ base ≤ g ∧ g < w.heap.size ∧ ∀ T : TypeId, RA (w.alloc (.cells #[v, .int .i64 0, .bool false, .int .i64 0] T)) w.heap.size g ⟨ts, false, 0⟩ := by
  have hpos := hwf.pos
  obtain ⟨g, c, hv, hb, hc, hg, _⟩ := own_lit hown (k := 0) (List.getElem?_eq_getElem hpos)
  refine ⟨g, c, hv, hb, hg, fun T => ⟨0, c, ts.length, hwf, by omega, by simp, hc, hlen, ⟨T, ?_⟩, fun k t hk => ?_⟩⟩
  · rw [heap_alloc_new, hv]
    rfl
  · obtain ⟨g', c', hv', _, _, _, h0, h1, h2, h3⟩ := own_lit hown hk
    rw [hv] at hv'
    injection hv' with e1 e2 e3
    injection e1 with e1
    injection e1 with e1
    subst e1
    have hb := (Below.refl _ w).alloc (Nat.le_refl _) (.cells #[v, .int .i64 0, .bool false, .int .i64 0] T)
    have hT : TokAt w g (k * 4) t := ⟨h0, h1, h2, h3⟩
    rw [Nat.zero_add]
    exact hT.keep (hb.block g hg)
theorem scanT_ok {l : Bytes} {ts : List Tok} (h : scanT l = .ok ts) : WFt ts ∧ ts.length ≤ 1000000 := by
  unfold scanT at h
  split at h
  · cases h
  · rename_i hl
    cases hs : scan 1 l with
    | error n => rw [hs] at h; cases h
    | ok t =>
      rw [hs] at h
      injection h with h
      subst h
      have := (scan_size l.length l 1 t (Nat.le_refl _) hs).2
      exact ⟨wft_scan hs, by omega⟩
set_option maxRecDepth 100000 in
set_option maxHeartbeats 4000000 in
theorem parse_r (d : Nat) (str : ByteArray) (x : Except (Nat × Nat) (Gls × List Fn)) (w : World) (hs : str.size ≤ 140737488355328) (hP : parseR d str.data.toList = some x) : Calls Try.prog 16 #[.string str] w (ParseG x w) := by
  have HS := Lib.hid (rscan_any str (w.alloc zeroSrc) hs)
  have hb0 := (Below.refl _ w).alloc (Nat.le_refl _) zeroSrc
  have HB0 := Lib.hid hb0
  have HZ0 := Lib.hid (heap_alloc_new w zeroSrc)
  unfold parseR at hP
  cases hsc : scanT str.data.toList with
  | error q =>
    obtain ⟨n, cd⟩ := q
    rw [hsc] at hP HS
    injection hP with hP
    subst hP
    have hcd : (cd = 5 ∨ cd = 6) := by
      unfold scanT at hsc
      split at hsc
      · injection hsc with hsc
        injection hsc with _ hsc
        exact .inl hsc.symm
      · split at hsc
        · injection hsc with hsc
          injection hsc with _ hsc
          exact .inr hsc.symm
        · cases hsc
    have hcd' : ((cd : Int) != 0) = true := by simp; omega
    unfold zeroSrc at HS HB0 HZ0
    clear hb0 hsc hcd hs
    go_enter Try.func16, Try.ntmps16
    go_wp2_with fail
    refine HS.out.mono ?_
    rintro e w1 ⟨rfl, hb1⟩
    have HB1 := Lib.hid (HB0.out.trans (hb1.mono (by simp)))
    have HZ1 := Lib.hid ((hb1.block _ (by simp)).trans HZ0.out)
    clear hb1 HS
    go_wp2_with (with_reducible refine rc_pause ?_)
    refine Pause.of (wpList_store_new _ rfl _ _ _ rfl w.heap.size _ rfl (by rfl) _ _ HZ1.out (by kernel_rfl) (by rfl) (by simp [Value.oneCell']) ?_)
    intro w9 hrow9 hg9
    have j0 := cell_of_row _ _ 0 _ _ _ hrow9
    have j1 := cell_of_row _ _ 1 _ _ _ hrow9
    have HE := Lib.hid (HB1.out.trans (grown_any hg9 (fun k hk => by injection hk with hk; omega) (by have := HB1.out.size; omega)))
    clear hrow9 hg9
    go_wp2_with fail
    exact bodyPost_ret (by simp [results, Try.results16, go_sem, j0, j1]) rfl ⟨rfl, HE.out⟩
  | ok ts =>
    rw [hsc] at hP HS
    dsimp only at hP
    obtain ⟨hwf, hlen⟩ := scanT_ok hsc
    cases hsr : sourceR (blockR (stmtA d)) (ts.length + 1) [] [] ⟨ts, false, 0⟩ with
    | none => rw [hsr] at hP; cases hP
    | some q =>
      obtain ⟨gl, fl, s'⟩ := q
      rw [hsr] at hP
      dsimp only at hP
      have HSR := Lib.hid hsr
      have HWF := Lib.hid hwf
      have HLen := Lib.hid hlen
      have HPP := Lib.hid hP
      unfold zeroSrc at HS HB0 HZ0
      clear hb0 hsc hs hsr hwf hlen hP
      go_enter Try.func16, Try.ntmps16
      go_wp2_with fail
      refine HS.out.mono ?_
      rintro e w1 ⟨v, rfl, hown, hb1⟩
      obtain ⟨tb, tc, rfl, htb, htl, hra⟩ := ra_start hown HWF.out HLen.out
      have hsz1 : w.heap.size + 1 ≤ w1.heap.size := by have := hb1.size; simpa using this
      have htb' : w.heap.size + 1 ≤ tb := by simpa using htb
      have hba := (Below.refl _ w1).alloc (Nat.le_refl _) (.cells #[.slice (some ⟨tb, 0, none⟩) ts.length tc, .int .i64 0, .bool false, .int .i64 0] 58)
      have HB1 := Lib.hid ((HB0.out.trans (hb1.mono (by simp))).trans (hba.mono (by omega)))
      have HZ1 := Lib.hid ((hba.block _ (by omega)).trans ((hb1.block _ (by simp)).trans HZ0.out))
      have HSC := Lib.hid (source_r (blockR (stmtA d)) (block_allR d) w1.heap.size tb ⟨ts, false, 0⟩ s' gl fl _ (hra 58) HSR.out)
      have hszp : w.heap.size < (w1.alloc (.cells #[.slice (some ⟨tb, 0, none⟩) ts.length tc, .int .i64 0, .bool false, .int .i64 0] 58)).heap.size := by simp; omega
      clear hown hb1 hra hba HS HZ0 HB0
      go_wp2_with fail
      refine HSC.out.mono ?_
      rintro e w2 ⟨D, dd, gA, gm, gc, fA, fm, fc, rfl, hgm, hfm, hgs, hfs, hp2, hg2, hl2⟩
      subst hgm hfm
      have HZ2 := Lib.hid (blk_keep hg2 (by omega) HZ1.out)
      have HG2 := Lib.hid ((grown_of_below HB1.out (some w1.heap.size)).trans hg2)
      have HGS := Lib.hid hgs
      have HFS := Lib.hid hfs
      have HP2 := Lib.hid hp2
      have HB2 := Lib.hid (show Below w.heap.size w w2 from HB1.out.trans (grown_any hg2 (fun k hk => by injection hk with hk; omega) (by omega)))
      have hlw2 : w.heap.size < w2.heap.size := (Array.getElem?_eq_some_iff.1 HZ2.out).1
      have hszq := hg2.size
      clear hgs hfs hp2 hg2 hl2 HSC HZ1 HB1
      go_wp2_with (with_reducible refine rc_pause ?_)
      refine Pause.of (wpList_store_new _ rfl _ _ _ rfl w.heap.size _ rfl (by rfl) _ _ HZ2.out (by kernel_rfl) (by rfl) (by simp [Value.oneCell']) ?_)
      intro w3 hrow3 hg3
      dsimp only [Act.put]
      have hb3 : Below w.heap.size w w3 := HB2.out.trans (grown_any hg3 (fun k hk => by injection hk with hk; omega) (by omega))
      have HD3 := Lib.hid (done_r w3 (HP2.out.other hg3 (by omega) (by omega)))
      have HGS3 := Lib.hid (HGS.out.keep (G := fun q => w.heap.size + 1 ≤ q ∧ q < w3.heap.size) mgl_keeps (fun q hq => ⟨by omega, Nat.lt_of_lt_of_le hq.2 hg3.size⟩) (fun q hq => hg3.block q hq.2 (fun e => by injection e with e; omega)))
      have HFS3 := Lib.hid (HFS.out.keep (G := fun q => w.heap.size + 1 ≤ q ∧ q < w3.heap.size) (mfn_keeps D dd) (fun q hq => ⟨by omega, Nat.lt_of_lt_of_le hq.2 hg3.size⟩) (fun q hq => hg3.block q hq.2 (fun e => by injection e with e; omega)))
      have HB3 := Lib.hid hb3
      have HRow3 := Lib.hid hrow3
      clear hrow3 hg3 hb3 HGS HFS HB2 HZ2 HG2
      go_wp2_with fail
      refine HD3.out.mono ?_
      rintro e w4 ⟨rfl, hb4⟩
      have hrow4 := (hb4.block _ (Array.getElem?_eq_some_iff.1 HRow3.out).1).trans HRow3.out
      have HB4 := Lib.hid (below_next HB3.out hb4)
      have HGS4 := Lib.hid (HGS3.out.keep (G := fun q => w.heap.size + 1 ≤ q ∧ q < w4.heap.size) mgl_keeps (fun q hq => ⟨hq.1, Nat.lt_of_lt_of_le hq.2 hb4.size⟩) (fun q hq => hb4.block q hq.2))
      have HFS4 := Lib.hid (HFS3.out.keep (G := fun q => w.heap.size + 1 ≤ q ∧ q < w4.heap.size) (mfn_keeps D dd) (fun q hq => ⟨hq.1, Nat.lt_of_lt_of_le hq.2 hb4.size⟩) (fun q hq => hb4.block q hq.2))
      have HRow4 := Lib.hid hrow4
      have c0 := cell_of_row _ _ 0 _ _ _ hrow4
      have c1 := cell_of_row _ _ 1 _ _ _ hrow4
      have hs4 := HB4.out.size
      clear hrow4 hb4 HD3 HGS3 HFS3 HB3 HRow3
      generalize doneR s' = dq at HPP
      obtain ⟨dn, dc⟩ := dq
      have hPP := HPP.out
      dsimp only at hPP
      by_cases hdc : dc = 0
      · rw [if_pos hdc] at hPP
        injection hPP with hPP
        subst hPP hdc
        clear HPP
        go_wp2_with (with_reducible refine rc_pause ?_)
        refine Pause.of (wpList_store_new _ rfl _ _ _ rfl w.heap.size _ rfl (by rfl) _ _ HRow4.out (by kernel_rfl) (by rfl) (by simp [Value.oneCell']) ?_)
        intro w9 hrow9 hg9
        have j0 := cell_of_row _ _ 0 _ _ _ hrow9
        have j1 := cell_of_row _ _ 1 _ _ _ hrow9
        have HE : Hid (ParseG (.ok (gl, fl)) w (.returned (.tuple #[.agg #[.slice gA gl.length gc, .slice fA fl.length fc], .int .i64 0, .int .i64 0])) w9) := Lib.hid ⟨D, dd, gA, gc, fA, fc, rfl, HGS4.out.keep mgl_keeps (fun q hq => ⟨by omega, Nat.lt_of_lt_of_le hq.2 hg9.size⟩) (fun q hq => hg9.block q hq.2 (fun e => by injection e with e; omega)), HFS4.out.keep (mfn_keeps D dd) (fun q hq => ⟨by omega, Nat.lt_of_lt_of_le hq.2 hg9.size⟩) (fun q hq => hg9.block q hq.2 (fun e => by injection e with e; omega)), HB4.out.trans (grown_any hg9 (fun k hk => by injection hk with hk; omega) (by omega))⟩
        clear hrow9 hg9 c0 c1
        go_wp2_with fail
        exact bodyPost_ret (by simp [results, Try.results16, go_sem, j0, j1]) rfl HE.out
      · rw [if_neg hdc] at hPP
        injection hPP with hPP
        subst hPP
        have hdc' : ((dc : Int) != 0) = true := by simp; omega
        clear HPP hdc
        go_wp2_with (with_reducible refine rc_pause ?_)
        refine Pause.of (wpList_store_new _ rfl _ _ _ rfl w.heap.size _ rfl (by rfl) _ _ HRow4.out (by kernel_rfl) (by rfl) (by simp [Value.oneCell']) ?_)
        intro w9 hrow9 hg9
        have j0 := cell_of_row _ _ 0 _ _ _ hrow9
        have j1 := cell_of_row _ _ 1 _ _ _ hrow9
        have HE : Hid (ParseG (.error (dn, dc)) w (.returned (.tuple #[.agg #[.slice none 0 0, .slice none 0 0], .int .i64 (dn : Int), .int .i64 (dc : Int)])) w9) := Lib.hid ⟨rfl, HB4.out.trans (grown_any hg9 (fun k hk => by injection hk with hk; omega) (by omega))⟩
        clear hrow9 hg9 c0 c1
        go_wp2_with fail
        exact bodyPost_ret (by simp [results, Try.results16, go_sem, j0, j1]) rfl HE.out
end Go.Proofs.Ytjmbllbnlnjanaa
