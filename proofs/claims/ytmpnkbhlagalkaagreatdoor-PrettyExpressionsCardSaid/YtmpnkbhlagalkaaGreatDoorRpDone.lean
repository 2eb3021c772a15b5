/-
  The reference reader's expressions of any depth, and its done, are walked. No condition.
-/
import Derived.Test.YtmpnkbhlagalkaaGreatDoorRpCall
import Derived.Test.YtmpnkbhlagalkaaGreatDoorRTokA
namespace Go.Proofs.YtmpnkbhlagalkaaGreatDoor
open Go.RowKit

theorem expr_allR : ∀ d, SubR 17 (exprR d)
  | 0 => fun _ _ _ _ _ _ _ hP => by cases hP
  | d + 1 => by
    have hE := expr_allR d
    have hU : SubR 93 (unaryRQ (exprR d)) := fun p tb s s' x w h hP => unary_allR (exprR d) (called_r (exprR d) hE) (s.rest.length + 1) p tb s s' x w h hP
    exact expr_levR _ (and_levR _ (compare_onceR _ (sum_levR _ (term_levR _ hU))))
/-- An expression, with as much within it as there are tokens. -/
def exprA : R1 := fun s => exprR (s.rest.length + 1) s
theorem expr_aR : SubR 17 exprA := fun p tb s s' x w h hP => expr_allR (s.rest.length + 1) p tb s s' x w h hP
def doneR (s : RS) : Nat × Nat := if s.bad = true ∨ (hdR s).kind ≠ 0 then ((hdR s).line, 7) else if 0 < s.wrong then (s.wrong, 1) else (0, 0)
/-- A line and an error's number are handed back. -/
def DoneG (q : Nat × Nat) (w : World) (e : Ending) (w' : World) : Prop := e = .returned (.tuple #[.int .i64 (q.1 : Int), .int .i64 (q.2 : Int)]) ∧ Below w.heap.size w w'
set_option maxRecDepth 100000 in
set_option maxHeartbeats 2000000 in
theorem done_r {p tb : Nat} {s : RS} (w : World) (h : RA w p tb s) : Calls Tryz.prog 18 #[.pointer (some ⟨p, 0, none⟩)] w (DoneG (doneR s) w) := by
  have HN := Lib.hid (fun w1 (hb : Below w.heap.size w w1) => now_r w1 (h.below hb))
  have HA := Lib.hid h
  have HNow := Lib.hid (now_r w h)
  obtain ⟨a, c, N, hr⟩ := h
  have plt := hr.plt
  have c2 := hr.cells.2.2.1
  have c3 := hr.cells.2.2.2.1
  have HR := Lib.hid hr
  have hfd0 : ∀ w : World, (Instr.field 67 (.agg #[.int .i64 ((hdR s).kind : Int), .int .i64 ((hdR s).line : Int), .int .i64 ((hdR s).value : Int), .string (nmB (hdR s).text)]) 0).run Tryz.prog w = .ok (.int .i64 ((hdR s).kind : Int)) w := fun _ => by kernel_rfl
  have hfd1 : ∀ w : World, (Instr.field 67 (.agg #[.int .i64 ((hdR s).kind : Int), .int .i64 ((hdR s).line : Int), .int .i64 ((hdR s).value : Int), .string (nmB (hdR s).text)]) 1).run Tryz.prog w = .ok (.int .i64 ((hdR s).line : Int)) w := fun _ => by kernel_rfl
  clear hr
  cases hb : s.bad with
  | true =>
    rw [hb] at c2
    have HD : Hid (doneR s = ((hdR s).line, 7)) := Lib.hid (by unfold doneR; rw [if_pos (.inl hb)])
    clear hb c3
    go_enter Tryz.func18, Tryz.ntmps18
    go_wp2_with fail
    refine HNow.out.mono ?_
    rintro e w1 ⟨rfl, hb1⟩
    unfold tokVR
    have HB := Lib.hid hb1
    clear hb1 HNow HN
    go_wp2_with fail
    go_ret2
    exact ⟨by rw [HD.out]; rfl, HB.out⟩
  | false =>
    rw [hb] at c2
    by_cases hk : (hdR s).kind = 0
    · have hk' : (((hdR s).kind : Int) != 0) = false := by simp [hk]
      by_cases hw : 0 < s.wrong
      · have HD : Hid (doneR s = (s.wrong, 1)) := Lib.hid (by unfold doneR; rw [if_neg (fun h => by rcases h with h | h; rw [hb] at h; cases h; exact h hk), if_pos hw])
        have hw' : 0 < (s.wrong : Int) := by omega
        clear hb hk hw
        go_enter Tryz.func18, Tryz.ntmps18
        go_wp2_with fail
        refine HNow.out.mono ?_
        rintro e w1 ⟨rfl, hb1⟩
        unfold tokVR
        have h1 := HR.out.keep (hb1.block _ plt) (hb1.block _ HR.out.tlt)
        have d3 := h1.cells.2.2.2.1
        have HB := Lib.hid hb1
        clear hb1 HNow HN h1
        go_wp2_with fail
        go_ret2
        exact ⟨by rw [HD.out]; rfl, HB.out⟩
      · have HD : Hid (doneR s = (0, 0)) := Lib.hid (by unfold doneR; rw [if_neg (fun h => by rcases h with h | h; rw [hb] at h; cases h; exact h hk), if_neg hw])
        have hw0 : s.wrong = 0 := by omega
        rw [hw0] at c3
        clear hb hk hw
        go_enter Tryz.func18, Tryz.ntmps18
        go_wp2_with fail
        refine HNow.out.mono ?_
        rintro e w1 ⟨rfl, hb1⟩
        unfold tokVR
        have h1 := HR.out.keep (hb1.block _ plt) (hb1.block _ HR.out.tlt)
        have d3 := h1.cells.2.2.2.1
        rw [hw0] at d3
        have HB := Lib.hid hb1
        clear hb1 HNow HN h1 hw0
        go_wp2_with fail
        go_ret2
        exact ⟨by rw [HD.out]; rfl, HB.out⟩
    · have hk' : (((hdR s).kind : Int) != 0) = true := by simp; omega
      have HD : Hid (doneR s = ((hdR s).line, 7)) := Lib.hid (by unfold doneR; rw [if_pos (.inr hk)])
      clear hb hk c3
      go_enter Tryz.func18, Tryz.ntmps18
      go_wp2_with fail
      refine HNow.out.mono ?_
      rintro e w1 ⟨rfl, hb1⟩
      unfold tokVR
      have HN1 := Lib.hid (HN.out w1 hb1)
      have HB := Lib.hid hb1
      clear hb1 HNow HN
      go_wp2_with fail
      refine HN1.out.mono ?_
      rintro e w2 ⟨rfl, hb2⟩
      unfold tokVR
      have HB2 := Lib.hid (below_next HB.out hb2)
      clear hb2 HN1
      go_wp2_with fail
      go_ret2
      exact ⟨by rw [HD.out]; rfl, HB2.out⟩
theorem ra_start {w : World} {base : Nat} {v : Value} {ts : List Tok} (hown : w.ownsRow base 67 4 v ts.length (tks ts)) (hwf : WFt ts) (hlen : ts.length ≤ 1000000) : ∃ g c, v = .slice (some ⟨g, 0, none⟩) ts.length c ∧ base ≤ g ∧ g < w.heap.size ∧ ∀ T : TypeId, RA (w.alloc (.cells #[v, .int .i64 0, .bool false, .int .i64 0] T)) w.heap.size g ⟨ts, false, 0⟩ := by
  have hpos := hwf.pos
  obtain ⟨g, c, hv, hb, hc, hg, _⟩ := own_lit hown (k := 0) (List.getElem?_eq_getElem hpos)
  refine ⟨g, c, hv, hb, hg, fun T => ⟨0, c, ts.length, hwf, by omega, by simp, hc, hlen, ⟨T, ?_⟩, fun k t hk => ?_⟩⟩
  · rw [heap_alloc_new, hv]
    rfl
  · obtain ⟨g', c', hv', _, _, _, h0, h1, h2, h3⟩ := own_lit hown hk
    rw [hv] at hv'
    injection hv' with e1 e2 e3
    injection e1 with e1
    injection e1 with e1
    subst e1
    have hb := (Below.refl _ w).alloc (Nat.le_refl _) (.cells #[v, .int .i64 0, .bool false, .int .i64 0] T)
    have hT : TokAt w g (k * 4) t := ⟨h0, h1, h2, h3⟩
    rw [Nat.zero_add]
    exact hT.keep (hb.block g hg)
theorem scanT_ok {l : Bytes} {ts : List Tok} (h : scanT l = .ok ts) : WFt ts ∧ ts.length ≤ 1000000 := by
  unfold scanT at h
  split at h
  · cases h
  · rename_i hl
    cases hs : scan 1 l with
    | error n => rw [hs] at h; cases h
    | ok t =>
      rw [hs] at h
      injection h with h
      subst h
      have := (scan_size l.length l 1 t (Nat.le_refl _) hs).2
      exact ⟨wft_scan hs, by omega⟩
end Go.Proofs.YtmpnkbhlagalkaaGreatDoor
