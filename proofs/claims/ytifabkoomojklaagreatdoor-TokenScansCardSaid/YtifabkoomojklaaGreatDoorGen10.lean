/-
  The maker of sources: blocks, given statements. Condition: at most ten statements are asked for.
-/
import Derived.Test.YtifabkoomojklaaGreatDoorGen9
namespace Go.Proofs.YtifabkoomojklaaGreatDoor
open Go.RowKit

/-- A block under way. -/
def BlkRel (m g : Nat) (l : List Nat) (E : Env) (bud : Int) (base d : Nat) (w0 : World) (n : Nat) (v i : Value) (wr : World) : Prop :=
  ∃ (k : Nat) (E' : Env) (bud' : Int) (ts : List St) (L : List Value), k ≤ n ∧ i = .int .i64 (k : Int) ∧ E.Like E' ∧ LS wr m g l E' bud' base ∧ 0 ≤ bud' ∧ bud' ≤ bud ∧ (E'.locals.length : Int) + bud' ≤ 1000 ∧ Chg m g w0 wr ∧ (∀ t ∈ ts, GSt (d + 1) t) ∧ ((ts.map (cntS (d + 1))).sum : Int) ≤ 11 * (bud - bud') ∧ StRow m w0.heap.size 3 (d + 1) wr v ts L ∧ ts.length ≤ k
set_option maxRecDepth 100000 in
set_option maxHeartbeats 2000000 in
theorem blockG_step (m g : Nat) (l : List Nat) (base d : Nat) (hd : d ≤ 5) (hS : StmtCt m g l base d) : BlockCt m g l base d := by
  intro E bud w z n hz hn hE hls hb0 hln
  have HS := Lib.hid hS
  have HE := Lib.hid hE
  have Hls := Lib.hid hls
  have Hln := Lib.hid hln
  have Hb0 := Lib.hid hb0
  have hz0 : 0 ≤ z := by omega
  have hz6 : z ≤ 6 := by omega
  have Hz := Lib.hid hz
  have hmb := hls.mb
  have hgm := hls.gb
  have hbs := hls.bs
  clear hS hE hls hln hb0 hz
  go_enter Tryz.func33, Tryz.ntmps33
  go_wp2_with fail
  go_loopw [7, 8] (fun v i wr => BlkRel m g l E bud base d w n v i wr) (fun _ i _ => n - (intOf i).toNat)
  case atStart => exact ⟨0, E, bud, [], [], Nat.zero_le _, rfl, Env.Like.refl HE.out, Hls.out, Hb0.out, Int.le_refl _, Hln.out, Chg.refl _ _ _, by simp, by simp, StRow.nil _ _ _ _ _, Nat.le_refl _⟩
  case round =>
    obtain ⟨k, E', bud', ts, L, hk, rfl, hlike, hls, hb0, hbb, hln, hchg, hts, hcnt, hrow, htk⟩ := hrel
    have Hlike := Lib.hid hlike
    have Hls1 := Lib.hid hls
    have Hln1 := Lib.hid hln
    have Hchg := Lib.hid hchg
    have Hts := Lib.hid hts
    have Hcnt := Lib.hid hcnt
    have Hrow := Lib.hid hrow
    have Hbb := Lib.hid hbb
    have hb1000 : bud' ≤ 1000 := by omega
    obtain ⟨_, _, _, _, _, _, h0, _⟩ := hls.gs.mka
    have b4 := cell_of_row _ _ 4 _ _ _ h0
    have bf := codes_frozen h0 4
    clear hlike hls hln hchg hts hcnt hrow hbb h0
    by_cases hlt : k < n
    · by_cases hp : 0 < bud'
      · have hst := Lib.hid (HS.out E' (bud' - 1) _ z Hz.out Hlike.out.ok (Hls1.out.budget (bud' := bud' - 1)).1 (by omega) (by have := Hln1.out; omega))
        go_wp2_with fail
        refine hst.out.mono ?_
        rintro e w2 ⟨E2, bud2, x, v, rfl, hlike2, hls2, h02, hle2, hln2, hchg2, hgst, hcnt2, hv⟩
        obtain ⟨kk, ll, s, eA, en, ec, tA, tn, tc, uA, un, uc, rfl⟩ := stV_agg hv
        have hc1 := (Hls1.out.budget (bud' := bud' - 1)).2
        have hrow2 := Hrow.out.chg (hc1.trans hchg2) (by omega) (by omega)
        have hsz1 := Hchg.out.size
        have hszc := hc1.size
        have hsz2 := hchg2.size
        have hF : ∀ b, Made m (wr.setCell ⟨m, 4, none⟩ (.int .i64 (bud' - 1))) w2 b → w.heap.size ≤ b ∧ b < w2.heap.size ∧ u7.ownBlock ≠ some b ∧ lb w2 m ≠ some b := fun b hb => ⟨by have := hb.1; omega, hb.2.1, fun e => by have := (Hrow.out.own.lt b e).2; have := hb.1; omega, hb.2.2⟩
        have Hlike2 := Lib.hid (Hlike.out.trans hlike2)
        have Hls2 := Lib.hid hls2
        have Hln2 := Lib.hid hln2
        have Hle2 := Lib.hid hle2
        have H02 := Lib.hid h02
        have Hchg2 := Lib.hid ((Hchg.out.trans hc1).trans hchg2)
        have Hg2 := Lib.hid hgst
        have Hcnt2 := Lib.hid hcnt2
        have HV := Lib.hid hv
        have HF := Lib.hid hF
        have Hrow2 := Lib.hid hrow2
        clear hlike2 hls2 h02 hle2 hln2 hchg2 hgst hcnt2 hv hF hrow2 hc1 hst b4 bf
        go_wp2_with (at_builtin; refine Pause.out ?_)
        refine Pause.of (wpList_append_st w2 rfl (.tmp 28) (.tmp 32) rfl m w.heap.size 3 (d + 1) _ ts L x _ _ _ _ _ _ _ _ _ _ _ _ _ rfl rfl Hrow2.out (by omega) (by omega) (by omega) (fun b hb => (Hls2.out.lbl b hb).2) HV.out HF.out ?_)
        intro g8 cap8 w8 hrow8 hg8
        have hfar := Hls2.out.far hg8 (fun b hb => ⟨by have := (Hrow2.out.own.lt b hb).1; omega, Hrow2.out.sep b hb⟩)
        have hchg8 := Hchg2.out.far hg8 (fun b hb => (Hrow2.out.own.lt b hb).1) (by omega)
        have hr : BlkRel m g l E bud base d w n (.slice (some ⟨g8, 0, none⟩) (ts.length + 1) cap8) (.int .i64 ((k : Int) + 1)) w8 :=
          ⟨k + 1, E2, bud2, ts ++ [x], _, by omega, by go_num, Hlike2.out, hfar, H02.out, by have := Hle2.out; have := Hbb.out; omega, Hln2.out, hchg8, fun t ht => by
            rcases List.mem_append.1 ht with h | h
            · exact Hts.out t h
            · simp at h
              subst h
              exact Hg2.out, by
            have h1 := Hcnt.out
            have h2 := Hcnt2.out
            rw [List.map_append, List.sum_append]
            simp only [List.map_cons, List.map_nil, List.sum_cons, List.sum_nil]
            push_cast
            omega, hrow8, by simp; omega⟩
        have Hr := Lib.hid hr
        clear hr hfar hchg8 hrow8 hg8
        go_wp2_with fail
        exact ⟨Hr.out, by simp [intOf]; omega⟩
      · obtain ⟨A, c, rfl⟩ := own_shape Hrow.out.own
        go_wp2_with fail
        go_ret
        exact ⟨E', bud', ts, A, c, rfl, Hlike.out, Hls1.out, hb0, Hbb.out, Hln1.out, Hchg.out, Hts.out, Hcnt.out, by omega, _, Hrow.out⟩
    · obtain ⟨A, c, rfl⟩ := own_shape Hrow.out.own
      go_wp2_with fail
      go_ret
      exact ⟨E', bud', ts, A, c, rfl, Hlike.out, Hls1.out, hb0, Hbb.out, Hln1.out, Hchg.out, Hts.out, Hcnt.out, by omega, _, Hrow.out⟩
end Go.Proofs.YtifabkoomojklaaGreatDoor
