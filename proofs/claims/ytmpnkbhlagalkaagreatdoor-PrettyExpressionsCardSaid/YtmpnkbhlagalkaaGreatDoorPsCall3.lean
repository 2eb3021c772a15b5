/-
  The walk of the program's list of operands, given the walk of expr. Condition: at most a million tokens.
-/
import Derived.Test.YtmpnkbhlagalkaaGreatDoorPsCall2
namespace Go.Proofs.YtmpnkbhlagalkaaGreatDoor
open Go.RowKit

theorem more_yes {E : P1} {n : Nat} {xs ys : List Ex} {s s' : PS} (h : moreP E n xs s = some (ys, s')) (hs : seesP [[44]] s = true) : ∃ m y s2, n = m + 1 ∧ E (popP s) = some (y, s2) ∧ moreP E m (xs ++ [y]) s2 = some (ys, s') := by
  cases n with
  | zero => cases h
  | succ m =>
    unfold moreP at h
    rw [if_pos hs] at h
    cases hq : E (popP s) with
    | none => rw [hq] at h; cases h
    | some q =>
      obtain ⟨y, s2⟩ := q
      rw [hq] at h
      exact ⟨m, y, s2, rfl, rfl, h⟩
theorem more_no {E : P1} {n : Nat} {xs ys : List Ex} {s s' : PS} (h : moreP E n xs s = some (ys, s')) (hs : seesP [[44]] s = false) : ys = xs ∧ s' = s := by
  cases n with
  | zero => cases h
  | succ m =>
    unfold moreP at h
    rw [if_neg (by rw [hs]; decide)] at h
    injection h with h
    injection h with h1 h2
    exact ⟨h1.symm, h2.symm⟩
theorem list_cases {E : P1} {xs ys : List Ex} {s s' : PS} (h : listP E xs s = some (ys, s')) : (seesP [[41]] s = true ∧ ys = xs ∧ s' = popP s) ∨ (seesP [[41]] s = false ∧ ∃ y s1 s2, E s = some (y, s1) ∧ moreP E (s.rest.length + 1) (xs ++ [y]) s1 = some (ys, s2) ∧ s' = demandP [41] s2) := by
  unfold listP at h
  split at h
  · rename_i hs
    injection h with h
    injection h with h1 h2
    exact .inl ⟨hs, h1.symm, h2.symm⟩
  · rename_i hs
    cases hq : E s with
    | none => rw [hq] at h; cases h
    | some q =>
      obtain ⟨y, s1⟩ := q
      rw [hq] at h
      simp only [] at h
      cases hm : moreP E (s.rest.length + 1) (xs ++ [y]) s1 with
      | none => rw [hm] at h; cases h
      | some r =>
        obtain ⟨zs, s2⟩ := r
        rw [hm] at h
        injection h with h
        injection h with h1 h2
        subst h1 h2
        exact .inr ⟨by simpa using hs, y, s1, s2, rfl, hm, rfl⟩
/-- The list under way. -/
def LstR (E : P1) (w0 : World) (lw p tb xv pbx xb base : Nat) (k l : Int) (nm : ByteArray) (ys : List Ex) (s2 : PS) (N : Nat) (wr : World) : Prop := ∃ n xs s, CS w0 lw p tb xv pbx xb base k l nm s xs wr ∧ moreP E n xs s = some (ys, s2) ∧ s.rest.length ≤ N
set_option maxRecDepth 100000 in
set_option maxHeartbeats 2000000 in
theorem list_any (E : P1) (he : SubCt 12 E) {w0 : World} {lw p tb xv pbx xb base : Nat} {k l : Int} {nm : ByteArray} {s s' : PS} {xs ys : List Ex} (W : World) (h : CS w0 lw p tb xv pbx xb base k l nm s xs W) (hL : listP E xs s = some (ys, s')) (hfew : xs.length + 1 + s.rest.length ≤ 1000002) :
    Calls Tryz.prog 118 #[.pointer (some ⟨p, 0, none⟩), .func (.func 119) #[] #[.pointer (some ⟨xv, 0, none⟩), .pointer (some ⟨pbx, 0, none⟩)]] W (ElG w0 lw p tb xv pbx xb base k l nm s' ys s.rest.length) := by
  rcases list_cases hL with ⟨hs, rfl, rfl⟩ | ⟨hs, y, s1, s2, hE, hM, rfl⟩
  · have h2 := sees_two h.pa.wf (by decide) hs
    have HA := Lib.hid (accepts_yes [41] ⟨#[41]⟩ W rfl (by decide) h.pa hs)
    have HCS := Lib.hid h
    clear h hL hs
    go_enter Tryz.func118, Tryz.ntmps118
    go_wp2_with fail
    refine HA.out.mono ?_
    rintro e w1 ⟨rfl, hp1, hg1⟩
    have HE := Lib.hid (HCS.out.step hg1 hp1 (by rw [pop_len]; omega))
    clear HA hp1 hg1
    go_wp2_with fail
    exact bodyPost_ret (results_none rfl _ _ _) rfl ⟨⟨_, rfl⟩, HE.out, by rw [pop_len]; omega⟩
  · have HA := Lib.hid (accepts_no [41] ⟨#[41]⟩ W rfl h.pa hs)
    have HCS := Lib.hid h
    have HE := Lib.hid hE
    have HM := Lib.hid hM
    have HS := Lib.hid he
    clear h hL hs hE hM he
    go_enter Tryz.func118, Tryz.ntmps118
    go_wp2_with fail
    refine HA.out.mono ?_
    rintro e w1 ⟨rfl, hp1, hg1⟩
    have HC := Lib.hid (elem_any E HS.out w1 (HCS.out.step hg1 hp1 (Nat.le_refl _)) HE.out hfew)
    clear HA hp1 hg1 HCS HE
    go_wp2_with fail
    refine HC.out.mono ?_
    rintro e w2 ⟨⟨v2, rfl⟩, hc2, hn2⟩
    have HC2 : Hid (LstR E w0 lw p tb xv pbx xb base k l nm ys s2 s.rest.length w2) := Lib.hid ⟨_, _, _, hc2, HM.out, hn2⟩
    clear HC hc2 HM hn2
    go_wp2_with fail
    go_loopw [] (fun wr => LstR E w0 lw p tb xv pbx xb base k l nm ys s2 s.rest.length wr) (fun wr => restLen wr p)
    case atStart => exact HC2.out
    case round =>
      obtain ⟨n, xs1, s3, hcs, hm, hn3⟩ := hrel
      have HRL := Lib.hid hcs.pa.rest
      clear HC2
      cases hs : seesP [[44]] s3 with
      | true =>
        obtain ⟨m, y3, s4, rfl, hE3, hM3⟩ := more_yes hm hs
        have h2 := sees_two hcs.pa.wf (by decide) hs
        have HA := Lib.hid (accepts_yes [44] ⟨#[44]⟩ wr rfl (by decide) hcs.pa hs)
        have HCS := Lib.hid hcs
        have HE3 := Lib.hid hE3
        have HM3 := Lib.hid hM3
        have hfew3 : xs1.length + 1 + (popP s3).rest.length ≤ 1000002 := by
          have := hcs.few
          rw [pop_len]
          omega
        have hpl : (popP s3).rest.length < s3.rest.length := by
          rw [pop_len]
          omega
        clear hcs hm hs hE3 hM3
        go_wp2_with fail
        refine HA.out.mono ?_
        rintro e w3 ⟨rfl, hp3, hg3⟩
        have HC := Lib.hid (elem_any E HS.out w3 (HCS.out.step hg3 hp3 (Nat.le_of_lt hpl)) HE3.out hfew3)
        clear HA hp3 hg3 HCS HE3
        go_wp2_with fail
        refine HC.out.mono ?_
        rintro e w4 ⟨⟨v4, rfl⟩, hc4, hn4⟩
        have HE4 : Hid (LstR E w0 lw p tb xv pbx xb base k l nm ys s2 s.rest.length w4 ∧ restLen w4 p < restLen wr p) := Lib.hid ⟨⟨_, _, _, hc4, HM3.out, by omega⟩, by rw [hc4.pa.rest, HRL.out]; omega⟩
        clear HC hc4 HM3 hn4
        go_wp2_with fail
        exact HE4.out
      | false =>
        obtain ⟨rfl, rfl⟩ := more_no hm hs
        have HA := Lib.hid (accepts_no [44] ⟨#[44]⟩ wr rfl hcs.pa hs)
        have HCS := Lib.hid hcs
        clear hcs hm hs
        go_wp2_with fail
        refine HA.out.mono ?_
        rintro e w3 ⟨rfl, hp3, hg3⟩
        have HCS3 := Lib.hid (HCS.out.step hg3 hp3 (Nat.le_refl _))
        have HD := Lib.hid (demand_any [41] ⟨#[41]⟩ w3 rfl (by decide) hp3)
        have HW := Lib.hid hp3.wf.pos
        clear HA hp3 hg3 HCS
        go_wp2_with fail
        refine HD.out.mono ?_
        rintro e w4 ⟨⟨v4, rfl⟩, hp4, hg4⟩
        have HE4 := Lib.hid (HCS3.out.step hg4 hp4 (demand_len [41] s2 HW.out))
        clear HD hp4 hg4 HCS3
        go_wp2_with fail
        exact bodyPost_ret (results_none rfl _ _ _) rfl ⟨⟨_, rfl⟩, HE4.out, Nat.le_trans (demand_len [41] s2 HW.out) hn3⟩
end Go.Proofs.YtmpnkbhlagalkaaGreatDoor
