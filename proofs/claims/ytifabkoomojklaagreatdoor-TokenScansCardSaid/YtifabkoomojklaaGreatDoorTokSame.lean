/-
  The walk of the reference's Same, where the tokens are the same. Condition: at most a million tokens.
-/
import Derived.Test.YtifabkoomojklaaGreatDoorTok4
import Derived.RegionTactic
import Derived.ChangeAlike
import Derived.BigRegion
namespace Go.Proofs.YtifabkoomojklaaGreatDoor
open Go.RowKit

/-- The same tokens, with or without their lines. -/
def SameT (lines : Bool) (la lb : List Tok) : Prop :=
  la.length = lb.length ∧ ∀ (k : Nat) (ta tb : Tok), la[k]? = some ta → lb[k]? = some tb → ta.kind = tb.kind ∧ ta.value = tb.value ∧ ta.text = tb.text ∧ (lines = true → ta.line = tb.line)
theorem sameT_refl (lines : Bool) (l : List Tok) : SameT lines l l := ⟨rfl, fun k ta tb h1 h2 => by rw [h1] at h2; injection h2 with h2; subst h2; exact ⟨rfl, rfl, rfl, fun _ => rfl⟩⟩
theorem own_form {w : World} {base : Nat} {v : Value} {n size : Nat} {T : TypeId} {xs : List Value} (h : w.ownsRow base T size v n xs) : ∃ a c, v = .slice a n c := by
  rcases h.2 with ⟨rfl, h0⟩ | ⟨g, cap, cur, rfl, _⟩
  · exact ⟨none, 0, by rw [h0]⟩
  · exact ⟨_, _, rfl⟩
theorem cell_old1 {w : World} {p : Addr} {v : Value} (h : w.cell? p = some v) (o : Obj) : (w.alloc o).cell? p = some v := (World.cell?_alloc_lt w o p (World.block_lt_of_cell? w _ h)).trans h
theorem cell_old2 {w : World} {p : Addr} {v : Value} (h : w.cell? p = some v) (o o2 : Obj) : ((w.alloc o).alloc o2).cell? p = some v := cell_old1 (cell_old1 h o) o2
set_option maxRecDepth 10000 in
set_option maxHeartbeats 2000000 in
theorem same_any (va vb : Value) (la lb : List Tok) (ba bb : Nat) (lines : Bool) (w : World) (ha : w.ownsRow ba 36 4 va la.length (tks la)) (hb : w.ownsRow bb 36 4 vb lb.length (tks lb)) (hs : SameT lines la lb) (hl : la.length ≤ 1000000) :
    Calls Tryz.prog 11 #[va, vb, .bool lines] w (RetG true w) := by
  obtain ⟨aa, ca, rfl⟩ := own_form ha
  obtain ⟨ab, cb, rfl⟩ := own_form hb
  have Ha := Lib.hid ha
  have Hb := Lib.hid hb
  have Hs := Lib.hid hs
  obtain ⟨n, hn⟩ : ∃ n, n = la.length := ⟨_, rfl⟩
  have hm : lb.length = n := by rw [hn]; exact hs.1.symm
  have Hn := Lib.hid hn
  have Hm := Lib.hid hm
  have hl2 : n ≤ 1000000 := by omega
  rw [← hn, hm]
  clear hn hm ha hb hs hl
  go_enter Tryz.func11, Tryz.ntmps11
  go_wp2_with fail
  go_loopw [7] (fun i wr => ∃ k : Nat, k ≤ n ∧ i = .int .i64 (k : Int) ∧ Below w.heap.size w wr) (fun i _ => n - (intOf i).toNat)
  case atStart => exact ⟨0, Nat.zero_le _, rfl, Below.refl _ _⟩
  case round =>
    obtain ⟨k, hk, rfl, hbel⟩ := hrel
    have Hbel := Lib.hid hbel
    have hsz := hbel.size
    clear hbel
    by_cases hlt : k < n
    · obtain ⟨ta, hta⟩ : ∃ t, la[k]? = some t := ⟨la[k]'(by rw [← Hn.out]; exact hlt), List.getElem?_eq_getElem _⟩
      obtain ⟨tb, htb⟩ : ∃ t, lb[k]? = some t := ⟨lb[k]'(by rw [Hm.out]; exact hlt), List.getElem?_eq_getElem _⟩
      obtain ⟨ga, cca, hva, _, hca, hga, a0, a1, a2, a3⟩ := own_lit Ha.out hta
      obtain ⟨gb, ccb, hvb, _, hcb, hgb, b0, b1, b2, b3⟩ := own_lit Hb.out htb
      obtain ⟨e1, e2, e3, e4⟩ := Hs.out.2 k ta tb hta htb
      injection hva with hv1 hv2 hv3
      injection hvb with hu1 hu2 hu3
      subst hv1 hv3 hu1 hu3
      have hcan : n ≤ ca := by rw [Hn.out]; exact hca
      have hcbn : n ≤ cb := by rw [← Hm.out]; exact hcb
      rw [← e1] at b0
      rw [← e2] at b2
      rw [← e3] at b3
      have d0 := (Hbel.out.cell (p := ⟨ga, k * 4, none⟩) hga).trans a0
      have d1 := (Hbel.out.cell (p := ⟨ga, k * 4 + 1, none⟩) hga).trans a1
      have d2 := (Hbel.out.cell (p := ⟨ga, k * 4 + 2, none⟩) hga).trans a2
      have d3 := (Hbel.out.cell (p := ⟨ga, k * 4 + 3, none⟩) hga).trans a3
      have f0 := (Hbel.out.cell (p := ⟨gb, k * 4, none⟩) hgb).trans b0
      have f1 := (Hbel.out.cell (p := ⟨gb, k * 4 + 1, none⟩) hgb).trans b1
      have f2 := (Hbel.out.cell (p := ⟨gb, k * 4 + 2, none⟩) hgb).trans b2
      have f3 := (Hbel.out.cell (p := ⟨gb, k * 4 + 3, none⟩) hgb).trans b3
      have E4 := Lib.hid e4
      clear a0 a1 a2 a3 b0 b1 b2 b3 e1 e2 e3 e4 hta htb hv2 hu2 hca hcb
      generalize ta.kind = K at *
      generalize ta.value = V at *
      generalize (⟨ta.text.toArray⟩ : ByteArray) = T at *
      generalize ta.line = L1 at *
      generalize tb.line = L2 at *
      have d01 := cell_old1 d0
      have d02 := cell_old2 d0
      have d11 := cell_old1 d1
      have d12 := cell_old2 d1
      have d21 := cell_old1 d2
      have d22 := cell_old2 d2
      have d31 := cell_old1 d3
      have d32 := cell_old2 d3
      have f01 := cell_old1 f0
      have f02 := cell_old2 f0
      have f11 := cell_old1 f1
      have f12 := cell_old2 f1
      have f21 := cell_old1 f2
      have f22 := cell_old2 f2
      have f31 := cell_old1 f3
      have f32 := cell_old2 f3
      cases lines with
      | true =>
        obtain rfl : L1 = L2 := E4.out rfl
        clear E4
        go_wp2_with fail
        go_region
        all_goals go_wp2_with fail
        all_goals exact ⟨⟨k + 1, by omega, by go_num, ((Hbel.out.alloc hsz _).alloc (by simp; omega) _).drew⟩, by simp [intOf]; omega⟩
      | false =>
        clear E4
        go_wp2_with fail
        go_region
        all_goals go_wp2_with fail
        all_goals exact ⟨⟨k + 1, by omega, by go_num, ((Hbel.out.alloc hsz _).alloc (by simp; omega) _).drew⟩, by simp [intOf]; omega⟩
    · obtain rfl : k = n := by omega
      go_wp2_with fail
      go_ret
      exact ⟨rfl, Hbel.out⟩
end Go.Proofs.YtifabkoomojklaaGreatDoor
