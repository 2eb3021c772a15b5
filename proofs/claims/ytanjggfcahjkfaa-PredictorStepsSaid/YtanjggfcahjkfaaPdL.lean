/-
  The walks of the laws about the predictor. Condition: arguments that can be read.
-/
import Derived.Test.YtanjggfcahjkfaaPdC
import Derived.Test.YtanjggfcahjkfaaPdTab
import Derived.BigRegion
import Derived.Deep.RegionLaw
import Derived.StillTailTactics
namespace Go.Proofs.Ytanjggfcahjkfaa
open Go.RowKit

/-- Fetches in memory of the call's own. -/
structure OR (w : World) (T : TypeId) (s : Nat) (v : Value) (n : Nat) (xs : List Value) (wr : World) : Prop where
  own : wr.ownsRow w.heap.size T s v n xs
  bel : Below w.heap.size w wr
section
variable {w wr w' : World} {n n' s : Nat} {T : TypeId} {v v' : Value} {xs xs' : List Value}
theorem OR.nil_ (h : Below w.heap.size w wr) : OR w T s (.slice none 0 0) 0 [] wr := ⟨World.ownsRow_nil _ _ _ _, h⟩
theorem OR.app (h : OR w T s v n xs wr) (ho : w'.ownsRow w.heap.size T s v' n' xs') (hg : wr.grownBy w' v.ownBlock) : OR w T s v' n' xs' w' :=
  ⟨ho, h.bel.grown hg h.bel.size (own_lo h.own)⟩
end
def FtR (w : World) (ks : List Nat) (v i : Value) (wr : World) : Prop :=
  ∃ j : Nat, j ≤ ks.length ∧ i = .int .i64 (j : Int) ∧ OR w 42 3 v j (fcs ((ks.take j).map (fun k => (⟨0, 2, k⟩ : F3)))) wr
def FtP (ks : List Nat) (w : World) (e : Ending) (w' : World) : Prop := ∃ v, e = .returned v ∧ OR w 42 3 v ks.length (fcs (ks.map (fun k => (⟨0, 2, k⟩ : F3)))) w'
set_option maxRecDepth 10000 in
theorem fetches_any (ks : List Nat) (A : Option Addr) (n c : Nat) (w : World) (hn : ks.length = n) (hr : Rd w A (ks.map nv)) (h1 : n ≤ 1000) :
    Calls Try.prog 23 #[.slice A n c] w (FtP ks w) := by
  have Hn := Lib.hid hn; clear hn
  have Hr := Lib.hid hr; clear hr
  go_enter Try.func23, Try.ntmps23
  go_wp2_with fail
  go_loopw [3, 4] (fun v i wr => FtR w ks v i wr) (fun _ i _ => n - (intOf i).toNat)
  case atStart => exact ⟨0, Nat.zero_le _, rfl, OR.nil_ (Below.refl _ _)⟩
  case round =>
    obtain ⟨j, hj, rfl, ho⟩ := hrel
    have Ho := Lib.hid ho; clear ho
    rw [Hn.out] at hj
    by_cases h0 : j < n
    · obtain ⟨x, hx⟩ : ∃ x, ks[j]? = some x := ⟨ks[j]'(by rw [Hn.out]; exact h0), List.getElem?_eq_getElem _⟩
      obtain ⟨ad, rfl, d0⟩ := (Hr.out.below Ho.out.bel) j (nv x) (by rw [List.getElem?_map, hx]; rfl)
      unfold nv at d0
      have HT : Hid (ks.take (j + 1) = ks.take j ++ [x]) := Lib.hid (by rw [List.take_add_one, hx]; rfl)
      have HL : Hid (((ks.take j).map (fun k => (⟨0, 2, k⟩ : F3))).length = j) := Lib.hid (by rw [List.length_map, List.length_take, Hn.out]; omega)
      clear hx
      go_wp2_with (at_builtin; refine Pause.out ?_)
      refine Pause.of (wpList_append_ft wr rfl (.tmp 11) (.tmp 17) rfl w.heap.size _ _ j ⟨0, 2, x⟩ _ _ _ HL.out (by simp [fc, nv]) rfl rfl Ho.out.own (by omega) Ho.out.bel.size ?_)
      intro v' w2 hown hg
      have Ho2 := Lib.hid (Ho.out.app hown hg)
      clear hown hg
      go_wp2_with fail
      exact ⟨⟨j + 1, by rw [Hn.out]; omega, by go_num, by rw [HT.out, List.map_append]; exact Ho2.out⟩, by simp [intOf]; omega⟩
    · obtain rfl : j = n := by omega
      obtain ⟨A, c, rfl, _, _⟩ := own_form Ho.out.own
      go_wp2_with fail
      go_ret
      refine ⟨_, rfl, ?_⟩
      have := Ho.out
      rw [List.take_of_length_le (by have := Hn.out; omega)] at this
      rw [Hn.out]
      exact this
theorem awake_cnt : nBr ([1, 1, 2, 1].map (fun k => ft ⟨0, 2, k⟩)) = 4 ∧ wrongS 1 ([1, 1, 2, 1].map (fun k => ft ⟨0, 2, k⟩)) = 2 := by decide +kernel
set_option maxRecDepth 10000 in
theorem awake_16 (w : World) : Calls Try.prog 7 #[] w fun e w' => e = .returned (.bool true) ∧ Below w.heap.size w w' := by
  have HC : Hid (∀ W : World, Calls Try.prog 23 #[.slice (some ⟨W.heap.size, 0, none⟩) 4 4] (W.alloc (.cells #[.int .i64 1, .int .i64 1, .int .i64 2, .int .i64 1] 3)) (FtP [1, 1, 2, 1] (W.alloc (.cells #[.int .i64 1, .int .i64 1, .int .i64 2, .int .i64 1] 3)))) :=
    Lib.hid (fun W => fetches_any [1, 1, 2, 1] _ 4 4 _ rfl (Rd.new W #[nv 1, nv 1, nv 2, nv 1] _ _) (by decide))
  go_enter Try.func7, Try.ntmps7
  go_wp2_with fail
  refine (HC.out _).mono ?_
  rintro e w1 ⟨v, rfl, ho⟩
  obtain ⟨A, c, rfl, hc, hr⟩ := own_form ho.own
  have hb : Below w.heap.size w w1 := ((Below.refl _ w).alloc (Nat.le_refl _) _).trans (ho.bel.mono (by simp))
  have Hb := Lib.hid hb
  have HK := Lib.hid (count_any 1 _ A _ c w1 (by rfl) hc hr (by decide) (by decide) (by decide))
  clear hr ho hb HC
  go_wp2_with fail
  refine HK.out.mono ?_
  rintro e w2 ⟨rfl, hb2⟩
  have hb2' := Lib.hid (below_next Hb.out hb2)
  clear hb2 HK
  obtain ⟨e1, e2⟩ := awake_cnt
  rw [List.map_map] 
  simp only [Function.comp_def, e1, e2]
  go_wp2_with fail
  go_ret
  exact ⟨rfl, hb2'.out⟩
end Go.Proofs.Ytanjggfcahjkfaa
