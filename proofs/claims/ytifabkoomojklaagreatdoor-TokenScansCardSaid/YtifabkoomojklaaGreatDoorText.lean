/-
  The maker of sources: the walk of Text: what is made is written, and scans. Condition: at most a million codes.
-/
import Derived.Test.YtifabkoomojklaaGreatDoorSrc2
import Derived.Test.YtifabkoomojklaaGreatDoorOdd
namespace Go.Proofs.YtifabkoomojklaaGreatDoor
open Go.RowKit

/-- A text that is made: it scans, and its tokens are not too many. -/
def TextW (g : Nat) (l : List Nat) (w : World) (e : Ending) (w' : World) : Prop :=
  ∃ s : ByteArray, e = .returned (.string s) ∧ s.size ≤ 65536 ∧ (∃ ts, scan 1 s.data.toList = .ok ts) ∧ V s.data.toList ≤ 65536 ∧ (∃ k, Codes w' g l k) ∧ w.grownBy w' (some g)
set_option maxRecDepth 100000 in
theorem text_any (g : Nat) (l : List Nat) (w : World) (hc : ∃ k, Codes w g l k) (hlen : l.length ≤ 1000000) (hl : ∀ x ∈ l, x < 256) :
    Calls Tryz.prog 6 #[.pointer (some ⟨g, 0, none⟩)] w (TextW g l w) := by
  have hs := Lib.hid (source_any g l w hc hlen hl)
  clear hc hl
  go_enter Tryz.func6, Tryz.ntmps6
  go_wp2_with fail
  refine hs.out.mono ?_
  rintro e w1 ⟨gl, fns, gA, fA, gc, fc, rfl, hG, hF, hgg, hgf, h4, h1, hf4, hco, hgr⟩
  have hln : (fmtP 3 3 gl fns).length ≤ 65536 := fmtP_len (d := 2) (by omega) hgg hgf h4 hf4
  have hV : Hid (V (fmtP 3 3 gl fns) ≤ 65536) := Lib.hid (fmtP_V (d := 2) (by omega) hgg hgf h4 hf4)
  have hsc : Hid (∃ ts, scan 1 (fmtP 3 3 gl fns) = .ok ts) := Lib.hid (fmtP_scan (d := 2) hgg hgf)
  have hfm := Lib.hid (format_5 3 3 _ gl fns gA fA gc fc w1 hG hF (fun x hx => ⟨by have := (hgg x hx).1.1; omega, by have := (hgg x hx).2.2; omega⟩) (fun f hf => by
    obtain ⟨a1, a2, a3, a4, a5⟩ := hgf f hf
    have hsm : ∀ (l : List St), (∀ t ∈ l, GSt 3 t) → l.length ≤ (l.map (cntS 3)).sum ∧ ∀ t ∈ l, cntS 3 t ≤ (l.map (cntS 3)).sum := by
      intro l
      induction l with
      | nil => intro _; simp
      | cons a r ih =>
        intro h
        have h1 := ih (fun t hm => h t (by simp [hm]))
        have h2 : 1 ≤ cntS 3 a := by
          obtain ⟨k, l, s, es, ts, us⟩ := a
          have := (cK_le k es).1
          simp only [cntS]; omega
        refine ⟨by simp; omega, fun t hm => ?_⟩
        rcases List.mem_cons.1 hm with rfl | hm
        · simp
        · have := h1.2 t hm
          simp
          omega
    have h2 := hsm f.body a4
    have a5 : (f.body.map (cntS 3)).sum ≤ 77 := a5
    exact ⟨by have := a1.1; omega, by omega, fun p hp => by have := (a3 p hp).1; omega, by omega, fun t ht => gst_shape 3 t (a4 t ht) (by have := h2.2 t ht; omega)⟩) (by omega) (by omega) (by omega) (by omega))
  have Hln := Lib.hid hln
  have Hco := Lib.hid hco
  have Hgr := Lib.hid hgr
  clear hs hG hF hgg hgf hln hco hgr
  go_wp2_with fail
  refine hfm.out.mono ?_
  rintro e w2 ⟨s, rfl, hs, hb⟩
  have HH : Hid (TextW g l w (.returned (.string s)) w2) := Lib.hid ⟨s, rfl, by rw [size_of hs.out]; exact Hln.out, by rw [hs.out]; exact hsc.out, by rw [hs.out]; exact hV.out, by obtain ⟨k, hk⟩ := Hco.out; exact ⟨k, codes_below hk hb⟩, Hgr.out.trans (grown_of_below hb _)⟩
  clear hb hs
  go_wp2_with fail
  go_ret
  exact HH.out
/-- As OddText asks it. -/
theorem text_ct (g : Nat) (l : List Nat) (hlen : l.length ≤ 1000000) (hl : ∀ x ∈ l, x < 256) : TextCt g l := fun w hc =>
  (text_any g l w hc hlen hl).mono fun _ _ ⟨s, h1, h2, h3, _, h5, h6⟩ => ⟨s, h1, h2, h3, h5, h6⟩
end Go.Proofs.YtifabkoomojklaaGreatDoor
