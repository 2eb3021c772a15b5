/-
  The walk of token.Join: the texts of tokens, but for the ends, separated by one space. Condition: at most a million tokens, and a text of at most 2^47 bytes.
-/
import Derived.Test.YtifabkoomojklaaGreatDoorTok4
import Derived.Test.YtifabkoomojklaaGreatDoorBase
import Derived.Lib.Join
namespace Go.Proofs.YtifabkoomojklaaGreatDoor
open Go.RowKit

/-- The texts of tokens, but for the ends. -/
def txs (l : List Tok) : List ByteArray := (l.filter fun t => decide (t.kind ≠ 0)).map fun t => ⟨t.text.toArray⟩
def joinL (l : List Tok) : Bytes := Lib.join ((txs l).map (·.data.toList)) [32]
theorem txs_snoc (l : List Tok) (k : Nat) (t : Tok) (h : l[k]? = some t) : txs (l.take (k + 1)) = txs (l.take k) ++ if t.kind = 0 then [] else [⟨t.text.toArray⟩] := by
  have hlt : k < l.length := by
    rcases Nat.lt_or_ge k l.length with h' | h'
    · exact h'
    · rw [List.getElem?_eq_none h'] at h; cases h
  rw [List.getElem?_eq_getElem hlt] at h
  injection h with h
  rw [List.take_succ_eq_append_getElem hlt, h]
  simp only [txs, List.filter_append, List.map_append]
  by_cases h0 : t.kind = 0 <;> simp [h0]
theorem txs_length (l : List Tok) (k : Nat) : (txs (l.take k)).length ≤ k := by
  simp only [txs, List.length_map]
  exact Nat.le_trans (List.length_filter_le _ _) (List.length_take_le _ _)
theorem infoStr : (Tryz.prog.info? 9).map (fun i => (i.zero, i.size, i.bytes)) = some (some (.string ⟨#[]⟩), 1, 16) := by kernel_rfl
/-- Join under way. -/
def JoinRel (w0 : World) (l : List Tok) (v i : Value) (wr : World) : Prop :=
  ∃ k : Nat, k ≤ l.length ∧ i = .int .i64 (k : Int) ∧ wr.ownsRow w0.heap.size 9 1 v (txs (l.take k)).length (strV (txs (l.take k))) ∧ Below w0.heap.size w0 wr
theorem strings_join (v : Value) (xs : List ByteArray) (base : Nat) (w : World) (h : w.ownsRow base 9 1 v xs.length (strV xs)) (hN : xs.length ≤ 1000000) (hlen : (Lib.join (xs.map (·.data.toList)) [32]).length ≤ 140737488355328) :
    Calls Tryz.prog 30 #[v, .string { data := #[32] }] w (RetS (Lib.join (xs.map (·.data.toList)) [32]) w) := by
  by_cases h0 : xs = []
  · subst h0
    have hv : ∃ a c, v = .slice a 0 c := by
      rcases h.2 with ⟨rfl, _⟩ | ⟨g, cap, cur, rfl, _⟩
      · exact ⟨_, _, rfl⟩
      · exact ⟨_, _, rfl⟩
    obtain ⟨a, c, rfl⟩ := hv
    exact (Tryz.strings_Join_none a c { data := #[32] } w).mono fun e w' ⟨h1, h2⟩ => ⟨by rw [h1]; rfl, by rw [h2]; exact Below.refl _ _⟩
  · rcases h.2 with ⟨_, hn⟩ | ⟨g, cap, cur, rfl, _, hg, hc, _⟩
    · exact absurd (List.eq_nil_of_length_eq_zero hn) h0
    · have hlt : g < w.heap.size := (Array.getElem?_eq_some_iff.1 hg).1
      exact Tryz.strings_Join g 0 cap xs { data := #[32] } w (fun j x hx => by
        have := h.cells (g := g) rfl j (.string x) (by simp [strV, hx])
        rw [Addr.add_lit] at this
        exact this) hlt (by omega) hc hlen
set_option maxRecDepth 10000 in
set_option maxHeartbeats 1000000 in
theorem join_any (v : Value) (l : List Tok) (base : Nat) (w : World) (hown : w.ownsRow base 36 4 v l.length (tks l)) (hl : l.length ≤ 1000000) (hlen : (joinL l).length ≤ 140737488355328) :
    Calls Tryz.prog 16 #[v] w (RetS (joinL l) w) := by
  obtain ⟨i9, hi, hz0, hz1, hz2⟩ := info_parts infoStr
  have Hi := Lib.hid hi; have Hz0 := Lib.hid hz0; have Hz1 := Lib.hid hz1; have Hz2 := Lib.hid hz2
  clear hi hz0 hz1 hz2
  have hv : ∃ a c, v = .slice a l.length c := by
    rcases hown.2 with ⟨rfl, h0⟩ | ⟨g, cap, cur, rfl, _⟩
    · exact ⟨none, 0, by rw [h0]⟩
    · exact ⟨_, _, rfl⟩
  obtain ⟨a, c, rfl⟩ := hv
  have Hown := Lib.hid hown
  have Hlen := Lib.hid hlen
  clear hown hlen
  obtain ⟨n, hn⟩ : ∃ n, n = l.length := ⟨_, rfl⟩
  have Hn := Lib.hid hn
  have hl2 : n ≤ 1000000 := by omega
  rw [← hn]
  clear hn
  go_enter Tryz.func16, Tryz.ntmps16
  go_wp2_with fail
  go_loopw [3, 8] (fun v i wr => JoinRel w l v i wr) (fun _ i _ => n - (intOf i).toNat)
  case atStart => exact ⟨0, Nat.zero_le _, rfl, World.ownsRow_nil _ _ _ _, Below.refl _ _⟩
  case round =>
    obtain ⟨k, hk, rfl, hown, hb⟩ := hrel
    have Hown2 := Lib.hid hown
    have Hb := Lib.hid hb
    have hsz := hb.size
    have hkn : k ≤ n := by rw [Hn.out]; exact hk
    have hkl := txs_length l k
    clear hown hb hk
    by_cases hlt : k < n
    · obtain ⟨t, ht⟩ : ∃ t, l[k]? = some t := ⟨l[k]'(by rw [← Hn.out]; exact hlt), List.getElem?_eq_getElem _⟩
      obtain ⟨g, cc, hv, _, hcc, hg, c0, c1, c2, c3⟩ := own_lit Hown.out ht
      injection hv with hv1 hv2 hv3
      subst hv1 hv3
      have hcn : n ≤ c := by rw [Hn.out]; exact hcc
      have d0 := (Hb.out.cell (p := ⟨g, k * 4, none⟩) hg).trans c0
      have d1 := (Hb.out.cell (p := ⟨g, k * 4 + 1, none⟩) hg).trans c1
      have d2 := (Hb.out.cell (p := ⟨g, k * 4 + 2, none⟩) hg).trans c2
      have d3 := (Hb.out.cell (p := ⟨g, k * 4 + 3, none⟩) hg).trans c3
      have Hsn := Lib.hid (txs_snoc l k t ht)
      clear c0 c1 c2 c3 ht hv2 hcc
      by_cases h0 : t.kind = 0
      · have e0 : ((t.kind : Int) != 0) = false := by simp [h0]
        have Hsn2 : Hid (txs (l.take (k + 1)) = txs (l.take k)) := Lib.hid (by rw [Hsn.out, if_pos h0]; simp)
        clear h0 Hsn
        go_wp2_with fail
        exact ⟨⟨k + 1, by rw [← Hn.out]; omega, by go_num, by rw [Hsn2.out]; exact Hown2.out.alloc _, Hb.out.alloc hsz _⟩, by simp [intOf]; omega⟩
      · have e0 : ((t.kind : Int) != 0) = true := by simp [h0]
        have Hsn2 : Hid (txs (l.take (k + 1)) = txs (l.take k) ++ [⟨t.text.toArray⟩]) := Lib.hid (by rw [Hsn.out, if_neg h0])
        clear h0 Hsn
        go_wp2_with (at_builtin; refine Pause.out ?_)
        refine Pause.of (wpList_append_own _ rfl (.tmp 15) (.tmp 18) _ rfl w.heap.size 9 i9 _ 1 16 Tryz.underlying28 Hi.out Hz0.out Hz1.out Hz2.out rfl (by decide) _ _ _ rfl ((Hown2.out.alloc _).alloc _) ⟨_, 0, none⟩ 1 1 [.string ⟨t.text.toArray⟩] rfl (by simp) ?_ ?_ (by unfold maxLen; omega) (by omega) (by simp; omega) ?_)
        · intro j u hu
          have h := (Rd.new (wr.alloc (.cells (tkc t).toArray 36)) #[.string ⟨t.text.toArray⟩] 9 (0, 0)).cells j u (by simpa using hu)
          rw [show ∀ o, (wr.alloc o).heap.size = wr.heap.size + 1 from fun o => by simp] at h
          exact h
        · intro u hu
          simp at hu
          subst hu
          rfl
        · intro v' w' hown hg _
          have hr : JoinRel w l v' (.int .i64 ((k : Int) + 1)) w' := ⟨k + 1, by rw [← Hn.out]; omega, by go_num, by rw [Hsn2.out]; simpa [strV] using hown, ((Hb.out.alloc hsz _).alloc (by simp; omega) _).grown hg (by simp; omega) (own_base Hown2.out)⟩
          have Hr := Lib.hid hr
          clear hr hown hg
          go_wp2_with fail
          exact ⟨Hr.out, by simp [intOf]; omega⟩
    · obtain rfl : k = n := by omega
      have hfull : l.take k = l := List.take_of_length_le (by rw [← Hn.out]; exact Nat.le_refl _)
      have Hf := Lib.hid hfull
      clear hfull
      have hj := strings_join u3 (txs (l.take k)) w.heap.size wr Hown2.out (by omega) (by rw [Hf.out]; exact Hlen.out)
      have Hj := Lib.hid hj
      clear hj
      go_wp2_with fail
      refine Hj.out.mono ?_
      rintro e w2 ⟨rfl, hb2⟩
      have Hb2 := Lib.hid (below_next Hb.out hb2)
      clear hb2
      go_wp2_with fail
      go_ret
      exact ⟨by rw [Hf.out]; rfl, Hb2.out⟩
end Go.Proofs.YtifabkoomojklaaGreatDoor
