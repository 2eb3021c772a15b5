/-
  TokenSpaces: spaces and comments between tokens change lines alone, and lines ascend. Condition: the library's two errors lie where they were laid.
-/
import Derived.Test.YtifabkoomojklaaDoorTokBackL
import Derived.Test.YtifabkoomojklaaDoorTokA
namespace Go.Proofs.YtifabkoomojklaaDoor
open Go.RowKit

/-- The lines of spaced tokens. -/
def lnsOf (line : Nat) : List (Tok × Nat) → List Nat
  | [] => []
  | (_, q) :: r => line :: lnsOf (line + sepN q) r
theorem lnsOf_snoc : ∀ (l : List (Tok × Nat)) (line : Nat) (t : Tok) (q : Nat), lnsOf line (l ++ [(t, q)]) = lnsOf line l ++ [spN line l]
  | [], _, _, _ => rfl
  | (_, p) :: r, line, t, q => by simp [lnsOf, spN, lnsOf_snoc r]
theorem lnsOf_get : ∀ (l : List (Tok × Nat)) (line k : Nat), k < l.length → (lnsOf line l)[k]? = some (spN line (l.take k))
  | [], _, k, h => by simp at h
  | (t, q) :: r, line, 0, h => by simp [lnsOf, spN]
  | (t, q) :: r, line, k + 1, h => by
    have := lnsOf_get r (line + sepN q) k (by simpa using h)
    simpa [lnsOf, spN] using this
theorem spN_le : ∀ (l : List (Tok × Nat)) (line : Nat), spN line l ≤ line + 2 * l.length
  | [], line => by simp [spN]
  | (t, q) :: r, line => by
    have h := spN_le r (line + sepN q)
    have h2 : sepN q ≤ 2 := by unfold sepN; split; omega; split <;> omega
    simp only [spN, List.length_cons]
    omega
theorem sum_take (c : Tok → Nat) : ∀ (l : List Tok) (k : Nat), ((l.take k).map c).sum ≤ (l.map c).sum
  | [], k => by simp
  | a :: r, 0 => by simp
  | a :: r, k + 1 => by
    have := sum_take c r k
    simp only [List.take_succ_cons, List.map_cons, List.sum_cons]
    omega
theorem sum_mem (c : Tok → Nat) : ∀ (l : List Tok) (t : Tok), t ∈ l → c t ≤ (l.map c).sum
  | a :: r, t, h => by
    rcases List.mem_cons.1 h with rfl | h
    · simp
    · have := sum_mem c r t h; simp; omega
/-- The spaced text is not too long. -/
theorem spc_le {l : Bytes} {toks : List Tok} {e : Nat} {pq : List (Tok × Nat)} (h : scan 1 l = .ok (toks ++ [⟨0, e, 0, []⟩])) (hV : V l ≤ 65536) (hp : pq.map (·.1) = toks.take pq.length) (hl : pq.length ≤ toks.length) : (spc pq).length ≤ 65536 ∧ (∀ t ∈ toks, t.text.length ≤ 65536) ∧ toks.length ≤ 65536 := by
  have h1 := scan_weight h
  have h2 := spc_size pq
  have h3 : (pq.map (·.1.text.length)).sum = ((pq.map (·.1)).map (·.text.length)).sum := by rw [List.map_map]; rfl
  have h4 := sum_take (·.text.length) toks pq.length
  have h5 := fun t ht => sum_mem (·.text.length) toks t ht
  rw [hp] at h3
  simp only [List.map_append, List.sum_append, List.map_cons, List.map_nil, List.sum_cons, List.sum_nil, List.length_append, List.length_cons, List.length_nil] at h1
  refine ⟨by omega, fun t ht => ?_, by omega⟩
  have h6 : t.text.length ≤ (toks.map (·.text.length)).sum := h5 t ht
  omega
theorem infoInt : (Tryd.prog.info? 3).map (fun i => (i.zero, i.size, i.bytes)) = some (some (.int .i64 0), 1, 8) := by kernel_rfl
def intV (l : List Nat) : List Value := l.map fun (n : Nat) => .int .i64 (n : Int)
set_option maxRecDepth 100000 in
/-- A number is appended to a row of numbers. -/
theorem wpList_append_int {ops : Array Oper} {rest : List Oper} {o : Oper} {a : Act} {Q : Exit → Act → World → Prop} (w : World) (hgd : o.guard = none) (s x : Operand)
    (ho : o.op = .call { callee := .builtin .append, args := #[s, x], argTypes := #[35, 35] }) (base : Nat) (v : Value) (l : List Nat) (n : Nat) (hn : l.length = n) (y : Nat)
    (hs : a.eval s = v) (hx : a.eval x = .slice (some ⟨w.heap.size, 0, none⟩) 1 1) (h : w.ownsRow base 3 1 v n (intV l)) (hlen : n ≤ 1000000) (hbase : base ≤ w.heap.size)
    (hk : ∀ g cap w', w'.ownsRow base 3 1 (.slice (some ⟨g, 0, none⟩) (n + 1) cap) (n + 1) (intV (l ++ [y])) → w.grownBy w' v.ownBlock → wpList Tryd.prog ops Q rest (a.put o.dst (.slice (some ⟨g, 0, none⟩) (n + 1) cap)) w') :
    wpList Tryd.prog ops Q (o :: rest) a (w.alloc (.cells #[.int .i64 (y : Int)] 3)) := by
  obtain ⟨i, hi, hz, hsz, hby⟩ := info_parts infoInt
  refine wpList_append_lies _ hgd s x _ ho base 3 i _ 1 8 Tryd.underlying35 hi hz hsz hby rfl (by decide) v n (intV l) hs (h.alloc _) ⟨w.heap.size, 0, none⟩ 1 1 [.int .i64 (y : Int)] hx (by simp) ?_ ?_ (by decide) (by unfold maxLen; omega) (by omega) (by simp; omega) _ rfl fun g cap w' h1 h2 _ _ => hk g cap w' (by simpa [intV] using h1) ((World.grownBy_alloc _ _ _).trans h2)
  · intro j u hu
    rw [Addr.add_lit, Nat.zero_add]
    exact (cell_of_row _ _ _ _ _ _ (heap_alloc_new w _)).trans (by simpa using hu)
  · intro u hu
    simp at hu
    subst hu
    rfl
/-- The spaced text under way. -/
def SpR (w0 : World) (g : Nat) (cs : List Nat) (toks : List Tok) (s ln lv i : Value) (wr : World) : Prop :=
  ∃ (pq : List (Tok × Nat)) (t : ByteArray), pq.map (·.1) = toks.take pq.length ∧ pq.length ≤ toks.length ∧ s = .string t ∧ t.data.toList = spc pq ∧ ln = .int .i64 ((spN 1 pq : Nat) : Int) ∧ i = .int .i64 ((pq.length : Nat) : Int) ∧
    wr.ownsRow w0.heap.size 3 1 lv pq.length (intV (lnsOf 1 pq)) ∧ (∃ k, Codes wr g cs k) ∧ w0.grownBy wr (some g)
theorem spR_next {w0 w9 : World} {g : Nat} {cs : List Nat} {toks : List Tok} {pq : List (Tok × Nat)} {t X S : ByteArray} {tk : Tok} {q g' cap : Nat} {z : Int} (hp : pq.map (·.1) = toks.take pq.length) (htk : toks[pq.length]? = some tk) (ht : t.data.toList = spc pq) (hX : X.data.toList = tk.text) (hS : S.data.toList = sepL q)
    (hz : z = ((spN 1 pq + sepN q : Nat) : Int)) (hown : w9.ownsRow w0.heap.size 3 1 (.slice (some ⟨g', 0, none⟩) (pq.length + 1) cap) (pq.length + 1) (intV (lnsOf 1 pq ++ [spN 1 pq]))) (hc : ∃ k, Codes w9 g cs k) (hg : w0.grownBy w9 (some g)) :
    SpR w0 g cs toks (.string (t ++ X ++ S)) (.int .i64 z) (.slice (some ⟨g', 0, none⟩) (pq.length + 1) cap) (.int .i64 ((pq.length : Int) + 1)) w9 := by
  have hlt : pq.length < toks.length := by
    rcases Nat.lt_or_ge pq.length toks.length with h | h
    · exact h
    · rw [List.getElem?_eq_none h] at htk; cases htk
  refine ⟨pq ++ [(tk, q)], _, ?_, by simp; omega, rfl, by rw [spc_snoc, ← ht, ← hX, ← hS]; simp, by rw [spN_snoc, hz], by simp, by simpa [lnsOf_snoc] using hown, hc, hg⟩
  rw [List.map_append, hp, List.length_append]
  simp only [List.map_cons, List.map_nil, List.length_cons, List.length_nil]
  rw [List.take_add_one, htk]
  rfl
theorem spR_two {w0 w9 : World} {g : Nat} {cs : List Nat} {toks : List Tok} {pq : List (Tok × Nat)} {t X S T : ByteArray} {tk : Tok} {q g' cap n : Nat} {z zi : Int} (hT : T = t ++ X ++ S) (hn : pq.length = n) (hzi : zi = (n : Int) + 1) (hp : pq.map (·.1) = toks.take pq.length) (htk : toks[pq.length]? = some tk) (ht : t.data.toList = spc pq) (hX : X.data.toList = tk.text) (hS : S.data.toList = sepL q)
    (hz : z = ((spN 1 pq + sepN q : Nat) : Int)) (hown : w9.ownsRow w0.heap.size 3 1 (.slice (some ⟨g', 0, none⟩) (n + 1) cap) (n + 1) (intV (lnsOf 1 pq ++ [spN 1 pq]))) (hc : ∃ k, Codes w9 g cs k) (hg : w0.grownBy w9 (some g)) :
    SpR w0 g cs toks (.string T) (.int .i64 z) (.slice (some ⟨g', 0, none⟩) (n + 1) cap) (.int .i64 zi) w9 := by
  subst hn hT hzi
  exact spR_next hp htk ht hX hS hz hown hc hg
set_option maxRecDepth 100000 in
set_option maxHeartbeats 4000000 in
theorem spaces_any (A0 : Option Addr) (codes : List Nat) (m c0 : Nat) (w : World) (he : Errs w) (hm : codes.length = m) (hmc : m ≤ c0) (hr : Rd w A0 (codes.map bv)) (hcs : ∀ x ∈ codes, x < 256) :
    Calls Tryd.prog 4 #[.slice A0 m c0] w fun e w' => e = .returned (.bool true) ∧ Below w.heap.size w w' := by
  have ha := Lib.hid (awake_any w he)
  have He := Lib.hid he
  have Hm := Lib.hid hm
  have Hr := Lib.hid hr
  have Hcs := Lib.hid hcs
  have het := he.lt
  clear he hm hr hcs
  go_enter Tryd.func4, Tryd.ntmps4
  go_wp2_with fail
  refine ha.out.mono ?_
  rintro e w1 ⟨rfl, hb1⟩
  have hn := Lib.hid (new_any A0 codes m c0 300 w1 Hm.out hmc (Hr.out.below hb1) (by decide))
  have He1 := Lib.hid (He.out.below hb1)
  have Hb1 := Lib.hid hb1
  clear ha hb1 Hr Hm
  go_wp2_with fail
  refine hn.out.mono ?_
  rintro e w2 ⟨g, cs, rfl, hg, hlen, rfl, hc2, hb2⟩
  have Hcl : Hid (∀ x ∈ codes.take 300, x < 256) := Lib.hid (fun x hx => Hcs.out x (List.mem_of_mem_take hx))
  generalize codes.take 300 = cs at *
  have hgw : w.heap.size ≤ g := Nat.le_trans Hb1.out.size hg
  have hg2 : g < w2.heap.size := codes_lt hc2
  have hx := Lib.hid (text_any g cs w2 ⟨0, hc2⟩ (by omega) Hcl.out)
  have He2 := Lib.hid (He1.out.below hb2)
  have Hb2 := Lib.hid (below_next Hb1.out hb2)
  clear hn hb2 hc2 Hcs He1 Hb1
  go_wp2_with fail
  refine hx.out.mono ?_
  rintro e w3 ⟨s, rfl, hsz, ⟨ts, hts⟩, hV, hc3, hg3⟩
  obtain ⟨toks, eL, rfl, hok⟩ := scan_form _ _ _ ts (Nat.le_refl _) hts
  have He3 := Lib.hid (errs_g He2.out hg3 (by omega) (by omega))
  have Hb3 := Lib.hid (below_g Hb2.out hg3 hgw)
  have h23 := hg3.size
  have hsl : s.data.toList.length = s.size := by simp
  have hT : scanT s.data.toList = .ok (toks ++ [(⟨0, eL, 0, []⟩ : Tok)]) := by unfold scanT; rw [if_neg (by omega), hts]
  have HP : Hid (∀ e w', ScanPost (scanT s.data.toList) w3 e w' → ∃ v, e = .returned (.tuple #[v, .int .i64 0, .int .i64 0]) ∧ w'.ownsRow w3.heap.size 37 4 v (toks ++ [(⟨0, eL, 0, []⟩ : Tok)]).length (tks (toks ++ [(⟨0, eL, 0, []⟩ : Tok)])) ∧ Below w3.heap.size w3 w') := Lib.hid (fun e w' h => by rw [hT] at h; exact h)
  have hsc := Lib.hid (scan_full s w3 (by omega) He3.out)
  have Hts := Lib.hid hts
  have HV := Lib.hid hV
  have Hok := Lib.hid hok
  have Hc3 := Lib.hid hc3
  clear hx hts hV hok hc3 hg3 hT hsl He2 Hb2
  go_wp2_with fail
  refine hsc.out.mono ?_
  intro e w4 hp
  obtain ⟨v, rfl, hown, hb4⟩ := HP.out e w4 hp
  obtain ⟨gt, ct, hv, hgt0, hct, hgt, _⟩ := own_lit hown (k := toks.length) (t := (⟨0, eL, 0, []⟩ : Tok)) (by simp)
  obtain ⟨N, hN⟩ : ∃ N, N = toks.length := ⟨_, rfl⟩
  have hl1 : (toks ++ [(⟨0, eL, 0, []⟩ : Tok)]).length = N + 1 := by simp [hN]
  rw [hl1] at hv hct
  subst hv
  have Hown := Lib.hid hown
  have He4 := Lib.hid (He3.out.below hb4)
  have Hb4 := Lib.hid (below_next Hb3.out hb4)
  have Hc4 : Hid (∃ k, Codes w4 g cs k) := Lib.hid (by obtain ⟨k, hk⟩ := Hc3.out; exact ⟨k, codes_below hk hb4⟩)
  have h34 := hb4.size
  have HN := Lib.hid hN
  have hN6 : N ≤ 65536 := by
    have := (spc_le (pq := []) Hts.out HV.out rfl (Nat.zero_le _)).2.2
    omega
  have hne1 : ((N : Int) + 1 == 0) = false := by rw [beq_eq_false_iff_ne]; omega
  have HL1 := Lib.hid hl1
  clear hsc hp HP hown hb4 hN hl1 He3 Hb3 Hc3
  go_wp2_with fail
  go_loopw [7, 8, 9, 10] (fun s ln lv i wr => SpR w4 g cs toks s ln lv i wr) (fun _ _ _ i _ => N - (intOf i).toNat)
  case atStart => exact ⟨[], ⟨#[]⟩, rfl, Nat.zero_le _, rfl, rfl, rfl, rfl, World.ownsRow_nil _ _ _ _, Hc4.out, grown_of_below (Below.refl _ _) _⟩
  case round =>
    obtain ⟨pq, t, hpm, hpl, rfl, ht, rfl, rfl, hown1, hc, hg⟩ := hrel
    obtain ⟨K, hK⟩ : ∃ K, pq.length = K := ⟨_, rfl⟩
    obtain ⟨hs1, hs2, _⟩ := spc_le Hts.out HV.out hpm hpl
    have hln := spN_le pq 1
    obtain ⟨LN, hLN⟩ : ∃ LN, spN 1 pq = LN := ⟨_, rfl⟩
    rw [hK] at hown1 hln
    rw [hLN] at hln
    have htz : t.size ≤ 65536 := by rw [size_of ht]; exact hs1
    have hKN : K ≤ N := by rw [HN.out, ← hK]; exact hpl
    have hwr := hg.size
    obtain ⟨lA, lc, rfl⟩ := own_shape hown1
    have Hpm := Lib.hid hpm
    have Ht := Lib.hid ht
    have Hown1 := Lib.hid hown1
    have Hc := Lib.hid hc
    have Hg := Lib.hid hg
    have HK := Lib.hid hK
    have HLN := Lib.hid hLN
    have HownR := Lib.hid (own_kept Hown.out (fun b hb => hg.block b (Hown.out.lt b hb).2 (fun e => absurd (show b = g by injection e) (by have := (Hown.out.lt b hb).1; omega))))
    rw [hK, hLN]
    clear hpm hpl ht hown1 hc hg hK hLN hs1
    by_cases hlt : K < N
    · obtain ⟨tk, htk⟩ : ∃ tk, toks[K]? = some tk := ⟨toks[K]'(by rw [← HN.out]; exact hlt), List.getElem?_eq_getElem _⟩
      obtain ⟨gt2, ct2, hv2, _, _, _, _, _, _, d3⟩ := own_lit HownR.out (k := K) (t := tk) (by rw [List.getElem?_append_left (by rw [← HN.out]; exact hlt)]; exact htk)
      injection hv2 with e1 e2 e3
      injection e1 with e1
      injection e1 with e1
      subst e1 e3
      clear e2
      obtain ⟨X, hX⟩ : ∃ X : ByteArray, X = ⟨tk.text.toArray⟩ := ⟨_, rfl⟩
      rw [← hX] at d3
      have hXl : X.data.toList = tk.text := by rw [hX]
      have hXz : X.size ≤ 65536 := by rw [size_of hXl]; exact hs2 tk (List.mem_of_getElem? htk)
      have HX := Lib.hid hXl
      have Htk := Lib.hid htk
      clear hX hXl htk hs2
      go_wp2_with (at_builtin; refine Pause.out ?_)
      refine Pause.of (wpList_append_int wr rfl (.tmp 40) (.tmp 42) rfl w4.heap.size _ (lnsOf 1 pq) K (by have := Hown1.out.1; simpa [intV] using this) LN rfl rfl Hown1.out (by omega) (by omega) ?_)
      intro g6 cap6 w6 hown6 hg6
      have hrow6 : ∀ b, (Value.slice lA K lc).ownBlock = some b → w4.heap.size ≤ b := fun b hb => (Hown1.out.lt b hb).1
      have hbl6 : Below w4.heap.size wr w6 := grown_any hg6 hrow6 (by omega)
      have d36 : w6.cell? ⟨gt, K * 4 + 3, none⟩ = some (.string X) := (World.cell?_of_block (hbl6.block gt hgt)).trans d3
      have Hc6 : Hid (∃ k, Codes w6 g cs k) := Lib.hid (by obtain ⟨k, hk⟩ := Hc.out; exact ⟨k, codes_low hk hbl6 (by omega)⟩)
      have Hg6 : Hid (w4.grownBy w6 (some g)) := Lib.hid (grown_low Hg.out hbl6 (by omega))
      have Hown6 := Lib.hid hown6
      clear d3 hown6 hg6 hrow6 hbl6 Hown1 Hc Hg HownR
      have hnx := Lib.hid (next_c Hc6.out (by omega) Hcl.out 4 4 rfl (by omega))
      go_wp2_with fail
      refine hnx.out.mono ?_
      rintro e w7 ⟨q, rfl, hq, hc7, hg7⟩
      have hq4 := hq (by omega)
      have HR : Hid (∀ (S T : ByteArray) (z zi : Int), T = t ++ X ++ S → zi = (K : Int) + 1 → S.data.toList = sepL q → z = ((LN + sepN q : Nat) : Int) → SpR w4 g cs toks (.string T) (.int .i64 z) (.slice (some ⟨g6, 0, none⟩) (K + 1) cap6) (.int .i64 zi) w7) := Lib.hid (fun S T z zi h1 h2 h3 h4 => by
        refine spR_two (X := X) (S := S) (tk := tk) (q := q) h1 HK.out h2 Hpm.out (by rw [HK.out]; exact Htk.out) Ht.out HX.out h3 (by rw [HLN.out]; exact h4) (own_kept (by rw [HLN.out]; exact Hown6.out) (fun b hb => hg7.block b (Hown6.out.lt b hb).2 (fun e => absurd (show b = g by injection e) (by have := (Hown6.out.lt b hb).1; omega)))) hc7 (Hg6.out.trans hg7))
      clear hnx hq hc7 hg7 Hc6 Hg6 Hown6 Ht Hpm HX Htk HLN HK d36
      have hcase : q = 0 ∨ q = 1 ∨ q = 2 ∨ q = 3 := by omega
      clear hq4
      rcases hcase with rfl | rfl | rfl | rfl
      · go_wp2_with fail
        exact ⟨HR.out ⟨#[32, 35, 32, 97, 32, 99, 111, 109, 109, 101, 110, 116, 59, 32, 120, 32, 61, 32, 49, 10]⟩ _ _ _ rfl (by first | rfl | omega) rfl (by show _ = ((LN + 1 : Nat) : Int); omega), by simp [intOf]; omega⟩
      · go_wp2_with fail
        exact ⟨HR.out ⟨#[10, 10]⟩ _ _ _ rfl (by first | rfl | omega) rfl (by show _ = ((LN + 2 : Nat) : Int); omega), by simp [intOf]; omega⟩
      · go_wp2_with fail
        exact ⟨HR.out ⟨#[9, 32]⟩ _ _ _ rfl (by first | rfl | omega) rfl (by show _ = ((LN + 0 : Nat) : Int); omega), by simp [intOf]; omega⟩
      · go_wp2_with fail
        exact ⟨HR.out ⟨#[9, 32]⟩ _ _ _ rfl (by first | rfl | omega) rfl (by show _ = ((LN + 0 : Nat) : Int); omega), by simp [intOf]; omega⟩
    · obtain rfl : K = N := by omega
      have hall : pq.map (·.1) = toks := by rw [Hpm.out, HK.out, HN.out, List.take_length]
      have hpok : ∀ p ∈ pq, TokOk p.1 := fun p hp => Hok.out p.1 (by rw [← hall]; exact List.mem_map_of_mem hp)
      have hT : scanT t.data.toList = .ok (spT 1 pq) := by
        have hsz : t.data.toList.length = t.size := by simp
        unfold scanT
        rw [if_neg (by omega), Ht.out, scan_spc pq 1 hpok]
      have HP : Hid (∀ e w', ScanPost (scanT t.data.toList) wr e w' → ∃ v, e = .returned (.tuple #[v, .int .i64 0, .int .i64 0]) ∧ w'.ownsRow wr.heap.size 37 4 v (spT 1 pq).length (tks (spT 1 pq)) ∧ Below wr.heap.size wr w') := Lib.hid (fun e w' h => by rw [hT] at h; exact h)
      have Her := Lib.hid (errs_g He4.out Hg.out (by omega) (by omega))
      have hsc := Lib.hid (scan_full t wr (by omega) Her.out)
      have Hb := Lib.hid (below_g Hb4.out Hg.out hgw)
      have HS : Hid (SameT false (toks ++ [(⟨0, eL, 0, []⟩ : Tok)]) (spT 1 pq)) := Lib.hid (by have h := spT_same pq 1 eL; rw [hall] at h; exact h)
      have HlT : Hid ((spT 1 pq).length = K + 1) := Lib.hid (by rw [spT_len, HK.out])
      have Hget : Hid (∀ k, k < K → ∃ p : Tok, (spT 1 pq)[k]? = some p ∧ (lnsOf 1 pq)[k]? = some p.line) := Lib.hid (fun k hk => by
        have hk2 : k < pq.length := by rw [HK.out]; exact hk
        exact ⟨_, spT_get pq 1 k _ (List.getElem?_eq_getElem hk2), lnsOf_get pq 1 k hk2⟩)
      have Hlast : Hid ((spT 1 pq)[K]? = some ⟨0, LN, 0, []⟩) := Lib.hid (by have h := spT_last pq 1; rw [HK.out, HLN.out] at h; exact h)
      clear hall hpok hT Her He4 Hb4 Hg Hc Ht Hpm hs2 hln hne1
      go_wp2_with fail
      refine hsc.out.mono ?_
      intro e w7 hp
      obtain ⟨v7, rfl, hown7, hb7⟩ := HP.out e w7 hp
      obtain ⟨gm, cm, hv7, _, hcm, hgm, m0, m1, _, _⟩ := own_lit hown7 Hlast.out
      rw [HlT.out] at hv7 hcm
      subst hv7
      have hsm := Lib.hid (same_any _ _ _ _ _ _ false w7 (own_later HownR.out hb7) hown7 HS.out (by rw [HL1.out]; omega))
      have Hown7 := Lib.hid hown7
      have Hl7 := Lib.hid (own_later Hown1.out hb7)
      have Hb7 := Lib.hid (below_next Hb.out hb7)
      clear hsc hp HP hown7 hb7 HownR Hown1 Hb HS
      go_wp2_with fail
      refine hsm.out.mono ?_
      rintro e w8 ⟨rfl, hb8⟩
      have Hb78 := Lib.hid hb8
      have Hb8 := Lib.hid (below_next Hb7.out hb8)
      have n0 := hold hb8 m0
      have n1 := hold hb8 m1
      clear hsm hb8 m0 m1 Hb7
      go_wp2_with fail
      go_loopw [14] (fun v wr2 => ∃ k : Nat, k ≤ K ∧ v = .int .i64 (k : Int) ∧ Below w8.heap.size w8 wr2) (fun v _ => K - (intOf v).toNat)
      case atStart => exact ⟨0, Nat.zero_le _, rfl, Below.refl _ _⟩
      case round =>
        obtain ⟨k, hk, rfl, hb9⟩ := hrel
        have Hb9 := Lib.hid hb9
        by_cases hk2 : k < K
        · obtain ⟨p, hp1, hp2⟩ := Hget.out k hk2
          obtain ⟨gm2, cm2, hv, _, _, _, _, e1, _, _⟩ := own_lit Hown7.out hp1
          injection hv with f1 f2 f3
          injection f1 with f1
          injection f1 with f1
          subst f1 f3
          clear f2
          obtain ⟨gl, cl, hvl, _, hcl⟩ := own_some Hl7.out (by omega)
          injection hvl with hvl _ hvc
          subst hvl hvc
          have l1 := Hl7.out.cellAt k (by omega)
          rw [intV, List.getElem?_map, hp2] at l1
          have d1 := hold hb9 (hold Hb78.out e1)
          have d2 := hold hb9 (hold Hb78.out l1)
          clear hb9 e1 l1 hp1 hp2 n0 n1
          go_wp2_with fail
          go_quiet (fail)
          go_wp2_with fail
          exact ⟨⟨k + 1, by omega, by go_num, below_drewN Hb9.out _⟩, by simp [intOf]; omega⟩
        · obtain rfl : k = K := by omega
          have d0 := hold hb9 n0
          have d1 := hold hb9 n1
          have HbE := Lib.hid (below_next Hb8.out hb9)
          clear hb9 n0 n1
          go_wp2_with fail
          go_ret
          exact ⟨rfl, HbE.out⟩
end Go.Proofs.YtifabkoomojklaaDoor
