/-
  The walk of the reference's writer for a program. Condition: the text has at most 2^40 bytes.
-/
import Derived.Test.YtifabkoomojklaaGreatDoorBlock
namespace Go.Proofs.YtifabkoomojklaaGreatDoor
open Go.RowKit

/-- A function of a source. -/
structure Fn where
  name : ByteArray
  line : Int
  params : List ByteArray
  body : List St
/-- A row of globals: names and sizes. -/
def GlobsAt (F : Nat → Prop) (w : World) (gl : List (ByteArray × Int)) (A : Option Addr) (c : Nat) : Prop :=
  gl.length ≤ c ∧ ∀ i x, gl[i]? = some x → ∃ g, A = some ⟨g, 0, none⟩ ∧ F g ∧ w.cell? ⟨g, i * 2, none⟩ = some (.string x.1) ∧ w.cell? ⟨g, i * 2 + 1, none⟩ = some (.int .i64 x.2)
/-- A row of strings. -/
def StrsAt (F : Nat → Prop) (w : World) (l : List ByteArray) (A : Option Addr) (c : Nat) : Prop :=
  l.length ≤ c ∧ ∀ i x, l[i]? = some x → ∃ g, A = some ⟨g, 0, none⟩ ∧ F g ∧ w.cell? ⟨g, i, none⟩ = some (.string x)
/-- A row of functions. -/
def FuncsAt (F : Nat → Prop) (w : World) (D d : Nat) (fl : List Fn) (A : Option Addr) (c : Nat) : Prop :=
  fl.length ≤ c ∧ ∀ i f, fl[i]? = some f → ∃ g pA pc bA bc, A = some ⟨g, 0, none⟩ ∧ F g ∧ w.cell? ⟨g, i * 4, none⟩ = some (.string f.name) ∧ w.cell? ⟨g, i * 4 + 1, none⟩ = some (.int .i64 f.line) ∧ w.cell? ⟨g, i * 4 + 2, none⟩ = some (.slice pA f.params.length pc) ∧ w.cell? ⟨g, i * 4 + 3, none⟩ = some (.slice bA f.body.length bc) ∧ StrsAt F w f.params pA pc ∧ RowS F w D d f.body bA bc
def fmtG (x : ByteArray × Int) : Bytes := [103, 108, 111, 98, 97, 108, 32] ++ x.1.data.toList ++ (if 0 < x.2 then [91] ++ numL x.2.toNat ++ [93] else []) ++ [59, 10]
def fmtF (D d : Nat) (f : Fn) : Bytes := [102, 117, 110, 99, 32] ++ f.name.data.toList ++ [40] ++ jl (f.params.map (·.data.toList)) ++ [41, 32, 123, 10] ++ fmtB D d f.body [9] ++ [125, 10]
def fmtP (D d : Nat) (gl : List (ByteArray × Int)) (fl : List Fn) : Bytes := gl.flatMap fmtG ++ fl.flatMap (fmtF D d)
def ShG (x : ByteArray × Int) : Prop := x.1.size ≤ 1000 ∧ x.2 < 9223372036854775808
def ShF (D d : Nat) (f : Fn) : Prop := f.name.size ≤ 1000 ∧ f.params.length ≤ 1000 ∧ (∀ p ∈ f.params, p.size ≤ 1000) ∧ f.body.length ≤ 1000 ∧ ∀ t ∈ f.body, ShS D d t
/-- Format under way: the globals. -/
def FmtG (w0 : World) (gl : List (ByteArray × Int)) (s i : Value) (wr : World) : Prop :=
  ∃ (k : Nat) (t : ByteArray), k ≤ gl.length ∧ s = .string t ∧ i = .int .i64 (k : Int) ∧ t.data.toList = (gl.take k).flatMap fmtG ∧ Below w0.heap.size w0 wr
/-- Format under way: the functions. -/
def FmtF (w0 : World) (D d : Nat) (G : Bytes) (fl : List Fn) (s i : Value) (wr : World) : Prop :=
  ∃ (k : Nat) (t : ByteArray), k ≤ fl.length ∧ s = .string t ∧ i = .int .i64 (k : Int) ∧ t.data.toList = G ++ (fl.take k).flatMap (fmtF D d) ∧ Below w0.heap.size w0 wr
/-- Format under way: the parameters of a function. -/
def FmtP (w0 : World) (T : Bytes) (ps : List Bytes) (s i : Value) (wr : World) : Prop :=
  ∃ (k : Nat) (t : ByteArray), k ≤ ps.length ∧ s = .string t ∧ i = .int .i64 (k : Int) ∧ t.data.toList = T ++ jl (ps.take k) ∧ Below w0.heap.size w0 wr
theorem jl_params (ps : List ByteArray) (h : ∀ p ∈ ps, p.size ≤ 1000) (hl : ps.length ≤ 1000) : (jl (ps.map (·.data.toList))).length ≤ 1002000 := by
  have key : ∀ ps : List ByteArray, (∀ p ∈ ps, p.size ≤ 1000) → (jl (ps.map (·.data.toList))).length ≤ ps.length * 1002 := by
    intro ps
    induction ps with
    | nil => intro _; simp [jl, List.intercalate]
    | cons a r ih =>
      intro h
      have ha := h a (by simp)
      have hr := ih (fun p hp => h p (by simp [hp]))
      cases r with
      | nil => simp [jl, List.intercalate]; omega
      | cons b r =>
        have e : jl ((a :: b :: r).map (·.data.toList)) = a.data.toList ++ [44, 32] ++ jl ((b :: r).map (·.data.toList)) := inter_cons2 _ _ _ _
        rw [e]
        simp at hr ⊢
        omega
  have := key ps h
  omega
set_option maxRecDepth 100000 in
set_option maxHeartbeats 4000000 in
theorem format_5 (D d : Nat) (F : Nat → Prop) (gl : List (ByteArray × Int)) (fl : List Fn) (gA fA : Option Addr) (gc fc : Nat) (w : World) (hg : GlobsAt F w gl gA gc) (hf : FuncsAt F w D d fl fA fc) (hsg : ∀ x ∈ gl, ShG x) (hsf : ∀ f ∈ fl, ShF D d f) (hgn : gl.length ≤ 1000) (hfn : fl.length ≤ 1000) (hd : d ≤ 50) (hl : (fmtP D d gl fl).length ≤ 1099511627776) :
    Calls Tryz.prog 18 #[.agg #[.slice gA gl.length gc, .slice fA fl.length fc]] w (RetStr (fmtP D d gl fl) w) := by
  have hb0 := (Below.refl _ w).alloc (Nat.le_refl _) (.cells #[.slice gA gl.length gc, .slice fA fl.length fc] 45)
  have hlg : (gl.flatMap fmtG).length ≤ 1099511627776 := by
    unfold fmtP at hl
    simp only [List.length_append] at hl
    omega
  have hlf : (fl.flatMap (fmtF D d)).length ≤ 1099511627776 := by
    unfold fmtP at hl
    simp only [List.length_append] at hl
    omega
  have f0 : (w.alloc (.cells #[.slice gA gl.length gc, .slice fA fl.length fc] 45)).cell? ⟨w.heap.size, 0, none⟩ = some (.slice gA gl.length gc) := by rw [cell_of_row _ _ _ _ _ _ (heap_alloc_new w _)]; rfl
  have f1 : (w.alloc (.cells #[.slice gA gl.length gc, .slice fA fl.length fc] 45)).cell? ⟨w.heap.size, 1, none⟩ = some (.slice fA fl.length fc) := by rw [cell_of_row _ _ _ _ _ _ (heap_alloc_new w _)]; rfl
  have HP : Hid (fmtP D d gl fl = gl.flatMap fmtG ++ fl.flatMap (fmtF D d)) := Lib.hid rfl
  have Hb0 := Lib.hid hb0
  have Hg := Lib.hid hg
  have Hf := Lib.hid hf
  have Hsg := Lib.hid hsg
  have Hsf := Lib.hid hsf
  have Hlg := Lib.hid hlg
  have Hlf := Lib.hid hlf
  generalize fmtP D d gl fl = L at *
  obtain ⟨n, hn⟩ : ∃ n, n = gl.length := ⟨_, rfl⟩
  obtain ⟨m, hm⟩ : ∃ m, m = fl.length := ⟨_, rfl⟩
  have Hn := Lib.hid hn
  have Hm := Lib.hid hm
  have hgc : n ≤ gc := by rw [hn]; exact hg.1
  have hfc : m ≤ fc := by rw [hm]; exact hf.1
  rw [← hn] at hgn f0 f1 Hb0 ⊢
  rw [← hm] at hfn f0 f1 Hb0 ⊢
  clear hb0 hg hf hsg hsf hlg hlf hl hn hm
  go_enter Tryz.func18, Tryz.ntmps18
  go_wp2_with fail
  generalize w.alloc (.cells #[.slice gA n gc, .slice fA m fc] 45) = W at *
  go_loopw [3, 4] (fun s i wr => FmtG W gl s i wr) (fun _ i _ => n - (intOf i).toNat)
  case atStart => exact ⟨0, _, Nat.zero_le _, rfl, rfl, rfl, Below.refl _ _⟩
  case round =>
    obtain ⟨k, t, hk, rfl, rfl, ht, hb⟩ := hrel
    have Ht := Lib.hid ht
    have Hb := Lib.hid hb
    have hkn : k ≤ n := by rw [Hn.out]; exact hk
    have htz : t.size ≤ 1099511627776 := by
      rw [size_of ht]
      exact Nat.le_trans (fm_take _ gl k) Hlg.out
    have g0 := hold hb f0
    have g1 := hold hb f1
    clear ht hb hk
    by_cases hlt : k < n
    · obtain ⟨x, hx⟩ : ∃ x, gl[k]? = some x := ⟨gl[k]'(by rw [← Hn.out]; exact hlt), List.getElem?_eq_getElem _⟩
      obtain ⟨g, rfl, _, e0, e1⟩ := Hg.out.2 k x hx
      have Hsn := Lib.hid (fm_snoc fmtG gl k x hx)
      obtain ⟨hx1, hx2⟩ := Hsg.out x (List.mem_of_getElem? hx)
      have d0 := hold Hb.out (hold Hb0.out e0)
      have d1 := hold Hb.out (hold Hb0.out e1)
      obtain ⟨nm, sz⟩ := x
      simp only [] at d0 d1 hx1 hx2
      clear e0 e1 hx f0 f1
      by_cases h0 : 0 < sz
      · have HT : Hid (fmtG (nm, sz) = [103, 108, 111, 98, 97, 108, 32] ++ nm.data.toList ++ ([91] ++ numL sz.toNat ++ [93]) ++ [59, 10]) := Lib.hid (by
          show _ ++ _ ++ (if 0 < sz then _ else _) ++ _ = _
          rw [if_pos h0])
        have hnl := numL_small (n := sz.toNat) (by omega)
        go_wp2_with fail
        refine (number_at sz.toNat _ _ (by omega) (by omega)).mono ?_
        rintro e w1 ⟨u, rfl, hu, hb1⟩
        have HB := Lib.hid (below_next Hb.out hb1)
        have huz : u.size ≤ 19 := by rw [size_of hu.out]; exact hnl
        clear hb1 hnl
        go_wp2_with fail
        exact ⟨⟨k + 1, _, by rw [← Hn.out]; omega, rfl, by go_num, by rw [Hsn.out, ← Ht.out, HT.out, ← hu.out]; simp, HB.out⟩, by simp [intOf]; omega⟩
      · have HT : Hid (fmtG (nm, sz) = [103, 108, 111, 98, 97, 108, 32] ++ nm.data.toList ++ [59, 10]) := Lib.hid (by
          show _ ++ _ ++ (if 0 < sz then _ else _) ++ _ = _
          rw [if_neg h0]
          simp)
        go_wp2_with fail
        exact ⟨⟨k + 1, _, by rw [← Hn.out]; omega, rfl, by go_num, by rw [Hsn.out, ← Ht.out, HT.out]; simp, Hb.out⟩, by simp [intOf]; omega⟩
    · obtain rfl : k = n := by omega
      have HtE : Hid (t.data.toList = gl.flatMap fmtG) := Lib.hid (by rw [Ht.out, List.take_of_length_le (by rw [← Hn.out]; exact Nat.le_refl _)])
      clear Ht
      go_wp2_with fail
      have Hb2 := Lib.hid (below_next Hb0.out Hb.out)
      clear f0 f1 Hb Hb0
      go_loopw [3, 5] (fun s i w2 => FmtF wr D d (gl.flatMap fmtG) fl s i w2) (fun _ i _ => m - (intOf i).toNat)
      case atStart => exact ⟨0, t, Nat.zero_le _, rfl, rfl, by rw [HtE.out]; simp, Below.refl _ _⟩
      case round =>
        obtain ⟨j, t2, hj, rfl, rfl, ht2, hb⟩ := hrel
        have Ht2 := Lib.hid ht2
        have Hb := Lib.hid hb
        have hjm : j ≤ m := by rw [Hm.out]; exact hj
        have ht2z : t2.size ≤ 2199023255552 := by
          rw [size_of ht2, List.length_append]
          have h1 := fm_take (fmtF D d) fl j
          have h2 := Hlf.out
          have h3 := Hlg.out
          omega
        have g2 := hold hb g1
        have Hb3 := Lib.hid (below_next Hb2.out hb)
        have hsz := hb.size
        clear ht2 hb hj

        by_cases hlt2 : j < m
        · obtain ⟨f, hf⟩ : ∃ f, fl[j]? = some f := ⟨fl[j]'(by rw [← Hm.out]; exact hlt2), List.getElem?_eq_getElem _⟩
          obtain ⟨g, pA, pc, bA, bc, rfl, _, e0, e1, e2, e3, hps, hbody⟩ := Hf.out.2 j f hf
          have Hsn := Lib.hid (fm_snoc (fmtF D d) fl j f hf)
          have hfl := Nat.le_trans (fm_mem (fmtF D d) fl j f hf) Hlf.out
          obtain ⟨hx1, hx2, hx3, hx4, hx5⟩ := Hsf.out f (List.mem_of_getElem? hf)
          have d0 := hold Hb3.out e0
          have d1 := hold Hb3.out e1
          have d2 := hold Hb3.out e2
          have d3 := hold Hb3.out e3
          obtain ⟨fnm, fln, fps, fbd⟩ := f
          simp only [] at d0 d1 d2 d3 hx1 hx2 hx3 hx4 hx5 hps hbody
          have hbl : (fmtB D d fbd [9]).length ≤ 1099511627776 := by
            unfold fmtF at hfl
            simp at hfl
            omega
          have hpl := jl_params fps hx3 hx2
          have hblk := Lib.hid (gives_block (ind := { data := #[9] }) (block_5 D d) rfl (RowS.low Hb3.out hbody) hx5 hx4 (by show 1 + d ≤ 100; omega) [9] rfl hbl)
          have Hps := Lib.hid hps
          have Hpl := Lib.hid hpl
          have HT : Hid (fmtF D d ⟨fnm, fln, fps, fbd⟩ = [102, 117, 110, 99, 32] ++ fnm.data.toList ++ [40] ++ jl (fps.map (·.data.toList)) ++ [41, 32, 123, 10] ++ fmtB D d fbd [9] ++ [125, 10]) := Lib.hid rfl
          have hpc : fps.length ≤ pc := hps.1
          clear e0 e1 e2 e3 hps hbody hf hfl hpl hx3 hx5
          obtain ⟨q, hq⟩ : ∃ q, q = fps.length := ⟨_, rfl⟩
          have Hq := Lib.hid hq
          rw [← hq] at hx2 hpc d2
          clear hq
          go_wp2_with fail
          have hw0 := (Below.refl _ wr).alloc (Nat.le_refl _) (.cells #[.string fnm, .int .i64 fln, .slice pA q pc, .slice bA fbd.length bc] 64)
          have Hw0 := Lib.hid hw0
          have p2 : (wr.alloc (.cells #[.string fnm, .int .i64 fln, .slice pA q pc, .slice bA fbd.length bc] 64)).cell? ⟨wr.heap.size, 2, none⟩ = some (.slice pA q pc) := by rw [cell_of_row _ _ _ _ _ _ (heap_alloc_new wr _)]; rfl
          have p3 : (wr.alloc (.cells #[.string fnm, .int .i64 fln, .slice pA q pc, .slice bA fbd.length bc] 64)).cell? ⟨wr.heap.size, 3, none⟩ = some (.slice bA fbd.length bc) := by rw [cell_of_row _ _ _ _ _ _ (heap_alloc_new wr _)]; rfl
          clear hw0 d0 d1 d2 d3
          generalize wr.alloc (.cells #[.string fnm, .int .i64 fln, .slice pA q pc, .slice bA fbd.length bc] 64) = W2 at *
          obtain ⟨T0, hT0⟩ : ∃ T0 : Bytes, T0 = t2.data.toList ++ ([102, 117, 110, 99, 32] ++ fnm.data.toList ++ [40]) := ⟨_, rfl⟩
          have HT0 := Lib.hid hT0
          have hT0z : T0.length ≤ 2199023260000 := by
            rw [hT0]
            have e1 : t2.data.toList.length = t2.size := by simp
            have e2 : fnm.data.toList.length = fnm.size := by simp
            simp only [List.length_append, List.length_cons, List.length_nil]
            omega
          clear hT0
          go_loopw [3, 7] (fun s i w2 => FmtP W2 T0 (fps.map (·.data.toList)) s i w2) (fun _ i _ => q - (intOf i).toNat)
          case atStart => exact ⟨0, _, Nat.zero_le _, rfl, rfl, by rw [HT0.out]; simp [jl, List.intercalate], Below.refl _ _⟩
          case round =>
            obtain ⟨z, t3, hz, rfl, rfl, ht3, hb⟩ := hrel
            have Ht3 := Lib.hid ht3
            have Hb4 := Lib.hid hb
            have hzq : z ≤ q := by rw [Hq.out]; simpa using hz
            have ht3z : t3.size ≤ 2199024270000 := by
              rw [size_of ht3, List.length_append]
              have h1 := jl_take (fps.map (·.data.toList)) z
              have h2 := Hpl.out
              omega
            have p2b := hold hb p2
            have p3b := hold hb p3
            clear ht3 hb hz p2 p3
            by_cases hlz : z < q
            · obtain ⟨x, hx⟩ : ∃ x, fps[z]? = some x := ⟨fps[z]'(by rw [← Hq.out]; exact hlz), List.getElem?_eq_getElem _⟩
              obtain ⟨gp, rfl, _, ep⟩ := Hps.out.2 z x hx
              have hxs : x.size ≤ 1002000 := by
                have h1 := (jl_get (fps.map (·.data.toList)) z x.data.toList (by simp [hx])).1
                have h2 := Hpl.out
                have e2 : x.data.toList.length = x.size := by simp
                omega
              have Hgt := Lib.hid (jl_get (fps.map (·.data.toList)) z x.data.toList (by simp [hx])).2
              have dp := hold Hb4.out (hold Hw0.out (hold Hb3.out ep))
              clear ep hx
              by_cases hz0 : z = 0
              · have Hg3 : Hid (jl ((fps.map (·.data.toList)).take (z + 1)) = x.data.toList) := Lib.hid (by rw [Hgt.out, if_pos hz0])
                have Ht4 : Hid (t3.data.toList = T0) := Lib.hid (by rw [Ht3.out, hz0]; simp [jl, List.intercalate])
                have hk0 : ¬ 0 < z := by omega
                clear hz0 Hgt Ht3
                go_wp2_with fail
                exact ⟨⟨z + 1, _, by simp; rw [← Hq.out]; omega, rfl, by go_num, by rw [Hg3.out, ← Ht4.out]; simp, Hb4.out⟩, by simp [intOf]; omega⟩
              · have Hg3 : Hid (jl ((fps.map (·.data.toList)).take (z + 1)) = jl ((fps.map (·.data.toList)).take z) ++ [44, 32] ++ x.data.toList) := Lib.hid (by rw [Hgt.out, if_neg hz0])
                have hk0 : 0 < z := by omega
                clear hz0 Hgt
                go_wp2_with fail
                exact ⟨⟨z + 1, _, by simp; rw [← Hq.out]; omega, rfl, by go_num, by rw [Hg3.out, ← List.append_assoc, ← List.append_assoc, ← Ht3.out]; simp, Hb4.out⟩, by simp [intOf]; omega⟩
            · obtain rfl : z = q := by omega
              have Ht4 : Hid (t3.data.toList = T0 ++ jl (fps.map (·.data.toList))) := Lib.hid (by rw [Ht3.out, List.take_of_length_le (by simp; rw [← Hq.out]; exact Nat.le_refl _)])
              clear Ht3
              go_wp2_with fail
              refine (hblk.out.at_ (below_next Hw0.out Hb4.out)).mono ?_
              rintro e w9 ⟨u, rfl, hu, hb9⟩
              have huz : u.size ≤ 1099511627776 := by rw [size_of hu.out]; exact hbl
              have HB := Lib.hid (below_next (Hb.out.trans ((below_next Hw0.out Hb4.out).mono hsz)) hb9)
              clear hb9
              go_wp2_with fail
              exact ⟨⟨j + 1, _, by rw [← Hm.out]; omega, rfl, by go_num, by rw [Hsn.out, ← List.append_assoc, ← Ht2.out, HT.out]; simp [Ht4.out, HT0.out, hu.out], HB.out⟩, by simp [intOf]; omega⟩
        · obtain rfl : j = m := by omega
          have HtF : Hid (t2.data.toList = L) := Lib.hid (by rw [HP.out, Ht2.out, List.take_of_length_le (by rw [← Hm.out]; exact Nat.le_refl _)])
          clear Ht2
          go_wp2_with fail
          go_ret
          exact retStr HtF.out Hb3.out
end Go.Proofs.YtifabkoomojklaaGreatDoor
