/-
  The walk of the reference reader's function, global and source. No condition.
-/
import Derived.Test.YtjmbllbnlnjanaaRpStm
namespace Go.Proofs.Ytjmbllbnlnjanaa
open Go.RowKit

theorem stmt_allR : ∀ d, SubS 68 (stmtA d)
  | 0 => fun _ _ _ _ _ _ _ hP => by cases hP
  | d + 1 => stmt_r (blockR (stmtA d)) exprA expr_aR (block_r _ (stmt_allR d))
theorem block_allR (d : Nat) : SubB 59 (blockR (stmtA d)) := block_r _ (stmt_allR d)
/-- The cells of a string, of a global. -/
def MStr : Means ByteArray := fun _ _ x cs => cs = [.string x]
theorem mstr_keeps : MStr.Keeps := fun _ _ _ _ _ _ _ _ h => h
theorem mstr_self (F : Nat → Prop) (w : World) (nm : ByteArray) : MStr F w nm [.string nm] := rfl
theorem one_str (nm : ByteArray) : ∀ u ∈ [Value.string nm], u.oneCell' = true := by
  intro u hu
  cases List.mem_singleton.1 hu
  rfl
def MGl : Means (ByteArray × Int) := fun _ _ x cs => cs = [.string x.1, .int .i64 x.2]
theorem mgl_keeps : MGl.Keeps := fun _ _ _ _ _ _ _ _ h => h
theorem infoStrR : (Try.prog.info? 9).map (fun i => (i.zero, i.size, i.bytes)) = some (some (.string ⟨#[]⟩), 1, 16) := by kernel_rfl
theorem infoGlR : (Try.prog.info? 68).map (fun i => (i.zero, i.size, i.bytes)) = some (some (.agg #[.string ⟨#[]⟩, .int .i64 0]), 2, 24) := by kernel_rfl
set_option maxRecDepth 10000 in
/-- One element is appended, as a step of a region that draws. -/
theorem step_append_g {α : Type} {k : Nat} {T S : TypeId} {V : Means α} {ops : Array Oper} {o : Oper} {a : Act} {K : Act → World → Prop} {Q : Exit → Act → World → Prop} {E : Prop} (w : World) (hgd : o.guard = none) (s x : Operand)
    (ho : o.op = .call { callee := .builtin .append, args := #[s, x], argTypes := #[S, S] }) (hV : V.Keeps) (z : Value) (bytes : Nat) (ht : Try.prog.underlying S = some (.slice T)) (hinfo : (Try.prog.info? T).map (fun i => (i.zero, i.size, i.bytes)) = some (some z, k, bytes)) (hzs : z.cells.size = k) (hk0 : 0 < k) (hb0 : bytes ≤ 1000)
    (base : Nat) (v : Value) (xs : List α) (L : List Value) (y : α) (cs : List Value) (F : Nat → Prop)
    (hs : a.eval s = v) (hx : a.eval x = .slice (some ⟨w.heap.size, 0, none⟩) 1 1) (h : GRow k T V base w v xs L) (hlen : xs.length ≤ 1000000) (hbase : base ≤ w.heap.size)
    (hcs : cs.length = k) (h1 : ∀ u ∈ cs, u.oneCell' = true) (hy : V F w y cs) (hF : ∀ b, F b → base ≤ b ∧ b < w.heap.size ∧ v.ownBlock ≠ some b)
    (hk : ∀ g cap w', GRow k T V base w' (.slice (some ⟨g, 0, none⟩) (xs.length + 1) cap) (xs ++ [y]) (L ++ cs) → w.grownBy w' v.ownBlock → (v.ownBlock = some g ∨ w.heap.size ≤ g) → K (a.put o.dst (.slice (some ⟨g, 0, none⟩) (xs.length + 1) cap)) w') :
    if Region.wanted o (yielded ops a.tmps) = true then Oper.wp Try.prog o a (w.alloc (.cells cs.toArray T)) K Q else E := by
  obtain ⟨i, hi, hz, hsz, hby⟩ := info_parts hinfo
  have hmul : (xs.length + 1) * bytes ≤ 1000001 * 1000 := Nat.mul_le_mul (by omega) hb0
  refine step_append_lies _ hgd s x _ ho base T i z k bytes ht hi hz hsz hby hzs hk0 v xs.length L hs (h.own.alloc _) ⟨w.heap.size, 0, none⟩ 1 1 cs hx (by omega) ?_ h1 (by decide) (by unfold maxLen; omega) (by omega) (by simp; omega) _ rfl fun g cap w' h1 h2 h3 _ => hk g cap w' (h.push hV hcs hy hF h1 ((Below.refl _ w).alloc (Nat.le_refl _) _) h2 h3) ((World.grownBy_alloc _ _ _).trans h2) (h3.imp id (fun e => by rw [e]; simp))
  intro j u hu
  rw [Addr.add_lit, Nat.zero_add]
  exact (cell_of_row _ _ _ _ _ _ (heap_alloc_new w _)).trans (by simpa using hu)
def zeroFn : Obj := .cells #[.string { data := #[] }, .int .i64 0, .slice none 0 0, .slice none 0 0] 65
/-- A function under way in its block fb: its name and its parameters. -/
structure FnU (p tb fb : Nat) (nm : ByteArray) (ps : List ByteArray) (s : RS) (w wr : World) (A : Option Addr) (m c : Nat) (L : List Value) : Prop where
  ra : RA wr p tb s
  gr : w.grownBy wr (some p)
  z : wr.heap[w.heap.size]? = some zeroFn
  lt : w.heap.size < fb
  row : wr.heap[fb]? = some (.cells #[.string nm, .int .i64 0, .slice A m c, .slice none 0 0] 65 (0, 0))
  hm : m = ps.length
  ps : GRow 1 9 MStr (fb + 1) wr (.slice A m c) ps L
section
variable {p tb fb : Nat} {nm : ByteArray} {ps : List ByteArray} {s s' : RS} {w wr w' : World} {A : Option Addr} {m c : Nat} {L : List Value}
theorem FnU.flt (h : FnU p tb fb nm ps s w wr A m c L) : fb < wr.heap.size := (Array.getElem?_eq_some_iff.1 h.row).1
theorem FnU.step (h : FnU p tb fb nm ps s w wr A m c L) (hp : p < w.heap.size) (hg : wr.grownBy w' (some p)) (ha : RA w' p tb s') : FnU p tb fb nm ps s' w w' A m c L := by
  have hlt := h.lt
  exact ⟨ha, h.gr.trans hg, blk_keep hg (by omega) h.z, h.lt, blk_keep hg (by omega) h.row, h.hm, h.ps.grown mstr_keeps hg (by omega)⟩
/-- One parameter more. -/
theorem FnU.push {y : ByteArray} {g cap : Nat} {w2 : World} {cs : List Value} (h : FnU p tb fb nm ps s w wr A m c L) (hp : p < w.heap.size) (ht : tb < w.heap.size) (h2 : GRow 1 9 MStr (fb + 1) w2 (.slice (some ⟨g, 0, none⟩) (ps.length + 1) cap) (ps ++ [y]) (L ++ cs)) (hb : Below (fb + 1) wr w2) :
    FnU p tb fb nm (ps ++ [y]) s w (w2.setCell ⟨fb, 2, none⟩ (.slice (some ⟨g, 0, none⟩) (ps.length + 1) cap)) (some ⟨g, 0, none⟩) (ps.length + 1) cap (L ++ cs) := by
  have hlt := h.lt
  have hg : w2.grownBy (w2.setCell ⟨fb, 2, none⟩ (.slice (some ⟨g, 0, none⟩) (ps.length + 1) cap)) (some fb) := set_grown w2 ⟨fb, 2, none⟩ _
  have hr2 := (hb.block fb (by omega)).trans h.row
  exact ⟨(h.ra.low hb (by omega) (by omega)).other hg (by omega) (by omega), grown_new (grown_low h.gr hb (by omega)) hg (by omega), blk_keep hg (by omega) ((hb.block _ (by omega)).trans h.z), h.lt, row_set (i := 2) (.slice (some ⟨g, 0, none⟩) (ps.length + 1) cap) hr2, by simp, h2.grown mstr_keeps hg (by omega)⟩
end
/-- A function is handed back, and the reader stands at s'. -/
def FnRG (p tb : Nat) (f : Fn) (s s' : RS) (w : World) (e : Ending) (w' : World) : Prop := ∃ D d A m c bA bm bc, e = .returned (.agg #[.string f.name, .int .i64 0, .slice A m c, .slice bA bm bc]) ∧ m = f.params.length ∧ bm = f.body.length ∧
  RowG 1 MStr (fun q => w.heap.size ≤ q ∧ q < w'.heap.size) w' f.params A c ∧ RowS (fun q => w.heap.size ≤ q ∧ q < w'.heap.size) w' D d f.body bA bc ∧ RA w' p tb s' ∧ w.grownBy w' (some p) ∧ s'.rest.length ≤ s.rest.length
/-- How many parameters memory says there are. -/
def parLen (w : World) (b : Nat) : Nat := match w.cell? ⟨b, 2, none⟩ with | some (.slice _ n _) => n | _ => 0
theorem FnU.par {p tb fb : Nat} {nm : ByteArray} {ps : List ByteArray} {s : RS} {w wr : World} {A : Option Addr} {m c : Nat} {L : List Value} (h : FnU p tb fb nm ps s w wr A m c L) : parLen wr fb = ps.length := by
  have := cell_of_row _ _ 2 _ _ _ h.row
  have e : wr.cell? ⟨fb, 2, none⟩ = some (.slice A m c) := by rw [this]; rfl
  rw [parLen, e, ← h.hm]
/-- What the loop over parameters carries. -/
def ParR (p tb fb n0 : Nat) (nm : ByteArray) (ps : List ByteArray) (s s' : RS) (w wr : World) : Prop := ∃ n xs ss A m c L, paramsR n xs ss = some (ps, s') ∧ n + xs.length = n0 ∧ FnU p tb fb nm xs ss w wr A m c L ∧ ss.rest.length ≤ s.rest.length ∧ xs.length + ss.rest.length ≤ 1000001
theorem paramsR_yes {n : Nat} {xs ps : List ByteArray} {s s' : RS} (h : paramsR n xs s = some (ps, s')) (hs : isR [44] s = true) : ∃ m, n = m + 1 ∧ paramsR m (xs ++ [nmB (kindR 1 (popR s)).1.text]) (kindR 1 (popR s)).2 = some (ps, s') := by
  cases n with
  | zero => cases h
  | succ m => simp only [paramsR, hs, if_true] at h; exact ⟨m, rfl, h⟩
theorem paramsR_no {n : Nat} {xs ps : List ByteArray} {s s' : RS} (h : paramsR n xs s = some (ps, s')) (hs : isR [44] s = false) : ps = xs ∧ s' = expectR [41] s := by
  cases n with
  | zero => cases h
  | succ m =>
    simp only [paramsR, hs] at h
    injection h with h
    injection h with e1 e2
    exact ⟨e1.symm, e2.symm⟩
theorem functionR_some {B : RSL} {s s' : RS} {f : Fn} (h : functionR B s = some (f, s')) : ∃ ps s1 b, parensR (expectR [40] (kindR 1 s).2) = some (ps, s1) ∧ B s1 = some (b, s') ∧ f = ⟨nmB (kindR 1 s).1.text, 0, ps, b⟩ := by
  unfold functionR at h
  cases h1 : parensR (expectR [40] (kindR 1 s).2) with
  | none => rw [h1] at h; cases h
  | some q =>
    obtain ⟨ps, s1⟩ := q
    rw [h1] at h
    dsimp only at h
    cases h2 : B s1 with
    | none => rw [h2] at h; cases h
    | some q2 =>
      obtain ⟨b, s2⟩ := q2
      rw [h2] at h
      injection h with h
      injection h with e1 e2
      subst e2
      exact ⟨ps, s1, b, rfl, h2, e1.symm⟩
theorem parensR_cases {s s1 : RS} {ps : List ByteArray} (h : parensR s = some (ps, s1)) : (isR [41] s = true ∧ ps = [] ∧ s1 = popR s) ∨ (isR [41] s = false ∧ paramsR ((kindR 1 s).2.rest.length + 1) [nmB (kindR 1 s).1.text] (kindR 1 s).2 = some (ps, s1)) := by
  unfold parensR at h
  cases hi : isR [41] s with
  | true =>
    rw [if_pos hi] at h
    injection h with h
    injection h with e1 e2
    exact .inl ⟨rfl, e1.symm, e2.symm⟩
  | false =>
    rw [if_neg (by rw [hi]; decide)] at h
    exact .inr ⟨rfl, h⟩
end Go.Proofs.Ytjmbllbnlnjanaa
namespace Go.Proofs.Ytjmbllbnlnjanaa
open Go.RowKit

theorem below_own {w w' : World} {base n size : Nat} {T : TypeId} {v : Value} {xs : List Value} (h : w.ownsRow base T size v n xs) (hg : w.grownBy w' v.ownBlock) (hb : base ≤ w.heap.size) : Below base w w' := grown_any hg (fun k hk => (h.lt k hk).1) hb
/-- A store of a function that stands still. -/
theorem rf_pause {P : Program} {w : World} {ops : Array Oper} {rest : List Oper} {d : Option Tmp} {ty : TypeId} {x y : Operand} {pos : String} {af : Array Edge} {gd : Option (Nat × Bool)} {a : Act} {Q : Exit → Act → World → Prop}
    (h : Pause (wpList P ops Q ({ dst := d, op := .store 65 x y, type := ty, pos := pos, after := af, guard := gd } :: rest) a w)) : wpList P ops Q ({ dst := d, op := .store 65 x y, type := ty, pos := pos, after := af, guard := gd } :: rest) a w := h
theorem fn_zero {p tb fb : Nat} {nm : ByteArray} {ps : List ByteArray} {s : RS} {w wr : World} {A : Option Addr} {m c : Nat} {L : List Value} (h : FnU p tb fb nm ps s w wr A m c L) {v : Value} : (wr.setCell ⟨fb, 3, none⟩ v).heap[w.heap.size]? = some (.cells #[.string { data := #[] }, .int .i64 0, .slice none 0 0, .slice none 0 0] 65) := by
  have hlt := h.lt
  exact blk_keep (set_grown wr ⟨fb, 3, none⟩ v) (by show w.heap.size ≠ fb; omega) h.z
/-- The end of a function. -/
theorem fn_endR {p tb fb Db db mb cb n0 : Nat} {nm : ByteArray} {ps : List ByteArray} {bd : List St} {s s' : RS} {w wb w9 : World} {A Ab : Option Addr} {m c : Nat} {L : List Value} (h : FnU p tb fb nm ps s' w wb A m c L) (hmb : mb = bd.length) (hrb : RowS (fun q => n0 ≤ q ∧ q < wb.heap.size) wb Db db bd Ab cb) (hn0 : fb < n0) (hl : s'.rest.length ≤ s.rest.length) (hp : p < w.heap.size) (ht : tb < w.heap.size)
    (hg9 : (wb.setCell ⟨fb, 3, none⟩ (.slice Ab mb cb)).grownBy w9 (some w.heap.size)) : FnRG p tb ⟨nm, 0, ps, bd⟩ s s' w (.returned (.agg #[.string nm, .int .i64 0, .slice A m c, .slice Ab mb cb])) w9 := by
  have hlt := h.lt
  have hg : wb.grownBy (wb.setCell ⟨fb, 3, none⟩ (.slice Ab mb cb)) (some fb) := set_grown wb ⟨fb, 3, none⟩ _
  have hs := hg.size
  have hs9 := hg9.size
  have hps := ((h.ps.grown mstr_keeps hg (by omega)).grown mstr_keeps hg9 (by omega)).row mstr_keeps
  have hk : ∀ q, n0 ≤ q → q < wb.heap.size → w9.heap[q]? = wb.heap[q]? := fun q h1 h2 => (hg9.block q (Nat.lt_of_lt_of_le h2 hs) (fun e => by injection e with e; omega)).trans (hg.block q h2 (fun e => by injection e with e; omega))
  have hra := (h.ra.other hg (by omega) (by omega)).other hg9 (by omega) (by omega)
  exact ⟨Db, db, A, m, c, Ab, mb, cb, rfl, h.hm, hmb, ⟨hps.2.1, fun i x hi => by
    obtain ⟨g, cs, h1, h2, h3, h4, h5⟩ := hps.2.2 i x hi
    exact ⟨g, cs, h1, ⟨by omega, h2.2⟩, h3, h4, h5⟩⟩, RowS.keep (fun q hq => ⟨by omega, by omega⟩) (fun q hq => hk q hq.1 hq.2) hrb, hra, grown_new (grown_new h.gr hg (by omega)) hg9 (Nat.le_refl _), hl⟩
set_option maxRecDepth 100000 in
set_option maxHeartbeats 8000000 in
theorem function_r (B : RSL) (hbk : SubB 59 B) (p tb : Nat) (s s' : RS) (f : Fn) (w : World) (h : RA w p tb s) (hP : functionR B s = some (f, s')) : Calls Try.prog 42 #[.pointer (some ⟨p, 0, none⟩)] w (FnRG p tb f s s' w) := by
  obtain ⟨ps, s1, bd, hpar, hb, rfl⟩ := functionR_some hP
  have HPC := Lib.hid (parensR_cases hpar)
  have HQB := Lib.hid hb
  have plt := h.lt.1
  have tlt := h.lt.2.1
  have hsm := h.sm
  have HK := Lib.hid (show Calls Try.prog 58 #[.pointer (some ⟨p, 0, none⟩), .int .i64 1] (w.alloc zeroFn) (fun e w' => e = .returned (.agg #[.int .i64 ((kindR 1 s).1.kind : Int), .int .i64 ((kindR 1 s).1.line : Int), .int .i64 ((kindR 1 s).1.value : Int), .string (nmB (kindR 1 s).1.text)]) ∧ RA w' p tb (kindR 1 s).2 ∧ World.grownBy (w.alloc zeroFn) w' (some p)) from kind_r 1 (w.alloc zeroFn) (h.alloc _) (by omega))
  have hfd : ∀ w : World, (Instr.field 90 (.agg #[.int .i64 ((kindR 1 s).1.kind : Int), .int .i64 ((kindR 1 s).1.line : Int), .int .i64 ((kindR 1 s).1.value : Int), .string (nmB (kindR 1 s).1.text)]) 3).run Try.prog w = .ok (.string (nmB (kindR 1 s).1.text)) w := fun _ => by kernel_rfl
  have hb0 := (Below.refl _ w).alloc (Nat.le_refl _) zeroFn
  have HB0 := Lib.hid hb0
  have HSM := Lib.hid hsm
  have HBK := Lib.hid hbk
  unfold zeroFn at HK
  clear hP hpar hb h hb0 hsm hbk
  go_enter Try.func42, Try.ntmps42
  go_wp2_with fail
  refine HK.out.mono ?_
  rintro e w1 ⟨rfl, hp1, hg1⟩
  have hsz1 : w.heap.size + 1 ≤ w1.heap.size := by have := hg1.size; simpa using this
  have hba := (Below.refl _ w1).alloc (Nat.le_refl _) (.cells #[.string (nmB (kindR 1 s).1.text), .int .i64 0, .slice none 0 0, .slice none 0 0] 65)
  have H0 : Hid (FnU p tb w1.heap.size (nmB (kindR 1 s).1.text) [] (kindR 1 s).2 w (w1.alloc (.cells #[.string (nmB (kindR 1 s).1.text), .int .i64 0, .slice none 0 0, .slice none 0 0] 65)) none 0 0 []) := Lib.hid ⟨hp1.alloc _, ((grown_of_below HB0.out (some p)).trans hg1).trans (grown_of_below hba _), (hba.block _ (by omega)).trans ((hg1.block _ (by simp) (fun e => by injection e with e; omega)).trans (heap_alloc_new w zeroFn)), by omega, heap_alloc_new _ _, rfl, GRow.nil⟩
  clear HK hp1 hg1 hba HB0
  go_upto_region 2 with fail
  obtain ⟨fb, hfb⟩ : ∃ fb, fb = w1.heap.size := ⟨_, rfl⟩
  rw [← hfb] at H0 ⊢
  obtain ⟨w2, hw2⟩ : ∃ w2, w2 = w1.alloc (.cells #[.string (nmB (kindR 1 s).1.text), .int .i64 0, .slice none 0 0, .slice none 0 0] 65) := ⟨_, rfl⟩
  rw [← hw2] at H0 ⊢
  clear hw2 hfb hfd
  have HX := Lib.hid (expect_r [40] w2 H0.out.ra)
  go_wp2_with fail
  refine HX.out.mono ?_
  rintro e w3 ⟨⟨v3, rfl⟩, hp3, hg3⟩
  have H3 := Lib.hid (H0.out.step plt hg3 hp3)
  clear HX hp3 hg3 H0
  have HA := Lib.hid (accept_r [41] w3 H3.out.ra)
  go_wp2_with fail
  refine HA.out.mono ?_
  rintro e w4 ⟨rfl, hp4, hg4⟩
  have hl1 := kindR_len 1 s
  have hl2 := expectR_len [40] (kindR 1 s).2
  rcases HPC.out with ⟨hv, rfl, rfl⟩ | ⟨hv, hpar⟩
  · rw [accR_yes hv] at hp4
    have H := Lib.hid (H3.out.step plt hg4 hp4)
    have hb := HQB.out
    have hbk := HBK.out
    clear hp4 hg4 HA H3 HPC HQB HBK
    have hLL := Lib.hid (show (popR (expectR [40] (kindR 1 s).2)).rest.length ≤ s.rest.length by rw [popR_len]; omega)
    clear hl1 hl2
    have HBc := Lib.hid (hbk p tb (popR (expectR [40] (kindR 1 s).2)) s' bd w4 H.out.ra hb)
    clear hb
    go_wp2_with fail
    refine HBc.out.mono ?_
    rintro e wb ⟨Db, db, Ab, mb, cb, rfl, hmb, hrb, hpb, hgb, hlb⟩
    have hsb := H.out.lt
    have hsl := H.out.flt
    have hszt := H.out.gr.size
    have HB := Lib.hid (H.out.step plt hgb hpb)
    have HRb := Lib.hid hrb
    have HMb := Lib.hid hmb
    have HLb := Lib.hid hlb
    have hrow := HB.out.row
    have b0 := cell_of_row _ _ 0 _ _ _ hrow
    have b1 := cell_of_row _ _ 1 _ _ _ hrow
    have b2 := cell_of_row _ _ 2 _ _ _ hrow
    have b3 := cell_of_row _ _ 3 _ _ _ hrow
    have f3 := rp_fz hrow 3
    have hszb := hgb.size
    clear hmb hrb hpb hgb hlb HBc H hrow
    go_wp2_with (with_reducible refine rf_pause ?_)
    refine Pause.of (wpList_store_new _ rfl _ _ _ rfl w.heap.size _ rfl (by rfl) _ _ (fn_zero HB.out) (by kernel_rfl) (by rfl) (by simp [Value.oneCell']) ?_)
    intro w9 hrow9 hg9
    have j0 := cell_of_row _ _ 0 _ _ _ hrow9
    have j1 := cell_of_row _ _ 1 _ _ _ hrow9
    have j2 := cell_of_row _ _ 2 _ _ _ hrow9
    have j3 := cell_of_row _ _ 3 _ _ _ hrow9
    have HH := Lib.hid (fn_endR (s := s) HB.out HMb.out HRb.out (by omega) (by have := HLb.out; have := hLL.out; omega) plt tlt hg9)
    clear hrow9 hg9 b0 b1 b2 b3 f3
    go_wp2_with fail
    exact bodyPost_ret (by simp [results, Try.results42, go_sem, j0, j1, j2, j3]) rfl HH.out
  · rw [accR_no hv] at hp4
    have H := Lib.hid (H3.out.step plt hg4 hp4)
    have HPR := Lib.hid hpar
    have HL12 := Lib.hid (show (kindR 1 (expectR [40] (kindR 1 s).2)).2.rest.length ≤ s.rest.length by have := kindR_len 1 (expectR [40] (kindR 1 s).2); omega)
    clear hp4 hg4 HA H3 HPC hpar hl1 hl2
    have hsb := H.out.lt
    have hsl := H.out.flt
    have hszw := H.out.gr.size
    have hr0 := H.out.row
    have b2 := cell_of_row _ _ 2 _ _ _ hr0
    clear hr0
    have HK := Lib.hid (show Calls Try.prog 58 #[.pointer (some ⟨p, 0, none⟩), .int .i64 1] w4.drew (fun e w' => e = .returned (.agg #[.int .i64 ((kindR 1 (expectR [40] (kindR 1 s).2)).1.kind : Int), .int .i64 ((kindR 1 (expectR [40] (kindR 1 s).2)).1.line : Int), .int .i64 ((kindR 1 (expectR [40] (kindR 1 s).2)).1.value : Int), .string (nmB (kindR 1 (expectR [40] (kindR 1 s).2)).1.text)]) ∧ RA w' p tb (kindR 1 (expectR [40] (kindR 1 s).2)).2 ∧ World.grownBy w4.drew w' (some p)) from kind_r 1 w4.drew H.out.ra.drew (by omega))
    have hfd : ∀ w : World, (Instr.field 90 (.agg #[.int .i64 ((kindR 1 (expectR [40] (kindR 1 s).2)).1.kind : Int), .int .i64 ((kindR 1 (expectR [40] (kindR 1 s).2)).1.line : Int), .int .i64 ((kindR 1 (expectR [40] (kindR 1 s).2)).1.value : Int), .string (nmB (kindR 1 (expectR [40] (kindR 1 s).2)).1.text)]) 3).run Try.prog w = .ok (.string (nmB (kindR 1 (expectR [40] (kindR 1 s).2)).1.text)) w := fun _ => by kernel_rfl
    go_upto_region 4 with fail
    go_region_law
      (first
        | ((with_reducible refine step_append_g (k := 1) (T := 9) (S := 62) (V := MStr) w14 rfl (.tmp 14) (.tmp 18) rfl mstr_keeps (.string ⟨#[]⟩) 16 Try.underlying62 infoStrR rfl (by decide) (by decide) (fb + 1) (.slice none 0 0) ([] : List ByteArray) ([] : List Value) (nmB (kindR 1 (expectR [40] (kindR 1 s).2)).1.text) [.string (nmB (kindR 1 (expectR [40] (kindR 1 s).2)).1.text)] (fun _ => False) rfl rfl HPS6.out (Nat.zero_le _) (by omega) rfl (one_str _) (mstr_self _ _ _) (fun b hb => hb.elim) ?_); intro g8 cap8 w15 hps8 hg8 _; have hb8 := (below_own HPS6.out.own hg8 (by omega)); have hrow8 := ((hb8.block fb (by omega)).trans HRow6.out); have q2 := (cell_of_row _ _ 2 _ _ _ hrow8); have g2 := (rp_fz hrow8 2); have HPS8 := Lib.hid hps8; have HB8 := Lib.hid hb8; clear hps8 hg8 hb8 hrow8)
        | (go_simp; go_at_call 58; (with_reducible refine HK.out.mono ?_); rintro e w14 ⟨rfl, hp6, hg6⟩; dsimp only; have hg6' := (grown_drew0 hg6); have hsw14 := hg6'.size; have hsl14 : fb < w14.heap.size := Nat.lt_of_lt_of_le hsl hg6'.size; have H14 := Lib.hid (H.out.step plt hg6' hp6); have hrow6 := H14.out.row; have d2 := (cell_of_row _ _ 2 _ _ _ hrow6); have HRow6 := Lib.hid hrow6; have HPS6 := Lib.hid H14.out.ps; clear hg6 hg6' hp6 hrow6))
    all_goals
      have hSM := HSM.out
      have hLL := HL12.out
      have HR : Hid (ParR p tb fb ((kindR 1 (expectR [40] (kindR 1 s).2)).2.rest.length + 2) (nmB (kindR 1 s).1.text) ps s s1 w (w15.setCell ⟨fb, 2, none⟩ (.slice (some ⟨g8, 0, none⟩) 1 cap8))) := Lib.hid ⟨_, [nmB (kindR 1 (expectR [40] (kindR 1 s).2)).1.text], _, _, _, _, _, HPR.out, rfl, H14.out.push plt tlt HPS8.out HB8.out, hLL, by simp; omega⟩
      have hsb15 := HB8.out.size
      obtain ⟨wz, hwz⟩ : ∃ wz, wz = w15.setCell ⟨fb, 2, none⟩ (.slice (some ⟨g8, 0, none⟩) 1 cap8) := ⟨_, rfl⟩
      rw [← hwz] at HR ⊢
      clear hwz q2 g2 d2 b2 HPR hSM hLL H14 HPS8 HB8 HRow6 HPS6 H HK hfd
      go_wp2_with fail
      go_loopw [21] (fun _ wr => ParR p tb fb ((kindR 1 (expectR [40] (kindR 1 s).2)).2.rest.length + 2) (nmB (kindR 1 s).1.text) ps s s1 w wr) (fun _ wr => ((kindR 1 (expectR [40] (kindR 1 s).2)).2.rest.length + 2) - parLen wr fb)
      case atStart => exact HR.out
      case round =>
        obtain ⟨n, xs, ss, A, m, c, L, hpar, hn, hU, hl, hx⟩ := hrel
        have hm := hU.hm
        subst hm
        clear HR
        have HU := Lib.hid hU
        have HPAR := Lib.hid hU.par
        have HP := Lib.hid hpar
        have HN := Lib.hid hn
        have Hl := Lib.hid hl
        have HX := Lib.hid hx
        have HA2 := Lib.hid (accept_r [44] wr hU.ra)
        clear hpar hn hU hl hx
        go_wp2_with fail
        refine HA2.out.mono ?_
        rintro e wc ⟨rfl, hp2, hg2⟩
        cases hv2 : isR [44] ss with
        | true =>
          obtain ⟨n', rfl, hpar⟩ := paramsR_yes HP.out hv2
          rw [accR_yes hv2] at hp2
          have H := Lib.hid (HU.out.step plt hg2 hp2)
          have h22 := isR_two HU.out.ra.wf hv2
          have HXL := Lib.hid (show xs.length ≤ 1000000 by have := HX.out; omega)
          have H22 := Lib.hid h22
          have HPR := Lib.hid hpar
          clear hp2 hg2 HA2 hpar h22 HP
          have hsb := H.out.lt
          have hsl := H.out.flt
          have hszw := H.out.gr.size
          have hr0 := H.out.row
          have b2 := cell_of_row _ _ 2 _ _ _ hr0
          clear hr0
          have HK := Lib.hid (show Calls Try.prog 58 #[.pointer (some ⟨p, 0, none⟩), .int .i64 1] wc.drew (fun e w' => e = .returned (.agg #[.int .i64 ((kindR 1 (popR ss)).1.kind : Int), .int .i64 ((kindR 1 (popR ss)).1.line : Int), .int .i64 ((kindR 1 (popR ss)).1.value : Int), .string (nmB (kindR 1 (popR ss)).1.text)]) ∧ RA w' p tb (kindR 1 (popR ss)).2 ∧ World.grownBy wc.drew w' (some p)) from kind_r 1 wc.drew H.out.ra.drew (by omega))
          have hfd : ∀ w : World, (Instr.field 90 (.agg #[.int .i64 ((kindR 1 (popR ss)).1.kind : Int), .int .i64 ((kindR 1 (popR ss)).1.line : Int), .int .i64 ((kindR 1 (popR ss)).1.value : Int), .string (nmB (kindR 1 (popR ss)).1.text)]) 3).run Try.prog w = .ok (.string (nmB (kindR 1 (popR ss)).1.text)) w := fun _ => by kernel_rfl
          go_upto_region 6 with fail
          go_region_law
            (first
              | ((with_reducible refine step_append_g (k := 1) (T := 9) (S := 62) (V := MStr) w14 rfl (.tmp 24) (.tmp 28) rfl mstr_keeps (.string ⟨#[]⟩) 16 Try.underlying62 infoStrR rfl (by decide) (by decide) (fb + 1) (.slice A xs.length c) xs L (nmB (kindR 1 (popR ss)).1.text) [.string (nmB (kindR 1 (popR ss)).1.text)] (fun _ => False) rfl rfl HPS6.out HXL.out (by omega) rfl (one_str _) (mstr_self _ _ _) (fun b hb => hb.elim) ?_); intro g8 cap8 w15 hps8 hg8 _; have hb8 := (below_own HPS6.out.own hg8 (by omega)); have hrow8 := ((hb8.block fb (by omega)).trans HRow6.out); have q2 := (cell_of_row _ _ 2 _ _ _ hrow8); have g2 := (rp_fz hrow8 2); have HPS8 := Lib.hid hps8; have HB8 := Lib.hid hb8; clear hps8 hg8 hb8 hrow8)
              | (go_simp; go_at_call 58; (with_reducible refine HK.out.mono ?_); rintro e w14 ⟨rfl, hp6, hg6⟩; dsimp only; have hg6' := (grown_drew0 hg6); have hsw14 := hg6'.size; have hsl14 : fb < w14.heap.size := Nat.lt_of_lt_of_le hsl hg6'.size; have H14 := Lib.hid (H.out.step plt hg6' hp6); have hrow6 := H14.out.row; have d2 := (cell_of_row _ _ 2 _ _ _ hrow6); have HRow6 := Lib.hid hrow6; have HPS6 := Lib.hid H14.out.ps; clear hg6 hg6' hp6 hrow6))
          all_goals
            have h22 := H22.out
            have hkl := kindR_len 1 (popR ss)
            rw [popR_len] at hkl
            have hu15 := H14.out.push plt tlt HPS8.out HB8.out
            have HE : Hid (ParR p tb fb ((kindR 1 (expectR [40] (kindR 1 s).2)).2.rest.length + 2) (nmB (kindR 1 s).1.text) ps s s1 w (w15.setCell ⟨fb, 2, none⟩ (.slice (some ⟨g8, 0, none⟩) (xs.length + 1) cap8)) ∧ ((kindR 1 (expectR [40] (kindR 1 s).2)).2.rest.length + 2) - parLen (w15.setCell ⟨fb, 2, none⟩ (.slice (some ⟨g8, 0, none⟩) (xs.length + 1) cap8)) fb < ((kindR 1 (expectR [40] (kindR 1 s).2)).2.rest.length + 2) - parLen wr fb) := Lib.hid ⟨⟨n', xs ++ [nmB (kindR 1 (popR ss)).1.text], _, _, _, _, _, HPR.out, by have := HN.out; simp; omega, hu15, by have := Hl.out; omega, by have := HX.out; simp; omega⟩, by rw [hu15.par, HPAR.out]; have := HN.out; simp; omega⟩
            clear q2 g2 d2 b2 hu15 h22 hkl
            go_wp2_with fail
            exact HE.out
        | false =>
          obtain ⟨rfl, rfl⟩ := paramsR_no HP.out hv2
          rw [accR_no hv2] at hp2
          have HU2 := Lib.hid (HU.out.step plt hg2 hp2)
          have HX8 := Lib.hid (expect_r [41] wc HU2.out.ra)
          clear hp2 hg2 HA2 HU
          go_wp2_with fail
          refine HX8.out.mono ?_
          rintro e wt ⟨⟨vt, rfl⟩, hpt, hgt⟩
          have H := Lib.hid (HU2.out.step plt hgt hpt)
          have hb := HQB.out
          have hbk := HBK.out
          have hxl2 := expectR_len [41] ss
          have hLL := Lib.hid (show (expectR [41] ss).rest.length ≤ s.rest.length by have := Hl.out; omega)
          clear hpt hgt HX8 HU2 hxl2 HP HN Hl HX HPAR
          have HBc := Lib.hid (hbk p tb (expectR [41] ss) s' bd wt H.out.ra hb)
          clear hb
          go_wp2_with fail
          refine HBc.out.mono ?_
          rintro e wb ⟨Db, db, Ab, mb, cb, rfl, hmb, hrb, hpb, hgb, hlb⟩
          have hsb := H.out.lt
          have hsl := H.out.flt
          have hszt := H.out.gr.size
          have HB := Lib.hid (H.out.step plt hgb hpb)
          have HRb := Lib.hid hrb
          have HMb := Lib.hid hmb
          have HLb := Lib.hid hlb
          have hrow := HB.out.row
          have b0 := cell_of_row _ _ 0 _ _ _ hrow
          have b1 := cell_of_row _ _ 1 _ _ _ hrow
          have b2 := cell_of_row _ _ 2 _ _ _ hrow
          have b3 := cell_of_row _ _ 3 _ _ _ hrow
          have f3 := rp_fz hrow 3
          have hszb := hgb.size
          clear hmb hrb hpb hgb hlb HBc H hrow
          go_wp2_with (with_reducible refine rf_pause ?_)
          refine Pause.of (wpList_store_new _ rfl _ _ _ rfl w.heap.size _ rfl (by rfl) _ _ (fn_zero HB.out) (by kernel_rfl) (by rfl) (by simp [Value.oneCell']) ?_)
          intro w9 hrow9 hg9
          have j0 := cell_of_row _ _ 0 _ _ _ hrow9
          have j1 := cell_of_row _ _ 1 _ _ _ hrow9
          have j2 := cell_of_row _ _ 2 _ _ _ hrow9
          have j3 := cell_of_row _ _ 3 _ _ _ hrow9
          have HH := Lib.hid (fn_endR (s := s) HB.out HMb.out HRb.out (by omega) (by have := HLb.out; have := hLL.out; omega) plt tlt hg9)
          clear hrow9 hg9 b0 b1 b2 b3 f3
          go_wp2_with fail
          exact bodyPost_ret (by simp [results, Try.results42, go_sem, j0, j1, j2, j3]) rfl HH.out
end Go.Proofs.Ytjmbllbnlnjanaa
namespace Go.Proofs.Ytjmbllbnlnjanaa
open Go.RowKit

theorem RR.wrongSet {w : World} {p tb a c N : Nat} {s : RS} (h : RR w p tb a c N s) (l : Nat) : RR (w.setCell ⟨p, 3, none⟩ (.int .i64 (l : Int))) p tb a c N { s with wrong := l } := by
  obtain ⟨T, hr⟩ := h.row
  exact ⟨h.wf, h.ne, h.len, h.cap, h.sm, ⟨T, row_set (i := 3) (.int .i64 (l : Int)) hr⟩, fun k t hk => (h.tok k t hk).keep ((set_grown w ⟨p, 3, none⟩ _).block tb h.tlt (fun e => by injection e with e; exact h.ne e))⟩
theorem sizeR_len (t : Tok) (s : RS) : (sizeR t s).rest.length = s.rest.length := by
  unfold sizeR
  split <;> rfl
def zeroGl : Obj := .cells #[.string { data := #[] }, .int .i64 0] 68
/-- A global is handed back, and the reader stands at s'. -/
def GlRG (p tb : Nat) (g : ByteArray × Int) (s s' : RS) (w : World) (e : Ending) (w' : World) : Prop := e = .returned (.agg #[.string g.1, .int .i64 g.2]) ∧ RA w' p tb s' ∧ w.grownBy w' (some p) ∧ s'.rest.length ≤ s.rest.length
/-- A global under way in its block. -/
structure GlU (p tb gb : Nat) (nm : ByteArray) (sz : Int) (s : RS) (w wr : World) : Prop where
  ra : RA wr p tb s
  gr : w.grownBy wr (some p)
  z : wr.heap[w.heap.size]? = some zeroGl
  lt : w.heap.size < gb
  row : wr.heap[gb]? = some (.cells #[.string nm, .int .i64 sz] 68 (0, 0))
theorem GlU.step {p tb gb : Nat} {nm : ByteArray} {sz : Int} {s s' : RS} {w wr w' : World} (h : GlU p tb gb nm sz s w wr) (hp : p < w.heap.size) (hg : wr.grownBy w' (some p)) (ha : RA w' p tb s') : GlU p tb gb nm sz s' w w' := by
  have hlt := h.lt
  exact ⟨ha, h.gr.trans hg, blk_keep hg (by omega) h.z, h.lt, blk_keep hg (by omega) h.row⟩
theorem GlU.size {p tb gb : Nat} {nm : ByteArray} {sz : Int} {s : RS} {w wr : World} (h : GlU p tb gb nm sz s w wr) (hp : p < w.heap.size) (ht : tb < w.heap.size) (sz' : Int) : GlU p tb gb nm sz' s w (wr.setCell ⟨gb, 1, none⟩ (.int .i64 sz')) := by
  have hlt := h.lt
  have hg : wr.grownBy (wr.setCell ⟨gb, 1, none⟩ (.int .i64 sz')) (some gb) := set_grown wr ⟨gb, 1, none⟩ _
  exact ⟨h.ra.other hg (by omega) (by omega), grown_new h.gr hg (by omega), blk_keep hg (by omega) h.z, h.lt, row_set (i := 1) (.int .i64 sz') h.row⟩
theorem GlU.glt {p tb gb : Nat} {nm : ByteArray} {sz : Int} {s : RS} {w wr : World} (h : GlU p tb gb nm sz s w wr) : gb < wr.heap.size := (Array.getElem?_eq_some_iff.1 h.row).1
/-- A store of a global that stands still. -/
theorem rg_pause {P : Program} {w : World} {ops : Array Oper} {rest : List Oper} {d : Option Tmp} {ty : TypeId} {x y : Operand} {pos : String} {af : Array Edge} {gd : Option (Nat × Bool)} {a : Act} {Q : Exit → Act → World → Prop}
    (h : Pause (wpList P ops Q ({ dst := d, op := .store 68 x y, type := ty, pos := pos, after := af, guard := gd } :: rest) a w)) : wpList P ops Q ({ dst := d, op := .store 68 x y, type := ty, pos := pos, after := af, guard := gd } :: rest) a w := h
theorem gl_endR {p tb gb : Nat} {nm : ByteArray} {sz : Int} {s s' : RS} {w wr w9 : World} (h : GlU p tb gb nm sz s' w wr) (hl : s'.rest.length ≤ s.rest.length) (hp : p < w.heap.size) (ht : tb < w.heap.size) (hg9 : wr.grownBy w9 (some w.heap.size)) : GlRG p tb (nm, sz) s s' w (.returned (.agg #[.string nm, .int .i64 sz])) w9 :=
  ⟨rfl, h.ra.other hg9 (by omega) (by omega), grown_new h.gr hg9 (Nat.le_refl _), hl⟩
/-- The size's own line is kept if it is out of its range. -/
theorem sizeR_cases (t : Tok) (s : RS) : ((s.bad = false ∧ (t.value < 1 ∨ 1024 < t.value) ∧ s.wrong = 0) ∧ sizeR t s = { s with wrong := t.line }) ∨ (¬ (s.bad = false ∧ (t.value < 1 ∨ 1024 < t.value) ∧ s.wrong = 0) ∧ sizeR t s = s) := by
  unfold sizeR
  split
  · exact .inl ⟨by assumption, rfl⟩
  · exact .inr ⟨by assumption, rfl⟩
set_option maxRecDepth 100000 in
set_option maxHeartbeats 8000000 in
theorem global_r (p tb : Nat) (s : RS) (w : World) (h : RA w p tb s) : Calls Try.prog 40 #[.pointer (some ⟨p, 0, none⟩)] w (GlRG p tb (globalR s).1 s (globalR s).2 w) := by
  have plt := h.lt.1
  have tlt := h.lt.2.1
  have HK := Lib.hid (show Calls Try.prog 58 #[.pointer (some ⟨p, 0, none⟩), .int .i64 1] (w.alloc zeroGl) (fun e w' => e = .returned (.agg #[.int .i64 ((kindR 1 s).1.kind : Int), .int .i64 ((kindR 1 s).1.line : Int), .int .i64 ((kindR 1 s).1.value : Int), .string (nmB (kindR 1 s).1.text)]) ∧ RA w' p tb (kindR 1 s).2 ∧ World.grownBy (w.alloc zeroGl) w' (some p)) from kind_r 1 (w.alloc zeroGl) (h.alloc _) (by omega))
  have hfd : ∀ w : World, (Instr.field 90 (.agg #[.int .i64 ((kindR 1 s).1.kind : Int), .int .i64 ((kindR 1 s).1.line : Int), .int .i64 ((kindR 1 s).1.value : Int), .string (nmB (kindR 1 s).1.text)]) 3).run Try.prog w = .ok (.string (nmB (kindR 1 s).1.text)) w := fun _ => by kernel_rfl
  have hb0 := (Below.refl _ w).alloc (Nat.le_refl _) zeroGl
  have HB0 := Lib.hid hb0
  have HGl := Lib.hid (show globalR s = globalR s from rfl)
  unfold zeroGl at HK
  clear h hb0 HGl
  go_enter Try.func40, Try.ntmps40
  go_wp2_with fail
  refine HK.out.mono ?_
  rintro e w1 ⟨rfl, hp1, hg1⟩
  have hsz1 : w.heap.size + 1 ≤ w1.heap.size := by have := hg1.size; simpa using this
  have hba := (Below.refl _ w1).alloc (Nat.le_refl _) (.cells #[.string (nmB (kindR 1 s).1.text), .int .i64 0] 68)
  have H0 : Hid (GlU p tb w1.heap.size (nmB (kindR 1 s).1.text) 0 (kindR 1 s).2 w (w1.alloc (.cells #[.string (nmB (kindR 1 s).1.text), .int .i64 0] 68))) := Lib.hid ⟨hp1.alloc _, ((grown_of_below HB0.out (some p)).trans hg1).trans (grown_of_below hba _), (hba.block _ (by omega)).trans ((hg1.block _ (by simp) (fun e => by injection e with e; omega)).trans (heap_alloc_new w zeroGl)), by omega, heap_alloc_new _ _⟩
  clear HK hp1 hg1 hba HB0
  go_upto_region 2 with fail
  obtain ⟨gb, hgb⟩ : ∃ gb, gb = w1.heap.size := ⟨_, rfl⟩
  rw [← hgb] at H0 ⊢
  obtain ⟨w2, hw2⟩ : ∃ w2, w2 = w1.alloc (.cells #[.string (nmB (kindR 1 s).1.text), .int .i64 0] 68) := ⟨_, rfl⟩
  rw [← hw2] at H0 ⊢
  clear hw2 hgb hfd
  have HA := Lib.hid (accept_r [91] w2 H0.out.ra)
  go_wp2_with fail
  refine HA.out.mono ?_
  rintro e w3 ⟨rfl, hp3, hg3⟩
  cases hv : isR [91] (kindR 1 s).2 with
  | true =>
    rw [accR_yes hv] at hp3
    have HGR := Lib.hid (show globalR s = ((nmB (kindR 1 s).1.text, ((kindR 2 (popR (kindR 1 s).2)).1.value : Int)), expectR [59] (expectR [93] (sizeR (kindR 2 (popR (kindR 1 s).2)).1 (kindR 2 (popR (kindR 1 s).2)).2))) by unfold globalR; rw [if_pos hv])
    have H3 := Lib.hid (H0.out.step plt hg3 hp3)
    clear hp3 hg3 HA H0
    have HK := Lib.hid (show Calls Try.prog 58 #[.pointer (some ⟨p, 0, none⟩), .int .i64 2] w3 (fun e w' => e = .returned (.agg #[.int .i64 ((kindR 2 (popR (kindR 1 s).2)).1.kind : Int), .int .i64 ((kindR 2 (popR (kindR 1 s).2)).1.line : Int), .int .i64 ((kindR 2 (popR (kindR 1 s).2)).1.value : Int), .string (nmB (kindR 2 (popR (kindR 1 s).2)).1.text)]) ∧ RA w' p tb (kindR 2 (popR (kindR 1 s).2)).2 ∧ World.grownBy w3 w' (some p)) from kind_r 2 w3 H3.out.ra (by omega))
    have hsb := H3.out.lt
    have hsl := H3.out.glt
    go_wp2_with fail
    refine HK.out.mono ?_
    rintro e w5 ⟨rfl, hp5, hg5⟩
    have hsz5 := hg5.size
    have H5 := H3.out.step plt hg5 hp5
    have hbt := (Below.refl _ w5).alloc (Nat.le_refl _) (.cells #[.int .i64 ((kindR 2 (popR (kindR 1 s).2)).1.kind : Int), .int .i64 ((kindR 2 (popR (kindR 1 s).2)).1.line : Int), .int .i64 ((kindR 2 (popR (kindR 1 s).2)).1.value : Int), .string (nmB (kindR 2 (popR (kindR 1 s).2)).1.text)] 90)
    have H5a := Lib.hid (H5.step plt (grown_of_below hbt _) (H5.ra.below hbt))
    have ht5 := heap_alloc_new w5 (.cells #[.int .i64 ((kindR 2 (popR (kindR 1 s).2)).1.kind : Int), .int .i64 ((kindR 2 (popR (kindR 1 s).2)).1.line : Int), .int .i64 ((kindR 2 (popR (kindR 1 s).2)).1.value : Int), .string (nmB (kindR 2 (popR (kindR 1 s).2)).1.text)] 90)
    have r1 := cell_of_row _ _ 1 _ _ _ ht5
    have r2 := cell_of_row _ _ 2 _ _ _ ht5
    have HT5 := Lib.hid ht5
    clear hp5 hg5 hbt ht5 H3 HK H5
    obtain ⟨a, c, N, hr⟩ := H5a.out.ra
    have c2 := hr.cells.2.2.1
    have c3 := hr.cells.2.2.2.1
    have f3 := hr.cells.2.2.2.2 3
    have HRR := Lib.hid hr
    have plt5 := hr.plt
    clear hr
    have HSC := Lib.hid (sizeR_cases (kindR 2 (popR (kindR 1 s).2)).1 (kindR 2 (popR (kindR 1 s).2)).2)
    rcases HSC.out with ⟨⟨hbad, hval, hwr⟩, hsz⟩ | ⟨hno, hsz⟩
    · rw [hbad] at c2
      rw [hwr] at c3
      have hq : (w5.alloc (.cells #[.int .i64 ((kindR 2 (popR (kindR 1 s).2)).1.kind : Int), .int .i64 ((kindR 2 (popR (kindR 1 s).2)).1.line : Int), .int .i64 ((kindR 2 (popR (kindR 1 s).2)).1.value : Int), .string (nmB (kindR 2 (popR (kindR 1 s).2)).1.text)] 90)).grownBy ((w5.alloc (.cells #[.int .i64 ((kindR 2 (popR (kindR 1 s).2)).1.kind : Int), .int .i64 ((kindR 2 (popR (kindR 1 s).2)).1.line : Int), .int .i64 ((kindR 2 (popR (kindR 1 s).2)).1.value : Int), .string (nmB (kindR 2 (popR (kindR 1 s).2)).1.text)] 90)).setCell ⟨p, 3, none⟩ (.int .i64 ((kindR 2 (popR (kindR 1 s).2)).1.line : Int))) (some p) := set_grown _ ⟨p, 3, none⟩ _
      have H6 : Hid (GlU p tb gb (nmB (kindR 1 s).1.text) 0 (sizeR (kindR 2 (popR (kindR 1 s).2)).1 (kindR 2 (popR (kindR 1 s).2)).2) w ((w5.alloc (.cells #[.int .i64 ((kindR 2 (popR (kindR 1 s).2)).1.kind : Int), .int .i64 ((kindR 2 (popR (kindR 1 s).2)).1.line : Int), .int .i64 ((kindR 2 (popR (kindR 1 s).2)).1.value : Int), .string (nmB (kindR 2 (popR (kindR 1 s).2)).1.text)] 90)).setCell ⟨p, 3, none⟩ (.int .i64 ((kindR 2 (popR (kindR 1 s).2)).1.line : Int)))) := Lib.hid (H5a.out.step plt hq (by rw [hsz]; exact ⟨_, _, _, HRR.out.wrongSet _⟩))
      have ht6 := blk_keep hq (by omega) HT5.out
      have q2 := cell_of_row _ _ 2 _ _ _ ht6
      clear hq ht6 hbad hwr hsz HSC hv HT5
      rcases hval with hval | hval
      · have hval' : ((kindR 2 (popR (kindR 1 s).2)).1.value : Int) < 1 := by omega
        clear hval
        have hrow6 := H6.out.row
        have b1 := cell_of_row _ _ 1 _ _ _ hrow6
        have f1 := rp_fz hrow6 1
        have H := Lib.hid (H6.out.size plt tlt (((kindR 2 (popR (kindR 1 s).2)).1.value : Nat) : Int))
        clear hrow6 H6
        have HX7 := Lib.hid (expect_r [93] (((w5.alloc (.cells #[.int .i64 ((kindR 2 (popR (kindR 1 s).2)).1.kind : Int), .int .i64 ((kindR 2 (popR (kindR 1 s).2)).1.line : Int), .int .i64 ((kindR 2 (popR (kindR 1 s).2)).1.value : Int), .string (nmB (kindR 2 (popR (kindR 1 s).2)).1.text)] 90)).setCell ⟨p, 3, none⟩ (.int .i64 ((kindR 2 (popR (kindR 1 s).2)).1.line : Int))).setCell ⟨gb, 1, none⟩ (.int .i64 (((kindR 2 (popR (kindR 1 s).2)).1.value : Nat) : Int))) H.out.ra)
        go_wp2_with fail
        refine HX7.out.mono ?_
        rintro e w7 ⟨⟨v7, rfl⟩, hp7, hg7⟩
        have H7 := Lib.hid (H.out.step plt hg7 hp7)
        clear hp7 hg7 HX7 H b1 f1
        have HX8 := Lib.hid (expect_r [59] w7 H7.out.ra)
        go_wp2_with fail
        refine HX8.out.mono ?_
        rintro e w8 ⟨⟨v8, rfl⟩, hp8, hg8⟩
        have H := Lib.hid (H7.out.step plt hg8 hp8)
        clear hp8 hg8 HX8 H7
        have hrow := H.out.row
        have b0 := cell_of_row _ _ 0 _ _ _ hrow
        have b1 := cell_of_row _ _ 1 _ _ _ hrow
        clear hrow
        go_wp2_with (with_reducible refine rg_pause ?_)
        refine Pause.of (wpList_store_new _ rfl _ _ _ rfl w.heap.size _ rfl (by rfl) _ _ H.out.z (by kernel_rfl) (by rfl) (by simp [Value.oneCell']) ?_)
        intro w9 hrow9 hg9
        have j0 := cell_of_row _ _ 0 _ _ _ hrow9
        have j1 := cell_of_row _ _ 1 _ _ _ hrow9
        have hH := gl_endR (s := s) H.out (by have h1 := expectR_len [59] (expectR [93] (sizeR (kindR 2 (popR (kindR 1 s).2)).1 (kindR 2 (popR (kindR 1 s).2)).2)); have h2 := expectR_len [93] (sizeR (kindR 2 (popR (kindR 1 s).2)).1 (kindR 2 (popR (kindR 1 s).2)).2); have h3 := sizeR_len (kindR 2 (popR (kindR 1 s).2)).1 (kindR 2 (popR (kindR 1 s).2)).2; have h4 := kindR_len 2 (popR (kindR 1 s).2); have h5 := kindR_len 1 s; rw [popR_len] at h4; omega) plt tlt hg9
        have HH : Hid (GlRG p tb (globalR s).1 s (globalR s).2 w (.returned (.agg #[.string (nmB (kindR 1 s).1.text), .int .i64 (((kindR 2 (popR (kindR 1 s).2)).1.value : Nat) : Int)])) w9) := Lib.hid (by rw [HGR.out]; exact hH)
        clear hrow9 hg9 b0 b1 hH
        go_wp2_with fail
        exact bodyPost_ret (by simp [results, Try.results40, go_sem, j0, j1]) rfl HH.out
      · have hval' : 1024 < ((kindR 2 (popR (kindR 1 s).2)).1.value : Int) := by omega
        clear hval
        have hrow6 := H6.out.row
        have b1 := cell_of_row _ _ 1 _ _ _ hrow6
        have f1 := rp_fz hrow6 1
        have H := Lib.hid (H6.out.size plt tlt (((kindR 2 (popR (kindR 1 s).2)).1.value : Nat) : Int))
        clear hrow6 H6
        have HX7 := Lib.hid (expect_r [93] (((w5.alloc (.cells #[.int .i64 ((kindR 2 (popR (kindR 1 s).2)).1.kind : Int), .int .i64 ((kindR 2 (popR (kindR 1 s).2)).1.line : Int), .int .i64 ((kindR 2 (popR (kindR 1 s).2)).1.value : Int), .string (nmB (kindR 2 (popR (kindR 1 s).2)).1.text)] 90)).setCell ⟨p, 3, none⟩ (.int .i64 ((kindR 2 (popR (kindR 1 s).2)).1.line : Int))).setCell ⟨gb, 1, none⟩ (.int .i64 (((kindR 2 (popR (kindR 1 s).2)).1.value : Nat) : Int))) H.out.ra)
        go_wp2_with fail
        refine HX7.out.mono ?_
        rintro e w7 ⟨⟨v7, rfl⟩, hp7, hg7⟩
        have H7 := Lib.hid (H.out.step plt hg7 hp7)
        clear hp7 hg7 HX7 H b1 f1
        have HX8 := Lib.hid (expect_r [59] w7 H7.out.ra)
        go_wp2_with fail
        refine HX8.out.mono ?_
        rintro e w8 ⟨⟨v8, rfl⟩, hp8, hg8⟩
        have H := Lib.hid (H7.out.step plt hg8 hp8)
        clear hp8 hg8 HX8 H7
        have hrow := H.out.row
        have b0 := cell_of_row _ _ 0 _ _ _ hrow
        have b1 := cell_of_row _ _ 1 _ _ _ hrow
        clear hrow
        go_wp2_with (with_reducible refine rg_pause ?_)
        refine Pause.of (wpList_store_new _ rfl _ _ _ rfl w.heap.size _ rfl (by rfl) _ _ H.out.z (by kernel_rfl) (by rfl) (by simp [Value.oneCell']) ?_)
        intro w9 hrow9 hg9
        have j0 := cell_of_row _ _ 0 _ _ _ hrow9
        have j1 := cell_of_row _ _ 1 _ _ _ hrow9
        have hH := gl_endR (s := s) H.out (by have h1 := expectR_len [59] (expectR [93] (sizeR (kindR 2 (popR (kindR 1 s).2)).1 (kindR 2 (popR (kindR 1 s).2)).2)); have h2 := expectR_len [93] (sizeR (kindR 2 (popR (kindR 1 s).2)).1 (kindR 2 (popR (kindR 1 s).2)).2); have h3 := sizeR_len (kindR 2 (popR (kindR 1 s).2)).1 (kindR 2 (popR (kindR 1 s).2)).2; have h4 := kindR_len 2 (popR (kindR 1 s).2); have h5 := kindR_len 1 s; rw [popR_len] at h4; omega) plt tlt hg9
        have HH : Hid (GlRG p tb (globalR s).1 s (globalR s).2 w (.returned (.agg #[.string (nmB (kindR 1 s).1.text), .int .i64 (((kindR 2 (popR (kindR 1 s).2)).1.value : Nat) : Int)])) w9) := Lib.hid (by rw [HGR.out]; exact hH)
        clear hrow9 hg9 b0 b1 hH
        go_wp2_with fail
        exact bodyPost_ret (by simp [results, Try.results40, go_sem, j0, j1]) rfl HH.out
    · have H6 : Hid (GlU p tb gb (nmB (kindR 1 s).1.text) 0 (sizeR (kindR 2 (popR (kindR 1 s).2)).1 (kindR 2 (popR (kindR 1 s).2)).2) w (w5.alloc (.cells #[.int .i64 ((kindR 2 (popR (kindR 1 s).2)).1.kind : Int), .int .i64 ((kindR 2 (popR (kindR 1 s).2)).1.line : Int), .int .i64 ((kindR 2 (popR (kindR 1 s).2)).1.value : Int), .string (nmB (kindR 2 (popR (kindR 1 s).2)).1.text)] 90))) := Lib.hid (by rw [hsz]; exact H5a.out)
      clear hsz HSC hv HT5 f3
      cases hbad : (kindR 2 (popR (kindR 1 s).2)).2.bad with
      | true =>
        rw [hbad] at c2
        clear hno hbad
        have hrow6 := H6.out.row
        have b1 := cell_of_row _ _ 1 _ _ _ hrow6
        have f1 := rp_fz hrow6 1
        have H := Lib.hid (H6.out.size plt tlt (((kindR 2 (popR (kindR 1 s).2)).1.value : Nat) : Int))
        clear hrow6 H6
        have HX7 := Lib.hid (expect_r [93] ((w5.alloc (.cells #[.int .i64 ((kindR 2 (popR (kindR 1 s).2)).1.kind : Int), .int .i64 ((kindR 2 (popR (kindR 1 s).2)).1.line : Int), .int .i64 ((kindR 2 (popR (kindR 1 s).2)).1.value : Int), .string (nmB (kindR 2 (popR (kindR 1 s).2)).1.text)] 90)).setCell ⟨gb, 1, none⟩ (.int .i64 (((kindR 2 (popR (kindR 1 s).2)).1.value : Nat) : Int))) H.out.ra)
        go_wp2_with fail
        refine HX7.out.mono ?_
        rintro e w7 ⟨⟨v7, rfl⟩, hp7, hg7⟩
        have H7 := Lib.hid (H.out.step plt hg7 hp7)
        clear hp7 hg7 HX7 H b1 f1
        have HX8 := Lib.hid (expect_r [59] w7 H7.out.ra)
        go_wp2_with fail
        refine HX8.out.mono ?_
        rintro e w8 ⟨⟨v8, rfl⟩, hp8, hg8⟩
        have H := Lib.hid (H7.out.step plt hg8 hp8)
        clear hp8 hg8 HX8 H7
        have hrow := H.out.row
        have b0 := cell_of_row _ _ 0 _ _ _ hrow
        have b1 := cell_of_row _ _ 1 _ _ _ hrow
        clear hrow
        go_wp2_with (with_reducible refine rg_pause ?_)
        refine Pause.of (wpList_store_new _ rfl _ _ _ rfl w.heap.size _ rfl (by rfl) _ _ H.out.z (by kernel_rfl) (by rfl) (by simp [Value.oneCell']) ?_)
        intro w9 hrow9 hg9
        have j0 := cell_of_row _ _ 0 _ _ _ hrow9
        have j1 := cell_of_row _ _ 1 _ _ _ hrow9
        have hH := gl_endR (s := s) H.out (by have h1 := expectR_len [59] (expectR [93] (sizeR (kindR 2 (popR (kindR 1 s).2)).1 (kindR 2 (popR (kindR 1 s).2)).2)); have h2 := expectR_len [93] (sizeR (kindR 2 (popR (kindR 1 s).2)).1 (kindR 2 (popR (kindR 1 s).2)).2); have h3 := sizeR_len (kindR 2 (popR (kindR 1 s).2)).1 (kindR 2 (popR (kindR 1 s).2)).2; have h4 := kindR_len 2 (popR (kindR 1 s).2); have h5 := kindR_len 1 s; rw [popR_len] at h4; omega) plt tlt hg9
        have HH : Hid (GlRG p tb (globalR s).1 s (globalR s).2 w (.returned (.agg #[.string (nmB (kindR 1 s).1.text), .int .i64 (((kindR 2 (popR (kindR 1 s).2)).1.value : Nat) : Int)])) w9) := Lib.hid (by rw [HGR.out]; exact hH)
        clear hrow9 hg9 b0 b1 hH
        go_wp2_with fail
        exact bodyPost_ret (by simp [results, Try.results40, go_sem, j0, j1]) rfl HH.out
      | false =>
        rw [hbad] at c2
        by_cases hval : 1 ≤ (kindR 2 (popR (kindR 1 s).2)).1.value ∧ (kindR 2 (popR (kindR 1 s).2)).1.value ≤ 1024
        · obtain ⟨hv1, hv2⟩ := hval
          have hv1' : ¬ ((kindR 2 (popR (kindR 1 s).2)).1.value : Int) < 1 := by omega
          have hv2' : ¬ 1024 < ((kindR 2 (popR (kindR 1 s).2)).1.value : Int) := by omega
          clear hno hbad hv1 hv2
          have hrow6 := H6.out.row
          have b1 := cell_of_row _ _ 1 _ _ _ hrow6
          have f1 := rp_fz hrow6 1
          have H := Lib.hid (H6.out.size plt tlt (((kindR 2 (popR (kindR 1 s).2)).1.value : Nat) : Int))
          clear hrow6 H6
          have HX7 := Lib.hid (expect_r [93] ((w5.alloc (.cells #[.int .i64 ((kindR 2 (popR (kindR 1 s).2)).1.kind : Int), .int .i64 ((kindR 2 (popR (kindR 1 s).2)).1.line : Int), .int .i64 ((kindR 2 (popR (kindR 1 s).2)).1.value : Int), .string (nmB (kindR 2 (popR (kindR 1 s).2)).1.text)] 90)).setCell ⟨gb, 1, none⟩ (.int .i64 (((kindR 2 (popR (kindR 1 s).2)).1.value : Nat) : Int))) H.out.ra)
          go_wp2_with fail
          refine HX7.out.mono ?_
          rintro e w7 ⟨⟨v7, rfl⟩, hp7, hg7⟩
          have H7 := Lib.hid (H.out.step plt hg7 hp7)
          clear hp7 hg7 HX7 H b1 f1
          have HX8 := Lib.hid (expect_r [59] w7 H7.out.ra)
          go_wp2_with fail
          refine HX8.out.mono ?_
          rintro e w8 ⟨⟨v8, rfl⟩, hp8, hg8⟩
          have H := Lib.hid (H7.out.step plt hg8 hp8)
          clear hp8 hg8 HX8 H7
          have hrow := H.out.row
          have b0 := cell_of_row _ _ 0 _ _ _ hrow
          have b1 := cell_of_row _ _ 1 _ _ _ hrow
          clear hrow
          go_wp2_with (with_reducible refine rg_pause ?_)
          refine Pause.of (wpList_store_new _ rfl _ _ _ rfl w.heap.size _ rfl (by rfl) _ _ H.out.z (by kernel_rfl) (by rfl) (by simp [Value.oneCell']) ?_)
          intro w9 hrow9 hg9
          have j0 := cell_of_row _ _ 0 _ _ _ hrow9
          have j1 := cell_of_row _ _ 1 _ _ _ hrow9
          have hH := gl_endR (s := s) H.out (by have h1 := expectR_len [59] (expectR [93] (sizeR (kindR 2 (popR (kindR 1 s).2)).1 (kindR 2 (popR (kindR 1 s).2)).2)); have h2 := expectR_len [93] (sizeR (kindR 2 (popR (kindR 1 s).2)).1 (kindR 2 (popR (kindR 1 s).2)).2); have h3 := sizeR_len (kindR 2 (popR (kindR 1 s).2)).1 (kindR 2 (popR (kindR 1 s).2)).2; have h4 := kindR_len 2 (popR (kindR 1 s).2); have h5 := kindR_len 1 s; rw [popR_len] at h4; omega) plt tlt hg9
          have HH : Hid (GlRG p tb (globalR s).1 s (globalR s).2 w (.returned (.agg #[.string (nmB (kindR 1 s).1.text), .int .i64 (((kindR 2 (popR (kindR 1 s).2)).1.value : Nat) : Int)])) w9) := Lib.hid (by rw [HGR.out]; exact hH)
          clear hrow9 hg9 b0 b1 hH
          go_wp2_with fail
          exact bodyPost_ret (by simp [results, Try.results40, go_sem, j0, j1]) rfl HH.out
        · have hwr : (((kindR 2 (popR (kindR 1 s).2)).2.wrong : Int) == 0) = false := by
            have hne : (kindR 2 (popR (kindR 1 s).2)).2.wrong ≠ 0 := fun h => hno ⟨hbad, by omega, h⟩
            simp; omega
          have hval' : ((kindR 2 (popR (kindR 1 s).2)).1.value : Int) < 1 ∨ 1024 < ((kindR 2 (popR (kindR 1 s).2)).1.value : Int) := by omega
          clear hno hbad hval
          rcases hval' with hval' | hval'
          · skip
            have hrow6 := H6.out.row
            have b1 := cell_of_row _ _ 1 _ _ _ hrow6
            have f1 := rp_fz hrow6 1
            have H := Lib.hid (H6.out.size plt tlt (((kindR 2 (popR (kindR 1 s).2)).1.value : Nat) : Int))
            clear hrow6 H6
            have HX7 := Lib.hid (expect_r [93] ((w5.alloc (.cells #[.int .i64 ((kindR 2 (popR (kindR 1 s).2)).1.kind : Int), .int .i64 ((kindR 2 (popR (kindR 1 s).2)).1.line : Int), .int .i64 ((kindR 2 (popR (kindR 1 s).2)).1.value : Int), .string (nmB (kindR 2 (popR (kindR 1 s).2)).1.text)] 90)).setCell ⟨gb, 1, none⟩ (.int .i64 (((kindR 2 (popR (kindR 1 s).2)).1.value : Nat) : Int))) H.out.ra)
            go_wp2_with fail
            refine HX7.out.mono ?_
            rintro e w7 ⟨⟨v7, rfl⟩, hp7, hg7⟩
            have H7 := Lib.hid (H.out.step plt hg7 hp7)
            clear hp7 hg7 HX7 H b1 f1
            have HX8 := Lib.hid (expect_r [59] w7 H7.out.ra)
            go_wp2_with fail
            refine HX8.out.mono ?_
            rintro e w8 ⟨⟨v8, rfl⟩, hp8, hg8⟩
            have H := Lib.hid (H7.out.step plt hg8 hp8)
            clear hp8 hg8 HX8 H7
            have hrow := H.out.row
            have b0 := cell_of_row _ _ 0 _ _ _ hrow
            have b1 := cell_of_row _ _ 1 _ _ _ hrow
            clear hrow
            go_wp2_with (with_reducible refine rg_pause ?_)
            refine Pause.of (wpList_store_new _ rfl _ _ _ rfl w.heap.size _ rfl (by rfl) _ _ H.out.z (by kernel_rfl) (by rfl) (by simp [Value.oneCell']) ?_)
            intro w9 hrow9 hg9
            have j0 := cell_of_row _ _ 0 _ _ _ hrow9
            have j1 := cell_of_row _ _ 1 _ _ _ hrow9
            have hH := gl_endR (s := s) H.out (by have h1 := expectR_len [59] (expectR [93] (sizeR (kindR 2 (popR (kindR 1 s).2)).1 (kindR 2 (popR (kindR 1 s).2)).2)); have h2 := expectR_len [93] (sizeR (kindR 2 (popR (kindR 1 s).2)).1 (kindR 2 (popR (kindR 1 s).2)).2); have h3 := sizeR_len (kindR 2 (popR (kindR 1 s).2)).1 (kindR 2 (popR (kindR 1 s).2)).2; have h4 := kindR_len 2 (popR (kindR 1 s).2); have h5 := kindR_len 1 s; rw [popR_len] at h4; omega) plt tlt hg9
            have HH : Hid (GlRG p tb (globalR s).1 s (globalR s).2 w (.returned (.agg #[.string (nmB (kindR 1 s).1.text), .int .i64 (((kindR 2 (popR (kindR 1 s).2)).1.value : Nat) : Int)])) w9) := Lib.hid (by rw [HGR.out]; exact hH)
            clear hrow9 hg9 b0 b1 hH
            go_wp2_with fail
            exact bodyPost_ret (by simp [results, Try.results40, go_sem, j0, j1]) rfl HH.out
          · skip
            have hrow6 := H6.out.row
            have b1 := cell_of_row _ _ 1 _ _ _ hrow6
            have f1 := rp_fz hrow6 1
            have H := Lib.hid (H6.out.size plt tlt (((kindR 2 (popR (kindR 1 s).2)).1.value : Nat) : Int))
            clear hrow6 H6
            have HX7 := Lib.hid (expect_r [93] ((w5.alloc (.cells #[.int .i64 ((kindR 2 (popR (kindR 1 s).2)).1.kind : Int), .int .i64 ((kindR 2 (popR (kindR 1 s).2)).1.line : Int), .int .i64 ((kindR 2 (popR (kindR 1 s).2)).1.value : Int), .string (nmB (kindR 2 (popR (kindR 1 s).2)).1.text)] 90)).setCell ⟨gb, 1, none⟩ (.int .i64 (((kindR 2 (popR (kindR 1 s).2)).1.value : Nat) : Int))) H.out.ra)
            go_wp2_with fail
            refine HX7.out.mono ?_
            rintro e w7 ⟨⟨v7, rfl⟩, hp7, hg7⟩
            have H7 := Lib.hid (H.out.step plt hg7 hp7)
            clear hp7 hg7 HX7 H b1 f1
            have HX8 := Lib.hid (expect_r [59] w7 H7.out.ra)
            go_wp2_with fail
            refine HX8.out.mono ?_
            rintro e w8 ⟨⟨v8, rfl⟩, hp8, hg8⟩
            have H := Lib.hid (H7.out.step plt hg8 hp8)
            clear hp8 hg8 HX8 H7
            have hrow := H.out.row
            have b0 := cell_of_row _ _ 0 _ _ _ hrow
            have b1 := cell_of_row _ _ 1 _ _ _ hrow
            clear hrow
            go_wp2_with (with_reducible refine rg_pause ?_)
            refine Pause.of (wpList_store_new _ rfl _ _ _ rfl w.heap.size _ rfl (by rfl) _ _ H.out.z (by kernel_rfl) (by rfl) (by simp [Value.oneCell']) ?_)
            intro w9 hrow9 hg9
            have j0 := cell_of_row _ _ 0 _ _ _ hrow9
            have j1 := cell_of_row _ _ 1 _ _ _ hrow9
            have hH := gl_endR (s := s) H.out (by have h1 := expectR_len [59] (expectR [93] (sizeR (kindR 2 (popR (kindR 1 s).2)).1 (kindR 2 (popR (kindR 1 s).2)).2)); have h2 := expectR_len [93] (sizeR (kindR 2 (popR (kindR 1 s).2)).1 (kindR 2 (popR (kindR 1 s).2)).2); have h3 := sizeR_len (kindR 2 (popR (kindR 1 s).2)).1 (kindR 2 (popR (kindR 1 s).2)).2; have h4 := kindR_len 2 (popR (kindR 1 s).2); have h5 := kindR_len 1 s; rw [popR_len] at h4; omega) plt tlt hg9
            have HH : Hid (GlRG p tb (globalR s).1 s (globalR s).2 w (.returned (.agg #[.string (nmB (kindR 1 s).1.text), .int .i64 (((kindR 2 (popR (kindR 1 s).2)).1.value : Nat) : Int)])) w9) := Lib.hid (by rw [HGR.out]; exact hH)
            clear hrow9 hg9 b0 b1 hH
            go_wp2_with fail
            exact bodyPost_ret (by simp [results, Try.results40, go_sem, j0, j1]) rfl HH.out
  | false =>
    rw [accR_no hv] at hp3
    have HGR := Lib.hid (show globalR s = ((nmB (kindR 1 s).1.text, 0), expectR [59] (kindR 1 s).2) by unfold globalR; rw [if_neg (by rw [hv]; decide)])
    have H3 := Lib.hid (H0.out.step plt hg3 hp3)
    clear hp3 hg3 HA H0
    have HX8 := Lib.hid (expect_r [59] w3 H3.out.ra)
    go_wp2_with fail
    refine HX8.out.mono ?_
    rintro e w8 ⟨⟨v8, rfl⟩, hp8, hg8⟩
    have H := Lib.hid (H3.out.step plt hg8 hp8)
    clear hp8 hg8 HX8 H3
    have hrow := H.out.row
    have b0 := cell_of_row _ _ 0 _ _ _ hrow
    have b1 := cell_of_row _ _ 1 _ _ _ hrow
    clear hrow
    go_wp2_with (with_reducible refine rg_pause ?_)
    refine Pause.of (wpList_store_new _ rfl _ _ _ rfl w.heap.size _ rfl (by rfl) _ _ H.out.z (by kernel_rfl) (by rfl) (by simp [Value.oneCell']) ?_)
    intro w9 hrow9 hg9
    have j0 := cell_of_row _ _ 0 _ _ _ hrow9
    have j1 := cell_of_row _ _ 1 _ _ _ hrow9
    have hH := gl_endR (s := s) H.out (by have h1 := expectR_len [59] (kindR 1 s).2; have h5 := kindR_len 1 s; omega) plt tlt hg9
    have HH : Hid (GlRG p tb (globalR s).1 s (globalR s).2 w (.returned (.agg #[.string (nmB (kindR 1 s).1.text), .int .i64 0])) w9) := Lib.hid (by rw [HGR.out]; exact hH)
    clear hrow9 hg9 b0 b1 hH
    go_wp2_with fail
    exact bodyPost_ret (by simp [results, Try.results40, go_sem, j0, j1]) rfl HH.out
end Go.Proofs.Ytjmbllbnlnjanaa
namespace Go.Proofs.Ytjmbllbnlnjanaa
open Go.RowKit

theorem RowG.keep {α : Type} {k : Nat} {V : Means α} {F G : Nat → Prop} {w w' : World} {xs : List α} {A : Option Addr} {c : Nat} (hV : V.Keeps) (hFG : ∀ b, F b → G b) (hk : ∀ b, F b → w'.heap[b]? = w.heap[b]?) (h : RowG k V F w xs A c) : RowG k V G w' xs A c := by
  refine ⟨h.1, fun i x hi => ?_⟩
  obtain ⟨g, cs, h1, h2, h3, h4, h5⟩ := h.2 i x hi
  exact ⟨g, cs, h1, hFG g h2, h3, fun j u hu => (World.cell?_of_block (hk g h2)).trans (h4 j u hu), hV _ _ _ _ _ _ hFG hk h5⟩
/-- The cells of a function; what it holds lies in blocks of F. -/
def MFn (D d : Nat) : Means Fn := fun F w f cs => ∃ A m c bA bm bc, cs = [.string f.name, .int .i64 f.line, .slice A m c, .slice bA bm bc] ∧ m = f.params.length ∧ bm = f.body.length ∧ RowG 1 MStr F w f.params A c ∧ RowS F w D d f.body bA bc
theorem mfn_keeps (D d : Nat) : (MFn D d).Keeps := by
  intro F G w w' f cs hFG hk h
  obtain ⟨A, m, c, bA, bm, bc, h1, h2, h3, h4, h5⟩ := h
  exact ⟨A, m, c, bA, bm, bc, h1, h2, h3, h4.keep mstr_keeps hFG hk, RowS.keep hFG hk h5⟩
theorem MFn.up {D d : Nat} {F : Nat → Prop} {w : World} {f : Fn} {cs : List Value} (h : MFn D d F w f cs) (m n : Nat) : MFn (D + m) (d + (n + 1)) F w f cs := by
  obtain ⟨A, q, c, bA, bm, bc, h1, h2, h3, h4, h5⟩ := h
  exact ⟨A, q, c, bA, bm, bc, h1, h2, h3, h4, h5.more m n⟩
/-- The same, but for one block. -/
def MFnX (D d X : Nat) : Means Fn := fun F w f cs => MFn D d (fun b => F b ∧ b ≠ X) w f cs
theorem mfnx_keeps (D d X : Nat) : (MFnX D d X).Keeps := fun _ _ _ _ _ _ hFG hk h => mfn_keeps D d _ _ _ _ _ _ (fun b hb => ⟨hFG b hb.1, hb.2⟩) (fun b hb => hk b hb.1) h
theorem infoFnR : (Try.prog.info? 65).map (fun i => (i.zero, i.size, i.bytes)) = some (some (.agg #[.string ⟨#[]⟩, .int .i64 0, .slice none 0 0, .slice none 0 0]), 4, 72) := by kernel_rfl
set_option maxRecDepth 10000 in
/-- One element is appended; where the row lies. -/
theorem wpList_append_g2 {α : Type} {k : Nat} {T S : TypeId} {V : Means α} {ops : Array Oper} {rest : List Oper} {o : Oper} {a : Act} {Q : Exit → Act → World → Prop} (w : World) (hgd : o.guard = none) (s x : Operand)
    (ho : o.op = .call { callee := .builtin .append, args := #[s, x], argTypes := #[S, S] }) (hV : V.Keeps) (z : Value) (bytes : Nat) (ht : Try.prog.underlying S = some (.slice T)) (hinfo : (Try.prog.info? T).map (fun i => (i.zero, i.size, i.bytes)) = some (some z, k, bytes)) (hzs : z.cells.size = k) (hk0 : 0 < k) (hb0 : bytes ≤ 1000)
    (base : Nat) (v : Value) (xs : List α) (L : List Value) (y : α) (cs : List Value) (F : Nat → Prop)
    (hs : a.eval s = v) (hx : a.eval x = .slice (some ⟨w.heap.size, 0, none⟩) 1 1) (h : GRow k T V base w v xs L) (hlen : xs.length ≤ 1000000) (hbase : base ≤ w.heap.size)
    (hcs : cs.length = k) (h1 : ∀ u ∈ cs, u.oneCell' = true) (hy : V F w y cs) (hF : ∀ b, F b → base ≤ b ∧ b < w.heap.size ∧ v.ownBlock ≠ some b)
    (hk : ∀ g cap w', GRow k T V base w' (.slice (some ⟨g, 0, none⟩) (xs.length + 1) cap) (xs ++ [y]) (L ++ cs) → w.grownBy w' v.ownBlock → (v.ownBlock = some g ∨ w.heap.size ≤ g) → wpList Try.prog ops Q rest (a.put o.dst (.slice (some ⟨g, 0, none⟩) (xs.length + 1) cap)) w') :
    wpList Try.prog ops Q (o :: rest) a (w.alloc (.cells cs.toArray T)) := by
  obtain ⟨i, hi, hz, hsz, hby⟩ := info_parts hinfo
  have hmul : (xs.length + 1) * bytes ≤ 1000001 * 1000 := Nat.mul_le_mul (by omega) hb0
  refine wpList_append_lies _ hgd s x _ ho base T i z k bytes ht hi hz hsz hby hzs hk0 v xs.length L hs (h.own.alloc _) ⟨w.heap.size, 0, none⟩ 1 1 cs hx (by omega) ?_ h1 (by decide) (by unfold maxLen; omega) (by omega) (by simp; omega) _ rfl fun g cap w' h1 h2 h3 _ => hk g cap w' (h.push hV hcs hy hF h1 ((Below.refl _ w).alloc (Nat.le_refl _) _) h2 h3) ((World.grownBy_alloc _ _ _).trans h2) (h3.imp id (fun e => by rw [e]; simp))
  intro j u hu
  rw [Addr.add_lit, Nat.zero_add]
  exact (cell_of_row _ _ _ _ _ _ (heap_alloc_new w _)).trans (by simpa using hu)
def zeroSrc : Obj := .cells #[.slice none 0 0, .slice none 0 0] 40
/-- The block of a row of the call's own, 0 without one. -/
def obk (v : Value) : Nat := v.ownBlock.getD 0
/-- A source under way in its block pb. -/
structure SrcU (p tb pb : Nat) (gl : Gls) (fl : List Fn) (s : RS) (w wr : World) (gA : Option Addr) (gm gc : Nat) (Lg : List Value) (fA : Option Addr) (fm fc : Nat) (Lf : List Value) (D d : Nat) : Prop where
  ra : RA wr p tb s
  gr : w.grownBy wr (some p)
  z : wr.heap[w.heap.size]? = some zeroSrc
  lt : w.heap.size < pb
  row : wr.heap[pb]? = some (.cells #[.slice gA gm gc, .slice fA fm fc] 40 (0, 0))
  hgm : gm = gl.length
  hfm : fm = fl.length
  gs : GRow 2 68 MGl (pb + 1) wr (.slice gA gm gc) gl Lg
  fs : GRow 4 65 (MFnX D d (obk (.slice gA gm gc))) (pb + 1) wr (.slice fA fm fc) fl Lf
  sep : ∀ b, (Value.slice fA fm fc).ownBlock = some b → b ≠ obk (.slice gA gm gc)
section
variable {p tb pb : Nat} {gl : Gls} {fl : List Fn} {s s' : RS} {w wr w' : World} {gA fA : Option Addr} {gm gc fm fc D d : Nat} {Lg Lf : List Value}
theorem SrcU.plt (h : SrcU p tb pb gl fl s w wr gA gm gc Lg fA fm fc Lf D d) : pb < wr.heap.size := (Array.getElem?_eq_some_iff.1 h.row).1
theorem SrcU.step (h : SrcU p tb pb gl fl s w wr gA gm gc Lg fA fm fc Lf D d) (hp : p < w.heap.size) (hg : wr.grownBy w' (some p)) (ha : RA w' p tb s') : SrcU p tb pb gl fl s' w w' gA gm gc Lg fA fm fc Lf D d := by
  have hlt := h.lt
  exact ⟨ha, h.gr.trans hg, blk_keep hg (by omega) h.z, h.lt, blk_keep hg (by omega) h.row, h.hgm, h.hfm, h.gs.grown mgl_keeps hg (by omega), h.fs.grown (mfnx_keeps _ _ _) hg (by omega), h.sep⟩
/-- Another row of the call's own has grown: a row without parts of its own stays. -/
theorem GRow.other {α : Type} {k : Nat} {T : TypeId} {V : Means α} {base : Nat} {v : Value} {xs : List α} {L : List Value} {o : Option Nat} (hV : ∀ F G w w' x cs, V F w x cs → V G w' x cs) (h : GRow k T V base w v xs L) (hg : w.grownBy w' o) (hne : ∀ b, v.ownBlock = some b → o ≠ some b) : GRow k T V base w' v xs L := by
  refine ⟨?_, fun j x hj => ?_⟩
  · rcases h.own.2 with hn | ⟨g', cap, cur, e, hb', hh, rest⟩
    · exact ⟨h.own.1, .inl hn⟩
    · exact ⟨h.own.1, .inr ⟨g', cap, cur, e, hb', (hg.block g' (Array.getElem?_eq_some_iff.1 hh).1 (fun e2 => hne g' (by rw [e]; rfl) e2.symm)).trans hh, rest⟩⟩
  · obtain ⟨cs, h1, h2, h3⟩ := h.at_ j x hj
    exact ⟨cs, h1, h2, hV _ _ _ _ _ _ h3⟩
/-- The globals' row has grown: the functions stay. -/
theorem fs_move {X g8 base : Nat} {gv fv : Value} (h : GRow 4 65 (MFnX D d X) base w fv fl Lf) (hX : ∀ b, gv.ownBlock = some b → b = X) (hsep : ∀ b, fv.ownBlock = some b → b ≠ X) (hg : w.grownBy w' gv.ownBlock) (hg8 : gv.ownBlock = some g8 ∨ w.heap.size ≤ g8) : GRow 4 65 (MFnX D d g8) base w' fv fl Lf ∧ ∀ b, fv.ownBlock = some b → b ≠ g8 := by
  have hne : ∀ b, b < w.heap.size → b ≠ X → b ≠ g8 := fun b hb hx e => by
    rcases hg8 with h8 | h8
    · exact hx (e.trans (hX g8 h8))
    · omega
  refine ⟨⟨?_, fun j x hj => ?_⟩, fun b hb => hne b (h.own.lt b hb).2 (hsep b hb)⟩
  · rcases h.own.2 with hn | ⟨g', cap, cur, e, hb', hh, rest⟩
    · exact ⟨h.own.1, .inl hn⟩
    · exact ⟨h.own.1, .inr ⟨g', cap, cur, e, hb', (hg.block g' (Array.getElem?_eq_some_iff.1 hh).1 (fun e2 => hsep g' (by rw [e]; rfl) (hX g' e2.symm))).trans hh, rest⟩⟩
  · obtain ⟨cs, h1, h2, h3⟩ := h.at_ j x hj
    exact ⟨cs, h1, h2, mfn_keeps D d _ _ _ _ _ _ (fun b hb => ⟨⟨hb.1.1, Nat.lt_of_lt_of_le hb.1.2.1 hg.size, hb.1.2.2⟩, hne b hb.1.2.1 hb.2⟩) (fun b hb => hg.block b hb.1.2.1 (fun e => hb.2 (hX b e.symm))) h3⟩
theorem obk_of {v : Value} : ∀ b, v.ownBlock = some b → b = obk v := fun b hb => by rw [obk, hb]; rfl
theorem obk_lt {v : Value} {n : Nat} (h : ∀ b, v.ownBlock = some b → b < n) (hn : 0 < n) : obk v < n := by
  cases e : v.ownBlock with
  | none => rw [obk, e]; exact hn
  | some b => rw [obk, e]; exact h b e
/-- One global more. -/
theorem SrcU.pushG {y : ByteArray × Int} {g8 cap : Nat} {w2 : World} {cs : List Value} (h : SrcU p tb pb gl fl s w wr gA gm gc Lg fA fm fc Lf D d) (hp : p < w.heap.size) (ht : tb < w.heap.size) (h2 : GRow 2 68 MGl (pb + 1) w2 (.slice (some ⟨g8, 0, none⟩) (gl.length + 1) cap) (gl ++ [y]) (Lg ++ cs)) (hg : wr.grownBy w2 (Value.slice gA gm gc).ownBlock) (hg8 : (Value.slice gA gm gc).ownBlock = some g8 ∨ wr.heap.size ≤ g8) :
    SrcU p tb pb (gl ++ [y]) fl s w (w2.setCell ⟨pb, 0, none⟩ (.slice (some ⟨g8, 0, none⟩) (gl.length + 1) cap)) (some ⟨g8, 0, none⟩) (gl.length + 1) cap (Lg ++ cs) fA fm fc Lf D d := by
  have hlt := h.lt
  have hpl := h.plt
  have hb : Below (pb + 1) wr w2 := grown_any hg (fun k hk => (h.gs.own.lt k hk).1) (by omega)
  have hs : w2.grownBy (w2.setCell ⟨pb, 0, none⟩ (.slice (some ⟨g8, 0, none⟩) (gl.length + 1) cap)) (some pb) := set_grown w2 ⟨pb, 0, none⟩ _
  obtain ⟨hf, hsep⟩ := fs_move h.fs obk_of h.sep hg hg8
  have hr2 := (hb.block pb (by omega)).trans h.row
  exact ⟨(h.ra.low hb (by omega) (by omega)).other hs (by omega) (by omega), grown_new (grown_low h.gr hb (by omega)) hs (by omega), blk_keep hs (by omega) ((hb.block _ (by omega)).trans h.z), h.lt, row_set (i := 0) (.slice (some ⟨g8, 0, none⟩) (gl.length + 1) cap) hr2, by simp, h.hfm, h2.grown mgl_keeps hs (by omega), hf.grown (mfnx_keeps _ _ _) hs (by omega), hsep⟩
/-- One function more. -/
theorem SrcU.pushF {y : Fn} {g8 cap D' d' : Nat} {w1 w2 : World} {cs : List Value} (h : SrcU p tb pb gl fl s w wr gA gm gc Lg fA fm fc Lf D d) (hp : p < w.heap.size) (ht : tb < w.heap.size) (hb1 : Below wr.heap.size wr w1) (h2 : GRow 4 65 (MFnX D' d' (obk (.slice gA gm gc))) (pb + 1) w2 (.slice (some ⟨g8, 0, none⟩) (fl.length + 1) cap) (fl ++ [y]) (Lf ++ cs)) (hg : w1.grownBy w2 (Value.slice fA fm fc).ownBlock) (hg8 : (Value.slice fA fm fc).ownBlock = some g8 ∨ w1.heap.size ≤ g8) :
    SrcU p tb pb gl (fl ++ [y]) s w (w2.setCell ⟨pb, 1, none⟩ (.slice (some ⟨g8, 0, none⟩) (fl.length + 1) cap)) gA gm gc Lg (some ⟨g8, 0, none⟩) (fl.length + 1) cap (Lf ++ cs) D' d' := by
  have hlt := h.lt
  have hpl := h.plt
  have hs1 := hb1.size
  have hb : Below (pb + 1) wr w2 := (hb1.mono (by omega)).trans (grown_any hg (fun k hk => (h.fs.own.lt k hk).1) (by omega))
  have hs : w2.grownBy (w2.setCell ⟨pb, 1, none⟩ (.slice (some ⟨g8, 0, none⟩) (fl.length + 1) cap)) (some pb) := set_grown w2 ⟨pb, 1, none⟩ _
  have hr2 := (hb.block pb (by omega)).trans h.row
  have hgs := ((h.gs.other (o := none) (fun _ _ _ _ _ _ h => h) ⟨hb1.os, hb1.tape, hb1.output, hb1.size, fun k hk _ => hb1.block k hk⟩ (fun _ _ e => by cases e)).other (fun _ _ _ _ _ _ h => h) hg (fun b hb e => h.sep b e (obk_of b hb)))
  refine ⟨(h.ra.low hb (by omega) (by omega)).other hs (by omega) (by omega), grown_new (grown_low h.gr hb (by omega)) hs (by omega), blk_keep hs (by omega) ((hb.block _ (by omega)).trans h.z), h.lt, row_set (i := 1) (.slice (some ⟨g8, 0, none⟩) (fl.length + 1) cap) hr2, h.hgm, by simp, hgs.grown mgl_keeps hs (by omega), h2.grown (mfnx_keeps _ _ _) hs (by omega), ?_⟩
  intro b hb
  have e : g8 = b := by simpa [Value.ownBlock] using hb
  subst e
  rcases hg8 with h8 | h8
  · exact h.sep _ h8
  · intro e
    by_cases hn : (Value.slice gA gm gc).ownBlock = none
    · rw [obk, hn] at e
      simp at e
      omega
    · obtain ⟨b, hb⟩ := Option.ne_none_iff_exists'.1 hn
      have := (h.gs.own.lt b hb).2
      rw [obk, hb] at e
      simp at e
      omega
end
/-- A source is handed back, and the reader stands at s'. -/
def SrcRG (p tb : Nat) (gl : Gls) (fl : List Fn) (s s' : RS) (w : World) (e : Ending) (w' : World) : Prop := ∃ D d gA gm gc fA fm fc, e = .returned (.agg #[.slice gA gm gc, .slice fA fm fc]) ∧ gm = gl.length ∧ fm = fl.length ∧
  RowG 2 MGl (fun q => w.heap.size ≤ q ∧ q < w'.heap.size) w' gl gA gc ∧ RowG 4 (MFn D d) (fun q => w.heap.size ≤ q ∧ q < w'.heap.size) w' fl fA fc ∧ RA w' p tb s' ∧ w.grownBy w' (some p) ∧ s'.rest.length ≤ s.rest.length
theorem src_endR {p tb pb : Nat} {gl : Gls} {fl : List Fn} {s s' : RS} {w wr w9 : World} {gA fA : Option Addr} {gm gc fm fc D d : Nat} {Lg Lf : List Value} (h : SrcU p tb pb gl fl s' w wr gA gm gc Lg fA fm fc Lf D d) (hl : s'.rest.length ≤ s.rest.length) (hp : p < w.heap.size) (ht : tb < w.heap.size) (hg9 : wr.grownBy w9 (some w.heap.size)) : SrcRG p tb gl fl s s' w (.returned (.agg #[.slice gA gm gc, .slice fA fm fc])) w9 := by
  have hlt := h.lt
  have h1 := ((h.gs.grown mgl_keeps hg9 (by omega)).row mgl_keeps).2
  have h2 := ((h.fs.grown (mfnx_keeps _ _ _) hg9 (by omega)).row (mfnx_keeps _ _ _)).2
  refine ⟨D, d, gA, gm, gc, fA, fm, fc, rfl, h.hgm, h.hfm, h1.keep mgl_keeps (fun b hb => ⟨by omega, hb.2⟩) (fun _ _ => rfl), ⟨h2.1, fun i x hi => ?_⟩, h.ra.other hg9 (by omega) (by omega), grown_new h.gr hg9 (Nat.le_refl _), hl⟩
  obtain ⟨g, cs, q1, q2, q3, q4, q5⟩ := h2.2 i x hi
  exact ⟨g, cs, q1, ⟨by omega, q2.2⟩, q3, q4, mfn_keeps D d _ _ _ _ _ _ (fun b hb => ⟨by have := hb.1.1; omega, hb.1.2⟩) (fun _ _ => rfl) q5⟩
/-- A function that was handed back, with its line. -/
theorem fn_means {f : Fn} {ln : Int} {n0 X D d Df df m c bm bc : Nat} {A bA : Option Addr} {w : World} (hm : m = f.params.length) (hbm : bm = f.body.length) (hps : RowG 1 MStr (fun q => n0 ≤ q ∧ q < w.heap.size) w f.params A c) (hbd : RowS (fun q => n0 ≤ q ∧ q < w.heap.size) w Df df f.body bA bc) (hX : X < n0) :
    MFnX (D + Df) (d + df + 1) X (fun q => n0 ≤ q ∧ q < w.heap.size) w { f with line := ln } [.string f.name, .int .i64 ln, .slice A m c, .slice bA bm bc] := by
  refine ⟨A, m, c, bA, bm, bc, rfl, hm, hbm, hps.keep mstr_keeps (fun b hb => ⟨hb, by have := hb.1; omega⟩) (fun _ _ => rfl), RowS.keep (fun b hb => ⟨hb, by have := hb.1; omega⟩) (fun _ _ => rfl) ?_⟩
  have := hbd.more D d
  have e : df + (d + 1) = d + df + 1 := by omega
  rw [Nat.add_comm Df D, e] at this
  exact this
/-- How many globals and functions memory says there are. -/
def srcLen (w : World) (b : Nat) : Nat := match w.cell? ⟨b, 0, none⟩, w.cell? ⟨b, 1, none⟩ with | some (.slice _ n _), some (.slice _ m _) => n + m | _, _ => 0
theorem SrcU.len {p tb pb : Nat} {gl : Gls} {fl : List Fn} {s : RS} {w wr : World} {gA fA : Option Addr} {gm gc fm fc D d : Nat} {Lg Lf : List Value} (h : SrcU p tb pb gl fl s w wr gA gm gc Lg fA fm fc Lf D d) : srcLen wr pb = gl.length + fl.length := by
  have e0 : wr.cell? ⟨pb, 0, none⟩ = some (.slice gA gm gc) := by rw [cell_of_row _ _ 0 _ _ _ h.row]; rfl
  have e1 : wr.cell? ⟨pb, 1, none⟩ = some (.slice fA fm fc) := by rw [cell_of_row _ _ 1 _ _ _ h.row]; rfl
  rw [srcLen, e0, e1, ← h.hgm, ← h.hfm]
/-- What the loop over a source carries. -/
def SrcR (B : RSL) (p tb pb n0 : Nat) (G : Gls) (Fs : List Fn) (s s' : RS) (w wr : World) : Prop := ∃ n gl fl ss gA gm gc Lg fA fm fc Lf D d, sourceR B n gl fl ss = some (G, Fs, s') ∧ n + gl.length + fl.length = n0 ∧ SrcU p tb pb gl fl ss w wr gA gm gc Lg fA fm fc Lf D d ∧ ss.rest.length ≤ s.rest.length
theorem sourceR_cases {B : RSL} {n : Nat} {gl G : Gls} {fl Fs : List Fn} {s s' : RS} (h : sourceR B n gl fl s = some (G, Fs, s')) : (s.bad = true ∧ G = gl ∧ Fs = fl ∧ s' = s) ∨ (s.bad = false ∧ (((hdR s).kind = 0 ∧ G = gl ∧ Fs = fl ∧ s' = s) ∨ ((hdR s).kind ≠ 0 ∧ ∃ m, n = m + 1 ∧
    ((isR globalW s = true ∧ sourceR B m (gl ++ [(globalR (popR s)).1]) fl (globalR (popR s)).2 = some (G, Fs, s')) ∨ (isR globalW s = false ∧ ∃ f s1, functionR B (expectR funcW s) = some (f, s1) ∧ sourceR B m gl (fl ++ [{ f with line := ((hdR s).line : Int) }]) s1 = some (G, Fs, s')))))) := by
  cases n with
  | zero => cases h
  | succ m =>
    simp only [sourceR] at h
    cases hb : s.bad with
    | true =>
      simp only [hb, if_true] at h
      injection h with h
      injection h with e1 e2
      injection e2 with e2 e3
      exact .inl ⟨rfl, e1.symm, e2.symm, e3.symm⟩
    | false =>
      simp only [hb, Bool.false_eq_true, if_false] at h
      refine .inr ⟨rfl, ?_⟩
      by_cases hk : (hdR s).kind = 0
      · rw [if_pos hk] at h
        injection h with h
        injection h with e1 e2
        injection e2 with e2 e3
        exact .inl ⟨hk, e1.symm, e2.symm, e3.symm⟩
      · rw [if_neg hk] at h
        refine .inr ⟨hk, m, rfl, ?_⟩
        cases hi : isR globalW s with
        | true => rw [if_pos hi] at h; exact .inl ⟨rfl, h⟩
        | false =>
          rw [if_neg (by rw [hi]; decide)] at h
          refine .inr ⟨rfl, ?_⟩
          cases hq : functionR B (expectR funcW s) with
          | none => rw [hq] at h; cases h
          | some q => rw [hq] at h; exact ⟨q.1, q.2, rfl, h⟩
end Go.Proofs.Ytjmbllbnlnjanaa
namespace Go.Proofs.Ytjmbllbnlnjanaa
open Go.RowKit

/-- A store of a source that stands still. -/
theorem rc_pause {P : Program} {w : World} {ops : Array Oper} {rest : List Oper} {d : Option Tmp} {ty : TypeId} {x y : Operand} {pos : String} {af : Array Edge} {gd : Option (Nat × Bool)} {a : Act} {Q : Exit → Act → World → Prop}
    (h : Pause (wpList P ops Q ({ dst := d, op := .store 40 x y, type := ty, pos := pos, after := af, guard := gd } :: rest) a w)) : wpList P ops Q ({ dst := d, op := .store 40 x y, type := ty, pos := pos, after := af, guard := gd } :: rest) a w := h
theorem mgl_self (F : Nat → Prop) (w : World) (x : ByteArray × Int) : MGl F w x [.string x.1, .int .i64 x.2] := rfl
theorem one_gl (x : ByteArray × Int) : ∀ u ∈ [Value.string x.1, .int .i64 x.2], u.oneCell' = true := by
  intro u hu
  simp at hu
  rcases hu with rfl | rfl <;> rfl
set_option maxRecDepth 100000 in
set_option maxHeartbeats 8000000 in
theorem source_r (B : RSL) (hbk : SubB 59 B) (p tb : Nat) (s s' : RS) (G : Gls) (Fs : List Fn) (w : World) (h : RA w p tb s) (hP : sourceR B (s.rest.length + 1) [] [] s = some (G, Fs, s')) : Calls Try.prog 25 #[.pointer (some ⟨p, 0, none⟩)] w (SrcRG p tb G Fs s s' w) := by
  have plt := h.lt.1
  have tlt := h.lt.2.1
  have hsm := h.sm
  have HBK := Lib.hid hbk
  have HSM := Lib.hid hsm
  have hb0 := ((Below.refl _ w).alloc (Nat.le_refl _) zeroSrc).alloc (by simp) zeroSrc
  have HR : Hid (SrcR B p tb (w.heap.size + 1) (s.rest.length + 1) G Fs s s' w ((w.alloc zeroSrc).alloc zeroSrc)) := Lib.hid ⟨_, [], [], s, none, 0, 0, [], none, 0, 0, [], 0, 0, hP, rfl, ⟨h.below hb0, grown_of_below hb0 _, alloc2_old w zeroSrc zeroSrc, by omega, alloc2_new w zeroSrc zeroSrc, rfl, rfl, GRow.nil, GRow.nil, fun b hb => by simp [Value.ownBlock] at hb⟩, Nat.le_refl _⟩
  unfold zeroSrc at HR
  clear hP h hb0 hsm hbk
  go_enter Try.func25, Try.ntmps25
  go_wp2_with fail
  obtain ⟨pb, hpb⟩ : ∃ pb, pb = w.heap.size + 1 := ⟨_, rfl⟩
  rw [← hpb] at HR ⊢
  obtain ⟨ws, hws⟩ : ∃ ws, ws = (w.alloc (.cells #[.slice none 0 0, .slice none 0 0] 40)).alloc (.cells #[.slice none 0 0, .slice none 0 0] 40) := ⟨_, rfl⟩
  rw [← hws] at HR ⊢
  clear hws hpb
  go_loopw [4] (fun _ wr => SrcR B p tb pb (s.rest.length + 1) G Fs s s' w wr) (fun _ wr => (s.rest.length + 1) - srcLen wr pb)
  case atStart => exact HR.out
  case round =>
    obtain ⟨n, gl, fl, ss, gA, gm, gc, Lg, fA, fm, fc, Lf, D, d, hsrc, hn, hU, hl⟩ := hrel
    have hgm := hU.hgm
    have hfm := hU.hfm
    subst hgm hfm
    clear HR
    have HU := Lib.hid hU
    have HLEN := Lib.hid hU.len
    have HC := Lib.hid (sourceR_cases hsrc)
    have HN := Lib.hid hn
    have Hl := Lib.hid hl
    have hlt := hU.lt
    have hpl := hU.plt
    have HNow := Lib.hid (now_r wr hU.ra)
    obtain ⟨a, c, N, hr⟩ := hU.ra
    have c2 := hr.cells.2.2.1
    clear hsrc hn hU hl hr
    cases hb : ss.bad with
    | true =>
      rw [hb] at c2
      rcases HC.out with ⟨_, rfl, rfl, rfl⟩ | ⟨h0, _⟩
      · have H := HU
        clear HC HNow hb HLEN HN
        go_upto_region 10 with fail
        clear c2
        have hrow := H.out.row
        have b0 := cell_of_row _ _ 0 _ _ _ hrow
        have b1 := cell_of_row _ _ 1 _ _ _ hrow
        clear hrow
        go_wp2_with (with_reducible refine rc_pause ?_)
        refine Pause.of (wpList_store_new _ rfl _ _ _ rfl w.heap.size _ rfl (by rfl) _ _ H.out.z (by kernel_rfl) (by rfl) (by simp [Value.oneCell']) ?_)
        intro w9 hrow9 hg9
        have j0 := cell_of_row _ _ 0 _ _ _ hrow9
        have j1 := cell_of_row _ _ 1 _ _ _ hrow9
        have HH := Lib.hid (src_endR (s := s) H.out Hl.out plt tlt hg9)
        clear hrow9 hg9 b0 b1
        go_wp2_with fail
        exact bodyPost_ret (by simp [results, Try.results25, go_sem, j0, j1]) rfl HH.out
      · rw [hb] at h0; cases h0
    | false =>
      rw [hb] at c2
      rcases HC.out with ⟨h0, _⟩ | ⟨_, hc⟩
      · rw [hb] at h0; cases h0
      · have hfd0 : ∀ w : World, (Instr.field 90 (.agg #[.int .i64 ((hdR ss).kind : Int), .int .i64 ((hdR ss).line : Int), .int .i64 ((hdR ss).value : Int), .string (nmB (hdR ss).text)]) 0).run Try.prog w = .ok (.int .i64 ((hdR ss).kind : Int)) w := fun _ => by kernel_rfl
        have hfd1 : ∀ w : World, (Instr.field 90 (.agg #[.int .i64 ((hdR ss).kind : Int), .int .i64 ((hdR ss).line : Int), .int .i64 ((hdR ss).value : Int), .string (nmB (hdR ss).text)]) 1).run Try.prog w = .ok (.int .i64 ((hdR ss).line : Int)) w := fun _ => by kernel_rfl
        clear HC hb
        go_wp2_with fail
        refine HNow.out.mono ?_
        rintro e w2 ⟨rfl, hb2⟩
        unfold tokVR
        have H2 := Lib.hid (HU.out.step plt (grown_of_below hb2 _) (HU.out.ra.below hb2))
        have hpl2 := Nat.lt_of_lt_of_le hpl hb2.size
        clear hb2 HNow HU c2
        rcases hc with ⟨hk, rfl, rfl, rfl⟩ | ⟨hk, m, rfl, hc⟩
        · have hk' : (((hdR s').kind : Int) != 0) = false := by simp [hk]
          have H := H2
          clear hk HLEN HN
          go_upto_region 10 with fail
          clear hk' hfd0 hfd1
          have hrow := H.out.row
          have b0 := cell_of_row _ _ 0 _ _ _ hrow
          have b1 := cell_of_row _ _ 1 _ _ _ hrow
          clear hrow
          go_wp2_with (with_reducible refine rc_pause ?_)
          refine Pause.of (wpList_store_new _ rfl _ _ _ rfl w.heap.size _ rfl (by rfl) _ _ H.out.z (by kernel_rfl) (by rfl) (by simp [Value.oneCell']) ?_)
          intro w9 hrow9 hg9
          have j0 := cell_of_row _ _ 0 _ _ _ hrow9
          have j1 := cell_of_row _ _ 1 _ _ _ hrow9
          have HH := Lib.hid (src_endR (s := s) H.out Hl.out plt tlt hg9)
          clear hrow9 hg9 b0 b1
          go_wp2_with fail
          exact bodyPost_ret (by simp [results, Try.results25, go_sem, j0, j1]) rfl HH.out
        · have hk' : (((hdR ss).kind : Int) != 0) = true := by simp; omega
          have HA := Lib.hid (accept_r globalW w2 H2.out.ra)
          clear hk
          go_wp2_with fail
          refine HA.out.mono ?_
          rintro e w3 ⟨rfl, hp3, hg3⟩
          have hpl3 := Nat.lt_of_lt_of_le hpl2 hg3.size
          clear hk' hfd0
          rcases hc with ⟨hv, hnext⟩ | ⟨hv, f, s1, hfn, hnext⟩
          · rw [accR_yes hv] at hp3
            have H := Lib.hid (H2.out.step plt hg3 hp3)
            have HNX := Lib.hid hnext
            have HGl := Lib.hid (global_r p tb (popR ss) w3.drew H.out.ra.drew)
            have hr0 := H.out.row
            have b0 := cell_of_row _ _ 0 _ _ _ hr0
            have hxl : gl.length ≤ 1000000 := by have := HN.out; have := HSM.out; omega
            obtain ⟨gy, hgy⟩ : ∃ gy, gy = globalR (popR ss) := ⟨_, rfl⟩
            rw [← hgy] at HGl HNX
            have HGY := Lib.hid hgy
            clear hp3 hg3 HA H2 hnext hr0 hgy
            go_upto_region 4 with fail
            go_region_law
              (first
                | ((with_reducible refine step_append_g (k := 2) (T := 68) (S := 37) (V := MGl) w14 rfl (.tmp 20) (.tmp 23) rfl mgl_keeps (.agg #[.string ⟨#[]⟩, .int .i64 0]) 24 Try.underlying37 infoGlR rfl (by decide) (by decide) (pb + 1) (.slice gA gl.length gc) gl Lg gy.1 [.string gy.1.1, .int .i64 gy.1.2] (fun _ => False) rfl rfl HGS6.out hxl (by omega) rfl (one_gl _) (mgl_self _ _ _) (fun b hb => hb.elim) ?_); intro g8 cap8 w15 hgs8 hg8 hat8; have hb8 := (below_own HGS6.out.own hg8 (by omega)); have hrow8 := ((hb8.block pb (by omega)).trans HRow6.out); have q0 := (cell_of_row _ _ 0 _ _ _ hrow8); have g0 := (rp_fz hrow8 0); have HGS8 := Lib.hid hgs8; have HG8 := Lib.hid hg8; have HAT8 := Lib.hid hat8; clear hgs8 hg8 hb8 hrow8 hat8)
                | (go_simp; go_at_call 40; (with_reducible refine HGl.out.mono ?_); rintro e w14 ⟨rfl, hp6, hg6, hl6⟩; dsimp only; have hg6' := (grown_drew0 hg6); have hsw14 := hg6'.size; have hsl14 : pb < w14.heap.size := Nat.lt_of_lt_of_le hpl3 hg6'.size; have H14 := Lib.hid (H.out.step plt hg6' hp6); have hrow6 := H14.out.row; have d0 := (cell_of_row _ _ 0 _ _ _ hrow6); have HRow6 := Lib.hid hrow6; have HGS6 := Lib.hid H14.out.gs; have HL6 := Lib.hid hl6; clear hg6 hg6' hp6 hrow6 hl6))
            all_goals
              have hu15 := H14.out.pushG plt tlt HGS8.out HG8.out HAT8.out
              have HE : Hid (SrcR B p tb pb (s.rest.length + 1) G Fs s s' w (w15.setCell ⟨pb, 0, none⟩ (.slice (some ⟨g8, 0, none⟩) (gl.length + 1) cap8)) ∧ (s.rest.length + 1) - srcLen (w15.setCell ⟨pb, 0, none⟩ (.slice (some ⟨g8, 0, none⟩) (gl.length + 1) cap8)) pb < (s.rest.length + 1) - srcLen wr pb) := Lib.hid ⟨⟨m, gl ++ [gy.1], fl, gy.2, _, _, _, _, _, _, _, _, _, _, HNX.out, by have := HN.out; simp; omega, hu15, by have h1 := HL6.out; rw [popR_len] at h1; have := Hl.out; omega⟩, by rw [hu15.len, HLEN.out]; have := HN.out; simp; omega⟩
              clear q0 g0 d0 b0 hu15
              go_wp2_with fail
              exact HE.out
          · rw [accR_no hv] at hp3
            have H3 := Lib.hid (H2.out.step plt hg3 hp3)
            have HNow3 := Lib.hid (now_r w3 H3.out.ra)
            have HNX := Lib.hid hnext
            have HFN := Lib.hid hfn
            clear hp3 hg3 HA H2 hnext hfn
            go_wp2_with fail
            refine HNow3.out.mono ?_
            rintro e w4 ⟨rfl, hb4⟩
            unfold tokVR
            have H4 := Lib.hid (H3.out.step plt (grown_of_below hb4 _) (H3.out.ra.below hb4))
            have hpl4 := Nat.lt_of_lt_of_le hpl3 hb4.size
            have HX4 := Lib.hid (expect_r funcW w4 H4.out.ra)
            clear hb4 HNow3 H3
            go_wp2_with fail
            refine HX4.out.mono ?_
            rintro e w5 ⟨⟨v5, rfl⟩, hp5, hg5⟩
            have H5 := Lib.hid (H4.out.step plt hg5 hp5)
            have hpl5 := Nat.lt_of_lt_of_le hpl4 hg5.size
            have HF5 := Lib.hid (function_r B HBK.out p tb (expectR funcW ss) s1 f w5 H5.out.ra HFN.out)
            clear hp5 hg5 HX4 H4 hfd1
            go_wp2_with fail
            refine HF5.out.mono ?_
            rintro e w6 ⟨Df, df, A6, m6, c6, bA6, bm6, bc6, rfl, hm6, hbm6, hps6, hbd6, hp6, hg6, hl6⟩
            have hpl6 := Nat.lt_of_lt_of_le hpl5 hg6.size
            have hsz6 := hg6.size
            have H6 := Lib.hid (H5.out.step plt hg6 hp6)
            have HFV := Lib.hid (fn_means (X := obk (.slice gA gl.length gc)) (ln := ((hdR ss).line : Int)) (D := D) (d := d) hm6 hbm6 hps6 hbd6 (obk_lt (fun b hb => (H5.out.gs.own.lt b hb).2) (by omega)))
            have HL6 := Lib.hid hl6
            have hfs6 := H6.out.fs
            have HFS6 := Lib.hid (hfs6.map (V' := MFnX (D + Df) (d + df + 1) (obk (.slice gA gl.length gc))) (fun F w x cs h => by
              have := MFn.up h Df df
              have e : d + (df + 1) = d + df + 1 := by omega
              rw [e] at this
              exact this))
            have hxl : fl.length ≤ 1000000 := by have := HN.out; have := HSM.out; omega
            clear hm6 hbm6 hps6 hbd6 hp6 hg6 hl6 HF5 hfs6
            have HOG := Lib.hid (fun b hb => (H5.out.gs.own.lt b hb).2)
            have HOF := Lib.hid (fun b hb => (H5.out.fs.own.lt b hb).2)
            have hrow6 := H6.out.row
            have b1 := cell_of_row _ _ 1 _ _ _ hrow6
            clear hrow6
            go_wp2_with (at_builtin; refine Pause.out ?_)
            have hba := (Below.refl _ w6).alloc (Nat.le_refl _) (.cells #[.string f.name, .int .i64 ((hdR ss).line : Int), .slice A6 m6 c6, .slice bA6 bm6 bc6] 65)
            have HFSa := Lib.hid (HFS6.out.grown (mfnx_keeps _ _ _) (grown_of_below hba (some p)) (by omega))
            have HFVa := Lib.hid (mfnx_keeps _ _ _ _ (fun q => w5.heap.size ≤ q ∧ q < w6.heap.size) _ _ _ _ (fun _ h => h) (fun b hb => hba.block b hb.2) HFV.out)
            have HBA := Lib.hid hba
            refine Pause.of (wpList_append_g2 (k := 4) (T := 65) (S := 38) (V := MFnX (D + Df) (d + df + 1) (obk (.slice gA gl.length gc))) (w6.alloc (.cells #[.string f.name, .int .i64 ((hdR ss).line : Int), .slice A6 m6 c6, .slice bA6 bm6 bc6] 65)) rfl (.tmp 36) (.tmp 38) rfl (mfnx_keeps _ _ _) _ _ Try.underlying38 infoFnR rfl (by decide) (by decide) (pb + 1) (.slice fA fl.length fc) fl Lf { f with line := ((hdR ss).line : Int) } [.string f.name, .int .i64 ((hdR ss).line : Int), .slice A6 m6 c6, .slice bA6 bm6 bc6] (fun q => w5.heap.size ≤ q ∧ q < w6.heap.size) rfl (by simp [Act.eval]) HFSa.out hxl (by simp; omega) rfl (by simp [Value.oneCell']) HFVa.out (fun b hb => ⟨by omega, by simp; omega, fun e => by have := HOF.out b e; omega⟩) ?_)
            intro g8 cap8 wz hfs8 hg8 hat8
            have hu := H6.out.pushF plt tlt HBA.out hfs8 hg8 hat8
            have hbz : Below (pb + 1) w6 wz := (HBA.out.mono (by omega)).trans (grown_any hg8 (fun k hk => (HFSa.out.own.lt k hk).1) (by simp; omega))
            have hrowz := (hbz.block pb (by omega)).trans H6.out.row
            have q1 := cell_of_row _ _ 1 _ _ _ hrowz
            have g1 := rp_fz hrowz 1
            have hel := expectR_len funcW ss
            have HE : Hid (SrcR B p tb pb (s.rest.length + 1) G Fs s s' w (wz.setCell ⟨pb, 1, none⟩ (.slice (some ⟨g8, 0, none⟩) (fl.length + 1) cap8)) ∧ (s.rest.length + 1) - srcLen (wz.setCell ⟨pb, 1, none⟩ (.slice (some ⟨g8, 0, none⟩) (fl.length + 1) cap8)) pb < (s.rest.length + 1) - srcLen wr pb) := Lib.hid ⟨⟨m, gl, fl ++ [{ f with line := ((hdR ss).line : Int) }], s1, _, _, _, _, _, _, _, _, _, _, HNX.out, by have := HN.out; simp; omega, hu, by have := HL6.out; have := Hl.out; omega⟩, by rw [hu.len, HLEN.out]; have := HN.out; simp; omega⟩
            clear hba hfs8 hg8 hat8 hu hbz hrowz hel b1 HFSa HFVa HBA HFS6 HFV H5 H6
            go_wp2_with fail
            exact HE.out
end Go.Proofs.Ytjmbllbnlnjanaa
