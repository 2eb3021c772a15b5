/-
  ready on a resolved source that is a function main alone. Conditions: a million statements at most; the source lies below.
-/
import Derived.Test.YtjmbllbnlnjanaaEvRdB
namespace Go.Proofs.Ytjmbllbnlnjanaa
open Go.RowKit Go.WideMaps

set_option maxRecDepth 100000 in
theorem MapI.put {w : World} {b n : Nat} {D : DataW Unit} (h : MapI w b n D) (hn : n < maxLen) (s : ByteArray) (hs : s.size ≤ maxLen) : ∃ w' D', (Instr.mapUpdate 108 (.map (some b)) (.string s) (.int .i64 0)).run Try.prog w = .ok () w' ∧ MapI w' b (n + 1) D' ∧ w.grownBy w' (some b) := by
  obtain ⟨w', hr, h4, h5⟩ := World.ownsMap.update h keyedI Try.underlying108 hn (keyOf_string_mk Try.underlying9 hs) (plainElem_int Try.underlying3 (a := 0) (by decide))
  exact ⟨w', _, hr, h4, h5⟩
/-- A numbered function's three cells: no parameters, no locals, its statements. -/
def MFd (D : Nat) : Means (List St) := fun F w ts cs => ∃ A m c, cs = [.int .i64 0, .int .i64 0, .slice A m c] ∧ m = ts.length ∧ RowG 5 (MNm D) F w (ts.map numS) A c
theorem mfd_keeps (D : Nat) : (MFd D).Keeps := fun _ _ _ _ _ _ h1 h2 h => by
  obtain ⟨A, m, c, rfl, hm, hr⟩ := h
  exact ⟨A, m, c, rfl, hm, hr.keep (mnm_keeps D) h1 h2⟩
theorem infoFdR : (Try.prog.info? 114).map (fun i => (i.zero, i.size, i.bytes)) = some (some (.agg #[.int .i64 0, .int .i64 0, .slice none 0 0]), 3, 40) := by kernel_rfl
/-- What stays while ready runs: the source in its box, the result's block, the map of names. -/
structure RdS (w : World) (gA : Option Addr) (gc : Nat) (fA : Option Addr) (fc : Nat) (qv : Value) (wr : World) : Prop where
  p : wr.heap[w.heap.size]? = some (.cells #[.slice gA 0 gc, .slice fA 1 fc] 40 (0, 0))
  q : wr.heap[w.heap.size + 1]? = some (.cells #[.slice none 0 0, qv] 79 (0, 0))
  m : ∃ n D, MapI wr (w.heap.size + 2) n D
  lo : Below w.heap.size w wr
section
variable {w wr wd : World} {gA fA : Option Addr} {gc fc : Nat} {qv : Value}
theorem RdS.size (h : RdS w gA gc fA fc qv wr) : w.heap.size + 3 ≤ wr.heap.size := by
  obtain ⟨n, D, hm⟩ := h.m
  exact hm.lt
theorem RdS.below (h : RdS w gA gc fA fc qv wr) (hb : Below wr.heap.size wr wd) : RdS w gA gc fA fc qv wd :=
  ⟨(hb.block _ (Array.getElem?_eq_some_iff.1 h.p).1).trans h.p, (hb.block _ (Array.getElem?_eq_some_iff.1 h.q).1).trans h.q, by
    obtain ⟨n, D, hm⟩ := h.m
    exact ⟨n, D, hm.below hm.lt hb⟩, h.lo.trans (hb.mono h.lo.size)⟩
theorem RdS.grown {b : Nat} (h : RdS w gA gc fA fc qv wr) (hg : wr.grownBy wd (some b)) (hb : w.heap.size + 3 ≤ b) : RdS w gA gc fA fc qv wd :=
  ⟨blk_keep hg (by omega) h.p, blk_keep hg (by omega) h.q, by
    obtain ⟨n, D, hm⟩ := h.m
    exact ⟨n, D, hm.grown hg (fun e => by injection e with e; omega)⟩, h.lo.trans (grown_any hg (fun k hk => by injection hk with hk; omega) h.lo.size)⟩
theorem RdS.put {v : Value} (h : RdS w gA gc fA fc qv wr) : RdS w gA gc fA fc v (wr.setCell ⟨w.heap.size + 1, 1, none⟩ v) ∧ wr.grownBy (wr.setCell ⟨w.heap.size + 1, 1, none⟩ v) (some (w.heap.size + 1)) := by
  have hg : wr.grownBy (wr.setCell ⟨w.heap.size + 1, 1, none⟩ v) (some (w.heap.size + 1)) := set_grown wr ⟨w.heap.size + 1, 1, none⟩ _
  refine ⟨⟨blk_keep hg (by omega) h.p, row_set (i := 1) _ h.q, ?_, h.lo.trans (grown_any hg (fun k hk => by injection hk with hk; omega) h.lo.size)⟩, hg⟩
  obtain ⟨n, D, hm⟩ := h.m
  exact ⟨n, D, hm.grown hg (fun e => by injection e with e; omega)⟩
end
/-- A program that is a function alone is handed back. -/
def RdG (D : Nat) (body : List St) (w : World) (e : Ending) (w' : World) : Prop := ∃ A c, e = .returned (.agg #[.slice none 0 0, .slice A 1 c]) ∧ RowG 3 (MFd D) (fun b => w.heap.size ≤ b ∧ b < w'.heap.size) w' [body] A c ∧ Below w.heap.size w w'
/-- Where ready stands before and behind main. -/
def Rd3 (w : World) (gA : Option Addr) (gc : Nat) (fA : Option Addr) (fc D : Nat) (body : List St) (v : Value) (wr : World) : Prop :=
  (v = .int .i64 0 ∧ RdS w gA gc fA fc (.slice none 0 0) wr) ∨ (v = .int .i64 1 ∧ ∃ A c, RdS w gA gc fA fc (.slice A 1 c) wr ∧ RowG 3 (MFd D) (fun b => w.heap.size + 3 ≤ b ∧ b < wr.heap.size) wr [body] A c)
theorem rq2_pause {P : Program} {w : World} {ops : Array Oper} {rest : List Oper} {d : Option Tmp} {ty : TypeId} {x y : Operand} {pos : String} {af : Array Edge} {gd : Option (Nat × Bool)} {a : Act} {Q : Exit → Act → World → Prop}
    (h : Pause (wpList P ops Q ({ dst := d, op := .store 79 x y, type := ty, pos := pos, after := af, guard := gd } :: rest) a w)) : wpList P ops Q ({ dst := d, op := .store 79 x y, type := ty, pos := pos, after := af, guard := gd } :: rest) a w := h
/-- What the loads of ready's last region read. -/
def RdT (w wu : World) (pA : Option Addr) (pc : Nat) (bA : Option Addr) (n bc : Nat) (w' : World) : Prop :=
  w'.cell? ⟨wu.heap.size, 2, none⟩ = some (.slice pA 0 pc) ∧ w'.cell? ⟨wu.heap.size, 3, none⟩ = some (.slice bA n bc) ∧ w'.cell? ⟨wu.heap.size + 1 + 1, 0, none⟩ = some (.map (some (wu.heap.size + 1))) ∧ w'.cell? ⟨wu.heap.size + 1 + 1, 1, none⟩ = some (.map (some (w.heap.size + 1 + 1))) ∧ (Builtin.len_ #[108] 3 #[.map (some (wu.heap.size + 1))]).run Try.prog w' = .ok (.int .i64 0) w'
theorem below_at {w w' : World} {o' : Obj} {q : Nat} (hb : Below w.heap.size w w') (h : w.heap[q]? = some o') : w'.heap[q]? = some o' := (hb.block q (Array.getElem?_eq_some_iff.1 h).1).trans h
structure RdF (w wu : World) (pA : Option Addr) (pc : Nat) (bA : Option Addr) (n bc : Nat) (x y : Value) (W : World) : Prop where
  f : W.heap[wu.heap.size]? = some (.cells #[x, y, .slice pA 0 pc, .slice bA n bc] 65 (0, 0))
  n : W.heap[wu.heap.size + 2]? = some (.cells #[.map (some (wu.heap.size + 1)), .map (some (w.heap.size + 1 + 1))] 110 (0, 0))
  m : MapI W (wu.heap.size + 1) 0 (.map [])
theorem RdF.below {w wu W W' : World} {pA bA : Option Addr} {pc n bc : Nat} {x y : Value} (h : RdF w wu pA pc bA n bc x y W) (hb : Below W.heap.size W W') : RdF w wu pA pc bA n bc x y W' := ⟨below_at hb h.f, below_at hb h.n, h.m.below h.m.lt hb⟩
theorem RdF.grown {w wu W W' : World} {pA bA : Option Addr} {pc n bc b : Nat} {x y : Value} (h : RdF w wu pA pc bA n bc x y W) (hg : W.grownBy W' (some b)) (hb : b < wu.heap.size) : RdF w wu pA pc bA n bc x y W' := ⟨blk_keep hg (by omega) h.f, blk_keep hg (by omega) h.n, h.m.grown hg (fun e => by injection e with e; omega)⟩
theorem RdF.rdT {w wu W : World} {pA bA : Option Addr} {pc n bc : Nat} {x y : Value} (h : RdF w wu pA pc bA n bc x y W) : RdT w wu pA pc bA n bc W :=
  ⟨cell_of_row _ _ 2 _ _ _ h.f, cell_of_row _ _ 3 _ _ _ h.f, cell_of_row _ _ 0 _ _ _ h.n, cell_of_row _ _ 1 _ _ _ h.n, h.m.len0 _⟩
set_option linter.unusedSimpArgs false in
set_option maxRecDepth 100000 in
set_option maxHeartbeats 4000000 in
theorem ready_e {F : Nat → Prop} {D d : Nat} (ln : Int) (body : List St) (gA : Option Addr) (gc : Nat) (fA : Option Addr) (fc : Nat) (w : World) (h : RowG 4 (MFn D d) F w [mainF ln body] fA fc) (hF : ∀ b, F b → b < w.heap.size) (hf : flL body = true) (hk : okL body = true) (hn2 : body.length ≤ 1000000) :
    Calls Try.prog 34 #[.agg #[.slice gA 0 gc, .slice fA 1 fc]] w (RdG D body w) := by
  obtain ⟨g, pA, pc, bA, bc, rfl, hFg, e0, e1, e2, e3, hp, hb⟩ := row_fns h (k := 0) rfl
  have hfc : 1 ≤ fc := h.1
  have hgw : g < w.heap.size := hF g hFg
  have hmm := @run_makeMap Try.prog
  have HS0 : Hid (RdS w gA gc (some ⟨g, 0, none⟩) fc (.slice none 0 0) (((w.alloc (.cells #[.slice gA 0 gc, .slice (some ⟨g, 0, none⟩) 1 fc] 40)).alloc (.cells #[.slice none 0 0, .slice none 0 0] 79)).alloc (.map #[] 0))) := Lib.hid
    ⟨by rw [heap_alloc_old _ _ (by simp; omega)]; exact alloc2_old w _ _, by rw [heap_alloc_old _ _ (by simp)]; exact alloc2_new w _ _, ⟨0, .map [], by
      have := MapI.new ((w.alloc (.cells #[.slice gA 0 gc, .slice (some ⟨g, 0, none⟩) 1 fc] 40)).alloc (.cells #[.slice none 0 0, .slice none 0 0] 79))
      simpa using this⟩, (((Below.refl _ w).alloc (Nat.le_refl _) _).alloc (by simp) _).alloc (by simp; omega) _⟩
  have HM0 : Hid (∃ M, MapI (((w.alloc (.cells #[.slice gA 0 gc, .slice (some ⟨g, 0, none⟩) 1 fc] 40)).alloc (.cells #[.slice none 0 0, .slice none 0 0] 79)).alloc (.map #[] 0)) (w.heap.size + 2) 0 M) := Lib.hid (⟨.map [], by
    have := MapI.new ((w.alloc (.cells #[.slice gA 0 gc, .slice (some ⟨g, 0, none⟩) 1 fc] 40)).alloc (.cells #[.slice none 0 0, .slice none 0 0] 79))
    simpa using this⟩)
  have HF := Lib.hid hF
  have Hf := Lib.hid hf
  have Hk := Lib.hid hk
  have HB := Lib.hid hb
  have hcells : w.cell? ⟨g, 0, none⟩ = some (.string mainB) ∧ w.cell? ⟨g, 1, none⟩ = some (.int .i64 ln) ∧ w.cell? ⟨g, 2, none⟩ = some (.slice pA 0 pc) ∧ w.cell? ⟨g, 3, none⟩ = some (.slice bA body.length bc) := by
    rw [Nat.zero_mul] at e0 e1 e2 e3
    exact ⟨e0, by simpa [mainF] using e1, by simpa [mainF] using e2, by simpa [mainF] using e3⟩
  have HC := Lib.hid hcells
  clear h hF hf hk hb e0 e1 e2 e3 hp hFg hcells
  go_enter Try.func34, Try.ntmps34
  go_upto_region 2 with fail
  obtain ⟨W0, hW0⟩ : ∃ W0, W0 = ((w.alloc (.cells #[.slice gA 0 gc, .slice (some ⟨g, 0, none⟩) 1 fc] 40)).alloc (.cells #[.slice none 0 0, .slice none 0 0] 79)).alloc (.map #[] 0) := ⟨_, rfl⟩
  rw [← hW0] at HS0 HM0 ⊢
  clear hW0 hmm
  have p0 := cell_of_row _ _ 0 _ _ _ HS0.out.p
  go_wp2_with fail
  go_loopw [17] (fun v wr => v = .int .i64 0 ∧ wr = W0) (fun _ _ => 0)
  case atStart => exact ⟨rfl, rfl⟩
  case round =>
    obtain ⟨rfl, rfl⟩ := hrel
    have p1 := cell_of_row _ _ 1 _ _ _ HS0.out.p
    go_wp2_with fail
    go_loopw [38] (fun v wr => ∃ k : Nat, k ≤ 1 ∧ v = .int .i64 (k : Int) ∧ Hid (RdS w gA gc (some ⟨g, 0, none⟩) fc (.slice none 0 0) wr) ∧ Hid (k = 0 → ∃ M, MapI wr (w.heap.size + 2) 0 M)) (fun v _ => 1 - (intOf v).toNat)
    case atStart => exact ⟨0, Nat.zero_le _, rfl, HS0, Lib.hid (fun _ => HM0.out)⟩
    case round =>
      obtain ⟨wo, rfl⟩ : ∃ wo : World, wo = wr := ⟨_, rfl⟩
      obtain ⟨k, hk, rfl, HR, HM⟩ := hrel
      clear p0 p1
      rcases (show k = 0 ∨ k = 1 by omega) with rfl | rfl
      · have hko : ∀ o, World.cell? wo ⟨g, o, none⟩ = World.cell? w ⟨g, o, none⟩ := fun o => World.cell?_of_block (HR.out.lo.block g hgw)
        have n0 := (hko _).trans HC.out.1
        have n1 := (hko _).trans HC.out.2.1
        have n2 := (hko _).trans HC.out.2.2.1
        have n3 := (hko _).trans HC.out.2.2.2
        have hb3 := (Below.refl _ wo).alloc (Nat.le_refl _) (.cells #[.string mainB, .int .i64 ln, .slice pA 0 pc, .slice bA body.length bc] 65)
        have hr3 := HR.out.below hb3
        have HSZ := hr3.size
        obtain ⟨M, hm0⟩ := HM.out rfl
        have hm := hm0.below hm0.lt hb3
        obtain ⟨w4, M4, hput, hm4, hg4⟩ := hm.put (by unfold maxLen; omega) mainB (by decide)
        have HR4 : Hid (RdS w gA gc (some ⟨g, 0, none⟩) fc (.slice none 0 0) w4) := Lib.hid ⟨blk_keep hg4 (by omega) hr3.p, blk_keep hg4 (by omega) hr3.q, ⟨_, _, hm4⟩, hr3.lo.trans (grown_any hg4 (fun k hk => by injection hk with hk; omega) hr3.lo.size)⟩
        unfold mainB at n0
        unfold mainB at hput
        clear hko hb3 hr3 hm hm0 hm4 hg4 HR HM
        go_wp2_with fail
        exact ⟨⟨1, by omega, by simp, HR4, Lib.hid (fun h => by omega)⟩, by simp [intOf]⟩
      · have p1 := cell_of_row _ _ 1 _ _ _ HR.out.p
        go_wp2_with fail
        go_loopw [51] (fun v wr => Rd3 w gA gc (some ⟨g, 0, none⟩) fc D body v wr) (fun v _ => 1 - (intOf v).toNat)
        case atStart => exact .inl ⟨rfl, HR.out⟩
        case round =>
          obtain ⟨wu, rfl⟩ : ∃ wu : World, wu = wr := ⟨_, rfl⟩
          clear HR p1
          rcases hrel with ⟨rfl, hr⟩ | ⟨rfl, A, c, hr, hrow⟩
          · have hko : ∀ o, World.cell? wu ⟨g, o, none⟩ = World.cell? w ⟨g, o, none⟩ := fun o => World.cell?_of_block (hr.lo.block g hgw)
            have n0 := (hko _).trans HC.out.1
            have n1 := (hko _).trans HC.out.2.1
            have n2 := (hko _).trans HC.out.2.2.1
            have n3 := (hko _).trans HC.out.2.2.2
            have hmm := @run_makeMap Try.prog
            have HR3 := Lib.hid hr
            have hfb := hr.size
            have hb1 := (Below.refl _ wu).alloc (Nat.le_refl _) (.cells #[.string mainB, .int .i64 ln, .slice pA 0 pc, .slice bA body.length bc] 65)
            have hb2 := hb1.alloc hb1.size (.map #[] 0)
            have hb3 := hb2.alloc hb2.size (.cells #[.map (some (wu.heap.size + 1)), .map (some (w.heap.size + 1 + 1))] 110)
            have hf3 : (((wu.alloc (.cells #[.string mainB, .int .i64 ln, .slice pA 0 pc, .slice bA body.length bc] 65)).alloc (.map #[] 0)).alloc (.cells #[.map (some (wu.heap.size + 1)), .map (some (w.heap.size + 1 + 1))] 110)).heap[wu.heap.size]? = some (.cells #[.string mainB, .int .i64 ln, .slice pA 0 pc, .slice bA body.length bc] 65 (0, 0)) := by
              rw [heap_alloc_old _ _ (by simp; omega)]
              exact alloc2_old wu _ _
            have hm3 : MapI (((wu.alloc (.cells #[.string mainB, .int .i64 ln, .slice pA 0 pc, .slice bA body.length bc] 65)).alloc (.map #[] 0)).alloc (.cells #[.map (some (wu.heap.size + 1)), .map (some (w.heap.size + 1 + 1))] 110)) (wu.heap.size + 1) 0 (.map []) := by
              have h := MapI.new (wu.alloc (.cells #[.string mainB, .int .i64 ln, .slice pA 0 pc, .slice bA body.length bc] 65))
              have h2 := h.below h.lt ((Below.refl _ _).alloc (Nat.le_refl _) (.cells #[.map (some (wu.heap.size + 1)), .map (some (w.heap.size + 1 + 1))] 110))
              simpa using h2
            have hn3 : (((wu.alloc (.cells #[.string mainB, .int .i64 ln, .slice pA 0 pc, .slice bA body.length bc] 65)).alloc (.map #[] 0)).alloc (.cells #[.map (some (wu.heap.size + 1)), .map (some (w.heap.size + 1 + 1))] 110)).heap[wu.heap.size + 2]? = some (.cells #[.map (some (wu.heap.size + 1)), .map (some (w.heap.size + 1 + 1))] 110 (0, 0)) := by
              have := heap_alloc_new ((wu.alloc (.cells #[.string mainB, .int .i64 ln, .slice pA 0 pc, .slice bA body.length bc] 65)).alloc (.map #[] 0)) (.cells #[.map (some (wu.heap.size + 1)), .map (some (w.heap.size + 1 + 1))] 110)
              simpa using this
            have hr3 := hr.below hb3
            have HRB := Lib.hid (fun (W : World) (hb : Below w.heap.size w W) => RowS.keep (G := F) (fun _ h => h) (fun b hb' => hb.block b (HF.out b hb')) HB.out)
            have HFb := Lib.hid (fun (W : World) (hb : Below w.heap.size w W) b hb' => Nat.lt_of_lt_of_le (HF.out b hb') hb.size)
            have HLo := Lib.hid (locals_c mainB ln pA pc body bA body.length bc _ rfl (HRB.out _ hr3.lo) (HFb.out _ hr3.lo) Hf.out hn2)
            have HR4 := Lib.hid hr3
            have HF4 := Lib.hid hf3
            have HM4 := Lib.hid hm3
            have HN4 := Lib.hid hn3
            clear hko hr hb1 hb2 hb3 hf3 hm3 hn3 hr3 HR3
            unfold mainB at n0
            unfold mainB at HLo HR4 HF4 HM4 HN4
            go_wp2_with fail
            obtain ⟨W3, hW3⟩ : ∃ W3, W3 = ((wu.alloc (.cells #[.string ⟨#[109, 97, 105, 110]⟩, .int .i64 ln, .slice pA 0 pc, .slice bA body.length bc] 65)).alloc (.map #[] 0)).alloc (.cells #[.map (some (wu.heap.size + 1)), .map (some (w.heap.size + 1 + 1))] 110) := ⟨_, rfl⟩
            rw [← hW3] at HLo HR4 HF4 HM4 HN4 ⊢
            clear hW3 n0 n1 n2 n3 hmm
            refine HLo.out.mono ?_
            rintro e w4 ⟨⟨A4, c4, rfl⟩, hb4⟩
            have hm4 := HM4.out.below HM4.out.lt hb4
            have hr4 := HR4.out.below hb4
            have hf4 := below_at hb4 HF4.out
            have hn4 := below_at hb4 HN4.out
            have HR5 := Lib.hid hr4
            have HF5 := Lib.hid hf4
            have HM5 := Lib.hid hm4
            have HN5 := Lib.hid hn4
            clear hm4 hr4 hf4 hn4 hb4 HR4 HF4 HM4 HN4 HLo
            go_wp2_with fail
            go_loopw [61] (fun v wr => v = .int .i64 0 ∧ wr = w4) (fun _ _ => 0)
            case atStart => exact ⟨rfl, rfl⟩
            case round =>
              obtain ⟨rfl, hwr⟩ := hrel
              rw [hwr]
              clear hwr
              go_upto_region 22 with fail
              have hr5 := HR5.out
              have hsz5 := hr5.size
              have q1 := cell_of_row _ _ 1 _ _ _ hr5.q
              have f2 := cell_of_row _ _ 2 _ _ _ HF5.out
              have f3 := cell_of_row _ _ 3 _ _ _ HF5.out
              have x0 : w4.cell? ⟨wu.heap.size + 1 + 1, 0, none⟩ = some (.map (some (wu.heap.size + 1))) := cell_of_row _ _ 0 _ _ _ HN5.out
              have x1 : w4.cell? ⟨wu.heap.size + 1 + 1, 1, none⟩ = some (.map (some (w.heap.size + 1 + 1))) := cell_of_row _ _ 1 _ _ _ HN5.out
              have hbd : Below w4.heap.size w4 w4.drew := below_drew (Below.refl _ w4)
              have hl := (HM5.out.below HM5.out.lt hbd).len0 3
              have HBk : Hid (Calls Try.prog 49 #[.agg #[.map (some (wu.heap.size + 1)), .map (some (w.heap.size + 1 + 1))], .slice bA body.length bc] w4.drew (BnG D body w4.drew)) := Lib.hid (by
                obtain ⟨nn, MM, hmm⟩ := hr5.m
                exact block_n (F := F) (d := d) body bA body.length bc w4.drew rfl (HRB.out _ (hr5.lo.trans (hbd.mono hr5.lo.size))) (HFb.out _ (hr5.lo.trans (hbd.mono hr5.lo.size))) Hf.out Hk.out hn2 (HM5.out.below HM5.out.lt hbd) (hmm.below hmm.lt hbd))
              have HBD := Lib.hid hbd
              clear hr5 hbd HRB HFb
              have HX5 : Hid (RdF w wu pA pc bA body.length bc (.string ⟨#[109, 97, 105, 110]⟩) (.int .i64 ln) w4) := Lib.hid ⟨HF5.out, HN5.out, HM5.out⟩
              have HXD := Lib.hid (HX5.out.below HBD.out)
              have hSd := HXD.out.rdT
              refine wp_region_held_drew (S := RdT w wu pA pc bA body.length bc) (by kernel_rfl) hSd (fun hHeld => ?_)
              simp only [List.size_toArray, List.length_cons, List.length_nil, Nat.zero_add, Nat.reduceAdd]
              refine wpAnyH_take (i := 0) (v := ?_) rfl (by kernel_rfl) (by kernel_rfl) (by kernel_rfl) (fun _ _ _ h => h) (Or.inl ⟨by rfl, ?_⟩) (by assumption) ?_
              rotate_left
              · intro w hSw
                (try unfold RdT at hSw)
                go_simp
                (try with_reducible rfl)
              try simp only [List.getElem_toArray, List.getElem_cons_zero, List.getElem_cons_succ, Act.put, List.setIfInBounds_toArray, List.set_cons_zero, List.set_cons_succ]
              refine wpAnyH_take (i := 2) (v := ?_) rfl (by kernel_rfl) (by kernel_rfl) (by kernel_rfl) (fun _ _ _ h => h) (Or.inl ⟨by rfl, ?_⟩) (by assumption) ?_
              rotate_left
              · intro w hSw
                (try unfold RdT at hSw)
                go_simp
                (try with_reducible rfl)
              try simp only [List.getElem_toArray, List.getElem_cons_zero, List.getElem_cons_succ, Act.put, List.setIfInBounds_toArray, List.set_cons_zero, List.set_cons_succ]
              refine wpAnyH_take (i := 3) (v := ?_) rfl (by kernel_rfl) (by kernel_rfl) (by kernel_rfl) (fun _ _ _ h => h) (Or.inl ⟨by rfl, ?_⟩) (by assumption) ?_
              rotate_left
              · intro w hSw
                (try unfold RdT at hSw)
                go_simp
                (try with_reducible rfl)
              try simp only [List.getElem_toArray, List.getElem_cons_zero, List.getElem_cons_succ, Act.put, List.setIfInBounds_toArray, List.set_cons_zero, List.set_cons_succ]
              refine wpAnyH_take (i := 4) (v := ?_) rfl (by kernel_rfl) (by kernel_rfl) (by kernel_rfl) (fun _ _ _ h => h) (Or.inl ⟨by rfl, ?_⟩) (by assumption) ?_
              rotate_left
              · intro w hSw
                (try unfold RdT at hSw)
                go_simp
                (try with_reducible rfl)
              try simp only [List.getElem_toArray, List.getElem_cons_zero, List.getElem_cons_succ, Act.put, List.setIfInBounds_toArray, List.set_cons_zero, List.set_cons_succ]
              refine wpAnyH_take (i := 5) (v := ?_) rfl (by kernel_rfl) (by kernel_rfl) (by kernel_rfl) (fun _ _ _ h => h) (Or.inl ⟨by rfl, ?_⟩) (by assumption) ?_
              rotate_left
              · intro w hSw
                (try unfold RdT at hSw)
                go_simp
                (try with_reducible rfl)
              try simp only [List.getElem_toArray, List.getElem_cons_zero, List.getElem_cons_succ, Act.put, List.setIfInBounds_toArray, List.set_cons_zero, List.set_cons_succ]
              refine wpAnyH_take (i := 6) (v := ?_) rfl (by kernel_rfl) (by kernel_rfl) (by kernel_rfl) (fun _ _ _ h => h) (Or.inl ⟨by rfl, ?_⟩) (by assumption) ?_
              rotate_left
              · intro w hSw
                (try unfold RdT at hSw)
                go_simp
                (try with_reducible rfl)
              try simp only [List.getElem_toArray, List.getElem_cons_zero, List.getElem_cons_succ, Act.put, List.setIfInBounds_toArray, List.set_cons_zero, List.set_cons_succ]
              refine wpAnyH_take (i := 7) (v := ?_) rfl (by kernel_rfl) (by kernel_rfl) (by kernel_rfl) (fun _ _ _ h => h) (Or.inl ⟨by rfl, ?_⟩) (by assumption) ?_
              rotate_left
              · intro w hSw
                (try unfold RdT at hSw)
                go_simp
                (try with_reducible rfl)
              try simp only [List.getElem_toArray, List.getElem_cons_zero, List.getElem_cons_succ, Act.put, List.setIfInBounds_toArray, List.set_cons_zero, List.set_cons_succ]
              refine wpAnyH_take (i := 8) (v := ?_) rfl (by kernel_rfl) (by kernel_rfl) (by kernel_rfl) (fun _ _ _ h => h) (Or.inl ⟨by rfl, ?_⟩) (by assumption) ?_
              rotate_left
              · intro w hSw
                (try unfold RdT at hSw)
                go_simp
                (try with_reducible rfl)
              try simp only [List.getElem_toArray, List.getElem_cons_zero, List.getElem_cons_succ, Act.put, List.setIfInBounds_toArray, List.set_cons_zero, List.set_cons_succ]
              refine wpAnyH_take (i := 9) (v := ?_) rfl (by kernel_rfl) (by kernel_rfl) (by kernel_rfl) (fun _ _ _ h => h) (Or.inl ⟨by rfl, ?_⟩) (by assumption) ?_
              rotate_left
              · intro w hSw
                (try unfold RdT at hSw)
                go_simp
                (try with_reducible rfl)
              try simp only [List.getElem_toArray, List.getElem_cons_zero, List.getElem_cons_succ, Act.put, List.setIfInBounds_toArray, List.set_cons_zero, List.set_cons_succ]
              refine wpAnyH_take (i := 10) (v := ?_) rfl (by kernel_rfl) (by kernel_rfl) (by kernel_rfl) (fun _ _ _ h => h) (Or.inl ⟨by rfl, ?_⟩) (by assumption) ?_
              rotate_left
              · intro w hSw
                (try unfold RdT at hSw)
                go_simp
                (try with_reducible rfl)
              try simp only [List.getElem_toArray, List.getElem_cons_zero, List.getElem_cons_succ, Act.put, List.setIfInBounds_toArray, List.set_cons_zero, List.set_cons_succ]
              refine wpAnyH_ready (rs := [1, 11]) (by decide +kernel) (by simp) ?_
              refine AllReadyH.cons rfl (fun K hK => ?_) (AllReadyH.cons rfl (fun K hK => ?_) AllReadyH.nil)
              · dsimp only [List.getElem_toArray, List.getElem_cons_zero, List.getElem_cons_succ]
                go_simp
                refine hK.out _ _ HXD.out.rdT (fun hHeld => ?_)
                clear hK K
                try simp only [Act.put, List.setIfInBounds_toArray, List.set_cons_zero, List.set_cons_succ]
                refine wpAnyH_ready (rs := [11]) (by decide +kernel) (by simp) ?_
                refine AllReadyH.cons rfl (fun K hK => ?_) AllReadyH.nil
                dsimp only [List.getElem_toArray, List.getElem_cons_zero, List.getElem_cons_succ]
                go_simp
                go_at_call 49
                (with_reducible refine HBk.out.mono ?_)
                rintro e w14 ⟨A14, m14, c14, rfl, hm14, hrow14, hb14⟩
                have hb14' := HBD.out.trans hb14
                have hr14 := HR5.out.below hb14'
                have hs14 := hb14.size
                have HV14 : Hid (MFd D (fun b => w.heap.size + 3 ≤ b ∧ b < w14.heap.size) w14 body [.int .i64 0, .int .i64 0, .slice A14 m14 c14]) := Lib.hid ⟨A14, m14, c14, rfl, hm14, hrow14.keep (mnm_keeps D) (fun b hb => ⟨Nat.le_trans hsz5 hb.1, hb.2⟩) (fun _ _ => rfl)⟩
                have hsz14 := hr14.size
                have HR14 := Lib.hid hr14
                have HX14 := Lib.hid (HX5.out.below hb14')
                have HX14a := Lib.hid (HX14.out.below ((Below.refl _ _).alloc (Nat.le_refl _) (.cells #[.int .i64 0, .int .i64 0, .slice A14 m14 c14] 114)))
                have q14 := cell_of_row _ _ 1 _ _ _ hr14.q
                have q14' := hold ((Below.refl _ _).alloc (Nat.le_refl _) (.cells #[.int .i64 0, .int .i64 0, .slice A14 m14 c14] 114)) q14
                clear hrow14 hb14 hb14' hr14 hm14
                dsimp only
                refine hK.out _ _ HX14.out.rdT (fun hHeld => ?_)
                clear hK K
                try simp only [Act.put, List.setIfInBounds_toArray, List.set_cons_zero, List.set_cons_succ]
                refine wpAnyH_take (i := 12) (v := ?_) rfl (by kernel_rfl) (by kernel_rfl) (by kernel_rfl) (fun _ _ _ h => h) (Or.inl ⟨by rfl, ?_⟩) (by assumption) ?_
                rotate_left
                · intro w hSw
                  (try unfold RdT at hSw)
                  go_simp
                  (try with_reducible rfl)
                try simp only [List.getElem_toArray, List.getElem_cons_zero, List.getElem_cons_succ, Act.put, List.setIfInBounds_toArray, List.set_cons_zero, List.set_cons_succ]
                refine wpAnyH_ready (rs := [13]) (by decide +kernel) (by simp) ?_
                refine AllReadyH.cons rfl (fun K hK => ?_) AllReadyH.nil
                dsimp only [List.getElem_toArray, List.getElem_cons_zero, List.getElem_cons_succ]
                go_simp
                refine hK.out _ _ HX14a.out.rdT (fun hHeld => ?_)
                clear hK K
                try simp only [Act.put, List.setIfInBounds_toArray, List.set_cons_zero, List.set_cons_succ]
                refine wpAnyH_ready (rs := [14]) (by decide +kernel) (by simp) ?_
                refine AllReadyH.cons rfl (fun K hK => ?_) AllReadyH.nil
                refine step_append_g (k := 3) (T := 114) (S := 77) (V := MFd D) w14 ?_ (.tmp 72) (.tmp 84) ?_ (mfd_keeps D) (.agg #[.int .i64 0, .int .i64 0, .slice none 0 0]) 40 Try.underlying77 infoFdR rfl (by decide) (by decide) (w.heap.size + 3) (.slice none 0 0) [] [] body [.int .i64 0, .int .i64 0, .slice A14 m14 c14] (fun b => w.heap.size + 3 ≤ b ∧ b < w14.heap.size) ?_ ?_ GRow.nil (by decide) (by omega) rfl (by simp [Value.oneCell']) HV14.out (fun b hb => ⟨hb.1, hb.2, by simp [Value.ownBlock]⟩) ?_
                · rfl
                · rfl
                · rfl
                · rfl
                intro g15 cap15 w15 hgr15 hg15 _
                have hb15 : Below w14.heap.size w14 w15 := grown_any hg15 (fun k hk => by simp [Value.ownBlock] at hk) (Nat.le_refl _)
                have hr15 := HR14.out.below hb15
                have v1 := cell_of_row _ _ 1 _ _ _ hr15.q
                have t1 := rp_fz hr15.q 1
                have hx15 := HX14.out.below hb15
                obtain ⟨hr16, hg16⟩ := RdS.put (v := .slice (some ⟨g15, 0, none⟩) 1 cap15) hr15
                have hx16 := hx15.grown hg16 (by omega)
                have HE : Hid (Rd3 w gA gc (some ⟨g, 0, none⟩) fc D body (.int .i64 1) (w15.setCell ⟨w.heap.size + 1, 1, none⟩ (.slice (some ⟨g15, 0, none⟩) 1 cap15))) := Lib.hid (.inr ⟨rfl, _, _, hr16, (hgr15.row (mfd_keeps D)).2.keep (mfd_keeps D) (fun b hb => ⟨hb.1, Nat.lt_of_lt_of_le hb.2 hg16.size⟩) (fun b hb => hg16.block b hb.2 (fun e => by injection e with e; omega))⟩)
                refine hK.out _ _ hx15.rdT (fun hHeld => ?_)
                clear hK K
                try simp only [List.getElem_toArray, List.getElem_cons_zero, List.getElem_cons_succ, Act.put, List.setIfInBounds_toArray, List.set_cons_zero, List.set_cons_succ]
                refine wpAnyH_take (i := 15) (v := ?_) rfl (by kernel_rfl) (by kernel_rfl) (by kernel_rfl) (fun _ _ _ h => h) (Or.inl ⟨by rfl, ?_⟩) (by assumption) ?_
                rotate_left
                · intro w hSw
                  (try unfold RdT at hSw)
                  go_simp
                  (try with_reducible rfl)
                try simp only [List.getElem_toArray, List.getElem_cons_zero, List.getElem_cons_succ, Act.put, List.setIfInBounds_toArray, List.set_cons_zero, List.set_cons_succ]
                refine wpAnyH_ready (rs := [16]) (by decide +kernel) (by simp) ?_
                refine AllReadyH.cons rfl (fun K hK => ?_) AllReadyH.nil
                dsimp only [List.getElem_toArray, List.getElem_cons_zero, List.getElem_cons_succ]
                go_simp
                refine hK.out _ _ hx16.rdT (fun hHeld => ?_)
                clear hK K
                try simp only [Act.put, List.setIfInBounds_toArray, List.set_cons_zero, List.set_cons_succ]
                refine wpAnyH_done (by decide +kernel) ?_ _
                clear hHeld v1 t1 hr15 hx15 hr16 hg16 hx16 hgr15 hg15 hb15
                go_wp2_with fail
                refine ⟨?_, ?_⟩
                · (repeat apply Exists.intro)
                  exact ⟨HE.out, rfl⟩
                · simp [intOf]
              · dsimp only [List.getElem_toArray, List.getElem_cons_zero, List.getElem_cons_succ]
                go_simp
                go_at_call 49
                (with_reducible refine HBk.out.mono ?_)
                rintro e w14 ⟨A14, m14, c14, rfl, hm14, hrow14, hb14⟩
                have hb14' := HBD.out.trans hb14
                have hr14 := HR5.out.below hb14'
                have hs14 := hb14.size
                have HV14 : Hid (MFd D (fun b => w.heap.size + 3 ≤ b ∧ b < w14.heap.size) w14 body [.int .i64 0, .int .i64 0, .slice A14 m14 c14]) := Lib.hid ⟨A14, m14, c14, rfl, hm14, hrow14.keep (mnm_keeps D) (fun b hb => ⟨Nat.le_trans hsz5 hb.1, hb.2⟩) (fun _ _ => rfl)⟩
                have hsz14 := hr14.size
                have HR14 := Lib.hid hr14
                have HX14 := Lib.hid (HX5.out.below hb14')
                have HX14a := Lib.hid (HX14.out.below ((Below.refl _ _).alloc (Nat.le_refl _) (.cells #[.int .i64 0, .int .i64 0, .slice A14 m14 c14] 114)))
                have q14 := cell_of_row _ _ 1 _ _ _ hr14.q
                have q14' := hold ((Below.refl _ _).alloc (Nat.le_refl _) (.cells #[.int .i64 0, .int .i64 0, .slice A14 m14 c14] 114)) q14
                clear hrow14 hb14 hb14' hr14 hm14
                dsimp only
                refine hK.out _ _ HX14.out.rdT (fun hHeld => ?_)
                clear hK K
                try simp only [Act.put, List.setIfInBounds_toArray, List.set_cons_zero, List.set_cons_succ]
                refine wpAnyH_take (i := 12) (v := ?_) rfl (by kernel_rfl) (by kernel_rfl) (by kernel_rfl) (fun _ _ _ h => h) (Or.inl ⟨by rfl, ?_⟩) (by assumption) ?_
                rotate_left
                · intro w hSw
                  (try unfold RdT at hSw)
                  go_simp
                  (try with_reducible rfl)
                try simp only [List.getElem_toArray, List.getElem_cons_zero, List.getElem_cons_succ, Act.put, List.setIfInBounds_toArray, List.set_cons_zero, List.set_cons_succ]
                refine wpAnyH_ready (rs := [1, 13]) (by decide +kernel) (by simp) ?_
                refine AllReadyH.cons rfl (fun K hK => ?_) (AllReadyH.cons rfl (fun K hK => ?_) AllReadyH.nil)
                · dsimp only [List.getElem_toArray, List.getElem_cons_zero, List.getElem_cons_succ]
                  go_simp
                  refine hK.out _ _ HX14.out.rdT (fun hHeld => ?_)
                  clear hK K
                  try simp only [Act.put, List.setIfInBounds_toArray, List.set_cons_zero, List.set_cons_succ]
                  refine wpAnyH_ready (rs := [13]) (by decide +kernel) (by simp) ?_
                  refine AllReadyH.cons rfl (fun K hK => ?_) AllReadyH.nil
                  dsimp only [List.getElem_toArray, List.getElem_cons_zero, List.getElem_cons_succ]
                  go_simp
                  refine hK.out _ _ HX14a.out.rdT (fun hHeld => ?_)
                  clear hK K
                  try simp only [Act.put, List.setIfInBounds_toArray, List.set_cons_zero, List.set_cons_succ]
                  refine wpAnyH_ready (rs := [14]) (by decide +kernel) (by simp) ?_
                  refine AllReadyH.cons rfl (fun K hK => ?_) AllReadyH.nil
                  refine step_append_g (k := 3) (T := 114) (S := 77) (V := MFd D) w14 ?_ (.tmp 72) (.tmp 84) ?_ (mfd_keeps D) (.agg #[.int .i64 0, .int .i64 0, .slice none 0 0]) 40 Try.underlying77 infoFdR rfl (by decide) (by decide) (w.heap.size + 3) (.slice none 0 0) [] [] body [.int .i64 0, .int .i64 0, .slice A14 m14 c14] (fun b => w.heap.size + 3 ≤ b ∧ b < w14.heap.size) ?_ ?_ GRow.nil (by decide) (by omega) rfl (by simp [Value.oneCell']) HV14.out (fun b hb => ⟨hb.1, hb.2, by simp [Value.ownBlock]⟩) ?_
                  · rfl
                  · rfl
                  · rfl
                  · rfl
                  intro g15 cap15 w15 hgr15 hg15 _
                  have hb15 : Below w14.heap.size w14 w15 := grown_any hg15 (fun k hk => by simp [Value.ownBlock] at hk) (Nat.le_refl _)
                  have hr15 := HR14.out.below hb15
                  have v1 := cell_of_row _ _ 1 _ _ _ hr15.q
                  have t1 := rp_fz hr15.q 1
                  have hx15 := HX14.out.below hb15
                  obtain ⟨hr16, hg16⟩ := RdS.put (v := .slice (some ⟨g15, 0, none⟩) 1 cap15) hr15
                  have hx16 := hx15.grown hg16 (by omega)
                  have HE : Hid (Rd3 w gA gc (some ⟨g, 0, none⟩) fc D body (.int .i64 1) (w15.setCell ⟨w.heap.size + 1, 1, none⟩ (.slice (some ⟨g15, 0, none⟩) 1 cap15))) := Lib.hid (.inr ⟨rfl, _, _, hr16, (hgr15.row (mfd_keeps D)).2.keep (mfd_keeps D) (fun b hb => ⟨hb.1, Nat.lt_of_lt_of_le hb.2 hg16.size⟩) (fun b hb => hg16.block b hb.2 (fun e => by injection e with e; omega))⟩)
                  refine hK.out _ _ hx15.rdT (fun hHeld => ?_)
                  clear hK K
                  try simp only [List.getElem_toArray, List.getElem_cons_zero, List.getElem_cons_succ, Act.put, List.setIfInBounds_toArray, List.set_cons_zero, List.set_cons_succ]
                  refine wpAnyH_take (i := 15) (v := ?_) rfl (by kernel_rfl) (by kernel_rfl) (by kernel_rfl) (fun _ _ _ h => h) (Or.inl ⟨by rfl, ?_⟩) (by assumption) ?_
                  rotate_left
                  · intro w hSw
                    (try unfold RdT at hSw)
                    go_simp
                    (try with_reducible rfl)
                  try simp only [List.getElem_toArray, List.getElem_cons_zero, List.getElem_cons_succ, Act.put, List.setIfInBounds_toArray, List.set_cons_zero, List.set_cons_succ]
                  refine wpAnyH_ready (rs := [16]) (by decide +kernel) (by simp) ?_
                  refine AllReadyH.cons rfl (fun K hK => ?_) AllReadyH.nil
                  dsimp only [List.getElem_toArray, List.getElem_cons_zero, List.getElem_cons_succ]
                  go_simp
                  refine hK.out _ _ hx16.rdT (fun hHeld => ?_)
                  clear hK K
                  try simp only [Act.put, List.setIfInBounds_toArray, List.set_cons_zero, List.set_cons_succ]
                  refine wpAnyH_done (by decide +kernel) ?_ _
                  clear hHeld v1 t1 hr15 hx15 hr16 hg16 hx16 hgr15 hg15 hb15
                  go_wp2_with fail
                  refine ⟨?_, ?_⟩
                  · (repeat apply Exists.intro)
                    exact ⟨HE.out, rfl⟩
                  · simp [intOf]
                · dsimp only [List.getElem_toArray, List.getElem_cons_zero, List.getElem_cons_succ]
                  go_simp
                  refine hK.out _ _ HX14a.out.rdT (fun hHeld => ?_)
                  clear hK K
                  try simp only [Act.put, List.setIfInBounds_toArray, List.set_cons_zero, List.set_cons_succ]
                  refine wpAnyH_ready (rs := [1]) (by decide +kernel) (by simp) ?_
                  refine AllReadyH.cons rfl (fun K hK => ?_) AllReadyH.nil
                  dsimp only [List.getElem_toArray, List.getElem_cons_zero, List.getElem_cons_succ]
                  go_simp
                  refine hK.out _ _ HX14a.out.rdT (fun hHeld => ?_)
                  clear hK K
                  try simp only [Act.put, List.setIfInBounds_toArray, List.set_cons_zero, List.set_cons_succ]
                  refine wpAnyH_ready (rs := [14]) (by decide +kernel) (by simp) ?_
                  refine AllReadyH.cons rfl (fun K hK => ?_) AllReadyH.nil
                  refine step_append_g (k := 3) (T := 114) (S := 77) (V := MFd D) w14 ?_ (.tmp 72) (.tmp 84) ?_ (mfd_keeps D) (.agg #[.int .i64 0, .int .i64 0, .slice none 0 0]) 40 Try.underlying77 infoFdR rfl (by decide) (by decide) (w.heap.size + 3) (.slice none 0 0) [] [] body [.int .i64 0, .int .i64 0, .slice A14 m14 c14] (fun b => w.heap.size + 3 ≤ b ∧ b < w14.heap.size) ?_ ?_ GRow.nil (by decide) (by omega) rfl (by simp [Value.oneCell']) HV14.out (fun b hb => ⟨hb.1, hb.2, by simp [Value.ownBlock]⟩) ?_
                  · rfl
                  · rfl
                  · rfl
                  · rfl
                  intro g15 cap15 w15 hgr15 hg15 _
                  have hb15 : Below w14.heap.size w14 w15 := grown_any hg15 (fun k hk => by simp [Value.ownBlock] at hk) (Nat.le_refl _)
                  have hr15 := HR14.out.below hb15
                  have v1 := cell_of_row _ _ 1 _ _ _ hr15.q
                  have t1 := rp_fz hr15.q 1
                  have hx15 := HX14.out.below hb15
                  obtain ⟨hr16, hg16⟩ := RdS.put (v := .slice (some ⟨g15, 0, none⟩) 1 cap15) hr15
                  have hx16 := hx15.grown hg16 (by omega)
                  have HE : Hid (Rd3 w gA gc (some ⟨g, 0, none⟩) fc D body (.int .i64 1) (w15.setCell ⟨w.heap.size + 1, 1, none⟩ (.slice (some ⟨g15, 0, none⟩) 1 cap15))) := Lib.hid (.inr ⟨rfl, _, _, hr16, (hgr15.row (mfd_keeps D)).2.keep (mfd_keeps D) (fun b hb => ⟨hb.1, Nat.lt_of_lt_of_le hb.2 hg16.size⟩) (fun b hb => hg16.block b hb.2 (fun e => by injection e with e; omega))⟩)
                  refine hK.out _ _ hx15.rdT (fun hHeld => ?_)
                  clear hK K
                  try simp only [List.getElem_toArray, List.getElem_cons_zero, List.getElem_cons_succ, Act.put, List.setIfInBounds_toArray, List.set_cons_zero, List.set_cons_succ]
                  refine wpAnyH_take (i := 15) (v := ?_) rfl (by kernel_rfl) (by kernel_rfl) (by kernel_rfl) (fun _ _ _ h => h) (Or.inl ⟨by rfl, ?_⟩) (by assumption) ?_
                  rotate_left
                  · intro w hSw
                    (try unfold RdT at hSw)
                    go_simp
                    (try with_reducible rfl)
                  try simp only [List.getElem_toArray, List.getElem_cons_zero, List.getElem_cons_succ, Act.put, List.setIfInBounds_toArray, List.set_cons_zero, List.set_cons_succ]
                  refine wpAnyH_ready (rs := [16]) (by decide +kernel) (by simp) ?_
                  refine AllReadyH.cons rfl (fun K hK => ?_) AllReadyH.nil
                  dsimp only [List.getElem_toArray, List.getElem_cons_zero, List.getElem_cons_succ]
                  go_simp
                  refine hK.out _ _ hx16.rdT (fun hHeld => ?_)
                  clear hK K
                  try simp only [Act.put, List.setIfInBounds_toArray, List.set_cons_zero, List.set_cons_succ]
                  refine wpAnyH_done (by decide +kernel) ?_ _
                  clear hHeld v1 t1 hr15 hx15 hr16 hg16 hx16 hgr15 hg15 hb15
                  go_wp2_with fail
                  refine ⟨?_, ?_⟩
                  · (repeat apply Exists.intro)
                    exact ⟨HE.out, rfl⟩
                  · simp [intOf]
          · have p1 := cell_of_row _ _ 1 _ _ _ hr.p
            have r0 := cell_of_row _ _ 0 _ _ _ hr.q
            have r1 := cell_of_row _ _ 1 _ _ _ hr.q
            have HR3 := Lib.hid hr
            have HRow := Lib.hid hrow
            have HQ := Lib.hid hr.q
            have hszu := hr.lo.size
            clear hr hrow
            go_wp2_with (with_reducible refine rq2_pause ?_)
            refine Pause.of (wpList_store_new _ rfl _ _ _ rfl (w.heap.size + 1) _ rfl (by rfl) _ _ HQ.out (by kernel_rfl) (by rfl) (by simp [Value.oneCell']) ?_)
            intro w9 hrow9 hg9
            have j0 := cell_of_row _ _ 0 _ _ _ hrow9
            have j1 := cell_of_row _ _ 1 _ _ _ hrow9
            have HE : Hid (RdG D body w (.returned (.agg #[.slice none 0 0, .slice A 1 c])) w9) := Lib.hid ⟨A, c, rfl, HRow.out.keep (mfd_keeps D) (fun b hb => ⟨by omega, Nat.lt_of_lt_of_le hb.2 hg9.size⟩) (fun b hb => hg9.block b hb.2 (fun e => by injection e with e; omega)), HR3.out.lo.trans (grown_any hg9 (fun k hk => by injection hk with hk; omega) (by omega))⟩
            clear hrow9 hg9 r0 r1 p1
            go_wp2_with fail
            exact bodyPost_ret (by simp [results, Try.results34, go_sem, j0, j1]) rfl HE.out
end Go.Proofs.Ytjmbllbnlnjanaa
