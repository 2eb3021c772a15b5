/-
  The reference's Resolve on a source that is a function main alone. Conditions: a million statements at most; the source lies below.
-/
import Derived.Test.YtjmbllbnlnjanaaSc6
import Derived.Test.YtjmbllbnlnjanaaRpParse
namespace Go.Proofs.Ytjmbllbnlnjanaa
open Go.RowKit

theorem below_dn {B : Nat} {a w : World} (h : Below B a w) (n : Nat) : Below B a (w.drewN n) := ⟨h.os, h.tape, h.output, h.size, h.block⟩
theorem run_append_0 {S T : TypeId} (W : World) (ty : TypeId) (i : TypeInfo) (ht : Try.prog.underlying S = some (.slice T)) (hi : Try.prog.info? T = some i) (pA : Option Addr) (pc : Nat) : (Builtin.append_ #[S, S] ty #[.slice none 0 0, .slice pA 0 pc]).run Try.prog W = .ok (.slice none 0 0) W := by
  cases pA <;> simp [Builtin.append_, run_underlying ht, sizeOf, typeInfo, hi, Builtin.lenOf, Builtin.firstCells, loadCells, loadCellsFrom]
/-- Nothing is appended to nil. -/
theorem step_append_0 {S T : TypeId} {ops : Array Oper} {o : Oper} {a : Act} {w : World} {K : Act → World → Prop} {Q : Exit → Act → World → Prop} {E : Prop} (i : TypeInfo) (ht : Try.prog.underlying S = some (.slice T)) (hi : Try.prog.info? T = some i) (hgd : o.guard = none) (s x : Operand)
    (ho : o.op = .call { callee := .builtin .append, args := #[s, x], argTypes := #[S, S] }) (pA : Option Addr) (pc : Nat) (hs : a.eval s = .slice none 0 0) (hx : a.eval x = .slice pA 0 pc) (hk : K (a.put o.dst (.slice none 0 0)) w) :
    if Region.wanted o (yielded ops a.tmps) = true then Oper.wp Try.prog o a w K Q else E := by
  rw [if_pos (by simp [Region.wanted, hgd])]
  have hrun := run_append_0 w o.type i ht hi pA pc
  unfold Oper.wp
  simp [execOp, ho, resolve, invoke, builtin, hs, hx, hrun, Result.andThen]
  exact hk
theorem wpList_append_0 {S T : TypeId} {ops : Array Oper} {rest : List Oper} {o : Oper} {a : Act} {w : World} {Q : Exit → Act → World → Prop} (i : TypeInfo) (ht : Try.prog.underlying S = some (.slice T)) (hi : Try.prog.info? T = some i) (hgd : o.guard = none) (s x : Operand)
    (ho : o.op = .call { callee := .builtin .append, args := #[s, x], argTypes := #[S, S] }) (pA : Option Addr) (pc : Nat) (hs : a.eval s = .slice none 0 0) (hx : a.eval x = .slice pA 0 pc) (h : wpList Try.prog ops Q rest (a.put o.dst (.slice none 0 0)) w) :
    wpList Try.prog ops Q (o :: rest) a w := by
  refine wpList_plain hgd fun K hK => ?_
  have hrun := run_append_0 w o.type i ht hi pA pc
  unfold Oper.wp
  simp [execOp, ho, resolve, invoke, builtin, hs, hx, hrun, Result.andThen]
  exact hK _ _ h
set_option maxRecDepth 10000 in
set_option maxHeartbeats 2000000 in
theorem locals_0 {F : Nat → Prop} {D d : Nat} (nm : ByteArray) (ln : Int) (pA : Option Addr) (pc : Nat) (ts : List St) (A : Option Addr) (n c : Nat) (w : World) (hn : n = ts.length) (h : RowS F w D d ts A c) (hF : ∀ b, F b → b < w.heap.size) (hf : flL ts = true) (hn2 : n ≤ 1000000) :
    Calls Try.prog 29 #[.agg #[.string nm, .int .i64 ln, .slice pA 0 pc, .slice A n c]] w fun e w' => e = .returned (.slice none 0 0) ∧ Below w.heap.size w w' := by
  have hb1 := (Below.refl _ w).alloc (Nat.le_refl _) (.cells #[.string nm, .int .i64 ln, .slice pA 0 pc, .slice A n c] 65)
  have HV := Lib.hid (fun (W : World) (hb : Below w.heap.size w W) => vars_f (F := F) (D := D) (d := d) (.slice none 0 0) ts A n c W hn (h.keep (fun _ h => h) (fun b hb' => hb.block b (hF b hb'))) hf hn2)
  have HB2 : Hid (Below w.heap.size w (w.alloc (.cells #[.string nm, .int .i64 ln, .slice pA 0 pc, .slice A n c] 65)).drew) := Lib.hid (below_drew hb1)
  have HB := Lib.hid hb1
  obtain ⟨i0, hi0, _⟩ := info_parts infoStrR
  clear hb1 h hF hf hn hn2
  go_enter Try.func29, Try.ntmps29
  go_wp2_with fail
  go_region_law (first | (with_reducible refine step_append_0 i0 Try.underlying62 hi0 rfl (.const (.slice none 0 0)) (.tmp 4) rfl pA pc rfl rfl ?_) | (go_simp; go_at_call 43; (with_reducible refine (HV.out _ HB2.out).mono ?_); rintro e w2 ⟨rfl, q, rfl⟩; dsimp only))
  all_goals
    go_wp2_with fail
    go_ret
    exact ⟨rfl, below_dn HB.out _⟩
end Go.Proofs.Ytjmbllbnlnjanaa
namespace Go.Proofs.Ytjmbllbnlnjanaa
open Go.RowKit

def mainB : ByteArray := ⟨#[109, 97, 105, 110]⟩
/-- The source that is a function main alone. -/
def mainF (ln : Int) (body : List St) : Fn := ⟨mainB, ln, [], body⟩
def ResG (D : Nat) (ln : Int) (body : List St) (w : World) (e : Ending) (w' : World) : Prop := ∃ A c, e = .returned (.tuple #[.agg #[.slice none 0 0, .slice A 1 c], .int .i64 0, .int .i64 0]) ∧ RowG 4 (MFn D 1) (fun b => w.heap.size ≤ b ∧ b < w'.heap.size) w' [mainF ln body] A c ∧ Below w.heap.size w w'
/-- What stays while Resolve runs: the source in its box, the result's block. -/
structure ReS (w : World) (gA : Option Addr) (gc : Nat) (fA : Option Addr) (fc : Nat) (qv : Value) (wr : World) : Prop where
  p : wr.heap[w.heap.size]? = some (.cells #[.slice gA 0 gc, .slice fA 1 fc] 40 (0, 0))
  q : wr.heap[w.heap.size + 1]? = some (.cells #[.slice none 0 0, qv] 40 (0, 0))
  lo : Below w.heap.size w wr
theorem ReS.below {w : World} {gA : Option Addr} {gc : Nat} {fA : Option Addr} {fc : Nat} {qv : Value} {wr wd : World} (h : ReS w gA gc fA fc qv wr) (hb : Below wr.heap.size wr wd) : ReS w gA gc fA fc qv wd :=
  ⟨(hb.block _ (Array.getElem?_eq_some_iff.1 h.p).1).trans h.p, (hb.block _ (Array.getElem?_eq_some_iff.1 h.q).1).trans h.q, h.lo.trans (hb.mono h.lo.size)⟩
/-- Where Resolve stands before and behind main. -/
def Re3 (w : World) (gA : Option Addr) (gc : Nat) (fA : Option Addr) (fc D : Nat) (ln : Int) (body : List St) (v : Value) (wr : World) : Prop :=
  (v = .int .i64 0 ∧ ReS w gA gc fA fc (.slice none 0 0) wr) ∨ (v = .int .i64 1 ∧ ∃ A c, ReS w gA gc fA fc (.slice A 1 c) wr ∧ RowG 4 (MFn D 1) (fun b => w.heap.size + 2 ≤ b ∧ b < wr.heap.size) wr [mainF ln body] A c)
theorem ReS.other {w : World} {gA : Option Addr} {gc : Nat} {fA : Option Addr} {fc b : Nat} {qv : Value} {wr wd : World} (h : ReS w gA gc fA fc qv wr) (hg : wr.grownBy wd (some b)) (hb : w.heap.size + 2 ≤ b) : ReS w gA gc fA fc qv wd :=
  ⟨blk_keep hg (by omega) h.p, blk_keep hg (by omega) h.q, h.lo.trans (grown_any hg (fun k hk => by injection hk with hk; omega) h.lo.size)⟩
theorem ReS.put {w : World} {gA : Option Addr} {gc : Nat} {fA : Option Addr} {fc : Nat} {qv : Value} {wr : World} (v : Value) (h : ReS w gA gc fA fc qv wr) : ReS w gA gc fA fc v (wr.setCell ⟨w.heap.size + 1, 1, none⟩ v) ∧ wr.grownBy (wr.setCell ⟨w.heap.size + 1, 1, none⟩ v) (some (w.heap.size + 1)) := by
  have hg : wr.grownBy (wr.setCell ⟨w.heap.size + 1, 1, none⟩ v) (some (w.heap.size + 1)) := set_grown wr ⟨w.heap.size + 1, 1, none⟩ _
  exact ⟨⟨blk_keep hg (by omega) h.p, row_set (i := 1) _ h.q, h.lo.trans (grown_any hg (fun k hk => by injection hk with hk; omega) h.lo.size)⟩, hg⟩
theorem ReS.set {w : World} {gA : Option Addr} {gc : Nat} {fA : Option Addr} {fc : Nat} {qv : Value} {wr : World} (h : ReS w gA gc fA fc qv wr) : ReS w gA gc fA fc qv (wr.setCell ⟨w.heap.size + 1, 0, none⟩ (.slice none 0 0)) := by
  have hg : wr.grownBy (wr.setCell ⟨w.heap.size + 1, 0, none⟩ (.slice none 0 0)) (some (w.heap.size + 1)) := set_grown wr ⟨w.heap.size + 1, 0, none⟩ _
  exact ⟨blk_keep hg (by omega) h.p, row_set (i := 0) _ h.q, h.lo.trans (grown_any hg (fun k hk => by injection hk with hk; omega) h.lo.size)⟩
set_option maxRecDepth 100000 in
set_option maxHeartbeats 4000000 in
theorem resolve_m {F : Nat → Prop} {D d : Nat} (ln : Int) (body : List St) (gA : Option Addr) (gc : Nat) (fA : Option Addr) (fc : Nat) (w : World) (h : RowG 4 (MFn D d) F w [mainF ln body] fA fc) (hF : ∀ b, F b → b < w.heap.size) (hf : flL body = true) (hn2 : body.length ≤ 1000000) :
    Calls Try.prog 17 #[.agg #[.slice gA 0 gc, .slice fA 1 fc]] w (ResG D ln body w) := by
  obtain ⟨g, pA, pc, bA, bc, rfl, hFg, e0, e1, e2, e3, hp, hb⟩ := row_fns h (k := 0) rfl
  have hfc : 1 ≤ fc := h.1
  have hgw : g < w.heap.size := hF g hFg
  have hS0 : ReS w gA gc (some ⟨g, 0, none⟩) fc (.slice none 0 0) ((w.alloc (.cells #[.slice gA 0 gc, .slice (some ⟨g, 0, none⟩) 1 fc] 40)).alloc (.cells #[.slice none 0 0, .slice none 0 0] 40)) :=
    ⟨alloc2_old w _ _, alloc2_new w _ _, ((Below.refl _ w).alloc (Nat.le_refl _) _).alloc (by simp) _⟩
  have HS0 := Lib.hid hS0
  have HF := Lib.hid hF
  have Hf := Lib.hid hf
  have HH := Lib.hid h
  have HB := Lib.hid hb
  have hcells : w.cell? ⟨g, 0, none⟩ = some (.string mainB) ∧ w.cell? ⟨g, 1, none⟩ = some (.int .i64 ln) ∧ w.cell? ⟨g, 2, none⟩ = some (.slice pA 0 pc) ∧ w.cell? ⟨g, 3, none⟩ = some (.slice bA body.length bc) := by
    rw [Nat.zero_mul] at e0 e1 e2 e3
    exact ⟨e0, by simpa [mainF] using e1, by simpa [mainF] using e2, by simpa [mainF] using e3⟩
  have HC := Lib.hid hcells
  have hk0 : ∀ o, World.cell? ((w.alloc (.cells #[.slice gA 0 gc, .slice (some ⟨g, 0, none⟩) 1 fc] 40)).alloc (.cells #[.slice none 0 0, .slice none 0 0] 40)) ⟨g, o, none⟩ = World.cell? w ⟨g, o, none⟩ := fun o => World.cell?_of_block (hS0.lo.block g hgw)
  have d0 := (hk0 _).trans hcells.1
  have d2 := (hk0 _).trans hcells.2.2.1
  clear h hF hf hb e0 e1 e2 e3 hp hFg hcells hS0 hk0
  unfold mainB at d0
  go_enter Try.func17, Try.ntmps17
  go_wp2_with fail
  obtain ⟨W0, hW0⟩ : ∃ W0, W0 = (w.alloc (.cells #[.slice gA 0 gc, .slice (some ⟨g, 0, none⟩) 1 fc] 40)).alloc (.cells #[.slice none 0 0, .slice none 0 0] 40) := ⟨_, rfl⟩
  rw [← hW0] at HS0 d0 d2 ⊢
  clear hW0
  go_loopw [5] (fun v wr => v = .int .i64 0 ∧ wr = W0) (fun _ _ => 0)
  case atStart => exact ⟨rfl, rfl⟩
  case round =>
    obtain ⟨rfl, rfl⟩ := hrel
    have p0 := cell_of_row _ _ 0 _ _ _ HS0.out.p
    go_wp2_with fail
    go_loopw [6] (fun v wr => ∃ k : Nat, k ≤ 1 ∧ v = .int .i64 (k : Int) ∧ Hid (ReS w gA gc (some ⟨g, 0, none⟩) fc (.slice none 0 0) wr)) (fun v _ => 1 - (intOf v).toNat)
    case atStart => exact ⟨0, Nat.zero_le _, rfl, HS0⟩
    case round =>
      obtain ⟨wo, rfl⟩ : ∃ wo : World, wo = wr := ⟨_, rfl⟩
      obtain ⟨k, hk, rfl, HR⟩ := hrel
      have q0 := cell_of_row _ _ 0 _ _ _ HR.out.p
      have q1 := cell_of_row _ _ 1 _ _ _ HR.out.p
      have hko : ∀ o, World.cell? wo ⟨g, o, none⟩ = World.cell? w ⟨g, o, none⟩ := fun o => World.cell?_of_block (HR.out.lo.block g hgw)
      have n0 := (hko _).trans HC.out.1
      clear hko p0 d0 d2
      unfold mainB at n0
      rcases (show k = 0 ∨ k = 1 by omega) with rfl | rfl
      · have HG : Hid (∀ W' : World, Below wo.heap.size wo W' → Calls Try.prog 27 #[.agg #[.slice gA 0 gc, .slice (some ⟨g, 0, none⟩) 1 fc], .string ⟨#[109, 97, 105, 110]⟩] W' (IntG (-1) W')) := Lib.hid (fun W' _ => global_6 (F := fun _ => False) ⟨#[109, 97, 105, 110]⟩ [] gA 0 gc _ W' rfl ⟨Nat.zero_le _, fun i x hi => by simp at hi⟩ (fun _ h => h.elim) (by decide) _ 1 fc rfl)
        have HFn : Hid (∀ W' : World, Below wo.heap.size wo W' → Calls Try.prog 28 #[.agg #[.slice gA 0 gc, .slice (some ⟨g, 0, none⟩) 1 fc], .string ⟨#[109, 97, 105, 110]⟩] W' (IntG 0 W')) := Lib.hid (fun W' hb => by
          have hlo := HR.out.lo.trans (hb.mono HR.out.lo.size)
          exact func_6 (D := D) (d := d) ⟨#[109, 97, 105, 110]⟩ [mainF ln body] (some ⟨g, 0, none⟩) 1 fc _ W' rfl (HH.out.keep (mfn_keeps D d) (fun _ h => h) (fun b hb' => hlo.block b (HF.out b hb'))) (fun b hb' => Nat.lt_of_lt_of_le (HF.out b hb') hlo.size) (by decide) gA 0 gc rfl)
        have hS0 : wo.drew.cell? ⟨w.heap.size, 0, none⟩ = some (.slice gA 0 gc) ∧ wo.drew.cell? ⟨w.heap.size, 1, none⟩ = some (.slice (some ⟨g, 0, none⟩) 1 fc) ∧ wo.drew.cell? ⟨g, 0, none⟩ = some (.string ⟨#[109, 97, 105, 110]⟩) ∧ Below wo.heap.size wo wo.drew := ⟨q0, q1, n0, below_drew (Below.refl _ _)⟩
        clear q0 n0
        go_wp2_with fail
        go_region_held3 (fun w' => w'.cell? ⟨w.heap.size, 0, none⟩ = some (.slice gA 0 gc) ∧ w'.cell? ⟨w.heap.size, 1, none⟩ = some (.slice (some ⟨g, 0, none⟩) 1 fc) ∧ w'.cell? ⟨g, 0, none⟩ = some (.string ⟨#[109, 97, 105, 110]⟩) ∧ Below wo.heap.size wo w')
          (first | exact hS0 | (go_split_ands; exact ⟨hold hb (by assumption), hold hb (by assumption), hold hb (by assumption), below_next (by assumption) hb⟩))
          (first | (go_at_call 27; (with_reducible refine (HG.out _ ?_).mono ?_); (go_split_ands; assumption); rintro e w' ⟨rfl, hb⟩) | (go_at_call 28; (with_reducible refine (HFn.out _ ?_).mono ?_); (go_split_ands; assumption); rintro e w' ⟨rfl, hb⟩))
        rename_i hH
        have HR2 := Lib.hid (HR.out.below hH.2.2.2)
        clear hH hS0 HG HFn q1
        go_wp2_with fail
        exact ⟨⟨1, by omega, by simp, HR2⟩, by simp [intOf]⟩
      · obtain ⟨i0, hi0, _⟩ := info_parts infoGlR
        clear n0
        go_wp2_with (at_builtin; refine Pause.out ?_)
        refine Pause.of (wpList_append_0 i0 Try.underlying37 hi0 rfl (.const (.slice none 0 0)) (.tmp 98) rfl gA gc rfl rfl ?_)
        have r0 := cell_of_row _ _ 0 _ _ _ HR.out.q
        have z0 := rp_fz HR.out.q 0
        have HR2 := Lib.hid HR.out.set
        clear q0 q1 HR
        go_wp2_with fail
        obtain ⟨W2, hW2⟩ : ∃ W2, W2 = wo.setCell ⟨w.heap.size + 1, 0, none⟩ (.slice none 0 0) := ⟨_, rfl⟩
        rw [← hW2] at HR2 ⊢
        clear hW2 r0 z0
        go_loopw [7] (fun v wr => Re3 w gA gc (some ⟨g, 0, none⟩) fc D ln body v wr) (fun v _ => 1 - (intOf v).toNat)
        case atStart => exact .inl ⟨rfl, HR2.out⟩
        case round =>
          obtain ⟨wu, rfl⟩ : ∃ wu : World, wu = wr := ⟨_, rfl⟩
          clear HR2
          rcases hrel with ⟨rfl, hr⟩ | ⟨rfl, A, c, hr, hrow⟩
          · have hko : ∀ o, World.cell? wu ⟨g, o, none⟩ = World.cell? w ⟨g, o, none⟩ := fun o => World.cell?_of_block (hr.lo.block g hgw)
            have p1 := cell_of_row _ _ 1 _ _ _ hr.p
            have n0 := (hko _).trans HC.out.1
            have n1 := (hko _).trans HC.out.2.1
            have n2 := (hko _).trans HC.out.2.2.1
            have n3 := (hko _).trans HC.out.2.2.2
            have hb3 := (Below.refl _ wu).alloc (Nat.le_refl _) (.cells #[.string mainB, .int .i64 ln, .slice pA 0 pc, .slice bA body.length bc] 65)
            have hr3 := hr.below hb3
            have hf3 := heap_alloc_new wu (.cells #[.string mainB, .int .i64 ln, .slice pA 0 pc, .slice bA body.length bc] 65)
            have hfb : w.heap.size + 2 ≤ wu.heap.size := (Array.getElem?_eq_some_iff.1 hr.q).1
            have HRB := Lib.hid (fun (W : World) (hb : Below w.heap.size w W) => RowS.keep (G := F) (fun _ h => h) (fun b hb' => hb.block b (HF.out b hb')) HB.out)
            have HFb := Lib.hid (fun (W : World) (hb : Below w.heap.size w W) b hb' => Nat.lt_of_lt_of_le (HF.out b hb') hb.size)
            have HLo := Lib.hid (locals_0 mainB ln pA pc body bA body.length bc _ rfl (HRB.out _ hr3.lo) (HFb.out _ hr3.lo) Hf.out hn2)
            have HR3 := Lib.hid hr3
            have HF3 := Lib.hid hf3
            have hsz3 : wu.heap.size < (wu.alloc (.cells #[.string mainB, .int .i64 ln, .slice pA 0 pc, .slice bA body.length bc] 65)).heap.size := by simp
            clear hko hr hb3 hr3 hf3
            unfold mainB at n0
            unfold mainB at HLo HR3 HF3 hsz3
            go_wp2_with fail
            refine HLo.out.mono ?_
            rintro e w4 ⟨rfl, hb4⟩
            have hr4 := HR3.out.below hb4
            have hf4 := (hb4.block _ hsz3).trans HF3.out
            have hlt4 := (Array.getElem?_eq_some_iff.1 hf4).1
            have x3 := cell_of_row _ _ 3 _ _ _ hf4
            have HNe := Lib.hid (nest_f body bA body.length bc w4 rfl (HRB.out _ hr4.lo) Hf.out hn2)
            have HR4 := Lib.hid hr4
            have HF4 := Lib.hid hf4
            clear hb4 hr4 hf4 HLo HR3 HF3 n0 n1 n2 n3 p1 hsz3
            go_wp2_with fail
            refine HNe.out.mono ?_
            rintro e w5 ⟨⟨z, hz0, hz1, rfl⟩, q, rfl⟩
            obtain ⟨W5, hW5⟩ : ∃ W5, W5 = w4.drewN q := ⟨_, rfl⟩
            have hb5 : Below w4.heap.size w4 W5 := by rw [hW5]; exact below_dn (Below.refl _ _) q
            rw [← hW5]
            clear hW5
            have hr5 := HR4.out.below hb5
            have hf5 := (hb5.block _ hlt4).trans HF4.out
            have hlt5 := (Array.getElem?_eq_some_iff.1 hf5).1
            have HR5 := Lib.hid hr5
            have HF5 := Lib.hid hf5
            have y2 := cell_of_row _ _ 2 _ _ _ hf5
            have y0 := cell_of_row _ _ 0 _ _ _ hr5.p
            have y1 := cell_of_row _ _ 1 _ _ _ hr5.p
            have y3 := cell_of_row _ _ 3 _ _ _ hf5
            clear hb5 hr5 hf5 HR4 HF4 HNe x3 hlt4
            go_wp2_with fail
            go_loopw [9] (fun v wr => v = .int .i64 0 ∧ wr = W5) (fun _ _ => 0)
            case atStart => exact ⟨rfl, rfl⟩
            case round =>
              obtain ⟨rfl, hwr⟩ := hrel
              rw [hwr]
              clear hwr
              go_wp2_with fail
              obtain ⟨i1, hi1, _⟩ := info_parts infoStrR
              have hb6 : Below W5.heap.size W5 (W5.alloc (.cells #[.slice gA 0 gc, .slice (some ⟨g, 0, none⟩) 1 fc, .slice none 0 0, .int .i64 0, .int .i64 0] 74)).drew := below_drew ((Below.refl _ W5).alloc (Nat.le_refl _) _)
              have HR6 := Lib.hid (HR5.out.below hb6)
              have HF6 := Lib.hid ((hb6.block _ hlt5).trans HF5.out)
              have HS6 : Hid ((W5.alloc (.cells #[.slice gA 0 gc, .slice (some ⟨g, 0, none⟩) 1 fc, .slice none 0 0, .int .i64 0, .int .i64 0] 74)).drew.heap[W5.heap.size]? = some (.cells #[.slice gA 0 gc, .slice (some ⟨g, 0, none⟩) 1 fc, .slice none 0 0, .int .i64 0, .int .i64 0] 74 (0, 0))) := Lib.hid (heap_alloc_new W5 _)
              have hsz56 : W5.heap.size < (W5.alloc (.cells #[.slice gA 0 gc, .slice (some ⟨g, 0, none⟩) 1 fc, .slice none 0 0, .int .i64 0, .int .i64 0] 74)).drew.heap.size := (Array.getElem?_eq_some_iff.1 HS6.out).1
              have hsc : ScP F w.heap.size D d [] [mainF ln body] W5.heap.size [] (0, 0) (W5.alloc (.cells #[.slice gA 0 gc, .slice (some ⟨g, 0, none⟩) 1 fc, .slice none 0 0, .int .i64 0, .int .i64 0] 74)).drew :=
                ⟨gA, gc, _, fc, .slice none 0 0, [], _, ⟨⟨Nat.zero_le _, fun i x hi => by simp at hi⟩, HH.out.keep (mfn_keeps D d) (fun _ h => h) (fun b hb' => HR6.out.lo.block b (HF.out b hb')), by simp, by simp⟩, HF.out, by omega, HR6.out.lo.size, HS6.out, GRow.nil, by simp [Value.ownBlock], by simp⟩
              have HBk := Lib.hid (block_f (F := F) body bA body.length bc _ rfl (HRB.out _ HR6.out.lo) (HFb.out _ HR6.out.lo) Hf.out hn2 hsc)
              clear hb6 hsc HR5 HF5 HRB HFb
              go_region_law (first | (with_reducible refine step_append_0 i1 Try.underlying62 hi1 rfl (.const (.slice none 0 0)) (.tmp 164) rfl pA pc rfl rfl ?_))
              all_goals
                go_wp2_with fail
                refine HBk.out.mono ?_
                rintro e w7 ⟨A7, m7, c7, rfl, hm7, hrow7, hb7⟩
                have hs7 := (hb7.block _ hsz56).trans HS6.out
                have hf7 := (hb7.block _ (by omega)).trans HF6.out
                have hr7 := HR6.out.below hb7
                have f3 := rp_fz hf7 3
                have x3 := cell_of_row _ _ 3 _ _ _ hf7
                have hg8 : w7.grownBy (w7.setCell ⟨wu.heap.size, 3, none⟩ (.slice A7 m7 c7)) (some wu.heap.size) := set_grown w7 ⟨wu.heap.size, 3, none⟩ _
                have row8 : (w7.setCell ⟨wu.heap.size, 3, none⟩ (.slice A7 m7 c7)).heap[wu.heap.size]? = some (.cells #[.string ⟨#[109, 97, 105, 110]⟩, .int .i64 ln, .slice pA 0 pc, .slice A7 m7 c7] 65 (0, 0)) := row_set (i := 3) _ hf7
                have s4 := cell_of_row _ _ 4 _ _ _ (blk_keep hg8 (by omega) hs7)
                have x2 := cell_of_row _ _ 2 _ _ _ row8
                have f2 := rp_fz row8 2
                have hg9 : (w7.setCell ⟨wu.heap.size, 3, none⟩ (.slice A7 m7 c7)).grownBy ((w7.setCell ⟨wu.heap.size, 3, none⟩ (.slice A7 m7 c7)).setCell ⟨wu.heap.size, 2, none⟩ (.slice none 0 0)) (some wu.heap.size) := set_grown (w7.setCell ⟨wu.heap.size, 3, none⟩ (.slice A7 m7 c7)) ⟨wu.heap.size, 2, none⟩ _
                have row9 : ((w7.setCell ⟨wu.heap.size, 3, none⟩ (.slice A7 m7 c7)).setCell ⟨wu.heap.size, 2, none⟩ (.slice none 0 0)).heap[wu.heap.size]? = some (.cells #[.string ⟨#[109, 97, 105, 110]⟩, .int .i64 ln, .slice none 0 0, .slice A7 m7 c7] 65 (0, 0)) := row_set (i := 2) _ row8
                have r9 := (hr7.other hg8 hfb).other hg9 hfb
                have z0 := cell_of_row _ _ 0 _ _ _ row9
                have z1 := cell_of_row _ _ 1 _ _ _ row9
                have z2 := cell_of_row _ _ 2 _ _ _ row9
                have z3 := cell_of_row _ _ 3 _ _ _ row9
                have q1 := cell_of_row _ _ 1 _ _ _ r9.q
                have hg79 := hg8.trans hg9
                have HRow7 := Lib.hid (hrow7.keep (mst_keeps D 1) (G := fun b => w.heap.size + 2 ≤ b ∧ b < ((w7.setCell ⟨wu.heap.size, 3, none⟩ (.slice A7 m7 c7)).setCell ⟨wu.heap.size, 2, none⟩ (.slice none 0 0)).heap.size) (fun b hb => ⟨by omega, Nat.lt_of_lt_of_le hb.2 hg79.size⟩) (fun b hb => hg79.block b hb.2 (fun e => by injection e with e; omega)))
                have HR9 := Lib.hid r9
                have HM7 := Lib.hid hm7
                clear hs7 hf7 hr7 hg8 row8 hg9 row9 r9 hg79 hrow7 hb7 hm7 HBk HR6 HF6 HS6 y0 y1 y2 y3
                go_wp2_with (at_builtin; refine Pause.out ?_)
                refine Pause.of (wpList_append_0 i1 Try.underlying62 hi1 rfl (.const (.slice none 0 0)) (.tmp 188) rfl pA pc rfl rfl ?_)
                go_wp2_with (at_builtin; refine Pause.out ?_)
                obtain ⟨w9, hw9⟩ : ∃ w9, w9 = (w7.setCell ⟨wu.heap.size, 3, none⟩ (.slice A7 m7 c7)).setCell ⟨wu.heap.size, 2, none⟩ (.slice none 0 0) := ⟨_, rfl⟩
                have hsz79 : w7.heap.size = w9.heap.size := by rw [hw9]; simp
                rw [← hw9] at HRow7 HR9 ⊢
                clear hw9 z0 z1 z2 z3 q1 s4 x2 x3 f2 f3
                have hmv : MFn D 1 (fun b => w.heap.size + 2 ≤ b ∧ b < w9.heap.size) w9 (mainF ln body) [.string ⟨#[109, 97, 105, 110]⟩, .int .i64 ln, .slice none 0 0, .slice A7 m7 c7] := ⟨none, 0, 0, A7, m7, c7, rfl, rfl, HM7.out, ⟨Nat.zero_le _, fun i x hi => by simp [mainF] at hi⟩, rowS_of HRow7.out⟩
                have HMV := Lib.hid hmv
                have hr9s := HR9.out.lo.size
                have hq9 := (Array.getElem?_eq_some_iff.1 HR9.out.q).1
                clear hmv HRow7 HM7
                refine Pause.of (wpList_append_g (k := 4) (T := 65) (S := 38) (V := MFn D 1) w9 rfl (.tmp 192) (.tmp 194) rfl (mfn_keeps D 1) _ _ Try.underlying38 infoFnR rfl (by decide) (by decide) (w.heap.size + 2) (.slice none 0 0) [] [] (mainF ln body) [.string ⟨#[109, 97, 105, 110]⟩, .int .i64 ln, .slice none 0 0, .slice A7 m7 c7] (fun b => w.heap.size + 2 ≤ b ∧ b < w9.heap.size) rfl (by rw [← hsz79]; rfl) GRow.nil (by decide) (by omega) rfl (by simp [Value.oneCell']) HMV.out (fun b hb => ⟨hb.1, hb.2, by simp [Value.ownBlock]⟩) ?_)
                intro g10 cap10 w10 hgr10 hg10
                have hb10 : Below w9.heap.size w9 w10 := grown_any hg10 (fun k hk => by simp [Value.ownBlock] at hk) (Nat.le_refl _)
                have hr10 := HR9.out.below hb10
                have hrow10 := (hgr10.row (mfn_keeps D 1)).2
                obtain ⟨hr11, hg11⟩ := hr10.put (.slice (some ⟨g10, 0, none⟩) 1 cap10)
                have v1 := cell_of_row _ _ 1 _ _ _ hr10.q
                have t1 := rp_fz hr10.q 1
                have HE : Hid (Re3 w gA gc (some ⟨g, 0, none⟩) fc D ln body (.int .i64 1) (w10.setCell ⟨w.heap.size + 1, 1, none⟩ (.slice (some ⟨g10, 0, none⟩) 1 cap10))) := Lib.hid (.inr ⟨rfl, _, _, hr11, hrow10.keep (mfn_keeps D 1) (fun b hb => ⟨hb.1, Nat.lt_of_lt_of_le hb.2 hg11.size⟩) (fun b hb => hg11.block b hb.2 (fun e => by injection e with e; omega))⟩)
                clear hgr10 hg10 hb10 hr10 hrow10 hr11 hg11 HMV HR9
                go_wp2_with fail
                exact ⟨HE.out, by simp [intOf]⟩
          · have p1 := cell_of_row _ _ 1 _ _ _ hr.p
            have r0 := cell_of_row _ _ 0 _ _ _ hr.q
            have r1 := cell_of_row _ _ 1 _ _ _ hr.q
            have HR3 := Lib.hid hr
            have HRow := Lib.hid hrow
            have HQ := Lib.hid hr.q
            have hszu := hr.lo.size
            clear hr hrow
            go_wp2_with (with_reducible refine rc_pause ?_)
            refine Pause.of (wpList_store_new _ rfl _ _ _ rfl (w.heap.size + 1) _ rfl (by rfl) _ _ HQ.out (by kernel_rfl) (by rfl) (by simp [Value.oneCell']) ?_)
            intro w9 hrow9 hg9
            have j0 := cell_of_row _ _ 0 _ _ _ hrow9
            have j1 := cell_of_row _ _ 1 _ _ _ hrow9
            have HE : Hid (ResG D ln body w (.returned (.tuple #[.agg #[.slice none 0 0, .slice A 1 c], .int .i64 0, .int .i64 0])) w9) := Lib.hid ⟨A, c, rfl, HRow.out.keep (mfn_keeps D 1) (fun b hb => ⟨by omega, Nat.lt_of_lt_of_le hb.2 hg9.size⟩) (fun b hb => hg9.block b hb.2 (fun e => by injection e with e; omega)), HR3.out.lo.trans (grown_any hg9 (fun k hk => by injection hk with hk; omega) (by omega))⟩
            clear hrow9 hg9 r0 r1 p1
            go_wp2_with fail
            exact bodyPost_ret (by simp [results, Try.results17, go_sem, j0, j1]) rfl HE.out
end Go.Proofs.Ytjmbllbnlnjanaa
