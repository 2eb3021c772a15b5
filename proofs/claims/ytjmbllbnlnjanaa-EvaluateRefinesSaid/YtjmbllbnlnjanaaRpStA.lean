/-
  The reference reader's statements: what the walks of stmt and block are made of. No condition.
-/
import Derived.Test.YtjmbllbnlnjanaaRpSrcM
namespace Go.Proofs.Ytjmbllbnlnjanaa
open Go.RowKit

/-- Blocks from lo on, but for one. -/
def FF (lo sb : Nat) (w : World) : Nat → Prop := fun q => lo ≤ q ∧ q < w.heap.size ∧ q ≠ sb
def zeroSt : Obj := .cells #[.int .i64 0, .int .i64 0, .string { data := #[] }, .slice none 0 0, .slice none 0 0, .slice none 0 0] 101
/-- A statement under way in its block sb; the result's block is still zero. -/
structure StU (p tb sb : Nat) (s : RS) (x : St) (w wr : World) : Prop where
  ra : RA wr p tb s
  gr : w.grownBy wr (some p)
  z : wr.heap[w.heap.size]? = some zeroSt
  lt : w.heap.size < sb
  at_ : ∃ D d k l t eA en ec tA tn tc uA un uc, wr.heap[sb]? = some (.cells #[.int .i64 k, .int .i64 l, .string t, .slice eA en ec, .slice tA tn tc, .slice uA un uc] 101 (0, 0)) ∧
    StV (FF (w.heap.size + 1) sb wr) wr D d x (.agg #[.int .i64 k, .int .i64 l, .string t, .slice eA en ec, .slice tA tn tc, .slice uA un uc])
section
variable {p tb sb : Nat} {s s' : RS} {x : St} {w wr w' : World}
theorem StU.row (h : StU p tb sb s x w wr) : ∃ v0 v1 v2 v3 v4 v5, wr.heap[sb]? = some (.cells #[v0, v1, v2, v3, v4, v5] 101 (0, 0)) := by
  obtain ⟨D, d, k, l, t, eA, en, ec, tA, tn, tc, uA, un, uc, hr, _⟩ := h.at_
  exact ⟨_, _, _, _, _, _, hr⟩
theorem StU.slt (h : StU p tb sb s x w wr) : sb < wr.heap.size := by
  obtain ⟨_, _, _, _, _, _, hr⟩ := h.row
  exact (Array.getElem?_eq_some_iff.1 hr).1
theorem StU.step (h : StU p tb sb s x w wr) (hp : p < w.heap.size) (hg : wr.grownBy w' (some p)) (ha : RA w' p tb s') : StU p tb sb s' x w w' := by
  obtain ⟨D, d, k, l, t, eA, en, ec, tA, tn, tc, uA, un, uc, hr, hv⟩ := h.at_
  have hlt := h.lt
  exact ⟨ha, h.gr.trans hg, blk_keep hg (by omega) h.z, h.lt, D, d, k, l, t, eA, en, ec, tA, tn, tc, uA, un, uc, blk_keep hg (by omega) hr, hv.keep (fun q hq => ⟨hq.1, Nat.lt_of_lt_of_le hq.2.1 hg.size, hq.2.2⟩) (fun q hq => hg.block q hq.2.1 (fun e => by injection e with e; have := hq.1; omega))⟩
theorem StU.alloc (h : StU p tb sb s x w wr) (hp : p < w.heap.size) (o : Obj) : StU p tb sb s x w (wr.alloc o) :=
  h.step hp (grown_of_below ((Below.refl _ wr).alloc (Nat.le_refl _) o) _) (h.ra.alloc o)
theorem StU.set_ (h : StU p tb sb s x w wr) (hp : p < w.heap.size) (ht : tb < w.heap.size) (i : Nat) (v : Value) : RA (wr.setCell ⟨sb, i, none⟩ v) p tb s ∧ w.grownBy (wr.setCell ⟨sb, i, none⟩ v) (some p) ∧ (wr.setCell ⟨sb, i, none⟩ v).heap[w.heap.size]? = some zeroSt := by
  have hg : wr.grownBy (wr.setCell ⟨sb, i, none⟩ v) (some sb) := set_grown wr ⟨sb, i, none⟩ v
  have hlt := h.lt
  exact ⟨h.ra.other hg (by omega) (by omega), grown_new h.gr hg (by omega), blk_keep hg (by omega) h.z⟩
theorem setFF (lo sb i : Nat) (wr : World) (v : Value) : (∀ q, FF lo sb wr q → FF lo sb (wr.setCell ⟨sb, i, none⟩ v) q) ∧ (∀ q, FF lo sb wr q → (wr.setCell ⟨sb, i, none⟩ v).heap[q]? = wr.heap[q]?) := by
  have hg : wr.grownBy (wr.setCell ⟨sb, i, none⟩ v) (some sb) := set_grown wr ⟨sb, i, none⟩ v
  exact ⟨fun q hq => ⟨hq.1, Nat.lt_of_lt_of_le hq.2.1 hg.size, hq.2.2⟩, fun q hq => hg.block q hq.2.1 (fun e => by injection e with e; exact hq.2.2 e)⟩
variable {k l : Int} {t : ByteArray} {es : List Ex} {ts us : List St}
theorem StU.kind (h : StU p tb sb s (.mk k l t es ts us) w wr) (hp : p < w.heap.size) (ht : tb < w.heap.size) (k' : Int) : StU p tb sb s (.mk k' l t es ts us) w (wr.setCell ⟨sb, 0, none⟩ (.int .i64 k')) := by
  obtain ⟨h1, h2, h3⟩ := h.set_ hp ht 0 (.int .i64 k')
  obtain ⟨f1, f2⟩ := setFF (w.heap.size + 1) sb 0 wr (.int .i64 k')
  obtain ⟨D, d, k0, l0, t0, eA, en, ec, tA, tn, tc, uA, un, uc, hr, hv⟩ := h.at_
  refine ⟨h1, h2, h3, h.lt, D, d, k', l0, t0, eA, en, ec, tA, tn, tc, uA, un, uc, row_set (i := 0) (.int .i64 k') hr, ?_⟩
  cases d with
  | zero => exact hv.elim
  | succ d =>
    obtain ⟨eA', ec', tA', tc', uA', uc', hv, he, h4, h5⟩ := hv
    injection hv with hv
    injection hv with hv
    injection hv with _ hv
    injection hv with q1 hv
    injection hv with q2 hv
    injection hv with q3 hv
    injection hv with q4 hv
    injection hv with q5 _
    exact ⟨eA', ec', tA', tc', uA', uc', by rw [q1, q2, q3, q4, q5], he.keep f1 f2, RowS.keep f1 f2 h4, RowS.keep f1 f2 h5⟩
theorem StU.name (h : StU p tb sb s (.mk k l t es ts us) w wr) (hp : p < w.heap.size) (ht : tb < w.heap.size) (t' : ByteArray) : StU p tb sb s (.mk k l t' es ts us) w (wr.setCell ⟨sb, 2, none⟩ (.string t')) := by
  obtain ⟨h1, h2, h3⟩ := h.set_ hp ht 2 (.string t')
  obtain ⟨f1, f2⟩ := setFF (w.heap.size + 1) sb 2 wr (.string t')
  obtain ⟨D, d, k0, l0, t0, eA, en, ec, tA, tn, tc, uA, un, uc, hr, hv⟩ := h.at_
  refine ⟨h1, h2, h3, h.lt, D, d, k0, l0, t', eA, en, ec, tA, tn, tc, uA, un, uc, row_set (i := 2) (.string t') hr, ?_⟩
  cases d with
  | zero => exact hv.elim
  | succ d =>
    obtain ⟨eA', ec', tA', tc', uA', uc', hv, he, h4, h5⟩ := hv
    injection hv with hv
    injection hv with hv
    injection hv with q0 hv
    injection hv with q1 hv
    injection hv with _ hv
    injection hv with q3 hv
    injection hv with q4 hv
    injection hv with q5 _
    exact ⟨eA', ec', tA', tc', uA', uc', by rw [q0, q1, q3, q4, q5], he.keep f1 f2, RowS.keep f1 f2 h4, RowS.keep f1 f2 h5⟩
theorem StU.exprs (h : StU p tb sb s (.mk k l t es ts us) w wr) (hp : p < w.heap.size) (ht : tb < w.heap.size) {D' : Nat} {xs : List Ex} {A : Option Addr} {m c : Nat} (hx : RowE (FF (w.heap.size + 1) sb wr) wr D' xs A c) (hm : m = xs.length) : StU p tb sb s (.mk k l t xs ts us) w (wr.setCell ⟨sb, 3, none⟩ (.slice A m c)) := by
  subst hm
  obtain ⟨h1, h2, h3⟩ := h.set_ hp ht 3 (.slice A xs.length c)
  obtain ⟨f1, f2⟩ := setFF (w.heap.size + 1) sb 3 wr (.slice A xs.length c)
  obtain ⟨D, d, k0, l0, t0, eA, en, ec, tA, tn, tc, uA, un, uc, hr, hv⟩ := h.at_
  refine ⟨h1, h2, h3, h.lt, D + D', d + 1, k0, l0, t0, A, xs.length, c, tA, tn, tc, uA, un, uc, row_set (i := 3) (.slice A xs.length c) hr, ?_⟩
  cases d with
  | zero => exact hv.elim
  | succ d =>
    obtain ⟨eA', ec', tA', tc', uA', uc', hv, he, h4, h5⟩ := hv
    injection hv with hv
    injection hv with hv
    injection hv with q0 hv
    injection hv with q1 hv
    injection hv with q2 hv
    injection hv with _ hv
    injection hv with q4 hv
    injection hv with q5 _
    have hx2 := hx.up D
    rw [Nat.add_comm D' D] at hx2
    exact ⟨A, c, tA', tc', uA', uc', by rw [q0, q1, q2, q4, q5], hx2.keep f1 f2, RowS.keep f1 f2 (RowS.more h4 D' 0), RowS.keep f1 f2 (RowS.more h5 D' 0)⟩
theorem RowS.join {F : Nat → Prop} {w : World} {D d : Nat} {ts : List St} {A : Option Addr} {c : Nat} (h : RowS F w D d ts A c) (D' d' : Nat) : RowS F w (D' + D) (d' + d + 1) ts A c := by
  have := h.more D' d'
  have e : d + (d' + 1) = d' + d + 1 := by omega
  rw [Nat.add_comm D D', e] at this
  exact this
theorem StU.thens (h : StU p tb sb s (.mk k l t es ts us) w wr) (hp : p < w.heap.size) (ht : tb < w.heap.size) {D' d' : Nat} {xs : List St} {A : Option Addr} {m c : Nat} (hx : RowS (FF (w.heap.size + 1) sb wr) wr D' d' xs A c) (hm : m = xs.length) : StU p tb sb s (.mk k l t es xs us) w (wr.setCell ⟨sb, 4, none⟩ (.slice A m c)) := by
  subst hm
  obtain ⟨h1, h2, h3⟩ := h.set_ hp ht 4 (.slice A xs.length c)
  obtain ⟨f1, f2⟩ := setFF (w.heap.size + 1) sb 4 wr (.slice A xs.length c)
  obtain ⟨D, d, k0, l0, t0, eA, en, ec, tA, tn, tc, uA, un, uc, hr, hv⟩ := h.at_
  refine ⟨h1, h2, h3, h.lt, D + D', d + d' + 1, k0, l0, t0, eA, en, ec, A, xs.length, c, uA, un, uc, row_set (i := 4) (.slice A xs.length c) hr, ?_⟩
  cases d with
  | zero => exact hv.elim
  | succ d =>
    obtain ⟨eA', ec', tA', tc', uA', uc', hv, he, h4, h5⟩ := hv
    injection hv with hv
    injection hv with hv
    injection hv with q0 hv
    injection hv with q1 hv
    injection hv with q2 hv
    injection hv with q3 hv
    injection hv with _ hv
    injection hv with q5 _
    have e : d + 1 + d' = d + d' + 1 := by omega
    have h5' := RowS.more h5 D' d'
    rw [e]
    exact ⟨eA', ec', A, c, uA', uc', by rw [q0, q1, q2, q3, q5], (he.up D').keep f1 f2, RowS.keep f1 f2 (hx.join D d), RowS.keep f1 f2 h5'⟩
theorem StU.elses (h : StU p tb sb s (.mk k l t es ts us) w wr) (hp : p < w.heap.size) (ht : tb < w.heap.size) {D' d' : Nat} {xs : List St} {A : Option Addr} {m c : Nat} (hx : RowS (FF (w.heap.size + 1) sb wr) wr D' d' xs A c) (hm : m = xs.length) : StU p tb sb s (.mk k l t es ts xs) w (wr.setCell ⟨sb, 5, none⟩ (.slice A m c)) := by
  subst hm
  obtain ⟨h1, h2, h3⟩ := h.set_ hp ht 5 (.slice A xs.length c)
  obtain ⟨f1, f2⟩ := setFF (w.heap.size + 1) sb 5 wr (.slice A xs.length c)
  obtain ⟨D, d, k0, l0, t0, eA, en, ec, tA, tn, tc, uA, un, uc, hr, hv⟩ := h.at_
  refine ⟨h1, h2, h3, h.lt, D + D', d + d' + 1, k0, l0, t0, eA, en, ec, tA, tn, tc, A, xs.length, c, row_set (i := 5) (.slice A xs.length c) hr, ?_⟩
  cases d with
  | zero => exact hv.elim
  | succ d =>
    obtain ⟨eA', ec', tA', tc', uA', uc', hv, he, h4, h5⟩ := hv
    injection hv with hv
    injection hv with hv
    injection hv with q0 hv
    injection hv with q1 hv
    injection hv with q2 hv
    injection hv with q3 hv
    injection hv with q4 hv
    have e : d + 1 + d' = d + d' + 1 := by omega
    have h4' := RowS.more h4 D' d'
    rw [e]
    exact ⟨eA', ec', tA', tc', A, c, by rw [q0, q1, q2, q3, q4], (he.up D').keep f1 f2, RowS.keep f1 f2 h4', RowS.keep f1 f2 (hx.join D d)⟩
end
/-- A statement is handed back, and the reader stands at s'. -/
def SRG (p tb : Nat) (x : St) (s s' : RS) (w : World) (e : Ending) (w' : World) : Prop := ∃ D d k l t eA en ec tA tn tc uA un uc, e = .returned (.agg #[.int .i64 k, .int .i64 l, .string t, .slice eA en ec, .slice tA tn tc, .slice uA un uc]) ∧
  StV (fun q => w.heap.size ≤ q ∧ q < w'.heap.size) w' D d x (.agg #[.int .i64 k, .int .i64 l, .string t, .slice eA en ec, .slice tA tn tc, .slice uA un uc]) ∧ RA w' p tb s' ∧ w.grownBy w' (some p) ∧ s'.rest.length ≤ s.rest.length
def SubS (f : FuncId) (P : RS1) : Prop := ∀ (p tb : Nat) (s s' : RS) (x : St) (w : World), RA w p tb s → P s = some (x, s') → Calls Try.prog f #[.pointer (some ⟨p, 0, none⟩)] w (SRG p tb x s s' w)
/-- Statements are handed back. -/
def BRG (p tb : Nat) (xs : List St) (s s' : RS) (w : World) (e : Ending) (w' : World) : Prop := ∃ D d A m c, e = .returned (.slice A m c) ∧ m = xs.length ∧ RowS (fun q => w.heap.size ≤ q ∧ q < w'.heap.size) w' D d xs A c ∧ RA w' p tb s' ∧ w.grownBy w' (some p) ∧ s'.rest.length ≤ s.rest.length
def SubB (f : FuncId) (P : RSL) : Prop := ∀ (p tb : Nat) (s s' : RS) (xs : List St) (w : World), RA w p tb s → P s = some (xs, s') → Calls Try.prog f #[.pointer (some ⟨p, 0, none⟩)] w (BRG p tb xs s s' w)
/-- A store of a statement that stands still. -/
theorem rs_pause {P : Program} {w : World} {ops : Array Oper} {rest : List Oper} {d : Option Tmp} {ty : TypeId} {x y : Operand} {pos : String} {af : Array Edge} {gd : Option (Nat × Bool)} {a : Act} {Q : Exit → Act → World → Prop}
    (h : Pause (wpList P ops Q ({ dst := d, op := .store 101 x y, type := ty, pos := pos, after := af, guard := gd } :: rest) a w)) : wpList P ops Q ({ dst := d, op := .store 101 x y, type := ty, pos := pos, after := af, guard := gd } :: rest) a w := h
/-- The last store: the statement lies in the result's block. -/
theorem st_endR {p tb sb D d : Nat} {x : St} {s s' : RS} {w wr w9 : World} {k l : Int} {t : ByteArray} {eA tA uA : Option Addr} {en ec tn tc un uc : Nat} (hv : StV (FF (w.heap.size + 1) sb wr) wr D d x (.agg #[.int .i64 k, .int .i64 l, .string t, .slice eA en ec, .slice tA tn tc, .slice uA un uc])) (h : StU p tb sb s' x w wr) (hl : s'.rest.length ≤ s.rest.length) (hp : p < w.heap.size) (ht : tb < w.heap.size) (hg9 : wr.grownBy w9 (some w.heap.size)) :
    SRG p tb x s s' w (.returned (.agg #[.int .i64 k, .int .i64 l, .string t, .slice eA en ec, .slice tA tn tc, .slice uA un uc])) w9 :=
  ⟨D, d, k, l, t, eA, en, ec, tA, tn, tc, uA, un, uc, rfl, hv.keep (fun q hq => ⟨by have := hq.1; omega, Nat.lt_of_lt_of_le hq.2.1 hg9.size⟩) (fun q hq => hg9.block q hq.2.1 (fun e => by injection e with e; have := hq.1; omega)), h.ra.other hg9 (by omega) (by omega), grown_new h.gr hg9 (Nat.le_refl _), hl⟩
/-- One operand in a row of its own. -/
theorem one_row {lo sb d : Nat} {w : World} {y : Ex} {k o a l : Int} {t : ByteArray} {A : Option Addr} {n c : Nat} {T : TypeId} (hv : ExV (fun q => lo ≤ q ∧ q < w.heap.size ∧ q ≠ sb) w d y (.agg #[.int .i64 k, .int .i64 o, .int .i64 a, .int .i64 l, .string t, .slice A n c])) (hlo : lo ≤ w.heap.size) (hs : sb < w.heap.size) :
    RowE (FF lo sb (w.alloc (.cells #[.int .i64 k, .int .i64 o, .int .i64 a, .int .i64 l, .string t, .slice A n c] T))) (w.alloc (.cells #[.int .i64 k, .int .i64 o, .int .i64 a, .int .i64 l, .string t, .slice A n c] T)) d [y] (some ⟨w.heap.size, 0, none⟩) 1 := by
  have hb := (Below.refl _ w).alloc (Nat.le_refl _) (.cells #[.int .i64 k, .int .i64 o, .int .i64 a, .int .i64 l, .string t, .slice A n c] T)
  exact row_one hv (fun q hq => ⟨hq.1, Nat.lt_of_lt_of_le hq.2.1 hb.size, hq.2.2⟩) (fun q hq => hb.block q hq.2.1) ⟨hlo, by simp, by omega⟩ (heap_alloc_new w _)
end Go.Proofs.Ytjmbllbnlnjanaa
namespace Go.Proofs.Ytjmbllbnlnjanaa
open Go.RowKit

set_option maxRecDepth 100000 in
set_option maxHeartbeats 2000000 in
theorem value_r (E : R1) (he : SubR 76 E) : SubR 75 (valueR E) := by
  intro p tb s s' x w h hP
  obtain ⟨s1, hq, rfl⟩ : ∃ s1, E s = some (x, s1) ∧ s' = expectR [59] s1 := by
    unfold valueR at hP
    cases hq : E s with
    | none => rw [hq] at hP; cases hP
    | some q =>
      obtain ⟨y, s1⟩ := q
      rw [hq] at hP
      injection hP with hP
      injection hP with e1 e2
      subst e1
      exact ⟨s1, rfl, e2.symm⟩
  have plt := h.lt.1
  have tlt := h.lt.2.1
  have HX := Lib.hid (he p tb s s1 x (w.alloc zeroE) (h.alloc _) hq)
  have hb0 := (Below.refl _ w).alloc (Nat.le_refl _) zeroE
  have HZ0 := Lib.hid (heap_alloc_new w zeroE)
  have HB0 := Lib.hid hb0
  unfold zeroE at HX HZ0 HB0
  clear he hP hq h hb0
  go_enter Try.func75, Try.ntmps75
  go_wp2_with fail
  refine HX.out.mono ?_
  rintro e w6 ⟨d5, k5, o5, a5, l5, t5, A5, n5, c5, rfl, hv5, hp6, hg6, hl5⟩
  have hba := (Below.refl _ w6).alloc (Nat.le_refl _) (.cells #[.int .i64 k5, .int .i64 o5, .int .i64 a5, .int .i64 l5, .string t5, .slice A5 n5 c5] 104)
  have HX6 := Lib.hid (expect_r [59] (w6.alloc (.cells #[.int .i64 k5, .int .i64 o5, .int .i64 a5, .int .i64 l5, .string t5, .slice A5 n5 c5] 104)) (hp6.below hba))
  have HB6 := Lib.hid (heap_alloc_new w6 (.cells #[.int .i64 k5, .int .i64 o5, .int .i64 a5, .int .i64 l5, .string t5, .slice A5 n5 c5] 104))
  have HBA := Lib.hid hba
  have HV5 := Lib.hid hv5
  have hsz6 : w.heap.size + 1 ≤ w6.heap.size := by have := hg6.size; simpa using this
  have HZ6 := Lib.hid ((hba.block w.heap.size (by omega)).trans (blk_keep hg6 (by omega) HZ0.out))
  have HG6 := Lib.hid (((grown_of_below HB0.out (some p)).trans hg6).trans (grown_of_below hba _))
  have HLn := Lib.hid hl5
  clear hba hv5 hp6 hg6 hl5 HX HZ0
  go_wp2_with fail
  refine HX6.out.mono ?_
  rintro e w7 ⟨⟨v7, rfl⟩, hp7, hg7⟩
  have hx7 := blk_keep hg7 (by omega) HB6.out
  have HZ7 := Lib.hid (blk_keep hg7 (by omega) HZ6.out)
  have q0 := cell_of_row _ _ 0 _ _ _ hx7
  have q1 := cell_of_row _ _ 1 _ _ _ hx7
  have q2 := cell_of_row _ _ 2 _ _ _ hx7
  have q3 := cell_of_row _ _ 3 _ _ _ hx7
  have q4 := cell_of_row _ _ 4 _ _ _ hx7
  have q5 := cell_of_row _ _ 5 _ _ _ hx7
  have HP7 := Lib.hid hp7
  have HG7 := Lib.hid (HG6.out.trans hg7)
  have H67 := Lib.hid ((grown_of_below HBA.out (some p)).trans hg7)
  clear hp7 hg7 hx7 HX6 HG6 HZ6
  go_wp2_with (with_reducible refine rx_pause ?_)
  refine Pause.of (wpList_store_new _ rfl _ _ _ rfl w.heap.size _ rfl (by rfl) _ _ HZ7.out (by kernel_rfl) (by rfl) (by simp [Value.oneCell']) ?_)
  intro w9 hrow9 hg9
  have j0 := cell_of_row _ _ 0 _ _ _ hrow9
  have j1 := cell_of_row _ _ 1 _ _ _ hrow9
  have j2 := cell_of_row _ _ 2 _ _ _ hrow9
  have j3 := cell_of_row _ _ 3 _ _ _ hrow9
  have j4 := cell_of_row _ _ 4 _ _ _ hrow9
  have j5 := cell_of_row _ _ 5 _ _ _ hrow9
  have HH := Lib.hid (lev_end (xb := w.heap.size) (s := s) (exV_grown HV5.out (fun q hq => by
    have h1 := hq.1
    simp at h1
    exact ⟨⟨by omega, Nat.lt_of_lt_of_le hq.2 H67.out.size, by omega⟩, hq.2, by omega⟩) H67.out) HP7.out HG7.out (by have := HLn.out; have h1 := expectR_len [59] s1; omega) plt tlt hg9)
  clear hrow9 hg9 q0 q1 q2 q3 q4 q5
  go_wp2_with fail
  exact bodyPost_ret (by simp [results, Try.results75, go_sem, j0, j1, j2, j3, j4, j5]) rfl HH.out
theorem infoStmtR : (Try.prog.info? 101).map (fun i => (i.zero, i.size, i.bytes)) = some (some (.agg #[.int .i64 0, .int .i64 0, .string ⟨#[]⟩, .slice none 0 0, .slice none 0 0, .slice none 0 0]), 6, 104) := by kernel_rfl
/-- The cells of a statement. -/
def MSt (D d : Nat) : Means St := fun F w x cs => StV F w D d x (.agg cs.toArray)
theorem mst_keeps (D d : Nat) : (MSt D d).Keeps := fun _ _ _ _ _ _ h1 h2 h => StV.keep h1 h2 _ _ _ h
theorem stV_aggR {F : Nat → Prop} {w : World} {D d : Nat} {x : St} {v : Value} (h : StV F w D d x v) : ∃ k l s eA en ec tA tn tc uA un uc, v = .agg #[.int .i64 k, .int .i64 l, .string s, .slice eA en ec, .slice tA tn tc, .slice uA un uc] := by
  cases d with
  | zero => exact h.elim
  | succ d =>
    match x, h with
    | .mk k l s es ts us, ⟨eA, ec, tA, tc, uA, uc, hv, _⟩ => exact ⟨k, l, s, eA, es.length, ec, tA, ts.length, tc, uA, us.length, uc, hv⟩
theorem rowS_of {F : Nat → Prop} {w : World} {D d c : Nat} {A : Option Addr} {xs : List St} (h : RowG 6 (MSt D d) F w xs A c) : RowS F w D d xs A c := by
  refine ⟨h.1, fun i x hi => ?_⟩
  obtain ⟨g, cs, hA, hF, hlen, hcell, hv⟩ := h.2 i x hi
  match cs, hlen with
  | [c0, c1, c2, c3, c4, c5], _ => exact ⟨g, 0, c0, c1, c2, c3, c4, c5, hA, hF, by rw [Nat.zero_add]; exact hcell 0 c0 rfl, by rw [Nat.zero_add]; exact hcell 1 c1 rfl, by rw [Nat.zero_add]; exact hcell 2 c2 rfl, by rw [Nat.zero_add]; exact hcell 3 c3 rfl, by rw [Nat.zero_add]; exact hcell 4 c4 rfl, by rw [Nat.zero_add]; exact hcell 5 c5 rfl, hv⟩
/-- What the loop over statements carries. -/
def BlkR (S : RS1) (p tb n0 : Nat) (ts : List St) (s s' : RS) (w : World) (v : Value) (wr : World) : Prop :=
  ∃ n xs ss L A m c D d, v = .slice A m c ∧ m = xs.length ∧ n + xs.length = n0 ∧ stmtsR S n xs ss = some (ts, s') ∧ GRow 6 101 (MSt D d) w.heap.size wr (.slice A m c) xs L ∧ RA wr p tb ss ∧ w.grownBy wr (some p) ∧ ss.rest.length ≤ s.rest.length
def sliceLen (v : Value) : Nat := match v with | .slice _ n _ => n | _ => 0
theorem stmtsR_cases {S : RS1} {n : Nat} {xs ts : List St} {s s' : RS} (h : stmtsR S n xs s = some (ts, s')) : (s.bad = true ∧ ts = xs ∧ s' = s) ∨ (s.bad = false ∧ ((isR [125] s = true ∧ ts = xs ∧ s' = popR s) ∨ (isR [125] s = false ∧ ∃ m t s1, n = m + 1 ∧ S s = some (t, s1) ∧ stmtsR S m (xs ++ [t]) s1 = some (ts, s')))) := by
  cases n with
  | zero => cases h
  | succ m =>
    simp only [stmtsR] at h
    cases hb : s.bad with
    | true =>
      simp only [hb, if_true] at h
      injection h with h
      injection h with e1 e2
      exact .inl ⟨rfl, e1.symm, e2.symm⟩
    | false =>
      simp only [hb, Bool.false_eq_true, if_false] at h
      refine .inr ⟨rfl, ?_⟩
      cases hi : isR [125] s with
      | true =>
        simp only [hi, if_true] at h
        injection h with h
        injection h with e1 e2
        exact .inl ⟨rfl, e1.symm, e2.symm⟩
      | false =>
        simp only [hi, Bool.false_eq_true, if_false] at h
        refine .inr ⟨rfl, ?_⟩
        cases hq : S s with
        | none => rw [hq] at h; cases h
        | some q => rw [hq] at h; exact ⟨m, q.1, q.2, rfl, rfl, h⟩
set_option maxRecDepth 100000 in
set_option maxHeartbeats 4000000 in
theorem block_r (S : RS1) (hs : SubS 68 S) : SubB 59 (blockR S) := by
  intro p tb s s' ts w h hP
  have plt := h.lt.1
  have tlt := h.lt.2.1
  have HS := Lib.hid hs
  have HP := Lib.hid hP
  have HX := Lib.hid (expect_r [123] w h)
  have hsm := h.sm
  have hel := expectR_len [123] s
  have HSM : Hid ((expectR [123] s).rest.length ≤ 1000000) := Lib.hid (by omega)
  have HEL := Lib.hid hel
  clear hs hP h hsm hel
  go_enter Try.func59, Try.ntmps59
  go_wp2_with fail
  refine HX.out.mono ?_
  rintro e w1 ⟨⟨v1, rfl⟩, hp1, hg1⟩
  have HR : Hid (BlkR S p tb ((expectR [123] s).rest.length + 1) ts s s' w (.slice none 0 0) w1) := Lib.hid ⟨_, [], _, [], none, 0, 0, 0, 0, rfl, rfl, rfl, HP.out, GRow.nil, hp1, hg1, HEL.out⟩
  clear HP HX hp1 hg1
  go_wp2_with fail
  go_loopw [3] (fun v wr => BlkR S p tb ((expectR [123] s).rest.length + 1) ts s s' w v wr) (fun v _ => (expectR [123] s).rest.length + 1 - sliceLen v)
  case atStart => exact HR.out
  case round =>
    obtain ⟨n, xs, ss, L, A, m, c, D, d, rfl, hm, hn, hst, hgr, hp, hg, hl⟩ := hrel
    subst hm
    clear HR
    have HG := Lib.hid hg
    have HGR := Lib.hid hgr
    have Hl := Lib.hid hl
    have HN := Lib.hid hn
    have HC := Lib.hid (stmtsR_cases hst)
    have hszr := hg.size
    have HAC := Lib.hid (accept_r [125] wr hp)
    have HPP := Lib.hid hp
    obtain ⟨a, cc, N, hr⟩ := hp
    have c2 := hr.cells.2.2.1
    clear hg hgr hl hst hr hn
    cases hb : ss.bad with
    | true =>
      rw [hb] at c2
      rcases HC.out with ⟨_, rfl, rfl⟩ | ⟨h0, _⟩
      · have HE : Hid (BRG p tb ts s s' w (.returned (.slice A ts.length c)) wr) := Lib.hid ⟨D, d, A, ts.length, c, rfl, rfl, rowS_of (HGR.out.row (mst_keeps D d)).2, HPP.out, HG.out, Hl.out⟩
        clear HC HAC hb
        go_wp2_with fail
        go_ret
        exact HE.out
      · rw [hb] at h0; cases h0
    | false =>
      rw [hb] at c2
      rcases HC.out with ⟨h0, _⟩ | ⟨_, hc⟩
      · rw [hb] at h0; cases h0
      · clear HC hb
        go_wp2_with fail
        refine HAC.out.mono ?_
        rintro e w2 ⟨rfl, hp2, hg2⟩
        have HGR2 := Lib.hid (HGR.out.grown (mst_keeps D d) hg2 plt)
        have HG2 := Lib.hid (HG.out.trans hg2)
        have hsz2 := hg2.size
        clear HAC hg2 HGR HG HPP
        rcases hc with ⟨hi, rfl, rfl⟩ | ⟨hi, m, t, s1, rfl, hq, hst⟩
        · rw [accR_yes hi] at hp2
          have HE : Hid (BRG p tb ts s (popR ss) w (.returned (.slice A ts.length c)) w2) := Lib.hid ⟨D, d, A, ts.length, c, rfl, rfl, rowS_of (HGR2.out.row (mst_keeps D d)).2, hp2, HG2.out, by rw [popR_len]; have := Hl.out; omega⟩
          clear hp2
          go_wp2_with fail
          go_ret
          exact HE.out
        · rw [accR_no hi] at hp2
          have HX2 := Lib.hid (HS.out p tb ss s1 t w2 hp2 hq)
          have HST := Lib.hid hst
          have hxs : xs.length ≤ 1000000 := by have := HN.out; have := HSM.out; omega
          clear hp2 hq hst
          go_wp2_with fail
          refine HX2.out.mono ?_
          rintro e w3 ⟨D3, d3, k3, l3, t3, eA, en, ec, tA, tn, tc, uA, un, uc, rfl, hv3, hp3, hg3, hl3⟩
          have hsz3 := hg3.size
          have HV3 := Lib.hid (show MSt (D + D3) (d + d3 + 1) (fun q => w2.heap.size ≤ q ∧ q < w3.heap.size) w3 t [.int .i64 k3, .int .i64 l3, .string t3, .slice eA en ec, .slice tA tn tc, .slice uA un uc] from by
            have := hv3.more D d
            have e : d3 + (d + 1) = d + d3 + 1 := by omega
            rw [Nat.add_comm D3 D, e] at this
            exact this)
          have HGR3 := Lib.hid ((HGR2.out.grown (mst_keeps D d) hg3 plt).map (V' := MSt (D + D3) (d + d3 + 1)) (fun F w x cs h => by
            have := StV.more h D3 d3
            have e : d + (d3 + 1) = d + d3 + 1 := by omega
            rw [e] at this
            exact this))
          have HOU := Lib.hid (fun b hb => (HGR2.out.own.lt b hb).2)
          have HP3 := Lib.hid hp3
          have HG3 := Lib.hid (HG2.out.trans hg3)
          have HL3 := Lib.hid hl3
          clear hv3 hp3 hg3 hl3 HX2 HGR2 HG2
          go_wp2_with (at_builtin; refine Pause.out ?_)
          refine Pause.of (wpList_append_g (k := 6) (T := 101) (S := 63) (V := MSt (D + D3) (d + d3 + 1)) w3 rfl (.tmp 16) (.tmp 19) rfl (mst_keeps _ _) _ _ Try.underlying63 infoStmtR rfl (by decide) (by decide) w.heap.size (.slice A xs.length c) xs L t [.int .i64 k3, .int .i64 l3, .string t3, .slice eA en ec, .slice tA tn tc, .slice uA un uc] (fun q => w2.heap.size ≤ q ∧ q < w3.heap.size) rfl rfl HGR3.out hxs (by omega) rfl (by simp [Value.oneCell']) HV3.out (fun b hb => ⟨by omega, hb.2, fun e => by have := HOU.out b e; omega⟩) ?_)
          intro g9 cap9 wz harz hgz
          have hbz : Below w.heap.size w3 wz := grown_any hgz (fun k hk => (HGR3.out.own.lt k hk).1) (by omega)
          have HST2 : Hid (BlkR S p tb ((expectR [123] s).rest.length + 1) ts s s' w (.slice (some ⟨g9, 0, none⟩) (xs.length + 1) cap9) wz) := Lib.hid ⟨m, xs ++ [t], s1, _, _, _, _, D + D3, d + d3 + 1, rfl, by simp, by have := HN.out; simp; omega, HST.out, harz, HP3.out.low hbz plt tlt, grown_low HG3.out hbz (Nat.le_refl _), by have := HL3.out; have := Hl.out; omega⟩
          have HNN := Lib.hid (show (expectR [123] s).rest.length + 1 - (xs.length + 1) < (expectR [123] s).rest.length + 1 - xs.length by have := HN.out; omega)
          clear harz hgz hbz HOU HL3 HP3 HGR3 HV3 HST
          go_wp2_with fail
          exact ⟨HST2.out, by simpa [sliceLen] using HNN.out⟩
end Go.Proofs.Ytjmbllbnlnjanaa
