/-
  The maker of sources: a local's name is appended; the statements that hold no block. Condition: at most a million codes.
-/
import Derived.Test.YtifabkoomojklaaGreatDoorGen13
namespace Go.Proofs.YtifabkoomojklaaGreatDoor
open Go.RowKit

theorem wpList_append_local {ops : Array Oper} {rest : List Oper} {o : Oper} {a : Act} {Q : Exit → Act → World → Prop} (w : World) (hgd : o.guard = none) (s x : Operand)
    (ho : o.op = .call { callee := .builtin .append, args := #[s, x], argTypes := #[28, 28] }) (m g : Nat) (l : List Nat) (E : Env) (bud : Int) (base : Nat) (v : Value) (nm : ByteArray)
    (h : LS w m g l E bud base) (hv : w.cell? ⟨m, 3, none⟩ = some v) (hs : a.eval s = v) (hx : a.eval x = .slice (some ⟨w.heap.size, 0, none⟩) 1 1) (hlen : E.locals.length ≤ 1000)
    (hk : ∀ g' cap w' old, w'.cell? ⟨m, 3, none⟩ = some old → w'.frozen? ⟨m, 3, none⟩ = false → LS (w'.setCell ⟨m, 3, none⟩ (.slice (some ⟨g', 0, none⟩) (E.locals.length + 1) cap)) m g l { E with locals := E.locals ++ [nm] } bud base → Chg m g w (w'.setCell ⟨m, 3, none⟩ (.slice (some ⟨g', 0, none⟩) (E.locals.length + 1) cap)) →
      wpList Tryz.prog ops Q rest (a.put o.dst (.slice (some ⟨g', 0, none⟩) (E.locals.length + 1) cap)) w') :
    wpList Tryz.prog ops Q (o :: rest) a (w.alloc (.cells #[.string nm] 9)) := by
  obtain ⟨i, hi, hz, hsz, hby⟩ := info_parts infoStr2
  obtain ⟨v', hv', ho'⟩ := h.own
  rw [hv] at hv'
  injection hv' with hv'
  subst hv'
  have hmb := h.mb
  have hbs := h.bs
  refine wpList_append_lies _ hgd s x _ ho base 9 i _ 1 16 Tryz.underlying28 hi hz hsz hby rfl (by decide) v E.locals.length (strV E.locals) hs (ho'.alloc _) ⟨w.heap.size, 0, none⟩ 1 1 [.string nm] hx (by simp) ?_ ?_ (by decide) (by unfold maxLen; omega) (by omega) (by simp; omega) _ rfl fun g' cap w' h1 h2 h3 h4 => ?_
  · intro j u hu
    rw [Addr.add_lit, Nat.zero_add]
    exact (cell_of_row _ _ _ _ _ _ (heap_alloc_new w _)).trans (by simpa using hu)
  · intro u hu
    simp at hu
    subst hu
    rfl
  · have hb := (Below.refl _ w).alloc (Nat.le_refl _) (.cells #[.string nm] 9)
    have hcap : E.locals.length + 1 ≤ cap := by
      rcases h1.2 with ⟨e, _⟩ | ⟨g'', cap', cur, e, _, _, hc, _⟩
      · cases e
      · injection e with _ _ e; subst e; exact hc
    have hgb : base ≤ g' := (h1.lt g' rfl).1
    have hbw : Below base w w' := (hb.mono h.bs).trans (grown_any h2 (fun b hb' => (ho'.lt b hb').1) (by simp; omega))
    obtain ⟨gA, gc, fA, fc, lA, lc, h0, _⟩ := h.gs.mka
    have h0' := (hbw.block m hmb).trans h0
    have hl := h.local hb hv h1 hcap h2 h3 hgb
    exact hk g' cap w' _ (cell_of_row _ _ 3 _ _ _ h0') (codes_frozen h0' 3) hl.1 hl.2
theorem EnvOk.push {E : Env} {s : ByteArray} (h : EnvOk E) (hs : GoodN s) (hl : E.locals.length + 1 ≤ 1000) : EnvOk { E with locals := E.locals ++ [s] } :=
  ⟨h.gn, h.fn, by simpa using hl, h.gs, h.fs, fun t ht => by
    rcases List.mem_append.1 ht with ht | ht
    · exact h.ls t ht
    · simp at ht; subst ht; exact hs⟩
/-- The contract of loop. -/
def LoopCt (m g : Nat) (l : List Nat) (base d : Nat) : Prop := ∀ (E : Env) (bud : Int) (w : World) (z : Int), z = (d : Int) → EnvOk E → LS w m g l E bud base → 0 ≤ bud → (E.locals.length : Int) + 1 + bud ≤ 1000 →
  Calls Tryz.prog 59 #[.pointer (some ⟨m, 0, none⟩), .int .i64 z] w (StmtG m g l E bud base d w)
theorem ss_expr2 {W wc : World} {m g base : Nat} {l : List Nat} {E : Env} {bud : Int} (h : SS W m g l E bud base wc) (hE : EnvOk E) : Calls Tryz.prog 57 #[.pointer (some ⟨m, 0, none⟩), .int .i64 2] wc (ExS W m g l E bud base wc) := ss_expr h hE 2 (.inr rfl) 2 rfl
theorem ss_expr1 {W wc : World} {m g base : Nat} {l : List Nat} {E : Env} {bud : Int} (h : SS W m g l E bud base wc) (hE : EnvOk E) : Calls Tryz.prog 57 #[.pointer (some ⟨m, 0, none⟩), .int .i64 1] wc (ExS W m g l E bud base wc) := ss_expr h hE 1 (.inl rfl) 1 rfl
theorem locs_fn {F : Nat → Prop} {w : World} {L : List ByteArray} {rr c : Nat} (h : StrsAt F w L (some ⟨rr, 0, none⟩) c) : ∃ sn : Nat → ByteArray, (∀ q, q < L.length → w.cell? ⟨rr, q, none⟩ = some (.string (sn q))) ∧ ∀ q, q < L.length → sn q ∈ L := by
  have key : ∀ q (hq : q < L.length), w.cell? ⟨rr, q, none⟩ = some (.string L[q]) := fun q hq => by
    obtain ⟨r, hA, _, e0⟩ := h.2 q _ (List.getElem?_eq_getElem hq)
    injection hA with hA
    injection hA with hA
    subst hA
    exact e0
  refine ⟨fun q => match w.cell? ⟨rr, q, none⟩ with | some (.string s) => s | _ => ⟨#[]⟩, fun q hq => ?_, fun q hq => ?_⟩
  · simp only [key q hq]
  · simp only [key q hq]
    exact List.getElem_mem hq
/-- What is read of the locals. -/
theorem locS_grown {w w' : World} {m g rr ln lc : Nat} {sn : Nat → ByteArray} (hm : m ≠ g) (hr : rr ≠ g) (hg : w.grownBy w' (some g)) (h : w.cell? ⟨m, 3, none⟩ = some (.slice (some ⟨rr, 0, none⟩) ln lc) ∧ (∀ q, q < ln → w.cell? ⟨rr, q, none⟩ = some (.string (sn q)))) : w'.cell? ⟨m, 3, none⟩ = some (.slice (some ⟨rr, 0, none⟩) ln lc) ∧ (∀ q, q < ln → w'.cell? ⟨rr, q, none⟩ = some (.string (sn q))) :=
  ⟨cell_grown hg hm h.1, fun q hq => cell_grown hg hr (h.2 q hq)⟩
theorem locS_below {w w' : World} {m rr ln lc : Nat} {sn : Nat → ByteArray} (hb : Below w.heap.size w w') (h : w.cell? ⟨m, 3, none⟩ = some (.slice (some ⟨rr, 0, none⟩) ln lc) ∧ (∀ q, q < ln → w.cell? ⟨rr, q, none⟩ = some (.string (sn q)))) : w'.cell? ⟨m, 3, none⟩ = some (.slice (some ⟨rr, 0, none⟩) ln lc) ∧ (∀ q, q < ln → w'.cell? ⟨rr, q, none⟩ = some (.string (sn q))) :=
  ⟨hold hb h.1, fun q hq => hold hb (h.2 q hq)⟩
theorem locS_set6 {w : World} {m b rr ln lc : Nat} {sn : Nat → ByteArray} {v0 v1 v2 v3 v4 v5 : Value} (hm : m ≠ b) (hr : rr ≠ b) (h : w.cell? ⟨m, 3, none⟩ = some (.slice (some ⟨rr, 0, none⟩) ln lc) ∧ (∀ q, q < ln → w.cell? ⟨rr, q, none⟩ = some (.string (sn q)))) :
    ((((((w.setCell ⟨b, 0, none⟩ v0).setCell ⟨b, 1, none⟩ v1).setCell ⟨b, 2, none⟩ v2).setCell ⟨b, 3, none⟩ v3).setCell ⟨b, 4, none⟩ v4).setCell ⟨b, 5, none⟩ v5).cell? ⟨m, 3, none⟩ = some (.slice (some ⟨rr, 0, none⟩) ln lc) ∧ (∀ q, q < ln → ((((((w.setCell ⟨b, 0, none⟩ v0).setCell ⟨b, 1, none⟩ v1).setCell ⟨b, 2, none⟩ v2).setCell ⟨b, 3, none⟩ v3).setCell ⟨b, 4, none⟩ v4).setCell ⟨b, 5, none⟩ v5).cell? ⟨rr, q, none⟩ = some (.string (sn q))) :=
  ⟨keep6 hm h.1, fun q hq => keep6 hr (h.2 q hq)⟩
theorem loc_expr {W wc : World} {m g base rr : Nat} {l : List Nat} {E : Env} {bud : Int} (h : SS W m g l E bud base wc) (hE : EnvOk E) (_ : rr ≠ g) : Calls Tryz.prog 57 #[.pointer (some ⟨m, 0, none⟩), .int .i64 2] wc fun e w2 =>
    ∃ x k o a lf s A n c, e = .returned (.agg #[.int .i64 k, .int .i64 o, .int .i64 a, .int .i64 lf, .string s, .slice A n c]) ∧ GE 2 x ∧ ExV (Made m W w2) w2 3 x (.agg #[.int .i64 k, .int .i64 o, .int .i64 a, .int .i64 lf, .string s, .slice A n c]) ∧ SS W m g l E bud base w2 ∧ wc.grownBy w2 (some g) :=
  ((expr_all m g l E bud hE 2 (by omega)) wc 2 rfl h.ls.gs).mono fun e w2 hr => by
    have hg : wc.grownBy w2 (some g) := by obtain ⟨_, _, _, _, _, _, hg⟩ := hr; exact hg
    obtain ⟨x, k, o, a, lf, s, A, n, c, h1, h2, h3, h4, _⟩ := exS_of h (.inr rfl) hr
    exact ⟨x, k, o, a, lf, s, A, n, c, h1, h2, h3, h4, hg⟩
theorem loc_one {W wc : World} {m g base : Nat} {l : List Nat} {E : Env} {bud : Int} {x : Ex} {k' o a lf : Int} {s' : ByteArray} {A : Option Addr} {n c : Nat} (h : SS W m g l E bud base wc) (hx : ExV (Made m W wc) wc 3 x (.agg #[.int .i64 k', .int .i64 o, .int .i64 a, .int .i64 lf, .string s', .slice A n c])) (k : Int) (s : ByteArray) :
    Calls Tryz.prog 56 #[.int .i64 k, .string s, .agg #[.int .i64 k', .int .i64 o, .int .i64 a, .int .i64 lf, .string s', .slice A n c]] wc fun e w2 => ∃ b, e = .returned (.agg #[.int .i64 k, .int .i64 0, .string s, .slice (some ⟨b, 0, none⟩) 1 1, .slice none 0 0, .slice none 0 0]) ∧ RowE (Made m W w2) w2 3 [x] (some ⟨b, 0, none⟩) 1 ∧ SS W m g l E bud base w2 ∧ Below wc.heap.size wc w2 :=
  (one_any k s k' o a lf s' A n c wc).mono fun _ _ ⟨b, h1, h2, he, hrow, hb⟩ => by
    obtain ⟨hs, hc⟩ := h.below hb
    have hm := Nat.lt_of_lt_of_le h.mW h.chg.size
    exact ⟨b, he, row_one hx (fun b hb => (made_chg hc h.mW h.gW b hb).1) (fun b hb => (made_chg hc h.mW h.gW b hb).2) (h.fresh (World.cell?_of_block (hb.block m hm)).symm h1 h2) hrow, hs, hb⟩
end Go.Proofs.YtifabkoomojklaaGreatDoor
