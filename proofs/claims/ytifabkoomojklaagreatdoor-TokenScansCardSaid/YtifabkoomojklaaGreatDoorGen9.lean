/-
  The maker of sources: what a statement is, its contract, and a step of the budget. No condition.
-/
import Derived.Test.YtifabkoomojklaaGreatDoorStRow
namespace Go.Proofs.YtifabkoomojklaaGreatDoor
open Go.RowKit

/-- A statement that the maker makes, with statements at most d deep in it. -/
def GSt : Nat → St → Prop
  | 0, _ => False
  | d + 1, .mk k l s es ts us => l = 0 ∧ (∀ x ∈ es, GE 2 x) ∧ (∀ t ∈ ts, GSt d t) ∧ (∀ t ∈ us, GSt d t) ∧
      ((k = 1 ∧ GoodN s ∧ es.length = 1 ∧ ts = [] ∧ us = []) ∨ (k = 2 ∧ GoodN s ∧ es.length = 1 ∧ ts = [] ∧ us = []) ∨ (k = 3 ∧ GoodN s ∧ es.length = 2 ∧ ts = [] ∧ us = []) ∨ (k = 4 ∧ s.size = 0 ∧ es.length = 1) ∨ (k = 5 ∧ s.size = 0 ∧ es.length = 1 ∧ us = []) ∨ ((k = 6 ∨ k = 7 ∨ k = 8) ∧ s.size = 0 ∧ es.length = 1 ∧ ts = [] ∧ us = []))
/-- The step of a loop that counts: a name, and 1. -/
def incE : List Ex → Bool
  | [.mk k o _ _ _ [.mk k1 _ _ _ _ [], .mk k2 _ a _ _ []]] => decide (k = 6 ∧ o = 3 ∧ k1 = 13 ∧ k2 = 1 ∧ a = 1)
  | _ => false
/-- What a statement weighs without those in it. -/
def cK (k : Int) (es : List Ex) : Nat := if k = 5 then 10 else if k = 2 ∧ incE es = true then 1 else 11
theorem cK_le (k : Int) (es : List Ex) : 1 ≤ cK k es ∧ cK k es ≤ 11 := by
  unfold cK
  split
  · omega
  · split <;> omega
/-- What statements weigh, down to a depth. -/
def cntS : Nat → St → Nat
  | 0, _ => 0
  | d + 1, .mk k _ _ es ts us => cK k es + (ts.map (cntS d)).sum + (us.map (cntS d)).sum
theorem cnt_one {d : Nat} {k l : Int} {s : ByteArray} {es : List Ex} {bud : Int} : (cntS (d + 1) (.mk k l s es [] []) : Int) ≤ 11 + 11 * (bud - bud) := by
  have := (cK_le k es).2
  simp only [cntS, List.map_nil, List.sum_nil]
  omega
/-- The same globals and functions; locals are added. -/
structure Env.Like (E E' : Env) : Prop where
  globs : E'.globs = E.globs
  funs : E'.funs = E.funs
  ok : EnvOk E'
theorem Env.Like.refl {E : Env} (h : EnvOk E) : E.Like E := ⟨rfl, rfl, h⟩
theorem Env.Like.trans {E E' E'' : Env} (h : E.Like E') (k : E'.Like E'') : E.Like E'' := ⟨k.globs.trans h.globs, k.funs.trans h.funs, k.ok⟩
/-- A statement made: d, how deep statements lie in it. -/
def StmtG (m g : Nat) (l : List Nat) (E : Env) (bud : Int) (base d : Nat) (w : World) (e : Ending) (w' : World) : Prop :=
  ∃ E' bud' x v, e = .returned v ∧ E.Like E' ∧ LS w' m g l E' bud' base ∧ 0 ≤ bud' ∧ bud' ≤ bud ∧ (E'.locals.length : Int) + bud' ≤ 1000 ∧ Chg m g w w' ∧ GSt (d + 1) x ∧ (cntS (d + 1) x : Int) ≤ 11 + 11 * (bud - bud') ∧ StV (Made m w w') w' 3 (d + 1) x v
def StmtCt (m g : Nat) (l : List Nat) (base d : Nat) : Prop := ∀ (E : Env) (bud : Int) (w : World) (z : Int), z = (d : Int) → EnvOk E → LS w m g l E bud base → 0 ≤ bud → (E.locals.length : Int) + 1 + bud ≤ 1000 →
  Calls Tryz.prog 49 #[.pointer (some ⟨m, 0, none⟩), .int .i64 z] w (StmtG m g l E bud base d w)
/-- Statements made: those of a block, one deeper. -/
def BlockG (m g : Nat) (l : List Nat) (E : Env) (bud : Int) (base d : Nat) (w : World) (e : Ending) (w' : World) : Prop :=
  ∃ E' bud' ts A c, e = .returned (.slice A ts.length c) ∧ E.Like E' ∧ LS w' m g l E' bud' base ∧ 0 ≤ bud' ∧ bud' ≤ bud ∧ (E'.locals.length : Int) + bud' ≤ 1000 ∧ Chg m g w w' ∧ (∀ t ∈ ts, GSt (d + 1) t) ∧ ((ts.map (cntS (d + 1))).sum : Int) ≤ 11 * (bud - bud') ∧ ts.length ≤ 10 ∧ ∃ L, StRow m w.heap.size 3 (d + 1) w' (.slice A ts.length c) ts L
def BlockCt (m g : Nat) (l : List Nat) (base d : Nat) : Prop := ∀ (E : Env) (bud : Int) (w : World) (z : Int) (n : Nat), z = (d : Int) → n ≤ 10 → EnvOk E → LS w m g l E bud base → 0 ≤ bud → (E.locals.length : Int) + bud ≤ 1000 →
  Calls Tryz.prog 33 #[.pointer (some ⟨m, 0, none⟩), .int .i64 z, .int .i64 (n : Int)] w (BlockG m g l E bud base d w)
theorem own_kept {w w' : World} {base n size : Nat} {T : TypeId} {v : Value} {xs : List Value} (h : w.ownsRow base T size v n xs) (hk : ∀ b, v.ownBlock = some b → w'.heap[b]? = w.heap[b]?) : w'.ownsRow base T size v n xs := by
  rcases h.2 with hn | ⟨g', cap, cur, e, hb', hh, rest⟩
  · exact ⟨h.1, .inl hn⟩
  · exact ⟨h.1, .inr ⟨g', cap, cur, e, hb', (hk g' (by rw [e]; rfl)).trans hh, rest⟩⟩
/-- A row of which something is read does not lie in the maker's own block. -/
theorem ne_maker {w : World} {m r : Nat} {p : Option Addr} {cs : Array Value} {t : TypeId} {s : ByteArray} (hm : w.heap[m]? = some (.cells cs t (0, 0))) (hp : cs[0]? = some (.pointer p)) (hs : w.cell? ⟨r, 0, none⟩ = some (.string s)) : r ≠ m := by
  intro e
  subst e
  rw [cell_of_row _ _ 0 _ _ _ hm, hp] at hs
  injection hs with hs
  cases hs
theorem maker_ne {w : World} {base n size m b o : Nat} {T : TypeId} {v : Value} {xs : List Value} (h : w.ownsRow base T size v n xs) (hm : m < base) (hb : v.ownBlock = some b) : some b ≠ some (Addr.mk m o none).block := fun e => by
  have e2 : b = m := by injection e
  have := (h.lt b hb).1
  omega
/-- The budget falls by a store. -/
theorem LS.budget {w : World} {m g base : Nat} {l : List Nat} {E : Env} {bud bud' : Int} (h : LS w m g l E bud base) : LS (w.setCell ⟨m, 4, none⟩ (.int .i64 bud')) m g l E bud' base ∧ Chg m g w (w.setCell ⟨m, 4, none⟩ (.int .i64 bud')) := by
  have hgr := set_grown w ⟨m, 4, none⟩ (.int .i64 bud')
  obtain ⟨gA, gc, fA, fc, lA, lc, h0, h1, h2, h3⟩ := h.gs.mka
  have hm0 : (w.setCell ⟨m, 4, none⟩ (.int .i64 bud')).heap[m]? = some (.cells #[.pointer (some ⟨g, 0, none⟩), .slice gA E.globs.length gc, .slice fA E.funs.length fc, .slice lA E.locals.length lc, .int .i64 bud'] 68 (0, 0)) := by
    have := row_set (i := 4) (.int .i64 bud') h0
    simpa using this
  have hc3 : (w.setCell ⟨m, 4, none⟩ (.int .i64 bud')).cell? ⟨m, 3, none⟩ = w.cell? ⟨m, 3, none⟩ := by rw [cell_of_row _ _ 3 _ _ _ hm0, cell_of_row _ _ 3 _ _ _ h0]; rfl
  have hk : ∀ {r o : Nat} {v : Value}, r ≠ m → w.cell? ⟨r, o, none⟩ = some v → (w.setCell ⟨m, 4, none⟩ (.int .i64 bud')).cell? ⟨r, o, none⟩ = some v := fun hr hv => cell_grown hgr hr hv
  have hchg : Chg m g w (w.setCell ⟨m, 4, none⟩ (.int .i64 bud')) := ⟨hgr.os, hgr.tape, hgr.output, hgr.size, fun k hk h1 _ _ => hgr.block k hk (fun e => h1 (by injection e)), .inl (lb_of hc3), fun j hj => by
    rw [cell_of_row _ _ j _ _ _ hm0, cell_of_row _ _ j _ _ _ h0]
    have hj3 : j = 0 ∨ j = 1 ∨ j = 2 := by omega
    rcases hj3 with rfl | rfl | rfl <;> rfl⟩
  refine ⟨⟨⟨h.gs.ne, ⟨gA, gc, fA, fc, lA, lc, hm0, ⟨h1.1, fun i x hi => ?_⟩, ⟨h2.1, fun i f hi => ?_⟩, ⟨h3.1, fun i s hi => ?_⟩⟩, ?_, h.gs.len, h.gs.lb⟩, ?_, h.mb, h.gb, Nat.le_trans h.bs hgr.size, ?_⟩, hchg⟩
  · have hl : 0 < E.globs.length := by
      rcases Nat.lt_or_ge 0 E.globs.length with h' | h'
      · exact h'
      · rw [List.getElem?_eq_none (by omega)] at hi; cases hi
    obtain ⟨r, hA, hr, e0, e1⟩ := h1.2 i x hi
    obtain ⟨r', hA', _, z0, _⟩ := h1.2 0 _ (List.getElem?_eq_getElem hl)
    rw [hA] at hA'
    injection hA' with hA'
    injection hA' with hA'
    subst hA'
    have hrm := ne_maker h0 rfl z0
    exact ⟨r, hA, hr, hk hrm e0, hk hrm e1⟩
  · have hl : 0 < E.funs.length := by
      rcases Nat.lt_or_ge 0 E.funs.length with h' | h'
      · exact h'
      · rw [List.getElem?_eq_none (by omega)] at hi; cases hi
    obtain ⟨r, pA, pc, bA, bn, bc, ln, hA, hr, e0, e1, e2, e3⟩ := h2.2 i f hi
    obtain ⟨r', _, _, _, _, _, _, hA', _, z0, _⟩ := h2.2 0 _ (List.getElem?_eq_getElem hl)
    rw [hA] at hA'
    injection hA' with hA'
    injection hA' with hA'
    subst hA'
    have hrm := ne_maker h0 rfl z0
    exact ⟨r, pA, pc, bA, bn, bc, ln, hA, hr, hk hrm e0, hk hrm e1, hk hrm e2, hk hrm e3⟩
  · have hl : 0 < E.locals.length := by
      rcases Nat.lt_or_ge 0 E.locals.length with h' | h'
      · exact h'
      · rw [List.getElem?_eq_none (by omega)] at hi; cases hi
    obtain ⟨r, hA, hr, e0⟩ := h3.2 i s hi
    obtain ⟨r', hA', _, z0⟩ := h3.2 0 _ (List.getElem?_eq_getElem hl)
    rw [hA] at hA'
    injection hA' with hA'
    injection hA' with hA'
    subst hA'
    exact ⟨r, hA, hr, hk (ne_maker h0 rfl z0) e0⟩
  · obtain ⟨k, hk⟩ := h.gs.co
    exact ⟨k, codes_other hk hgr h.gb⟩
  · obtain ⟨v, hv, ho⟩ := h.own
    exact ⟨v, hc3.trans hv, own_kept ho (fun b hb => hgr.block b (ho.lt b hb).2 (maker_ne ho h.mb hb))⟩
  · obtain ⟨gA', gc', fA', fc', k1, k2, l1, l2⟩ := h.low
    refine ⟨gA', gc', fA', fc', ?_, ?_, ⟨l1.1, fun i x hi => ?_⟩, ⟨l2.1, fun i x hi => ?_⟩⟩
    · rw [cell_of_row _ _ 1 _ _ _ hm0, ← k1, cell_of_row _ _ 1 _ _ _ h0]; rfl
    · rw [cell_of_row _ _ 2 _ _ _ hm0, ← k2, cell_of_row _ _ 2 _ _ _ h0]; rfl
    · have hl : 0 < E.globs.length := by
        rcases Nat.lt_or_ge 0 E.globs.length with h' | h'
        · exact h'
        · rw [List.getElem?_eq_none (by omega)] at hi; cases hi
      obtain ⟨r, hA, hr, e0, e1⟩ := l1.2 i x hi
      obtain ⟨r', hA', _, z0, _⟩ := l1.2 0 _ (List.getElem?_eq_getElem hl)
      rw [hA] at hA'
      injection hA' with hA'
      injection hA' with hA'
      subst hA'
      have hrm := ne_maker h0 rfl z0
      exact ⟨r, hA, hr, hk hrm e0, hk hrm e1⟩
    · have hl : 0 < E.funs.length := by
        rcases Nat.lt_or_ge 0 E.funs.length with h' | h'
        · exact h'
        · rw [List.getElem?_eq_none (by omega)] at hi; cases hi
      obtain ⟨r, pA, pc, bA, bn, bc, ln, hA, hr, e0, e1, e2, e3⟩ := l2.2 i x hi
      obtain ⟨r', _, _, _, _, _, _, hA', _, z0, _⟩ := l2.2 0 _ (List.getElem?_eq_getElem hl)
      rw [hA] at hA'
      injection hA' with hA'
      injection hA' with hA'
      subst hA'
      have hrm := ne_maker h0 rfl z0
      exact ⟨r, pA, pc, bA, bn, bc, ln, hA, hr, hk hrm e0, hk hrm e1, hk hrm e2, hk hrm e3⟩
end Go.Proofs.YtifabkoomojklaaGreatDoor
