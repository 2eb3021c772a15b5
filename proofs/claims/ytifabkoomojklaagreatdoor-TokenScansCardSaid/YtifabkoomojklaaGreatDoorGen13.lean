/-
  The maker of sources: a statement under way, and the contracts of what it calls as steps of it. Condition: at most a million codes.
-/
import Derived.Test.YtifabkoomojklaaGreatDoorGen12
namespace Go.Proofs.YtifabkoomojklaaGreatDoor
open Go.RowKit

/-- A statement under way: W is the world behind the result's own block. -/
structure SS (W : World) (m g : Nat) (l : List Nat) (E : Env) (bud : Int) (base : Nat) (wc : World) : Prop where
  ls : LS wc m g l E bud base
  chg : Chg m g W wc
  bw : base < W.heap.size
theorem SS.mW {W wc : World} {m g base : Nat} {l : List Nat} {E : Env} {bud : Int} (h : SS W m g l E bud base wc) : m < W.heap.size := Nat.lt_trans h.ls.mb h.bw
theorem SS.gW {W wc : World} {m g base : Nat} {l : List Nat} {E : Env} {bud : Int} (h : SS W m g l E bud base wc) : g < W.heap.size := Nat.lt_trans h.ls.gb h.mW
theorem SS.grown {W wc w2 : World} {m g base : Nat} {l : List Nat} {E : Env} {bud : Int} (h : SS W m g l E bud base wc) (h2 : GS w2 m g l E bud) (hg : wc.grownBy w2 (some g)) : SS W m g l E bud base w2 ∧ Chg m g wc w2 :=
  ⟨⟨(h.ls.grown h2 hg).1, h.chg.trans (h.ls.grown h2 hg).2, h.bw⟩, (h.ls.grown h2 hg).2⟩
theorem SS.below {W wc w2 : World} {m g base : Nat} {l : List Nat} {E : Env} {bud : Int} (h : SS W m g l E bud base wc) (hb : Below wc.heap.size wc w2) : SS W m g l E bud base w2 ∧ Chg m g wc w2 :=
  ⟨⟨(h.ls.below hb).1, h.chg.trans (h.ls.below hb).2, h.bw⟩, (h.ls.below hb).2⟩
theorem SS.start {w : World} {m g base : Nat} {l : List Nat} {E : Env} {bud : Int} (h : LS w m g l E bud base) (o : Obj) : SS (w.alloc o) m g l E bud base (w.alloc o) :=
  ⟨(h.below ((Below.refl _ w).alloc (Nat.le_refl _) o)).1, Chg.refl _ _ _, by have := h.bs; simp; omega⟩
/-- A tree that is at hand stays. -/
theorem SS.tree {W wc w2 : World} {m g base : Nat} {l : List Nat} {E : Env} {bud : Int} (h : SS W m g l E bud base wc) (hc : Chg m g wc w2) {d : Nat} {x : Ex} {v : Value} (hx : ExV (Made m W wc) wc d x v) : ExV (Made m W w2) w2 d x v :=
  hx.keep (fun b hb => (made_chg hc h.mW h.gW b hb).1) (fun b hb => (made_chg hc h.mW h.gW b hb).2)
theorem SS.row {W wc w2 : World} {m g base : Nat} {l : List Nat} {E : Env} {bud : Int} (h : SS W m g l E bud base wc) (hc : Chg m g wc w2) {d : Nat} {xs : List Ex} {A : Option Addr} {c : Nat} (hx : RowE (Made m W wc) wc d xs A c) : RowE (Made m W w2) w2 d xs A c :=
  hx.keep (fun b hb => (made_chg hc h.mW h.gW b hb).1) (fun b hb => (made_chg hc h.mW h.gW b hb).2)
theorem SS.rowS {W wc w2 : World} {m g base : Nat} {l : List Nat} {E : Env} {bud : Int} (h : SS W m g l E bud base wc) (hc : Chg m g wc w2) {D d : Nat} {xs : List St} {A : Option Addr} {c : Nat} (hx : RowS (Made m W wc) wc D d xs A c) : RowS (Made m W w2) w2 D d xs A c :=
  hx.keep (fun b hb => (made_chg hc h.mW h.gW b hb).1) (fun b hb => (made_chg hc h.mW h.gW b hb).2)
theorem SS.fresh {W wc w2 : World} {m g base b : Nat} {l : List Nat} {E : Env} {bud : Int} (h : SS W m g l E bud base wc) (hc : wc.cell? ⟨m, 3, none⟩ = w2.cell? ⟨m, 3, none⟩) (hb : wc.heap.size ≤ b) (hb2 : b < w2.heap.size) : Made m W w2 b :=
  ⟨Nat.le_trans h.chg.size hb, hb2, fun e => by have := (h.ls.lbl b (by rw [lb_of hc]; exact e)).2; omega⟩
/-- More room for the depth. -/
theorem exV_up {F : Nat → Prop} {w : World} : ∀ (d : Nat) (x : Ex) (v : Value), ExV F w d x v → ExV F w (d + 1) x v
  | 0, _, _, h => h.elim
  | d + 1, .mk _ _ _ _ _ _, _, ⟨A, c, hv, hc, h⟩ => ⟨A, c, hv, hc, fun i x hi => by
      obtain ⟨g, off, c0, c1, c2, c3, c4, c5, hA, hF, e0, e1, e2, e3, e4, e5, hx⟩ := h i x hi
      exact ⟨g, off, c0, c1, c2, c3, c4, c5, hA, hF, e0, e1, e2, e3, e4, e5, exV_up d x _ hx⟩⟩
theorem ge_up : ∀ (d : Nat) (x : Ex), GE d x → GE (d + 1) x
  | 0, .mk _ _ _ _ _ _, ⟨h0, h1, h2, h3, h4, h5, hxs, hk⟩ => ⟨h0, h1, h2, h3, h4, h5, .inl ⟨hxs, hk⟩⟩
  | d + 1, .mk _ _ _ _ _ _, ⟨h0, h1, h2, h3, h4, h5, hk⟩ => ⟨h0, h1, h2, h3, h4, h5, hk.imp id fun ⟨hx, hr⟩ => ⟨fun x hm => ge_up d x (hx x hm), hr⟩⟩
/-- A tree of an expression that a call hands back. -/
def ExS (W : World) (m g : Nat) (l : List Nat) (E : Env) (bud : Int) (base : Nat) (wc : World) (e : Ending) (w2 : World) : Prop :=
  ∃ x k o a lf s A n c, e = .returned (.agg #[.int .i64 k, .int .i64 o, .int .i64 a, .int .i64 lf, .string s, .slice A n c]) ∧ GE 2 x ∧ ExV (Made m W w2) w2 3 x (.agg #[.int .i64 k, .int .i64 o, .int .i64 a, .int .i64 lf, .string s, .slice A n c]) ∧ SS W m g l E bud base w2 ∧ Chg m g wc w2
theorem exS_of {W wc w2 : World} {m g base d : Nat} {l : List Nat} {E : Env} {bud : Int} {e : Ending} (h : SS W m g l E bud base wc) (hd : d = 1 ∨ d = 2) (hr : ExprG m g l E bud d wc e w2) : ExS W m g l E bud base wc e w2 := by
  obtain ⟨x, v, rfl, hge, hx, hgs, hg⟩ := hr
  obtain ⟨hs, hc⟩ := h.grown hgs hg
  have hm := Nat.lt_of_lt_of_le h.mW h.chg.size
  have hcell : wc.cell? ⟨m, 3, none⟩ = w2.cell? ⟨m, 3, none⟩ := (World.cell?_of_block (hg.block m hm (fun e => h.ls.gs.ne (by injection e)))).symm
  have hF : ∀ b, (wc.heap.size ≤ b ∧ b < w2.heap.size) → Made m W w2 b := fun b hb => h.fresh hcell hb.1 hb.2
  have hx2 := hx.keep (G := Made m W w2) hF (fun _ _ => rfl)
  obtain ⟨k, o, a, lf, s, A, n, c, rfl, _⟩ := exV_agg hx
  refine ⟨x, k, o, a, lf, s, A, n, c, rfl, ?_, ?_, hs, hc⟩
  · rcases hd with rfl | rfl
    · exact ge_up _ _ hge
    · exact hge
  · rcases hd with rfl | rfl
    · exact exV_up _ _ _ hx2
    · exact hx2
theorem ss_expr {W wc : World} {m g base : Nat} {l : List Nat} {E : Env} {bud : Int} (h : SS W m g l E bud base wc) (hE : EnvOk E) (d : Nat) (hd : d = 1 ∨ d = 2) (z : Int) (hz : z = (d : Int)) :
    Calls Tryz.prog 57 #[.pointer (some ⟨m, 0, none⟩), .int .i64 z] wc (ExS W m g l E bud base wc) :=
  ((expr_all m g l E bud hE d (by omega)) wc z hz h.ls.gs).mono fun _ _ hr => exS_of h hd hr
theorem ss_call {W wc : World} {m g base : Nat} {l : List Nat} {E : Env} {bud : Int} (h : SS W m g l E bud base wc) (hE : EnvOk E) :
    Calls Tryz.prog 60 #[.pointer (some ⟨m, 0, none⟩), .int .i64 2] wc (ExS W m g l E bud base wc) :=
  ((call_all m g l E bud hE 1 (by omega)) wc 2 rfl h.ls.gs).mono fun _ _ hr => exS_of h (.inr rfl) hr
def NxS (W : World) (m g : Nat) (l : List Nat) (E : Env) (bud : Int) (base n : Nat) (wc : World) (e : Ending) (w2 : World) : Prop :=
  ∃ r : Nat, e = .returned (.int .i64 (r : Int)) ∧ (1 ≤ n → r < n) ∧ SS W m g l E bud base w2 ∧ Chg m g wc w2 ∧ wc.grownBy w2 (some g)
theorem ss_next {W wc : World} {m g base : Nat} {l : List Nat} {E : Env} {bud : Int} (h : SS W m g l E bud base wc) (n : Nat) (z : Int) (hz : z = (n : Int)) (hn : n ≤ 1000000000) :
    Calls Tryz.prog 20 #[.pointer (some ⟨g, 0, none⟩), .int .i64 z] wc (NxS W m g l E bud base n wc) :=
  (next_gs n z h.ls.gs hz hn).mono fun _ _ ⟨r, he, h1, _, h3, h4⟩ => ⟨r, he, h1, (h.grown h3 h4).1, (h.grown h3 h4).2, h4⟩
def PkS (W : World) (m g : Nat) (l : List Nat) (E : Env) (bud : Int) (base : Nat) (wc : World) (e : Ending) (w2 : World) : Prop :=
  ∃ (s : ByteArray) (ok : Bool), e = .returned (.tuple #[.string s, .bool ok]) ∧ (ok = true → GoodN s) ∧ SS W m g l E bud base w2 ∧ Chg m g wc w2
theorem ss_pick {W wc : World} {m g base : Nat} {l : List Nat} {E : Env} {bud : Int} (h : SS W m g l E bud base wc) (hE : EnvOk E) (arr : Bool) :
    Calls Tryz.prog 58 #[.pointer (some ⟨m, 0, none⟩), .bool arr] wc (PkS W m g l E bud base wc) :=
  (pick_any m g l E bud arr wc h.ls.gs hE).mono fun _ _ ⟨s, ok, he, hs, h3, h4⟩ => ⟨s, ok, he, fun hk => by obtain ⟨x, hx, rfl⟩ := hs hk; exact (hE.gs x hx).1, (h.grown h3 h4).1, (h.grown h3 h4).2⟩
theorem goodN_local : ∀ s ∈ localNames, GoodN s := by
  intro s hs
  simp only [localNames, List.mem_cons, List.not_mem_nil, or_false] at hs
  rcases hs with rfl | rfl | rfl | rfl | rfl | rfl | rfl | rfl <;> exact ⟨by decide, by decide⟩
theorem ss_fresh {W wc : World} {m g base : Nat} {l : List Nat} {E : Env} {bud : Int} (h : SS W m g l E bud base wc) (hE : EnvOk E) :
    Calls Tryz.prog 55 #[.pointer (some ⟨m, 0, none⟩)] wc (PkS W m g l E bud base wc) :=
  (fresh_any m g l E bud wc h.ls.gs hE).mono fun _ _ ⟨s, ok, he, hs, hb⟩ => ⟨s, ok, he, fun hk => goodN_local s (hs hk), (h.below hb).1, (h.below hb).2⟩
/-- A statement with one expression, as a step. -/
def OnS (W : World) (m g : Nat) (l : List Nat) (E : Env) (bud : Int) (base : Nat) (x : Ex) (k : Int) (s : ByteArray) (wc : World) (e : Ending) (w2 : World) : Prop :=
  ∃ b, e = .returned (.agg #[.int .i64 k, .int .i64 0, .string s, .slice (some ⟨b, 0, none⟩) 1 1, .slice none 0 0, .slice none 0 0]) ∧ RowE (Made m W w2) w2 3 [x] (some ⟨b, 0, none⟩) 1 ∧ SS W m g l E bud base w2 ∧ Chg m g wc w2
theorem ss_one {W wc : World} {m g base : Nat} {l : List Nat} {E : Env} {bud : Int} {x : Ex} {k' o a lf : Int} {s' : ByteArray} {A : Option Addr} {n c : Nat} (h : SS W m g l E bud base wc) (hx : ExV (Made m W wc) wc 3 x (.agg #[.int .i64 k', .int .i64 o, .int .i64 a, .int .i64 lf, .string s', .slice A n c])) (k : Int) (s : ByteArray) :
    Calls Tryz.prog 56 #[.int .i64 k, .string s, .agg #[.int .i64 k', .int .i64 o, .int .i64 a, .int .i64 lf, .string s', .slice A n c]] wc (OnS W m g l E bud base x k s wc) :=
  (one_any k s k' o a lf s' A n c wc).mono fun _ _ ⟨b, h1, h2, he, hrow, hb⟩ => by
    obtain ⟨hs, hc⟩ := h.below hb
    have hm := Nat.lt_of_lt_of_le h.mW h.chg.size
    exact ⟨b, he, row_one hx (fun b hb => (made_chg hc h.mW h.gW b hb).1) (fun b hb => (made_chg hc h.mW h.gW b hb).2) (h.fresh (World.cell?_of_block (hb.block m hm)).symm h1 h2) hrow, hs, hc⟩
/-- The block of the result stays. -/
theorem SS.res {w W wc : World} {o : Obj} {m g base base' : Nat} {l : List Nat} {E E' : Env} {bud bud' : Int} (h : SS W m g l E' bud' base' wc) (hW : W = w.alloc o) (h0 : LS w m g l E bud base) : wc.heap[w.heap.size]? = some o := by
  subst hW
  have hm : m < w.heap.size := Nat.lt_of_lt_of_le h0.mb h0.bs
  have hg := h0.gb
  have hlw : lb (w.alloc o) m = lb w m := lb_of (World.cell?_of_block (((Below.refl _ w).alloc (Nat.le_refl _) o).block m hm))
  refine (h.chg.block w.heap.size (by simp) (by omega) (by omega) (fun e => ?_)).trans (heap_alloc_new w o)
  rw [hlw] at e
  have := (h0.lbl _ e).2
  omega
/-- The end of a statement: the result is stored in its own block. -/
theorem ss_out {w W wc w9 : World} {o : Obj} {m g base d : Nat} {l : List Nat} {E E' : Env} {bud bud' : Int} {x : St} {v : Value} (h : SS W m g l E' bud' base wc) (hW : W = w.alloc o) (h0 : LS w m g l E bud base) (hl : E.Like E') (hb0 : 0 ≤ bud') (hbb : bud' ≤ bud) (hln : (E'.locals.length : Int) + bud' ≤ 1000)
    (hg : wc.grownBy w9 (some w.heap.size)) (hgs : GSt (d + 1) x) (hcnt : (cntS (d + 1) x : Int) ≤ 11 + 11 * (bud - bud')) (hx : StV (Made m W wc) wc 3 (d + 1) x v) : StmtG m g l E bud base d w (.returned v) w9 := by
  subst hW
  have hsz : (w.alloc o).heap.size = w.heap.size + 1 := by simp
  have hm : m < w.heap.size := Nat.lt_of_lt_of_le h0.mb h0.bs
  have hba := (Below.refl _ w).alloc (Nat.le_refl _) o
  have hlw : lb (w.alloc o) m = lb w m := lb_of (World.cell?_of_block (hba.block m hm))
  have hne : lb wc m ≠ some w.heap.size := by
    rcases h.chg.lbs with e | ⟨q, e, hq⟩
    · rw [e, hlw]
      intro e2
      have := (h0.lbl _ e2).2
      omega
    · rw [e]
      intro e2
      injection e2 with e2
      omega
  have hc1 : Chg m g w wc := (h0.below hba).2.trans h.chg
  have hc := hc1.far hg (fun b e => by injection e with e; omega) hm
  have hwc := h.chg.size
  have hlw9 : lb w9 m = lb wc m := lb_of (World.cell?_of_block (hg.block m (by omega) (fun e => by injection e with e; omega)))
  refine ⟨E', bud', x, v, rfl, hl, h.ls.far hg (fun b e => by injection e with e; subst e; exact ⟨h0.bs, hne⟩), hb0, hbb, hln, hc, hgs, hcnt, hx.keep (fun b hb => ⟨?_, Nat.lt_of_lt_of_le hb.2.1 hg.size, by rw [hlw9]; exact hb.2.2⟩) (fun b hb => hg.block b hb.2.1 (fun e => ?_))⟩
  · injection e with e
    have := hb.1
    omega
  · have := hb.1
    omega
theorem rowS_nil {F : Nat → Prop} {w : World} {D d : Nat} : RowS F w D d [] none 0 := ⟨Nat.le_refl _, fun i x h => by simp at h⟩
/-- A statement with one expression is one. -/
theorem gst_one {d : Nat} {x : Ex} {k : Int} {s : ByteArray} (hx : GE 2 x) (hk : ((k = 1 ∨ k = 2) ∧ GoodN s) ∨ ((k = 6 ∨ k = 7 ∨ k = 8) ∧ s.size = 0)) : GSt (d + 1) (.mk k 0 s [x] [] []) :=
  ⟨rfl, by simpa using hx, by simp, by simp, by
    rcases hk with ⟨h1 | h1, h2⟩ | ⟨h1, h2⟩
    · exact .inl ⟨h1, h2, rfl, rfl, rfl⟩
    · exact .inr (.inl ⟨h1, h2, rfl, rfl, rfl⟩)
    · exact .inr (.inr (.inr (.inr (.inr ⟨h1, h2, rfl, rfl, rfl⟩))))⟩
theorem stV_one {F : Nat → Prop} {w : World} {d : Nat} {x : Ex} {k : Int} {s : ByteArray} {A : Option Addr} (hr : RowE F w 3 [x] A 1) : StV F w 3 (d + 1) (.mk k 0 s [x] [] []) (.agg #[.int .i64 k, .int .i64 0, .string s, .slice A 1 1, .slice none 0 0, .slice none 0 0]) :=
  ⟨A, 1, none, 0, none, 0, rfl, hr, rowS_nil, rowS_nil⟩
/-- The end of a statement with one expression. -/
theorem ss_out1 {w W wc w9 : World} {o : Obj} {m g base d : Nat} {l : List Nat} {E : Env} {bud : Int} {x : Ex} {k : Int} {s : ByteArray} {A : Option Addr} (h : SS W m g l E bud base wc) (hW : W = w.alloc o) (h0 : LS w m g l E bud base) (hE : EnvOk E) (hb0 : 0 ≤ bud) (hln : (E.locals.length : Int) + 1 + bud ≤ 1000)
    (hg : wc.grownBy w9 (some w.heap.size)) (hx : GE 2 x) (hk : ((k = 1 ∨ k = 2) ∧ GoodN s) ∨ ((k = 6 ∨ k = 7 ∨ k = 8) ∧ s.size = 0)) (hr : RowE (Made m W wc) wc 3 [x] A 1) :
    StmtG m g l E bud base d w (.returned (.agg #[.int .i64 k, .int .i64 0, .string s, .slice A 1 1, .slice none 0 0, .slice none 0 0])) w9 :=
  ss_out h hW h0 (Env.Like.refl hE) hb0 (Int.le_refl _) (by omega) hg (gst_one hx hk) cnt_one (stV_one hr)
/-- Statements of a block, as a step. -/
def BlS (W : World) (m g : Nat) (l : List Nat) (E : Env) (bud : Int) (base d : Nat) (wc : World) (e : Ending) (w2 : World) : Prop :=
  ∃ E' bud' ts A c, e = .returned (.slice A ts.length c) ∧ E.Like E' ∧ SS W m g l E' bud' base w2 ∧ 0 ≤ bud' ∧ bud' ≤ bud ∧ (E'.locals.length : Int) + bud' ≤ 1000 ∧ Chg m g wc w2 ∧ (∀ t ∈ ts, GSt (d + 1) t) ∧ ((ts.map (cntS (d + 1))).sum : Int) ≤ 11 * (bud - bud') ∧ RowS (Made m wc w2) w2 3 (d + 1) ts A c ∧ ts.length ≤ 10 ∧ ∃ L, StRow m wc.heap.size 3 (d + 1) w2 (.slice A ts.length c) ts L
theorem ss_block {W wc : World} {m g base d : Nat} {l : List Nat} {E : Env} {bud : Int} (hB : BlockCt m g l base d) (h : SS W m g l E bud base wc) (hE : EnvOk E) (z nz : Int) (n : Nat) (hz : z = (d : Int)) (hnz : nz = (n : Int)) (hn : n ≤ 10) (hb0 : 0 ≤ bud) (hln : (E.locals.length : Int) + bud ≤ 1000) :
    Calls Tryz.prog 33 #[.pointer (some ⟨m, 0, none⟩), .int .i64 z, .int .i64 nz] wc (BlS W m g l E bud base d wc) := by
  subst hnz
  exact (hB E bud wc z n hz hn hE h.ls hb0 hln).mono fun e w2 ⟨E', bud', ts, A, c, he, h1, h2, h3, h4, h5, h6, h7, h8, h10, L, h9⟩ => ⟨E', bud', ts, A, c, he, h1, ⟨h2, h.chg.trans h6, h.bw⟩, h3, h4, h5, h6, h7, h8, h9.row.2, h10, L, h9⟩
/-- A statement that is filled in: its row lies in the block q. -/
structure IfSt (W : World) (m g : Nat) (l : List Nat) (E : Env) (bud : Int) (base q : Nat) (row : Array Value) (wc : World) : Prop where
  ss : SS W m g l E bud base wc
  row : wc.heap[q]? = some (.cells row 84 (0, 0))
  qW : W.heap.size ≤ q
  qlb : lb wc m ≠ some q
/-- Where its parts lie. -/
def Mad (m : Nat) (W : World) (q : Nat) (wc : World) (b : Nat) : Prop := Made m W wc b ∧ b ≠ q
theorem IfSt.lt {W wc : World} {m g base q : Nat} {l : List Nat} {E : Env} {bud : Int} {row : Array Value} (h : IfSt W m g l E bud base q row wc) : q < wc.heap.size := (Array.getElem?_eq_some_iff.1 h.row).1
theorem IfSt.step {W wc w2 : World} {m g base q : Nat} {l : List Nat} {E E' : Env} {bud bud' : Int} {row : Array Value} (h : IfSt W m g l E bud base q row wc) (hs : SS W m g l E' bud' base w2) (hc : Chg m g wc w2) : IfSt W m g l E' bud' base q row w2 := by
  have h1 := h.qW
  have h2 := h.ss.mW
  have h3 := h.ss.gW
  exact ⟨hs, (hc.block q h.lt (by omega) (by omega) h.qlb).trans h.row, h1, lb_chg hc h.lt h.qlb⟩
theorem IfSt.set {W wc : World} {m g base q : Nat} {l : List Nat} {E : Env} {bud : Int} {row : Array Value} (h : IfSt W m g l E bud base q row wc) (i : Nat) (v : Value) : IfSt W m g l E bud base q (row.setIfInBounds i v) (wc.setCell ⟨q, i, none⟩ v) := by
  have h1 := h.qW
  have h2 := h.ss.mW
  have h3 := h.ss.bw
  have h4 := h.ss.chg.size
  have hg := set_grown wc ⟨q, i, none⟩ v
  have hl : lb (wc.setCell ⟨q, i, none⟩ v) m = lb wc m := lb_of (World.cell?_of_block (hg.block m (by omega) (fun e => absurd (show m = q by injection e) (by omega))))
  exact ⟨⟨h.ss.ls.far hg (fun b e => (show q = b by injection e) ▸ ⟨by omega, h.qlb⟩), h.ss.chg.far hg (fun b e => (show q = b by injection e) ▸ h1) h2, h3⟩, row_set v h.row, h1, by rw [hl]; exact h.qlb⟩
theorem mad_step {W wc w2 : World} {m g base q : Nat} {l : List Nat} {E : Env} {bud : Int} (h : SS W m g l E bud base wc) (hc : Chg m g wc w2) : ∀ b, Mad m W q wc b → Mad m W q w2 b ∧ w2.heap[b]? = wc.heap[b]? := fun b hb =>
  ⟨⟨(made_chg hc h.mW h.gW b hb.1).1, hb.2⟩, (made_chg hc h.mW h.gW b hb.1).2⟩
theorem mad_set {W wc : World} {m g base q : Nat} {l : List Nat} {E : Env} {bud : Int} {row : Array Value} (h : IfSt W m g l E bud base q row wc) (i : Nat) (v : Value) : ∀ b, Mad m W q wc b → Mad m W q (wc.setCell ⟨q, i, none⟩ v) b ∧ (wc.setCell ⟨q, i, none⟩ v).heap[b]? = wc.heap[b]? := by
  intro b hb
  have h1 := h.qW
  have h2 := h.ss.mW
  have h4 := h.ss.chg.size
  have hg := set_grown wc ⟨q, i, none⟩ v
  have hl : lb (wc.setCell ⟨q, i, none⟩ v) m = lb wc m := lb_of (World.cell?_of_block (hg.block m (by omega) (fun e => absurd (show m = q by injection e) (by omega))))
  exact ⟨⟨⟨hb.1.1, Nat.lt_of_lt_of_le hb.1.2.1 hg.size, by rw [hl]; exact hb.1.2.2⟩, hb.2⟩, hg.block b hb.1.2.1 (fun e => hb.2 (by injection e))⟩
/-- The statement's own block is made and filled. -/
theorem IfSt.make {W wc w2 : World} {m g base : Nat} {l : List Nat} {E : Env} {bud : Int} {row : Array Value} {o : Obj} (h : SS W m g l E bud base wc) (hg : (wc.alloc o).grownBy w2 (some wc.heap.size)) (hr : w2.heap[wc.heap.size]? = some (.cells row 84 (0, 0))) :
    IfSt W m g l E bud base wc.heap.size row w2 ∧ Chg m g wc w2 ∧ ∀ b, Made m W wc b → Mad m W wc.heap.size w2 b ∧ w2.heap[b]? = wc.heap[b]? := by
  have hb : Below wc.heap.size wc w2 := ((Below.refl _ wc).alloc (Nat.le_refl _) o).trans (grown_any hg (fun k hk => by injection hk with hk; omega) (by simp))
  obtain ⟨hs, hc⟩ := h.below hb
  have hm := Nat.lt_of_lt_of_le h.mW h.chg.size
  have hl : lb w2 m = lb wc m := lb_of (World.cell?_of_block (hb.block m hm))
  refine ⟨⟨hs, hr, h.chg.size, fun e => ?_⟩, hc, fun b hb => ⟨⟨(made_chg hc h.mW h.gW b hb).1, fun e => ?_⟩, (made_chg hc h.mW h.gW b hb).2⟩⟩
  · rw [hl] at e
    have := (h.ls.lbl _ e).2
    omega
  · have := hb.2.1
    omega
end Go.Proofs.YtifabkoomojklaaGreatDoor
