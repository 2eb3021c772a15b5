/-
  The maker of sources: what it holds in memory; the walks of pick and node. Condition: at most a million codes.
-/
import Derived.Test.YtifabkoomojklaaGreatDoorFormat
import Derived.Test.YtifabkoomojklaaGreatDoorDraw
namespace Go.Proofs.YtifabkoomojklaaGreatDoor
open Go.RowKit

/-- A name: a letter, then letters, digits and underscores; no word; at most 32 bytes. -/
def isName (l : Bytes) : Bool := match l with | [] => false | c :: r => letter c && r.all wordy && !isW (c :: r) && decide (r.length < 32)
def GoodN (s : ByteArray) : Prop := s.size ≤ 16 ∧ isName s.data.toList = true
/-- What a maker knows: globals with sizes, functions with parameters, locals. -/
structure Env where
  globs : List (ByteArray × Int)
  funs : List (ByteArray × List ByteArray)
  locals : List ByteArray
/-- A row of functions under way. -/
def FunsAt (F : Nat → Prop) (w : World) (fl : List (ByteArray × List ByteArray)) (A : Option Addr) (c : Nat) : Prop :=
  fl.length ≤ c ∧ ∀ i f, fl[i]? = some f → ∃ r pA pc bA bn bc, ∃ ln : Int, A = some ⟨r, 0, none⟩ ∧ F r ∧ w.cell? ⟨r, i * 4, none⟩ = some (.string f.1) ∧ w.cell? ⟨r, i * 4 + 1, none⟩ = some (.int .i64 ln) ∧ w.cell? ⟨r, i * 4 + 2, none⟩ = some (.slice pA f.2.length pc) ∧ w.cell? ⟨r, i * 4 + 3, none⟩ = some (.slice bA bn bc)
/-- The maker's block. -/
def MkAt (w : World) (m g : Nat) (E : Env) (bud : Int) : Prop :=
  ∃ gA gc fA fc lA lc, w.heap[m]? = some (.cells #[.pointer (some ⟨g, 0, none⟩), .slice gA E.globs.length gc, .slice fA E.funs.length fc, .slice lA E.locals.length lc, .int .i64 bud] 68 (0, 0)) ∧
    GlobsAt (fun k => k ≠ g) w E.globs gA gc ∧ FunsAt (fun k => k ≠ g) w E.funs fA fc ∧ StrsAt (fun k => k ≠ g) w E.locals lA lc
theorem cell_grown {w w' : World} {g r o : Nat} {v : Value} (hg : w.grownBy w' (some g)) (hr : r ≠ g) (h : w.cell? ⟨r, o, none⟩ = some v) : w'.cell? ⟨r, o, none⟩ = some v :=
  (World.cell?_of_block (hg.block r (World.block_lt_of_cell? w _ h) (fun e => hr (by injection e)))).trans h
theorem GlobsAt.grown {w w' : World} {g : Nat} {gl : List (ByteArray × Int)} {A : Option Addr} {c : Nat} (h : GlobsAt (fun k => k ≠ g) w gl A c) (hg : w.grownBy w' (some g)) : GlobsAt (fun k => k ≠ g) w' gl A c :=
  ⟨h.1, fun i x hi => by
    obtain ⟨r, hA, hr, e0, e1⟩ := h.2 i x hi
    exact ⟨r, hA, hr, cell_grown hg hr e0, cell_grown hg hr e1⟩⟩
theorem StrsAt.grown {w w' : World} {g : Nat} {l : List ByteArray} {A : Option Addr} {c : Nat} (h : StrsAt (fun k => k ≠ g) w l A c) (hg : w.grownBy w' (some g)) : StrsAt (fun k => k ≠ g) w' l A c :=
  ⟨h.1, fun i x hi => by
    obtain ⟨r, hA, hr, e0⟩ := h.2 i x hi
    exact ⟨r, hA, hr, cell_grown hg hr e0⟩⟩
theorem FunsAt.grown {w w' : World} {g : Nat} {l : List (ByteArray × List ByteArray)} {A : Option Addr} {c : Nat} (h : FunsAt (fun k => k ≠ g) w l A c) (hg : w.grownBy w' (some g)) : FunsAt (fun k => k ≠ g) w' l A c :=
  ⟨h.1, fun i x hi => by
    obtain ⟨r, pA, pc, bA, bn, bc, ln, hA, hr, e0, e1, e2, e3⟩ := h.2 i x hi
    exact ⟨r, pA, pc, bA, bn, bc, ln, hA, hr, cell_grown hg hr e0, cell_grown hg hr e1, cell_grown hg hr e2, cell_grown hg hr e3⟩⟩
theorem MkAt.lt {w : World} {m g : Nat} {E : Env} {bud : Int} (h : MkAt w m g E bud) : m < w.heap.size := by
  obtain ⟨_, _, _, _, _, _, h, _⟩ := h
  exact (Array.getElem?_eq_some_iff.1 h).1
theorem MkAt.grown {w w' : World} {m g : Nat} {E : Env} {bud : Int} (h : MkAt w m g E bud) (hg : w.grownBy w' (some g)) (hm : m ≠ g) : MkAt w' m g E bud := by
  have hlt := h.lt
  obtain ⟨gA, gc, fA, fc, lA, lc, h0, h1, h2, h3⟩ := h
  exact ⟨gA, gc, fA, fc, lA, lc, (hg.block m hlt (fun e => hm (by injection e))).trans h0, h1.grown hg, h2.grown hg, h3.grown hg⟩
/-- The maker at work over a source of codes. -/
structure GS (w : World) (m g : Nat) (l : List Nat) (E : Env) (bud : Int) : Prop where
  ne : m ≠ g
  mka : MkAt w m g E bud
  co : ∃ k, Codes w g l k
  len : l.length ≤ 1000000
  lb : ∀ x ∈ l, x < 256
theorem GS.below {w w' : World} {m g : Nat} {l : List Nat} {E : Env} {bud : Int} (h : GS w m g l E bud) (hb : Below w.heap.size w w') : GS w' m g l E bud :=
  ⟨h.ne, h.mka.grown (grown_of_below hb _) h.ne, by obtain ⟨k, hk⟩ := h.co; exact ⟨k, codes_below hk hb⟩, h.len, h.lb⟩
/-- A number below n. -/
def NextG (m g : Nat) (l : List Nat) (E : Env) (bud : Int) (n : Nat) (w : World) (e : Ending) (w' : World) : Prop :=
  ∃ r : Nat, e = .returned (.int .i64 (r : Int)) ∧ (1 ≤ n → r < n) ∧ (n < 1 → r = 0) ∧ GS w' m g l E bud ∧ w.grownBy w' (some g)
theorem next_gs {w : World} {m g : Nat} {l : List Nat} {E : Env} {bud : Int} (n : Nat) (z : Int) (h : GS w m g l E bud) (hz : z = (n : Int)) (hn : n ≤ 1000000000) :
    Calls Tryz.prog 20 #[.pointer (some ⟨g, 0, none⟩), .int .i64 z] w (NextG m g l E bud n w) := by
  subst hz
  obtain ⟨k, hk⟩ := h.co
  exact (next_any g l k n w hk hn h.len h.lb).mono fun e w' ⟨r, k', h1, h2, h3, h4, h5⟩ => ⟨r, h1, fun hh => by have := h2 (by omega); omega, fun hh => h3 (by omega), ⟨h.ne, h.mka.grown h5 h.ne, ⟨k', h4⟩, h.len, h.lb⟩, h5⟩
theorem GS.cells {w : World} {m g : Nat} {l : List Nat} {E : Env} {bud : Int} (h : GS w m g l E bud) : ∃ gA gc fA fc lA lc, w.cell? ⟨m, 0, none⟩ = some (.pointer (some ⟨g, 0, none⟩)) ∧ w.cell? ⟨m, 1, none⟩ = some (.slice gA E.globs.length gc) ∧ w.cell? ⟨m, 2, none⟩ = some (.slice fA E.funs.length fc) ∧ w.cell? ⟨m, 3, none⟩ = some (.slice lA E.locals.length lc) ∧ w.cell? ⟨m, 4, none⟩ = some (.int .i64 bud) ∧
    GlobsAt (fun k => k ≠ g) w E.globs gA gc ∧ FunsAt (fun k => k ≠ g) w E.funs fA fc ∧ StrsAt (fun k => k ≠ g) w E.locals lA lc := by
  obtain ⟨gA, gc, fA, fc, lA, lc, h0, h1, h2, h3⟩ := h.mka
  exact ⟨gA, gc, fA, fc, lA, lc, cell_of_row _ _ 0 _ _ _ h0, cell_of_row _ _ 1 _ _ _ h0, cell_of_row _ _ 2 _ _ _ h0, cell_of_row _ _ 3 _ _ _ h0, cell_of_row _ _ 4 _ _ _ h0, h1, h2, h3⟩
theorem GS.glt {w : World} {m g : Nat} {l : List Nat} {E : Env} {bud : Int} (h : GS w m g l E bud) : g < w.heap.size := by obtain ⟨k, hk⟩ := h.co; exact codes_lt hk
/-- The names of what a maker knows are names, and there are few of them. -/
structure EnvOk (E : Env) : Prop where
  gn : E.globs.length ≤ 100
  fn : 1 ≤ E.funs.length ∧ E.funs.length ≤ 100
  ln : E.locals.length ≤ 1000
  gs : ∀ x ∈ E.globs, GoodN x.1 ∧ 0 ≤ x.2 ∧ x.2 ≤ 100
  fs : ∀ f ∈ E.funs, GoodN f.1 ∧ f.2.length ≤ 2 ∧ ∀ p ∈ f.2, GoodN p
  ls : ∀ s ∈ E.locals, GoodN s
/-- pick under way. -/
def PickRel (w0 : World) (E : Env) (v i : Value) (wr : World) : Prop :=
  ∃ (k : Nat) (xs : List ByteArray), k ≤ E.globs.length ∧ i = .int .i64 (k : Int) ∧ xs.length ≤ k ∧ (∀ s ∈ xs, ∃ x ∈ E.globs, x.1 = s) ∧ wr.ownsRow w0.heap.size 9 1 v xs.length (strV xs) ∧ Below w0.heap.size w0 wr
def PickG (m g : Nat) (l : List Nat) (E : Env) (bud : Int) (w : World) (e : Ending) (w' : World) : Prop :=
  ∃ (s : ByteArray) (ok : Bool), e = .returned (.tuple #[.string s, .bool ok]) ∧ (ok = true → ∃ x ∈ E.globs, x.1 = s) ∧ GS w' m g l E bud ∧ w.grownBy w' (some g)
theorem infoStr2 : (Tryz.prog.info? 9).map (fun i => (i.zero, i.size, i.bytes)) = some (some (.string ⟨#[]⟩), 1, 16) := by kernel_rfl
theorem own_shape {w : World} {base : Nat} {v : Value} {n size : Nat} {T : TypeId} {xs : List Value} (h : w.ownsRow base T size v n xs) : ∃ a c, v = .slice a n c := by
  rcases h.2 with ⟨rfl, h0⟩ | ⟨g, cap, cur, rfl, _⟩
  · exact ⟨none, 0, by rw [h0]⟩
  · exact ⟨_, _, rfl⟩
theorem own_some {w : World} {base : Nat} {v : Value} {n size : Nat} {T : TypeId} {xs : List Value} (h : w.ownsRow base T size v n xs) (hn : 0 < n) : ∃ b c, v = .slice (some ⟨b, 0, none⟩) n c ∧ base ≤ b ∧ n ≤ c := by
  rcases h.2 with ⟨rfl, h0⟩ | ⟨g, cap, cur, rfl, hb, _, hc, _⟩
  · omega
  · exact ⟨g, cap, rfl, hb, hc⟩
theorem grown_low2 {w a b : World} {g : Nat} (h : w.grownBy a (some g)) (k : a.grownBy b (some g)) : w.grownBy b (some g) := h.trans k
set_option maxRecDepth 100000 in
set_option maxHeartbeats 4000000 in
theorem pick_any (m g : Nat) (l : List Nat) (E : Env) (bud : Int) (arr : Bool) (w : World) (h : GS w m g l E bud) (hE : EnvOk E) :
    Calls Tryz.prog 58 #[.pointer (some ⟨m, 0, none⟩), .bool arr] w (PickG m g l E bud w) := by
  obtain ⟨i9, hi, hz0, hz1, hz2⟩ := info_parts infoStr2
  have Hi := Lib.hid hi; have Hz0 := Lib.hid hz0; have Hz1 := Lib.hid hz1; have Hz2 := Lib.hid hz2
  clear hi hz0 hz1 hz2
  have Hgs := Lib.hid h
  obtain ⟨gA, gc, fA, fc, lA, lc, c0, c1, c2, c3, c4, hG, _, _⟩ := h.cells
  have HG := Lib.hid hG
  have hgn := hE.gn
  obtain ⟨n, hn⟩ : ∃ n, n = E.globs.length := ⟨_, rfl⟩
  have Hn := Lib.hid hn
  have hgc : n ≤ gc := by rw [hn]; exact hG.1
  rw [← hn] at c1 hgn
  clear hG h hn c2 c3 c4
  go_enter Tryz.func58, Tryz.ntmps58
  go_wp2_with fail
  go_loopw [6, 7] (fun v i wr => PickRel w E v i wr) (fun _ i _ => n - (intOf i).toNat)
  case atStart => exact ⟨0, [], Nat.zero_le _, rfl, Nat.zero_le _, by simp, World.ownsRow_nil _ _ _ _, Below.refl _ _⟩
  case round =>
    obtain ⟨k, xs, hk, rfl, hxk, hmem, hown, hb⟩ := hrel
    have Hown := Lib.hid hown
    have Hb := Lib.hid hb
    have Hmem := Lib.hid hmem
    have hsz := hb.size
    have hkn : k ≤ n := by rw [Hn.out]; exact hk
    have d0 := hold hb c0
    have d1 := hold hb c1
    clear hown hb hmem hk
    by_cases hlt : k < n
    · obtain ⟨x, hx⟩ : ∃ x, E.globs[k]? = some x := ⟨E.globs[k]'(by rw [← Hn.out]; exact hlt), List.getElem?_eq_getElem _⟩
      obtain ⟨r, rfl, _, e0, e1⟩ := HG.out.2 k x hx
      have hxm := List.mem_of_getElem? hx
      have d2 := hold Hb.out e0
      have d3 := hold Hb.out e1
      obtain ⟨nm, sz⟩ := x
      simp only [] at d2 d3
      clear e0 e1 hx c0 c1
      by_cases hp : decide (0 < sz) = arr
      · have hp2 : Hid (decide (0 < sz) = arr) := Lib.hid hp
        subst hp
        clear hp2
        go_wp2_with (at_builtin; refine Pause.out ?_)
        refine Pause.of (wpList_append_own _ rfl (.tmp 30) (.tmp 40) _ rfl w.heap.size 9 i9 _ 1 16 Tryz.underlying28 Hi.out Hz0.out Hz1.out Hz2.out rfl (by decide) _ _ _ rfl (Hown.out.alloc _) ⟨_, 0, none⟩ 1 1 [.string nm] rfl (by simp) ?_ ?_ (by unfold maxLen; omega) (by omega) (by simp; omega) ?_)
        · intro j u hu
          exact (Rd.new wr #[.string nm] 9 (0, 0)).cells j u (by simpa using hu)
        · intro u hu
          simp at hu
          subst hu
          rfl
        · intro v' w' hown hg _
          have hr : PickRel w E v' (.int .i64 ((k : Int) + 1)) w' := ⟨k + 1, xs ++ [nm], by rw [← Hn.out]; omega, by go_num, by simp; omega, fun s hs => by
            rcases List.mem_append.1 hs with h | h
            · exact Hmem.out s h
            · simp at h
              subst h
              exact ⟨_, hxm, rfl⟩, by simpa [strV] using hown, (Hb.out.alloc hsz _).grown hg (by simp; omega) (own_base Hown.out)⟩
          have Hr := Lib.hid hr
          clear hr hown hg
          go_wp2_with fail
          exact ⟨Hr.out, by simp [intOf]; omega⟩
      · have hp2 : (decide (0 < sz) == arr) = false := by simpa using hp
        clear hp
        go_wp2_with fail
        exact ⟨⟨k + 1, xs, by rw [← Hn.out]; omega, by go_num, by omega, Hmem.out, Hown.out, Hb.out⟩, by simp [intOf]; omega⟩
    · obtain rfl : k = n := by omega
      by_cases hx0 : xs = []
      · subst hx0
        obtain ⟨a, c, rfl⟩ := own_shape Hown.out
        go_wp2_with fail
        go_ret2
        exact ⟨_, false, rfl, (fun h => by cases h), Hgs.out.below Hb.out, grown_of_below Hb.out _⟩
      · have hpos : 0 < xs.length := List.length_pos_iff.2 hx0
        obtain ⟨b, cap, hu, hbw, hcap⟩ := own_some Hown.out hpos
        subst hu
        have hgs := Hgs.out.below Hb.out
        have hnx := Lib.hid (next_gs xs.length _ hgs rfl (by omega))
        have hbg : b ≠ g := by have := Hgs.out.glt; omega
        have hcell : ∀ r (hr : r < xs.length), wr.cell? ⟨b, r, none⟩ = some (.string xs[r]) := fun r hr => by
          have := Hown.out.cells (g := b) rfl r (.string xs[r]) (by simp [strV, hr])
          rwa [Addr.add_lit, Nat.zero_add] at this
        have Hcell := Lib.hid hcell
        clear hcell hgs hx0 c0 c1
        obtain ⟨nx, hnxx⟩ : ∃ nx, nx = xs.length := ⟨_, rfl⟩
        have Hnx := Lib.hid hnxx
        rw [← hnxx] at hpos hnx hcap ⊢
        clear hnxx
        go_wp2_with fail
        refine hnx.out.mono ?_
        rintro e w2 ⟨r, rfl, hr1, _, hgs2, hg2⟩
        have hrn : r < nx := hr1 (by omega)
        have hc2 := cell_grown hg2 hbg (Hcell.out r (by rw [← Hnx.out]; exact hrn))
        have hmm := Hmem.out _ (List.getElem_mem (by rw [← Hnx.out]; exact hrn : r < xs.length))
        have Hmm := Lib.hid hmm
        have Hgs2 := Lib.hid hgs2
        have Hg2 := Lib.hid hg2
        clear hr1 hgs2 hg2 hmm hnx
        generalize xs[r]'(by rw [← Hnx.out]; exact hrn) = s at *
        go_wp2_with fail
        go_ret2
        exact ⟨s, true, rfl, fun _ => Hmm.out, Hgs2.out, grown_low2 (grown_of_below Hb.out _) Hg2.out⟩
end Go.Proofs.YtifabkoomojklaaGreatDoor
