/-
  Numbers from 0 on in memory: a row of the call's own that grows by one, a row that grows while codes are drawn, lists that read as numbers. No condition.
-/
import Derived.Test.YtanjggfcahjkfaaDraw
import Derived.Laws.AppendOwn
import Derived.Laws.OwnMore
namespace Go.Proofs.Ytanjggfcahjkfaa
open Go.RowKit

/-- A number as a value. -/
def nv (n : Nat) : Value := .int .i64 (n : Int)
theorem nv_one (l : List Nat) : ∀ u ∈ l.map nv, u.oneCell' = true := by
  intro u hu
  obtain ⟨c, _, rfl⟩ := List.mem_map.1 hu
  rfl
theorem infoI : (Try.prog.info? 3).map (fun i => (i.zero, i.size, i.bytes)) = some (some (.int .i64 0), 1, 8) := by kernel_rfl
theorem own_lo {w : World} {base n size : Nat} {T : TypeId} {v : Value} {xs : List Value} (h : w.ownsRow base T size v n xs) : ∀ k, v.ownBlock = some k → base ≤ k := fun k hk => (h.lt k hk).1
theorem own_form {w : World} {base n size : Nat} {T : TypeId} {v : Value} {xs : List Value} (h : w.ownsRow base T size v n xs) : ∃ A c, v = .slice A n c ∧ n ≤ c ∧ Rd w A xs := by
  rcases id h.2 with ⟨rfl, rfl⟩ | ⟨g, cap, cur, rfl, _, _, hc, _⟩
  · have hx : xs = [] := List.eq_nil_of_length_eq_zero (by simpa using h.1)
    subst hx
    exact ⟨none, 0, rfl, Nat.le_refl _, Rd.nil⟩
  · exact ⟨_, _, rfl, hc, Rd.of_cells (h.cells rfl)⟩
theorem bel_q {B : Nat} {a w : World} (h : Below B a w) (q : Nat) : Below B a (w.drewN q) := ⟨h.os, h.tape, h.output, h.size, h.block⟩
/-- A slice that reads as a list. -/
def RdS (w : World) (v : Value) (xs : List Value) (n : Nat) : Prop := ∃ A c, v = .slice A n c ∧ n ≤ c ∧ Rd w A xs
theorem RdS.below {w w' : World} {v : Value} {xs : List Value} {n : Nat} (h : RdS w v xs n) (hb : Below w.heap.size w w') : RdS w' v xs n := by
  obtain ⟨A, c, h1, h2, h3⟩ := h
  exact ⟨A, c, h1, h2, h3.below hb⟩

theorem own_at {w : World} {base n size : Nat} {T : TypeId} {v : Value} {xs : List Value} (h : w.ownsRow base T size v n xs) (h1 : 1 ≤ n) : ∃ q cap, v = .slice (some ⟨q, 0, none⟩) n cap ∧ base ≤ q ∧ q < w.heap.size := by
  rcases id h.2 with ⟨rfl, h0⟩ | ⟨g, cap, cur, rfl, hb, hg, _⟩
  · omega
  · exact ⟨g, cap, rfl, hb, (Array.getElem?_eq_some_iff.1 hg).1⟩
/-- Where a slice begins lies a block of such elements. -/
def HasT (w : World) (A : Option Addr) (T : TypeId) : Prop := ∀ ad, A = some ad → ∃ cs fz, w.heap[ad.block]? = some (.cells cs T fz)
/-- A slice that reads as a list, its elements' type known. -/
def RdT (w : World) (T : TypeId) (v : Value) (xs : List Value) (n : Nat) : Prop := ∃ A c, v = .slice A n c ∧ n ≤ c ∧ Rd w A xs ∧ HasT w A T
theorem HasT.grown {w w' : World} {A : Option Addr} {T U : TypeId} {q : Nat} {cs : Array Value} {fz : Nat × Nat} (h : HasT w A T) (hg : w.grownBy w' (some q)) (hq : w.heap[q]? = some (.cells cs U fz)) (hne : T ≠ U) : HasT w' A T := fun ad e => by
  obtain ⟨ds, gz, h1⟩ := h ad e
  have hlt : ad.block < w.heap.size := (Array.getElem?_eq_some_iff.1 h1).1
  refine ⟨ds, gz, (hg.block _ hlt (fun e2 => ?_)).trans h1⟩
  injection e2 with e2
  rw [e2, hq] at h1
  injection h1 with h1
  injection h1 with _ h1
  exact hne h1.symm
theorem HasT.below {w w' : World} {A : Option Addr} {T : TypeId} (h : HasT w A T) (hb : Below w.heap.size w w') : HasT w' A T := fun ad e => by
  obtain ⟨ds, gz, h1⟩ := h ad e
  exact ⟨ds, gz, (hb.block _ (Array.getElem?_eq_some_iff.1 h1).1).trans h1⟩
theorem rd_grown {w w' : World} {A : Option Addr} {T U : TypeId} {q : Nat} {cs : Array Value} {fz : Nat × Nat} {xs : List Value} (h : Rd w A xs) (ht : HasT w A T) (hg : w.grownBy w' (some q)) (hq : w.heap[q]? = some (.cells cs U fz)) (hne : T ≠ U) : Rd w' A xs := fun j u hu => by
  obtain ⟨ad, e, hc⟩ := h j u hu
  obtain ⟨ds, gz, h1⟩ := ht ad e
  refine ⟨ad, e, hg.cell hc (fun e2 => ?_)⟩
  injection e2 with e2
  rw [block_add] at e2
  rw [e2, hq] at h1
  injection h1 with h1
  injection h1 with _ h1
  exact hne h1.symm
theorem RdT.below {w w' : World} {T : TypeId} {v : Value} {xs : List Value} {n : Nat} (h : RdT w T v xs n) (hb : Below w.heap.size w w') : RdT w' T v xs n := by
  obtain ⟨A, c, h1, h2, h3, h4⟩ := h
  exact ⟨A, c, h1, h2, h3.below hb, h4.below hb⟩
theorem own_formT {w : World} {base n size : Nat} {T : TypeId} {v : Value} {xs : List Value} (h : w.ownsRow base T size v n xs) : RdT w T v xs n := by
  rcases id h.2 with ⟨rfl, rfl⟩ | ⟨g, cap, cur, rfl, _, hh, hc, _⟩
  · have hx : xs = [] := List.eq_nil_of_length_eq_zero (by simpa using h.1)
    subst hx
    exact ⟨none, 0, rfl, Nat.le_refl _, Rd.nil, fun ad e => by cases e⟩
  · exact ⟨_, _, rfl, hc, Rd.of_cells (h.cells rfl), fun ad e => by injection e with e; subst e; exact ⟨_, _, hh⟩⟩
/-- A row under way while codes are drawn. -/
structure DR (w : World) (g : Nat) (l : List Nat) (T : TypeId) (s : Nat) (v : Value) (n : Nat) (xs : List Value) (wr : World) : Prop where
  own : wr.ownsRow w.heap.size T s v n xs
  cod : ∃ k, Codes wr g l k
  gro : w.grownBy wr (some g)
  glt : g < w.heap.size
section
variable {w wr w' : World} {g k n n' s : Nat} {l : List Nat} {T : TypeId} {v v' : Value} {xs xs' : List Value}
theorem DR.nil_ (h : Codes w g l k) : DR w g l T s (.slice none 0 0) 0 [] w := ⟨World.ownsRow_nil _ _ _ _, ⟨k, h⟩, World.grownBy.refl w _, codes_lt h⟩
theorem DR.begun (hc : Codes wr g l k) (hg : w.grownBy wr (some g)) (hlt : g < w.heap.size) : DR w g l T s (.slice none 0 0) 0 [] wr := ⟨World.ownsRow_nil _ _ _ _, ⟨k, hc⟩, hg, hlt⟩
theorem DR.next (h : DR w g l T s v n xs wr) (hc : Codes w' g l k) (hg : wr.grownBy w' (some g)) : DR w g l T s v n xs w' :=
  ⟨h.own.kept hg (.inr (fun e => by have := own_lo h.own g e; have := h.glt; omega)), ⟨k, hc⟩, h.gro.trans hg, h.glt⟩
theorem DR.app (h : DR w g l T s v n xs wr) (ho : w'.ownsRow w.heap.size T s v' n' xs') (hg : wr.grownBy w' v.ownBlock) : DR w g l T s v' n' xs' w' := by
  have hb : Below w.heap.size wr w' := grown_any hg (own_lo h.own) h.gro.size
  obtain ⟨k, hc⟩ := h.cod
  exact ⟨ho, ⟨k, codes_low hc hb h.glt⟩, grown_low h.gro hb (Nat.le_refl _), h.glt⟩
end
theorem wpList_append_nat {ops : Array Oper} {rest : List Oper} {o : Oper} {a : Act} {Q : Exit → Act → World → Prop} (w : World) (hgd : o.guard = none) (s x : Operand)
    (ho : o.op = .call { callee := .builtin .append, args := #[s, x], argTypes := #[27, 27] }) (base : Nat) (v : Value) (ts : List Nat) (n : Nat) (t : Nat) (y : Int) (hn : ts.length = n) (hy : y = (t : Int))
    (hs : a.eval s = v) (hx : a.eval x = .slice (some ⟨w.heap.size, 0, none⟩) 1 1) (hown : w.ownsRow base 3 1 v n (ts.map nv)) (hlen : n ≤ 10000000) (hbase : base ≤ w.heap.size)
    (h : ∀ v' w', w'.ownsRow base 3 1 v' (n + 1) ((ts ++ [t]).map nv) → w.grownBy w' v.ownBlock → wpList Try.prog ops Q rest (a.put o.dst v') w') :
    wpList Try.prog ops Q (o :: rest) a (w.alloc (.cells #[.int .i64 y] 3)) := by
  subst hn hy
  obtain ⟨i, hi, hz, hsz, hby⟩ := info_parts infoI
  refine wpList_append_own _ hgd s x _ ho base 3 i _ 1 8 Try.underlying27 hi hz hsz hby rfl (by decide) v ts.length (ts.map nv) hs (hown.alloc _) ⟨w.heap.size, 0, none⟩ 1 1 [nv t] hx (by simp) ?_ ?_ (by unfold maxLen; omega) (by omega) (by simp; omega) fun v' w' h1 h2 _ => h v' w' ?_ ((World.grownBy_alloc _ _ _).trans h2)
  · intro j u hu
    rw [Addr.add_lit, Nat.zero_add]
    exact (cell_of_row _ _ _ _ _ _ (heap_alloc_new w _)).trans (by simpa [nv] using hu)
  · intro u hu
    exact nv_one [t] u (by simpa using hu)
  · simpa using h1
/-- append of what reads as a list, nil let in, onto a row of the call's own. -/
theorem wpList_append_rd {ops : Array Oper} {rest : List Oper} {o : Oper} {a : Act} {Q : Exit → Act → World → Prop} {P : Program} (w : World) (hgd : o.guard = none) (s x : Operand) (t : TypeId)
    (ho : o.op = .call { callee := .builtin .append, args := #[s, x], argTypes := #[t, t] }) (base : Nat) (e : TypeId) (i : TypeInfo) (z : Value) (size bytes : Nat) (ht : P.underlying t = some (.slice e)) (hi : P.info? e = some i) (hz : i.zero = some z)
    (hsize : i.size = size) (hby : i.bytes = bytes) (hzs : z.cells.size = size) (hsz : 0 < size) (v : Value) (n : Nat) (xs : List Value) (hs : a.eval s = v) (hown : w.ownsRow base e size v n xs)
    (A : Option Addr) (m c : Nat) (news : List Value) (hx : a.eval x = .slice A m c) (hl : news.length = m * size) (hr : Rd w A news) (h1 : ∀ u ∈ news, u.oneCell' = true) (h63 : n + m ≤ maxLen) (hbytes : (n + m) * bytes ≤ 140737488355328) (hbase : base ≤ w.heap.size)
    (h : ∀ v' w', w'.ownsRow base e size v' (n + m) (xs ++ news) → w.grownBy w' v.ownBlock → wpList P ops Q rest (a.put o.dst v') w') : wpList P ops Q (o :: rest) a w := by
  by_cases h0 : news = []
  · have hm : m = 0 := by
      subst h0
      have h2 : m * size = 0 := by simpa using hl.symm
      rcases Nat.mul_eq_zero.1 h2 with h | h
      · exact h
      · omega
    subst h0 hm
    refine wpList_plain hgd fun K hK => ?_
    obtain ⟨B, d, hv, hd, _⟩ := own_form hown
    have hrun : (Builtin.append_ #[t, t] o.type #[v, .slice A 0 c]).run P w = .ok v w := by
      subst hv
      cases A <;> cases B <;> simp [Builtin.append_, run_underlying ht, sizeOf, typeInfo, hi, Builtin.lenOf, Builtin.firstCells, loadCells, loadCellsFrom, hd, storeCells]
    unfold Oper.wp execOp
    simp only [ho, resolve, invoke, builtin, Sem.run_bind, Sem.run_pure, Result.andThen_ok, List.map_toArray, List.map_cons, List.map_nil, hs, hx, hrun]
    exact hK _ _ (h v w (by simpa using hown) (World.grownBy.refl w _))
  · obtain ⟨ad, rfl⟩ := hr.some_ h0
    exact wpList_append_own w hgd s x t ho base e i z size bytes ht hi hz hsize hby hzs hsz v n xs hs hown ad m c news hx hl hr.cells h1 h63 hbytes hbase (fun v' w' h2 h3 _ => h v' w' h2 h3)
theorem made_list (v : Value) (n : Nat) : (madeCells #[v] n).toList = List.replicate n v := by
  refine List.ext_getElem (by simp [madeCells]) fun i h1 h2 => ?_
  simp [madeCells, Nat.mod_one]
/-- make of n numbers. -/
theorem wpList_make_nats {ops : Array Oper} {rest : List Oper} {o : Oper} {a : Act} {Q : Exit → Act → World → Prop} (w : World) (hg : o.guard = none) (l c : Operand) (hop : o.op = .makeSlice 27 l c) (L : Int) (n : Nat)
    (hl : a.eval l = .int .i64 L) (hc : a.eval c = .int .i64 L) (hL : L = (n : Int)) (h1 : n ≤ 1000000)
    (hK : ∀ w', w'.ownsRow w.heap.size 3 1 (.slice (some ⟨w.heap.size, 0, none⟩) n n) n ((List.replicate n 0).map nv) → Below w.heap.size w w' → wpList Try.prog ops Q rest (a.put o.dst (.slice (some ⟨w.heap.size, 0, none⟩) n n)) w') :
    wpList Try.prog ops Q (o :: rest) a w := by
  obtain ⟨i, hi, hz, hsz, hby⟩ := info_parts infoI
  refine wpList_make_full w hg l c 27 hop w.heap.size 3 i _ 1 Try.underlying27 hi hz hsz .i64 .i64 L L n hl hc hL hL (by rw [hby]; omega) (by unfold maxLen; omega) (Nat.le_refl _) fun w' h2 h3 => hK w' ?_ ((Below.refl _ _).grown h3 (Nat.le_refl _) (fun q hq => by cases hq))
  rw [Nat.mul_one, show (Value.int .i64 0).cells = #[Value.int .i64 0] from rfl, made_list] at h2
  rw [List.map_replicate]
  exact h2
end Go.Proofs.Ytanjggfcahjkfaa
