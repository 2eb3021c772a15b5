/-
  The plain parser of expressions: what package syntax does on tokens. No condition.
-/
import Derived.Test.YtmpnkbhlagalkaaGreatDoorTokForm
import Derived.Test.YtmpnkbhlagalkaaGreatDoorNode
namespace Go.Proofs.YtmpnkbhlagalkaaGreatDoor
open Go.RowKit

/-- A parser's state: the tokens that are left (the last one is always there), the line that is refused, the line of a size out of its range. -/
structure PS where
  rest : List Tok
  ref : Nat
  out : Nat
def noT : Tok := ⟨0, 0, 0, []⟩
def hdT (s : PS) : Tok := s.rest.head?.getD noT
def popP (s : PS) : PS := { s with rest := s.rest.tail }
def refuseP (s : PS) : PS := { s with rest := s.rest.drop (s.rest.length - 1), ref := if s.ref = 0 then (hdT s).line else s.ref }
def seesP (l : List Bytes) (s : PS) : Bool := l.contains (hdT s).text
def accP (t : Bytes) (s : PS) : PS := if seesP [t] s then popP s else s
def demandP (t : Bytes) (s : PS) : PS := if seesP [t] s then popP s else refuseP s
def expectP (k : Nat) (s : PS) : Tok × PS := if (hdT s).kind = k then (hdT s, popP s) else (noT, refuseP s)
def nmB (t : Bytes) : ByteArray := ⟨t.toArray⟩
/-- The tree of an operator between two operands. -/
def binK (t : Bytes) : Int := if t = [124, 124] then 8 else if t = [38, 38] then 7 else 6
def binO (t : Bytes) : Int := if t = [124, 124] then 0 else if t = [38, 38] then 0 else if t = [60] then 8 else if t = [60, 61] then 9 else if t = [61, 61] then 10 else if t = [33, 61] then 11 else if t = [43] then 3 else if t = [45] then 4 else if t = [42] then 5 else if t = [47] then 6 else if t = [37] then 7 else 0
def binP (t : Tok) (x y : Ex) : Ex := .mk (binK t.text) (binO t.text) 0 (t.line : Int) ⟨#[]⟩ [x, y]
abbrev P1 := PS → Option (Ex × PS)
/-- Operands with signs between them: n signs at most. -/
def loopP (sub : P1) (signs : List Bytes) : Nat → Ex → P1
  | 0, _, _ => none
  | n + 1, x, s =>
    if seesP signs s then
      match sub (popP s) with
      | none => none
      | some (y, s2) => loopP sub signs n (binP (hdT s) x y) s2
    else some (x, s)
def levelP (sub : P1) (signs : List Bytes) : P1 := fun s =>
  match sub s with
  | none => none
  | some (x, s1) => loopP sub signs (s.rest.length + 1) x s1
/-- One comparison at most. -/
def onceP (sub : P1) (signs : List Bytes) : P1 := fun s =>
  match sub s with
  | none => none
  | some (x, s1) =>
    if seesP signs s1 then
      match sub (popP s1) with
      | none => none
      | some (y, s2) => some (binP (hdT s1) x y, s2)
    else some (x, s1)
/-- What an expression begins with: a number, a name, an element, the value of a function, what is read, parentheses. -/
def primaryP (E : P1) : P1 := fun s =>
  if (hdT s).kind = 2 then some (.mk 1 0 ((hdT s).value : Int) ((hdT s).line : Int) ⟨#[]⟩ [], popP s)
  else if seesP [[38]] s then some (.mk 11 0 0 ((hdT s).line : Int) (nmB (expectP 1 (popP s)).1.text) [], (expectP 1 (popP s)).2)
  else if seesP [[114, 101, 97, 100]] s then some (.mk 12 0 0 ((hdT s).line : Int) ⟨#[]⟩ [], popP s)
  else if seesP [[40]] s then
    match E (popP s) with
    | none => none
    | some (x, s1) => some (x, demandP [41] s1)
  else if seesP [[91]] (expectP 1 s).2 then
    match E (popP (expectP 1 s).2) with
    | none => none
    | some (x, s1) => some (.mk 4 0 0 ((hdT s).line : Int) (nmB (expectP 1 s).1.text) [x], demandP [93] s1)
  else some (.mk 13 0 0 ((hdT s).line : Int) (nmB (expectP 1 s).1.text) [], (expectP 1 s).2)
/-- Operands behind commas: n at most. -/
def moreP (E : P1) : Nat → List Ex → PS → Option (List Ex × PS)
  | 0, _, _ => none
  | n + 1, xs, s =>
    if seesP [[44]] s then
      match E (popP s) with
      | none => none
      | some (y, s2) => moreP E n (xs ++ [y]) s2
    else some (xs, s)
/-- A list of operands up to the closing parenthesis. -/
def listP (E : P1) (xs : List Ex) : PS → Option (List Ex × PS) := fun s =>
  if seesP [[41]] s then some (xs, popP s)
  else
    match E s with
    | none => none
    | some (y, s1) =>
      match moreP E (s.rest.length + 1) (xs ++ [y]) s1 with
      | none => none
      | some (ys, s2) => some (ys, demandP [41] s2)
/-- A call of x, by its name or by its value. -/
def callP (E : P1) (x : Ex) (named : Bool) : P1 := fun s =>
  match listP E (if named then [] else [x]) (popP s) with
  | none => none
  | some (ys, s2) =>
    match x with
    | .mk _ _ _ _ nm _ => some (.mk (if named then 9 else 10) 0 0 ((hdT s).line : Int) (if named then nm else ⟨#[]⟩) ys, s2)
/-- Calls one behind the other: n at most. -/
def callsP (E : P1) (bare : Bool) : Nat → Ex → P1
  | 0, _, _ => none
  | n + 1, x, s =>
    if seesP [[40]] s then
      match callP E x (match x with | .mk k _ _ _ _ _ => bare && k == 13) s with
      | none => none
      | some (y, s2) => callsP E bare n y s2
    else some (x, s)
/-- What is called, and how often. -/
def calledP (E : P1) : P1 := fun s =>
  match primaryP E s with
  | none => none
  | some (x, s1) => callsP E ((hdT s).kind == 1) (s.rest.length + 1) x s1
/-- Signs ahead of an operand: n at most. -/
def unaryP (E : P1) : Nat → P1
  | 0, _ => none
  | n + 1, s =>
    if seesP [[45]] s then
      match unaryP E n (popP s) with
      | none => none
      | some (x, s1) => some (.mk 5 1 0 ((hdT s).line : Int) ⟨#[]⟩ [x], s1)
    else if seesP [[33]] s then
      match unaryP E n (popP s) with
      | none => none
      | some (x, s1) => some (.mk 5 2 0 ((hdT s).line : Int) ⟨#[]⟩ [x], s1)
    else calledP E s
def unaryQ (E : P1) : P1 := fun s => unaryP E (s.rest.length + 1) s
def termP (E : P1) : P1 := levelP (unaryQ E) [[42], [47], [37]]
def sumP (E : P1) : P1 := levelP (termP E) [[43], [45]]
def compareP (E : P1) : P1 := onceP (sumP E) [[60], [60, 61], [61, 61], [33, 61]]
def andP (E : P1) : P1 := levelP (compareP E) [[38, 38]]
/-- An expression with at most d others around each other within it. -/
def exprP : Nat → P1
  | 0, _ => none
  | d + 1, s => levelP (andP (exprP d)) [[124, 124]] s
def lineP (s : PS) : Nat := (if (hdT s).kind = 0 then s else refuseP s).ref
/-- The tokens of a text: the last one is the end, and no other. -/
def WFt (l : List Tok) : Prop := ∃ r e, l = r ++ [e] ∧ (e.kind = 0 ∧ e.text = []) ∧ ∀ t ∈ r, t.kind ≠ 0 ∧ t.text ≠ []
theorem WFt.pos {l : List Tok} (h : WFt l) : 0 < l.length := by
  obtain ⟨r, e, rfl, _⟩ := h
  simp
theorem WFt.two {s : PS} (h : WFt s.rest) (h2 : (hdT s).text ≠ [] ∨ (hdT s).kind ≠ 0) : 2 ≤ s.rest.length := by
  obtain ⟨r, e, hl, he, _⟩ := h
  cases r with
  | nil =>
    have : hdT s = e := by simp [hdT, hl]
    rw [this] at h2
    rcases h2 with h2 | h2
    · exact absurd he.2 h2
    · exact absurd he.1 h2
  | cons a r => rw [hl]; simp
theorem WFt.tail {l : List Tok} (h : WFt l) (h2 : 2 ≤ l.length) : WFt l.tail := by
  obtain ⟨r, e, rfl, he, hr⟩ := h
  cases r with
  | nil => simp at h2
  | cons a r => exact ⟨r, e, rfl, he, fun t ht => hr t (by simp [ht])⟩
theorem WFt.last {l : List Tok} (h : WFt l) : WFt (l.drop (l.length - 1)) := by
  obtain ⟨r, e, rfl, he, _⟩ := h
  exact ⟨[], e, by simp, he, fun t ht => by simp at ht⟩
theorem wft_scan {l : Bytes} {line : Nat} {ts : List Tok} (h : scan line l = .ok ts) : WFt ts := by
  obtain ⟨toks, e, rfl, ht⟩ := scan_form l.length l line ts (Nat.le_refl _) h
  refine ⟨toks, _, rfl, ⟨rfl, rfl⟩, fun t hm => ⟨(ht t hm).kd, ?_⟩⟩
  obtain ⟨c, r, hc, _⟩ := (ht t hm).head
  rw [hc]
  simp
theorem sees_two {l : List Bytes} {s : PS} (h : WFt s.rest) (hl : [] ∉ l) (hs : seesP l s = true) : 2 ≤ s.rest.length := by
  refine h.two (.inl fun e => hl ?_)
  simp only [seesP, List.contains_iff_mem] at hs
  rwa [e] at hs
/-- A token's four cells. -/
def TokAt (w : World) (b o : Nat) (t : Tok) : Prop := w.cell? ⟨b, o, none⟩ = some (.int .i64 (t.kind : Int)) ∧ w.cell? ⟨b, o + 1, none⟩ = some (.int .i64 (t.line : Int)) ∧ w.cell? ⟨b, o + 2, none⟩ = some (.int .i64 (t.value : Int)) ∧ w.cell? ⟨b, o + 3, none⟩ = some (.string (nmB t.text))
/-- A parser in its block p, its tokens in the block tb. -/
structure PR (w : World) (p tb off c n : Nat) (s : PS) : Prop where
  wf : WFt s.rest
  ne : tb ≠ p
  len : s.rest.length = n + 1
  cap : n + 1 ≤ c
  sm : n ≤ 1000000
  row : ∃ T, w.heap[p]? = some (.cells #[.slice (some ⟨tb, off, none⟩) (n + 1) c, .int .i64 (s.ref : Int), .int .i64 (s.out : Int)] T (0, 0))
  tok : ∀ k t, s.rest[k]? = some t → TokAt w tb (off + k * 4) t
def PA (w : World) (p tb : Nat) (s : PS) : Prop := ∃ off c n, PR w p tb off c n s
theorem PR.hd {w : World} {p tb off c n : Nat} {s : PS} (h : PR w p tb off c n s) : TokAt w tb off (hdT s) := by
  have hl := h.wf.pos
  have := h.tok 0 (hdT s) (by
    cases hr : s.rest with
    | nil => rw [hr] at hl; simp at hl
    | cons a r => simp [hdT, hr])
  simpa using this
theorem PR.plt {w : World} {p tb off c n : Nat} {s : PS} (h : PR w p tb off c n s) : p < w.heap.size := by
  obtain ⟨T, hr⟩ := h.row
  exact (Array.getElem?_eq_some_iff.1 hr).1
theorem PR.tlt {w : World} {p tb off c n : Nat} {s : PS} (h : PR w p tb off c n s) : tb < w.heap.size := World.block_lt_of_cell? w _ h.hd.1
theorem PA.wf {w : World} {p tb : Nat} {s : PS} (h : PA w p tb s) : WFt s.rest := by
  obtain ⟨off, c, n, h⟩ := h
  exact h.wf
theorem PA.lt {w : World} {p tb : Nat} {s : PS} (h : PA w p tb s) : p < w.heap.size ∧ tb < w.heap.size ∧ tb ≠ p := by
  obtain ⟨off, c, n, h⟩ := h
  exact ⟨h.plt, h.tlt, h.ne⟩
theorem TokAt.keep {w w' : World} {b o : Nat} {t : Tok} (h : TokAt w b o t) (hb : w'.heap[b]? = w.heap[b]?) : TokAt w' b o t := by
  have e : ∀ o, w'.cell? ⟨b, o, none⟩ = w.cell? ⟨b, o, none⟩ := fun o => World.cell?_of_block hb
  exact ⟨(e _).trans h.1, (e _).trans h.2.1, (e _).trans h.2.2.1, (e _).trans h.2.2.2⟩
theorem PA.keep {w w' : World} {p tb : Nat} {s : PS} (h : PA w p tb s) (hp : w'.heap[p]? = w.heap[p]?) (ht : w'.heap[tb]? = w.heap[tb]?) : PA w' p tb s := by
  obtain ⟨off, c, n, h⟩ := h
  obtain ⟨T, hr⟩ := h.row
  exact ⟨off, c, n, h.wf, h.ne, h.len, h.cap, h.sm, ⟨T, hp.trans hr⟩, fun k t hk => (h.tok k t hk).keep ht⟩
theorem PA.low {w w' : World} {p tb B : Nat} {s : PS} (h : PA w p tb s) (hb : Below B w w') (h1 : p < B) (h2 : tb < B) : PA w' p tb s := h.keep (hb.block _ h1) (hb.block _ h2)
theorem PA.below {w w' : World} {p tb : Nat} {s : PS} (h : PA w p tb s) (hb : Below w.heap.size w w') : PA w' p tb s := h.low hb h.lt.1 h.lt.2.1
theorem PA.alloc {w : World} {p tb : Nat} {s : PS} (h : PA w p tb s) (o : Obj) : PA (w.alloc o) p tb s := h.below ((Below.refl _ w).alloc (Nat.le_refl _) o)
theorem PA.other {w w' : World} {p tb g : Nat} {s : PS} (h : PA w p tb s) (hg : w.grownBy w' (some g)) (h1 : p ≠ g) (h2 : tb ≠ g) : PA w' p tb s :=
  h.keep (hg.block _ h.lt.1 (fun e => h1 (by injection e))) (hg.block _ h.lt.2.1 (fun e => h2 (by injection e)))
/-- What lies at the parser for a walk. -/
theorem PR.cells {w : World} {p tb off c n : Nat} {s : PS} (h : PR w p tb off c n s) : w.cell? ⟨p, 0, none⟩ = some (.slice (some ⟨tb, off, none⟩) (n + 1) c) ∧ w.cell? ⟨p, 1, none⟩ = some (.int .i64 (s.ref : Int)) ∧ w.cell? ⟨p, 2, none⟩ = some (.int .i64 (s.out : Int)) ∧ (∀ i, w.frozen? ⟨p, i, none⟩ = false) := by
  obtain ⟨T, hr⟩ := h.row
  exact ⟨cell_of_row _ _ 0 _ _ _ hr, cell_of_row _ _ 1 _ _ _ hr, cell_of_row _ _ 2 _ _ _ hr, fun i => by simp [World.frozen?, hr]⟩
/-- The first token is taken. -/
theorem PR.pop {w w' : World} {p tb off c n : Nat} {s : PS} (h : PR w p tb off c (n + 1) s) (hp : ∃ T, w'.heap[p]? = some (.cells #[.slice (some ⟨tb, off + 4, none⟩) (n + 1) (c - 1), .int .i64 (s.ref : Int), .int .i64 (s.out : Int)] T (0, 0))) (ht : w'.heap[tb]? = w.heap[tb]?) : PR w' p tb (off + 4) (c - 1) n (popP s) := by
  have hl := h.len
  refine ⟨h.wf.tail (by omega), h.ne, by simp [popP, hl], by have := h.cap; omega, by have := h.sm; omega, hp, fun k t hk => ?_⟩
  have := (h.tok (k + 1) t (by simpa [popP] using hk)).keep ht
  have e : off + 4 + k * 4 = off + (k + 1) * 4 := by omega
  rw [e]
  exact this
/-- The end alone is left. -/
theorem PR.refuse {w w' : World} {p tb off c n r : Nat} {s : PS} (h : PR w p tb off c n s) (hr : r = (refuseP s).ref) (hp : ∃ T, w'.heap[p]? = some (.cells #[.slice (some ⟨tb, off + n * 4, none⟩) 1 (c - n), .int .i64 (r : Int), .int .i64 (s.out : Int)] T (0, 0))) (ht : w'.heap[tb]? = w.heap[tb]?) : PR w' p tb (off + n * 4) (c - n) 0 (refuseP s) := by
  have hl := h.len
  subst hr
  refine ⟨h.wf.last, h.ne, by simp [refuseP, hl], by have := h.cap; omega, by omega, hp, fun k t hk => ?_⟩
  have := (h.tok (n + k) t (by simpa [refuseP, hl] using hk)).keep ht
  have e : off + n * 4 + k * 4 = off + (n + k) * 4 := by omega
  rw [e]
  exact this
theorem pop_len (s : PS) : (popP s).rest.length = s.rest.length - 1 := by simp [popP]
theorem refuse_len (s : PS) (h : 0 < s.rest.length) : (refuseP s).rest.length = 1 := by simp [refuseP]; omega
end Go.Proofs.YtmpnkbhlagalkaaGreatDoor
