/-
  The plain reader of the reference: what package warmpathref04 does on tokens. No condition.
-/
import Derived.Test.YtmpnkbhlagalkaaGreatDoorPsMath
namespace Go.Proofs.YtmpnkbhlagalkaaGreatDoor
open Go.RowKit

/-- A reader's state: the tokens that are left (the last one is always there), whether one did not fit, the line of a size out of its range. -/
structure RS where
  rest : List Tok
  bad : Bool
  wrong : Nat
def hdR (s : RS) : Tok := s.rest.head?.getD noT
def popR (s : RS) : RS := { s with rest := s.rest.tail }
def badR (s : RS) : RS := { s with bad := true }
def isR (t : Bytes) (s : RS) : Bool := !s.bad && ((decide ((hdR s).kind = 3) || decide ((hdR s).kind = 4)) && decide ((hdR s).text = t))
def accR (t : Bytes) (s : RS) : RS := if isR t s then popR s else s
def expectR (t : Bytes) (s : RS) : RS := if isR t s then popR s else badR s
def kindR (k : Nat) (s : RS) : Tok × RS := if s.bad = true ∨ (hdR s).kind ≠ k then (noT, badR s) else (hdR s, popR s)
def seesR (l : List Bytes) (s : RS) : Bool := l.any fun t => isR t s
abbrev R1 := RS → Option (Ex × RS)
/-- Operands with signs between them: n signs at most. -/
def loopR (sub : R1) (signs : List Bytes) : Nat → Ex → R1
  | 0, _, _ => none
  | n + 1, x, s =>
    if seesR signs s then
      match sub (popR s) with
      | none => none
      | some (y, s2) => loopR sub signs n (binP (hdR s) x y) s2
    else some (x, s)
def levelR (sub : R1) (signs : List Bytes) : R1 := fun s =>
  match sub s with
  | none => none
  | some (x, s1) => loopR sub signs (s1.rest.length + 1) x s1
/-- One comparison at most. -/
def onceR (sub : R1) (signs : List Bytes) : R1 := fun s =>
  match sub s with
  | none => none
  | some (x, s1) =>
    if seesR signs s1 then
      match sub (popR s1) with
      | none => none
      | some (y, s2) => some (binP (hdR s1) x y, s2)
    else some (x, s1)
def noX : Ex := .mk 0 0 0 0 ⟨#[]⟩ []
/-- What an expression begins with. -/
def primaryR (E : R1) : R1 := fun s =>
  if s.bad then some (noX, s)
  else if (hdR s).kind = 2 then some (.mk 1 0 ((hdR s).value : Int) ((hdR s).line : Int) ⟨#[]⟩ [], popR s)
  else if (hdR s).kind = 1 then
    if isR [91] (popR s) then
      match E (popR (popR s)) with
      | none => none
      | some (x, s1) => some (.mk 4 0 0 ((hdR s).line : Int) (nmB (hdR s).text) [x], expectR [93] s1)
    else some (.mk 13 0 0 ((hdR s).line : Int) (nmB (hdR s).text) [], popR s)
  else if isR [38] s then some (.mk 11 0 0 ((hdR s).line : Int) (nmB (kindR 1 (popR s)).1.text) [], (kindR 1 (popR s)).2)
  else if isR [114, 101, 97, 100] s then some (.mk 12 0 0 ((hdR s).line : Int) ⟨#[]⟩ [], popR s)
  else
    match E (expectR [40] s) with
    | none => none
    | some (x, s1) => some (x, expectR [41] s1)
/-- Arguments behind the first one: n at most. -/
def moreR (E : R1) : Nat → List Ex → RS → Option (List Ex × RS)
  | 0, _, _ => none
  | n + 1, xs, s =>
    if isR [44] s then
      match E (popR s) with
      | none => none
      | some (y, s2) => moreR E n (xs ++ [y]) s2
    else some (xs, expectR [41] s)
def argsR (E : R1) (s : RS) : Option (List Ex × RS) :=
  if isR [41] s then some ([], popR s)
  else
    match E s with
    | none => none
    | some (x, s1) => moreR E (s1.rest.length + 1) [x] s1
def Ex.nm : Ex → ByteArray | .mk _ _ _ _ s _ => s
def callR (nameF : Bool) (line : Nat) (x : Ex) (xs : List Ex) : Ex := if x.kind = 13 ∧ nameF = true then .mk 9 0 0 (line : Int) x.nm xs else .mk 10 0 0 (line : Int) ⟨#[]⟩ (x :: xs)
/-- Calls behind a primary: n at most. -/
def callsR (E : R1) (nameF : Bool) : Nat → Ex → R1
  | 0, _, _ => none
  | n + 1, x, s =>
    if isR [40] s then
      match argsR E (popR s) with
      | none => none
      | some (xs, s1) => callsR E nameF n (callR nameF (hdR s).line x xs) s1
    else some (x, s)
def calledR (E : R1) : R1 := fun s =>
  match primaryR E s with
  | none => none
  | some (x, s1) => callsR E (decide ((hdR s).kind = 1)) (s1.rest.length + 1) x s1
def unO (t : Bytes) : Int := if t = [45] then 1 else 2
/-- Signs ahead of an operand: n at most. -/
def unaryR (E : R1) : Nat → R1
  | 0, _ => none
  | n + 1, s =>
    if seesR [[45], [33]] s then
      match unaryR E n (popR s) with
      | none => none
      | some (x, s1) => some (.mk 5 (unO (hdR s).text) 0 ((hdR s).line : Int) ⟨#[]⟩ [x], s1)
    else calledR E s
def unaryRQ (E : R1) : R1 := fun s => unaryR E (s.rest.length + 1) s
def termR (E : R1) : R1 := levelR (unaryRQ E) [[42], [47], [37]]
def sumR (E : R1) : R1 := levelR (termR E) [[43], [45]]
def compareR (E : R1) : R1 := onceR (sumR E) [[60], [60, 61], [61, 61], [33, 61]]
def andR (E : R1) : R1 := levelR (compareR E) [[38, 38]]
/-- An expression with at most d others around each other within it. -/
def exprR : Nat → R1
  | 0, _ => none
  | d + 1, s => levelR (andR (exprR d)) [[124, 124]] s
/-- A reader in its block p, its tokens in the block tb. -/
structure RR (w : World) (p tb at_ c N : Nat) (s : RS) : Prop where
  wf : WFt s.rest
  ne : tb ≠ p
  len : at_ + s.rest.length = N
  cap : N ≤ c
  sm : N ≤ 1000000
  row : ∃ T, w.heap[p]? = some (.cells #[.slice (some ⟨tb, 0, none⟩) N c, .int .i64 (at_ : Int), .bool s.bad, .int .i64 (s.wrong : Int)] T (0, 0))
  tok : ∀ k t, s.rest[k]? = some t → TokAt w tb ((at_ + k) * 4) t
def RA (w : World) (p tb : Nat) (s : RS) : Prop := ∃ at_ c N, RR w p tb at_ c N s
theorem RR.lt {w : World} {p tb at_ c N : Nat} {s : RS} (h : RR w p tb at_ c N s) : at_ < N := by
  have := h.wf.pos
  have := h.len
  omega
theorem RR.hd {w : World} {p tb at_ c N : Nat} {s : RS} (h : RR w p tb at_ c N s) : TokAt w tb (at_ * 4) (hdR s) := by
  have hl := h.wf.pos
  have := h.tok 0 (hdR s) (by
    cases hr : s.rest with
    | nil => rw [hr] at hl; simp at hl
    | cons a r => simp [hdR, hr])
  simpa using this
theorem RR.plt {w : World} {p tb at_ c N : Nat} {s : RS} (h : RR w p tb at_ c N s) : p < w.heap.size := by
  obtain ⟨T, hr⟩ := h.row
  exact (Array.getElem?_eq_some_iff.1 hr).1
theorem RR.tlt {w : World} {p tb at_ c N : Nat} {s : RS} (h : RR w p tb at_ c N s) : tb < w.heap.size := World.block_lt_of_cell? w _ h.hd.1
theorem RA.wf {w : World} {p tb : Nat} {s : RS} (h : RA w p tb s) : WFt s.rest := by
  obtain ⟨off, c, n, h⟩ := h
  exact h.wf
theorem RA.lt {w : World} {p tb : Nat} {s : RS} (h : RA w p tb s) : p < w.heap.size ∧ tb < w.heap.size ∧ tb ≠ p := by
  obtain ⟨off, c, n, h⟩ := h
  exact ⟨h.plt, h.tlt, h.ne⟩
theorem RA.sm {w : World} {p tb : Nat} {s : RS} (h : RA w p tb s) : s.rest.length ≤ 1000000 := by
  obtain ⟨off, c, n, h⟩ := h
  have := h.len
  have := h.sm
  omega
theorem RR.keep {w w' : World} {p tb at_ c N : Nat} {s : RS} (h : RR w p tb at_ c N s) (hp : w'.heap[p]? = w.heap[p]?) (ht : w'.heap[tb]? = w.heap[tb]?) : RR w' p tb at_ c N s := by
  obtain ⟨T, hr⟩ := h.row
  exact ⟨h.wf, h.ne, h.len, h.cap, h.sm, ⟨T, hp.trans hr⟩, fun k t hk => (h.tok k t hk).keep ht⟩
theorem RA.keep {w w' : World} {p tb : Nat} {s : RS} (h : RA w p tb s) (hp : w'.heap[p]? = w.heap[p]?) (ht : w'.heap[tb]? = w.heap[tb]?) : RA w' p tb s := by
  obtain ⟨a, c, n, h⟩ := h
  exact ⟨a, c, n, h.keep hp ht⟩
theorem RA.low {w w' : World} {p tb B : Nat} {s : RS} (h : RA w p tb s) (hb : Below B w w') (h1 : p < B) (h2 : tb < B) : RA w' p tb s := h.keep (hb.block _ h1) (hb.block _ h2)
theorem RA.below {w w' : World} {p tb : Nat} {s : RS} (h : RA w p tb s) (hb : Below w.heap.size w w') : RA w' p tb s := h.low hb h.lt.1 h.lt.2.1
theorem RA.alloc {w : World} {p tb : Nat} {s : RS} (h : RA w p tb s) (o : Obj) : RA (w.alloc o) p tb s := h.below ((Below.refl _ w).alloc (Nat.le_refl _) o)
theorem RA.drew {w : World} {p tb : Nat} {s : RS} (h : RA w p tb s) : RA w.drew p tb s := h.keep rfl rfl
theorem RA.drewN {w : World} {p tb : Nat} {s : RS} (h : RA w p tb s) (q : Nat) : RA (w.drewN q) p tb s := h.keep rfl rfl
theorem RA.other {w w' : World} {p tb g : Nat} {s : RS} (h : RA w p tb s) (hg : w.grownBy w' (some g)) (h1 : p ≠ g) (h2 : tb ≠ g) : RA w' p tb s :=
  h.keep (hg.block _ h.lt.1 (fun e => h1 (by injection e))) (hg.block _ h.lt.2.1 (fun e => h2 (by injection e)))
/-- What lies at the reader for a walk. -/
theorem RR.cells {w : World} {p tb at_ c N : Nat} {s : RS} (h : RR w p tb at_ c N s) : w.cell? ⟨p, 0, none⟩ = some (.slice (some ⟨tb, 0, none⟩) N c) ∧ w.cell? ⟨p, 1, none⟩ = some (.int .i64 (at_ : Int)) ∧ w.cell? ⟨p, 2, none⟩ = some (.bool s.bad) ∧ w.cell? ⟨p, 3, none⟩ = some (.int .i64 (s.wrong : Int)) ∧ (∀ i, w.frozen? ⟨p, i, none⟩ = false) := by
  obtain ⟨T, hr⟩ := h.row
  exact ⟨cell_of_row _ _ 0 _ _ _ hr, cell_of_row _ _ 1 _ _ _ hr, cell_of_row _ _ 2 _ _ _ hr, cell_of_row _ _ 3 _ _ _ hr, fun i => by simp [World.frozen?, hr]⟩
theorem isR_two {t : Bytes} {s : RS} (h : WFt s.rest) (hs : isR t s = true) : 2 ≤ s.rest.length := by
  refine WFt.two (s := ⟨s.rest, 0, 0⟩) h (.inr fun e => ?_)
  simp only [isR, Bool.and_eq_true, Bool.or_eq_true, decide_eq_true_eq] at hs
  obtain ⟨_, h1, _⟩ := hs
  have e' : (hdR s).kind = 0 := e
  omega
theorem kind_two {s : RS} (h : WFt s.rest) (hk : (hdR s).kind ≠ 0) : 2 ≤ s.rest.length := WFt.two (s := ⟨s.rest, 0, 0⟩) h (.inr hk)
/-- The next token is taken. -/
theorem RR.pop {w w' : World} {p tb at_ c N : Nat} {s : RS} (h : RR w p tb at_ c N s) (h2 : 2 ≤ s.rest.length) (hp : ∃ T, w'.heap[p]? = some (.cells #[.slice (some ⟨tb, 0, none⟩) N c, .int .i64 ((at_ + 1 : Nat) : Int), .bool s.bad, .int .i64 (s.wrong : Int)] T (0, 0))) (ht : w'.heap[tb]? = w.heap[tb]?) : RR w' p tb (at_ + 1) c N (popR s) := by
  have hl := h.len
  refine ⟨h.wf.tail h2, h.ne, by simp [popR]; omega, h.cap, h.sm, hp, fun k t hk => ?_⟩
  have := (h.tok (k + 1) t (by simpa [popR] using hk)).keep ht
  have e : at_ + 1 + k = at_ + (k + 1) := by omega
  rw [e]
  exact this
theorem RR.setBad {w w' : World} {p tb at_ c N : Nat} {s : RS} (h : RR w p tb at_ c N s) (hp : ∃ T, w'.heap[p]? = some (.cells #[.slice (some ⟨tb, 0, none⟩) N c, .int .i64 (at_ : Int), .bool true, .int .i64 (s.wrong : Int)] T (0, 0))) (ht : w'.heap[tb]? = w.heap[tb]?) : RR w' p tb at_ c N (badR s) :=
  ⟨h.wf, h.ne, h.len, h.cap, h.sm, hp, fun k t hk => (h.tok k t hk).keep ht⟩
theorem popR_len (s : RS) : (popR s).rest.length = s.rest.length - 1 := by simp [popR]
theorem expectR_len (t : Bytes) (s : RS) : (expectR t s).rest.length ≤ s.rest.length := by
  unfold expectR
  split
  · rw [popR_len]; omega
  · exact Nat.le_refl _
theorem kindR_len (k : Nat) (s : RS) : (kindR k s).2.rest.length ≤ s.rest.length := by
  unfold kindR
  split
  · exact Nat.le_refl _
  · rw [popR_len]; omega
end Go.Proofs.YtmpnkbhlagalkaaGreatDoor
