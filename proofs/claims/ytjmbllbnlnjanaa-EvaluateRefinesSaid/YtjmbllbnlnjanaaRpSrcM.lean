/-
  The plain reader of statements, functions, globals and sources, as the reference has it; expressions of any depth are walked. No condition.
-/
import Derived.Test.YtjmbllbnlnjanaaRpCall
import Derived.Test.YtjmbllbnlnjanaaStG
namespace Go.Proofs.Ytjmbllbnlnjanaa
open Go.RowKit

theorem expr_allR : ∀ d, SubR 76 (exprR d)
  | 0 => fun _ _ _ _ _ _ _ hP => by cases hP
  | d + 1 => by
    have hE := expr_allR d
    have hU : SubR 90 (unaryRQ (exprR d)) := fun p tb s s' x w h hP => unary_allR (exprR d) (called_r (exprR d) hE) (s.rest.length + 1) p tb s s' x w h hP
    exact expr_levR _ (and_levR _ (compare_onceR _ (sum_levR _ (term_levR _ hU))))
/-- An expression, with as much within it as there are tokens. -/
def exprA : R1 := fun s => exprR (s.rest.length + 1) s
theorem expr_aR : SubR 76 exprA := fun p tb s s' x w h hP => expr_allR (s.rest.length + 1) p tb s s' x w h hP
def valueR (E : R1) : R1 := fun s =>
  match E s with
  | none => none
  | some (x, s1) => some (x, expectR [59] s1)
abbrev RS1 := RS → Option (St × RS)
abbrev RSL := RS → Option (List St × RS)
/-- Statements up to a closing brace: n rounds at most. -/
def stmtsR (S : RS1) : Nat → List St → RSL
  | 0, _, _ => none
  | n + 1, l, s =>
    if s.bad then some (l, s)
    else if isR [125] s then some (l, popR s)
    else
      match S s with
      | none => none
      | some (t, s1) => stmtsR S n (l ++ [t]) s1
def blockR (S : RS1) : RSL := fun s => stmtsR S ((expectR [123] s).rest.length + 1) [] (expectR [123] s)
def varW : Bytes := [118, 97, 114]
def ifW : Bytes := [105, 102]
def elseW : Bytes := [101, 108, 115, 101]
def whileW : Bytes := [119, 104, 105, 108, 101]
def returnW : Bytes := [114, 101, 116, 117, 114, 110]
def printW : Bytes := [112, 114, 105, 110, 116]
def callW : Bytes := [99, 97, 108, 108]
def oneR (k line : Int) (nm : ByteArray) (V : R1) (s : RS) : Option (St × RS) :=
  match V s with
  | none => none
  | some (x, s1) => some (.mk k line nm [x] [] [], s1)
def stmtR (B : RSL) (E : R1) : RS1 := fun s =>
  if isR varW s then oneR 1 ((hdR s).line : Int) (nmB (kindR 1 (popR s)).1.text) (valueR E) (expectR [61] (kindR 1 (popR s)).2)
  else if isR ifW s then
    match E (popR s) with
    | none => none
    | some (x, s1) =>
      match B s1 with
      | none => none
      | some (t, s2) =>
        if isR elseW s2 then
          match B (popR s2) with
          | none => none
          | some (u, s3) => some (.mk 4 ((hdR s).line : Int) ⟨#[]⟩ [x] t u, s3)
        else some (.mk 4 ((hdR s).line : Int) ⟨#[]⟩ [x] t [], s2)
  else if isR whileW s then
    match E (popR s) with
    | none => none
    | some (x, s1) =>
      match B s1 with
      | none => none
      | some (t, s2) => some (.mk 5 ((hdR s).line : Int) ⟨#[]⟩ [x] t [], s2)
  else if isR returnW s then oneR 6 ((hdR s).line : Int) ⟨#[]⟩ (valueR E) (popR s)
  else if isR printW s then oneR 7 ((hdR s).line : Int) ⟨#[]⟩ (valueR E) (popR s)
  else if isR callW s then oneR 8 ((hdR s).line : Int) ⟨#[]⟩ (valueR E) (popR s)
  else if isR [91] (kindR 1 s).2 then
    match E (popR (kindR 1 s).2) with
    | none => none
    | some (x, s1) =>
      match valueR E (expectR [61] (expectR [93] s1)) with
      | none => none
      | some (y, s2) => some (.mk 3 ((hdR s).line : Int) (nmB (kindR 1 s).1.text) [x, y] [] [], s2)
  else oneR 2 ((hdR s).line : Int) (nmB (kindR 1 s).1.text) (valueR E) (expectR [61] (kindR 1 s).2)
def stmtA : Nat → RS1
  | 0 => fun _ => none
  | d + 1 => stmtR (blockR (stmtA d)) exprA
/-- Names behind the first one: n at most. -/
def paramsR : Nat → List ByteArray → RS → Option (List ByteArray × RS)
  | 0, _, _ => none
  | n + 1, l, s => if isR [44] s then paramsR n (l ++ [nmB (kindR 1 (popR s)).1.text]) (kindR 1 (popR s)).2 else some (l, expectR [41] s)
def parensR (s : RS) : Option (List ByteArray × RS) :=
  if isR [41] s then some ([], popR s) else paramsR ((kindR 1 s).2.rest.length + 1) [nmB (kindR 1 s).1.text] (kindR 1 s).2
def functionR (B : RSL) (s : RS) : Option (Fn × RS) :=
  match parensR (expectR [40] (kindR 1 s).2) with
  | none => none
  | some (ps, s1) =>
    match B s1 with
    | none => none
    | some (b, s2) => some (⟨nmB (kindR 1 s).1.text, 0, ps, b⟩, s2)
def sizeR (t : Tok) (s : RS) : RS := if s.bad = false ∧ (t.value < 1 ∨ 1024 < t.value) ∧ s.wrong = 0 then { s with wrong := t.line } else s
def globalR (s : RS) : (ByteArray × Int) × RS :=
  if isR [91] (kindR 1 s).2 then
    ((nmB (kindR 1 s).1.text, ((kindR 2 (popR (kindR 1 s).2)).1.value : Int)), expectR [59] (expectR [93] (sizeR (kindR 2 (popR (kindR 1 s).2)).1 (kindR 2 (popR (kindR 1 s).2)).2)))
  else ((nmB (kindR 1 s).1.text, 0), expectR [59] (kindR 1 s).2)
def globalW : Bytes := [103, 108, 111, 98, 97, 108]
def funcW : Bytes := [102, 117, 110, 99]
abbrev Gls := List (ByteArray × Int)
def sourceR (B : RSL) : Nat → Gls → List Fn → RS → Option (Gls × List Fn × RS)
  | 0, _, _, _ => none
  | n + 1, gl, fl, s =>
    if s.bad then some (gl, fl, s)
    else if (hdR s).kind = 0 then some (gl, fl, s)
    else if isR globalW s then sourceR B n (gl ++ [(globalR (popR s)).1]) fl (globalR (popR s)).2
    else
      match functionR B (expectR funcW s) with
      | none => none
      | some (f, s1) => sourceR B n gl (fl ++ [{ f with line := ((hdR s).line : Int) }]) s1
def doneR (s : RS) : Nat × Nat := if s.bad = true ∨ (hdR s).kind ≠ 0 then ((hdR s).line, 7) else if 0 < s.wrong then (s.wrong, 1) else (0, 0)
end Go.Proofs.Ytjmbllbnlnjanaa
