/-
  DERIVED. GIVEN WITH THE SEED: THE CARDS: each row of YtnmgmfjoifglbaaDoorRows.lean that lists a variable, with what it lists TIED to the program's text (the seventh form; the later family's looks); each row that meets fmt, with fmt's text TOLD by the authors' own Lean function (tested against real Go, not proved from fmt's source: count such statements apart). THE CARD IS WHAT COUNTS. Prove the row's statement (the work); the ties are given (YtnmgmfjoifglbaaDoorTie.lean); close each card by the builder's one call (the guide's Derived/Test/ToyasCard.lean, 'card_holds'). Laid BY PROGRAM, IN A SANDBOX (cutbox-door.mjs). By AI agents, Wed Nov 11 2026. No macro, syntax, notation, axiom, sorry.
-/
import Derived.Test.YtnmgmfjoifglbaaDoorRows
import GoSem.ClaimSeven
namespace Go.Proofs.YtnmgmfjoifglbaaDoor
namespace Rows

/-- THE TIED CARD OF 'warmpathlaw04.SyntaxPrecedence'. -/
def syntaxPrecedenceCard : Claim7 := { stood := { row := syntaxPrecedenceRow, standIns := [], harness := (true, "03a6393e896b7f25b66c61e02878c29e06caeab121410738a51ca54ab8efb307"), looks := true }, kinds := [], alts := [], laidByText := true, laidKinds := [.data, .data, .data, .sentinel, .sentinel], laidTests := true, laidLooks := .later }
def SyntaxPrecedenceCardSaid : Prop := Claim7.holds Tryd.pinned (.plain (OpenSpec.ofChange syntaxPrecedenceSpec)) syntaxPrecedenceCard

/-- THE SECOND FORM's CARD OF 'warmpathlaw04.SyntaxPrecedence'. -/
def syntaxPrecedenceUptoCard : Claim7 := { stood := { row := syntaxPrecedenceUptoRow, standIns := [], harness := (true, "03a6393e896b7f25b66c61e02878c29e06caeab121410738a51ca54ab8efb307"), looks := true }, kinds := [], alts := [], laidByText := true, laidKinds := [.data, .data, .data, .sentinel, .sentinel], laidTests := true, laidLooks := .later }
def SyntaxPrecedenceUptoCardSaid : Prop := Claim7.holds Tryd.pinned (.plain (OpenSpec.upto syntaxPrecedenceSpec)) syntaxPrecedenceUptoCard
end Rows
end Go.Proofs.YtnmgmfjoifglbaaDoor
