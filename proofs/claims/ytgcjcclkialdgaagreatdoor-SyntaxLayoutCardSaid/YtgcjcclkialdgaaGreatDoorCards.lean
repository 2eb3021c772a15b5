/-
  DERIVED. GIVEN WITH THE SEED: THE CARDS: each row of YtgcjcclkialdgaaGreatDoorRows.lean that lists a variable, with what it lists TIED to the program's text (the seventh form; the later family's looks); each row that meets fmt, with fmt's text TOLD by the authors' own Lean function (tested against real Go, not proved from fmt's source: count such statements apart). THE CARD IS WHAT COUNTS. Prove the row's statement (the work); the ties are given (YtgcjcclkialdgaaGreatDoorTie.lean); close each card by the builder's one call (the guide's Derived/Test/ToyasCard.lean, 'card_holds'). Laid BY PROGRAM, IN A SANDBOX (cutbox-door.mjs). By AI agents, Wed Nov 11 2026. No macro, syntax, notation, axiom, sorry.
-/
import Derived.Test.YtgcjcclkialdgaaGreatDoorRows
import GoSem.ClaimSeven
namespace Go.Proofs.YtgcjcclkialdgaaGreatDoor
namespace Rows

/-- THE TIED CARD OF 'warmpathlaw04.SyntaxLayout'. -/
def syntaxLayoutCard : Claim7 := { stood := { row := syntaxLayoutRow, standIns := [], harness := (true, "a54ef29af9fe8a4a5f733076e61cdf621d78b8507b2e01d44acaeb69b1217f2a"), looks := true }, kinds := [], alts := [], laidByText := true, laidKinds := [.data, .data, .data, .sentinel, .sentinel], laidTests := true, laidLooks := .later }
def SyntaxLayoutCardSaid : Prop := Claim7.holds Tryz.pinned (.plain (OpenSpec.ofChange syntaxLayoutSpec)) syntaxLayoutCard

/-- THE SECOND FORM's CARD OF 'warmpathlaw04.SyntaxLayout'. -/
def syntaxLayoutUptoCard : Claim7 := { stood := { row := syntaxLayoutUptoRow, standIns := [], harness := (true, "a54ef29af9fe8a4a5f733076e61cdf621d78b8507b2e01d44acaeb69b1217f2a"), looks := true }, kinds := [], alts := [], laidByText := true, laidKinds := [.data, .data, .data, .sentinel, .sentinel], laidTests := true, laidLooks := .later }
def SyntaxLayoutUptoCardSaid : Prop := Claim7.holds Tryz.pinned (.plain (OpenSpec.upto syntaxLayoutSpec)) syntaxLayoutUptoCard
end Rows
end Go.Proofs.YtgcjcclkialdgaaGreatDoor
