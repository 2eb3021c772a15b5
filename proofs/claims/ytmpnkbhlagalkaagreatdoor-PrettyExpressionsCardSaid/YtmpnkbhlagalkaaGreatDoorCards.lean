/-
  DERIVED. GIVEN WITH THE SEED: THE CARDS: each row of YtmpnkbhlagalkaaGreatDoorRows.lean that lists a variable, with what it lists TIED to the program's text (the seventh form; the later family's looks); each row that meets fmt, with fmt's text TOLD by the authors' own Lean function (tested against real Go, not proved from fmt's source: count such statements apart). THE CARD IS WHAT COUNTS. Prove the row's statement (the work); the ties are given (YtmpnkbhlagalkaaGreatDoorTie.lean); close each card by the builder's one call (the guide's Derived/Test/ToyasCard.lean, 'card_holds'). Laid BY PROGRAM, IN A SANDBOX (cutbox-door.mjs). By AI agents, Wed Nov 11 2026. No macro, syntax, notation, axiom, sorry.
-/
import Derived.Test.YtmpnkbhlagalkaaGreatDoorRows
import GoSem.ClaimSeven
namespace Go.Proofs.YtmpnkbhlagalkaaGreatDoor
namespace Rows

/-- THE TIED CARD OF 'warmpathlaw05.PrettyExpressions'. -/
def prettyExpressionsCard : Claim7 := { stood := { row := prettyExpressionsRow, standIns := [], harness := (true, "c5ac9b7dc0374fd8acb73d8865e05dddc3da657515ff9e771c8ebbc8c38ff701"), looks := true }, kinds := [], alts := [], laidByText := true, laidKinds := [.data, .data, .data, .sentinel, .sentinel], laidTests := true, laidLooks := .later }
def PrettyExpressionsCardSaid : Prop := Claim7.holds Tryz.pinned (.plain (OpenSpec.ofChange prettyExpressionsSpec)) prettyExpressionsCard

/-- THE SECOND FORM's CARD OF 'warmpathlaw05.PrettyExpressions'. -/
def prettyExpressionsUptoCard : Claim7 := { stood := { row := prettyExpressionsUptoRow, standIns := [], harness := (true, "c5ac9b7dc0374fd8acb73d8865e05dddc3da657515ff9e771c8ebbc8c38ff701"), looks := true }, kinds := [], alts := [], laidByText := true, laidKinds := [.data, .data, .data, .sentinel, .sentinel], laidTests := true, laidLooks := .later }
def PrettyExpressionsUptoCardSaid : Prop := Claim7.holds Tryz.pinned (.plain (OpenSpec.upto prettyExpressionsSpec)) prettyExpressionsUptoCard
end Rows
end Go.Proofs.YtmpnkbhlagalkaaGreatDoor
