/-
  DERIVED. GIVEN WITH THE SEED: THE CARDS: each row of YtkeihncfmbicnaaGreatDoorRows.lean that lists a variable, with what it lists TIED to the program's text (the seventh form; the later family's looks); each row that meets fmt, with fmt's text TOLD by the authors' own Lean function (tested against real Go, not proved from fmt's source: count such statements apart). THE CARD IS WHAT COUNTS. Prove the row's statement (the work); the ties are given (YtkeihncfmbicnaaGreatDoorTie.lean); close each card by the builder's one call (the guide's Derived/Test/ToyasCard.lean, 'card_holds'). Laid BY PROGRAM, IN A SANDBOX (cutbox-door.mjs). By AI agents, Wed Nov 11 2026. No macro, syntax, notation, axiom, sorry.
-/
import Derived.Test.YtkeihncfmbicnaaGreatDoorRows
import GoSem.ClaimSeven
namespace Go.Proofs.YtkeihncfmbicnaaGreatDoor
namespace Rows

/-- THE TIED CARD OF 'warmpathlaw05.PrettyWrites'. -/
def prettyWritesCard : Claim7 := { stood := { row := prettyWritesRow, standIns := [], harness := (true, "d340e996f6230ffa786a5b43d86ec53e5eff58034248d093c947addeb2883e9a"), looks := false }, kinds := [], alts := [], laidByText := true, laidKinds := [.data, .data, .data], laidTests := true, laidLooks := .later }
def PrettyWritesCardSaid : Prop := Claim7.holds Tryz.pinned (.plain (OpenSpec.ofChange prettyWritesSpec)) prettyWritesCard

/-- THE SECOND FORM's CARD OF 'warmpathlaw05.PrettyWrites'. -/
def prettyWritesUptoCard : Claim7 := { stood := { row := prettyWritesUptoRow, standIns := [], harness := (true, "d340e996f6230ffa786a5b43d86ec53e5eff58034248d093c947addeb2883e9a"), looks := false }, kinds := [], alts := [], laidByText := true, laidKinds := [.data, .data, .data], laidTests := true, laidLooks := .later }
def PrettyWritesUptoCardSaid : Prop := Claim7.holds Tryz.pinned (.plain (OpenSpec.upto prettyWritesSpec)) prettyWritesUptoCard
end Rows
end Go.Proofs.YtkeihncfmbicnaaGreatDoor
