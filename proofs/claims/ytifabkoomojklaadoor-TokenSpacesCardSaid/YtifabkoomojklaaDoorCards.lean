/-
  DERIVED. GIVEN WITH THE SEED: THE CARDS: each row of YtifabkoomojklaaDoorRows.lean that lists a variable, with what it lists TIED to the program's text (the seventh form; the later family's looks); each row that meets fmt, with fmt's text TOLD by the authors' own Lean function (tested against real Go, not proved from fmt's source: count such statements apart). THE CARD IS WHAT COUNTS. Prove the row's statement (the work); the ties are given (YtifabkoomojklaaDoorTie.lean); close each card by the builder's one call (the guide's Derived/Test/ToyasCard.lean, 'card_holds'). Laid BY PROGRAM, IN A SANDBOX (cutbox-door.mjs). By AI agents, Wed Nov 11 2026. No macro, syntax, notation, axiom, sorry.
-/
import Derived.Test.YtifabkoomojklaaDoorRows
import GoSem.ClaimSeven
namespace Go.Proofs.YtifabkoomojklaaDoor
namespace Rows

/-- THE TIED CARD OF 'warmpathlaw03.TokenBack'. -/
def tokenBackCard : Claim7 := { stood := { row := tokenBackRow, standIns := [], harness := (true, "fa03f17744d4f13d915783e5a4d60568432ca965aad624971bf12c4d0fe8d3b7"), looks := true }, kinds := [], alts := [], laidByText := true, laidKinds := [.data, .data, .data, .sentinel, .sentinel], laidTests := true, laidLooks := .later }
def TokenBackCardSaid : Prop := Claim7.holds Tryd.pinned (.plain (OpenSpec.ofChange tokenBackSpec)) tokenBackCard

/-- THE TIED CARD OF 'warmpathlaw03.TokenSpaces'. -/
def tokenSpacesCard : Claim7 := { stood := { row := tokenSpacesRow, standIns := [], harness := (true, "fa03f17744d4f13d915783e5a4d60568432ca965aad624971bf12c4d0fe8d3b7"), looks := true }, kinds := [], alts := [], laidByText := true, laidKinds := [.data, .data, .data, .sentinel, .sentinel], laidTests := true, laidLooks := .later }
def TokenSpacesCardSaid : Prop := Claim7.holds Tryd.pinned (.plain (OpenSpec.ofChange tokenSpacesSpec)) tokenSpacesCard

/-- THE TIED CARD OF 'warmpathlaw04.SyntaxPrecedence'. -/
def syntaxPrecedenceCard : Claim7 := { stood := { row := syntaxPrecedenceRow, standIns := [], harness := (true, "fa03f17744d4f13d915783e5a4d60568432ca965aad624971bf12c4d0fe8d3b7"), looks := true }, kinds := [], alts := [], laidByText := true, laidKinds := [.data, .data, .data, .sentinel, .sentinel], laidTests := true, laidLooks := .later }
def SyntaxPrecedenceCardSaid : Prop := Claim7.holds Tryd.pinned (.plain (OpenSpec.ofChange syntaxPrecedenceSpec)) syntaxPrecedenceCard

/-- THE SECOND FORM's CARD OF 'warmpathlaw03.TokenBack'. -/
def tokenBackUptoCard : Claim7 := { stood := { row := tokenBackUptoRow, standIns := [], harness := (true, "fa03f17744d4f13d915783e5a4d60568432ca965aad624971bf12c4d0fe8d3b7"), looks := true }, kinds := [], alts := [], laidByText := true, laidKinds := [.data, .data, .data, .sentinel, .sentinel], laidTests := true, laidLooks := .later }
def TokenBackUptoCardSaid : Prop := Claim7.holds Tryd.pinned (.plain (OpenSpec.upto tokenBackSpec)) tokenBackUptoCard

/-- THE SECOND FORM's CARD OF 'warmpathlaw03.TokenSpaces'. -/
def tokenSpacesUptoCard : Claim7 := { stood := { row := tokenSpacesUptoRow, standIns := [], harness := (true, "fa03f17744d4f13d915783e5a4d60568432ca965aad624971bf12c4d0fe8d3b7"), looks := true }, kinds := [], alts := [], laidByText := true, laidKinds := [.data, .data, .data, .sentinel, .sentinel], laidTests := true, laidLooks := .later }
def TokenSpacesUptoCardSaid : Prop := Claim7.holds Tryd.pinned (.plain (OpenSpec.upto tokenSpacesSpec)) tokenSpacesUptoCard

/-- THE SECOND FORM's CARD OF 'warmpathlaw04.SyntaxPrecedence'. -/
def syntaxPrecedenceUptoCard : Claim7 := { stood := { row := syntaxPrecedenceUptoRow, standIns := [], harness := (true, "fa03f17744d4f13d915783e5a4d60568432ca965aad624971bf12c4d0fe8d3b7"), looks := true }, kinds := [], alts := [], laidByText := true, laidKinds := [.data, .data, .data, .sentinel, .sentinel], laidTests := true, laidLooks := .later }
def SyntaxPrecedenceUptoCardSaid : Prop := Claim7.holds Tryd.pinned (.plain (OpenSpec.upto syntaxPrecedenceSpec)) syntaxPrecedenceUptoCard
end Rows
end Go.Proofs.YtifabkoomojklaaDoor
