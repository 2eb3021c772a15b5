/-
  DERIVED. GIVEN WITH THE SEED: THE CARDS: each row of YtebmmdafmgphdaaDoorRows.lean that lists a variable, with what it lists TIED to the program's text (the seventh form; the later family's looks); each row that meets fmt, with fmt's text TOLD by the authors' own Lean function (tested against real Go, not proved from fmt's source: count such statements apart). THE CARD IS WHAT COUNTS. Prove the row's statement (the work); the ties are given (YtebmmdafmgphdaaDoorTie.lean); close each card by the builder's one call (the guide's Derived/Test/ToyasCard.lean, 'card_holds'). Laid BY PROGRAM, IN A SANDBOX (cutbox-door.mjs). By AI agents, Wed Nov 11 2026. No macro, syntax, notation, axiom, sorry.
-/
import Derived.Test.YtebmmdafmgphdaaDoorRows
import GoSem.ClaimSeven
namespace Go.Proofs.YtebmmdafmgphdaaDoor
namespace Rows

/-- THE TIED CARD OF 'warmpathlaw12.MachineBack'. -/
def machineBackCard : Claim7 := { stood := { row := machineBackRow, standIns := [], harness := (true, "c236f4aea4ac07d03a1d60d6795c85c8c9c093be16afe2d6164b2c9d685b79a4"), looks := false }, kinds := [], alts := [], laidByText := true, laidKinds := [.data], laidTests := true, laidLooks := .later }
def MachineBackCardSaid : Prop := Claim7.holds Tryd.pinned (.plain (OpenSpec.ofChange machineBackSpec)) machineBackCard

/-- THE TIED CARD OF 'warmpathlaw12.MachineStreams'. -/
def machineStreamsCard : Claim7 := { stood := { row := machineStreamsRow, standIns := [], harness := (true, "c236f4aea4ac07d03a1d60d6795c85c8c9c093be16afe2d6164b2c9d685b79a4"), looks := false }, kinds := [], alts := [], laidByText := true, laidKinds := [.data], laidTests := true, laidLooks := .later }
def MachineStreamsCardSaid : Prop := Claim7.holds Tryd.pinned (.plain (OpenSpec.ofChange machineStreamsSpec)) machineStreamsCard

/-- THE TIED CARD OF 'warmpathlaw12.MachineSizes'. -/
def machineSizesCard : Claim7 := { stood := { row := machineSizesRow, standIns := [], harness := (true, "c236f4aea4ac07d03a1d60d6795c85c8c9c093be16afe2d6164b2c9d685b79a4"), looks := false }, kinds := [], alts := [], laidByText := true, laidKinds := [.data], laidTests := true, laidLooks := .later }
def MachineSizesCardSaid : Prop := Claim7.holds Tryd.pinned (.plain (OpenSpec.ofChange machineSizesSpec)) machineSizesCard

/-- THE SECOND FORM's CARD OF 'warmpathlaw12.MachineBack'. -/
def machineBackUptoCard : Claim7 := { stood := { row := machineBackUptoRow, standIns := [], harness := (true, "c236f4aea4ac07d03a1d60d6795c85c8c9c093be16afe2d6164b2c9d685b79a4"), looks := false }, kinds := [], alts := [], laidByText := true, laidKinds := [.data], laidTests := true, laidLooks := .later }
def MachineBackUptoCardSaid : Prop := Claim7.holds Tryd.pinned (.plain (OpenSpec.upto machineBackSpec)) machineBackUptoCard

/-- THE SECOND FORM's CARD OF 'warmpathlaw12.MachineStreams'. -/
def machineStreamsUptoCard : Claim7 := { stood := { row := machineStreamsUptoRow, standIns := [], harness := (true, "c236f4aea4ac07d03a1d60d6795c85c8c9c093be16afe2d6164b2c9d685b79a4"), looks := false }, kinds := [], alts := [], laidByText := true, laidKinds := [.data], laidTests := true, laidLooks := .later }
def MachineStreamsUptoCardSaid : Prop := Claim7.holds Tryd.pinned (.plain (OpenSpec.upto machineStreamsSpec)) machineStreamsUptoCard

/-- THE SECOND FORM's CARD OF 'warmpathlaw12.MachineSizes'. -/
def machineSizesUptoCard : Claim7 := { stood := { row := machineSizesUptoRow, standIns := [], harness := (true, "c236f4aea4ac07d03a1d60d6795c85c8c9c093be16afe2d6164b2c9d685b79a4"), looks := false }, kinds := [], alts := [], laidByText := true, laidKinds := [.data], laidTests := true, laidLooks := .later }
def MachineSizesUptoCardSaid : Prop := Claim7.holds Tryd.pinned (.plain (OpenSpec.upto machineSizesSpec)) machineSizesUptoCard
end Rows
end Go.Proofs.YtebmmdafmgphdaaDoor
