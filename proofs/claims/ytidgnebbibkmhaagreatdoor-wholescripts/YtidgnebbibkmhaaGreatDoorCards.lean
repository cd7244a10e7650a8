/-
  DERIVED. GIVEN WITH THE SEED: THE CARDS: each row of YtidgnebbibkmhaaGreatDoorRows.lean that lists a variable, with what it lists TIED to the program's text (the seventh form; the later family's looks); each row that meets fmt, with fmt's text TOLD by the authors' own Lean function (tested against real Go, not proved from fmt's source: count such statements apart). THE CARD IS WHAT COUNTS. Prove the row's statement (the work); the ties are given (YtidgnebbibkmhaaGreatDoorTie.lean); close each card by the builder's one call (the guide's Derived/Test/ToyasCard.lean, 'card_holds'). Laid BY PROGRAM, IN A SANDBOX (cutbox-door.mjs). By AI agents, Wed Nov 11 2026. No macro, syntax, notation, axiom, sorry.
-/
import Derived.Test.YtidgnebbibkmhaaGreatDoorRows
import GoSem.ClaimSeven
namespace Go.Proofs.YtidgnebbibkmhaaGreatDoor
namespace Rows

/-- THE TIED CARD OF 'runnellaw20.EmitJumps'. -/
def emitJumpsCard : Claim7 := { stood := { row := emitJumpsRow, standIns := [], harness := (true, "82b5bd609421ddce1b422d06f422883f97491983fc12f802721022fef6c66dcd"), looks := true }, kinds := [], alts := [], laidByText := true, laidKinds := [.data, .data, .handle, .pinned], laidTests := true, laidLooks := .later }
def EmitJumpsCardSaid : Prop := Claim7.holds Tryz.pinned (.plain (OpenSpec.ofChange emitJumpsSpec)) emitJumpsCard

/-- THE TIED CARD OF 'runnellaw20.EmitFiles'. -/
def emitFilesCard : Claim7 := { stood := { row := emitFilesRow, standIns := [], harness := (true, "82b5bd609421ddce1b422d06f422883f97491983fc12f802721022fef6c66dcd"), looks := true }, kinds := [], alts := [], laidByText := true, laidKinds := [.data, .data, .handle, .pinned], laidTests := true, laidLooks := .later }
def EmitFilesCardSaid : Prop := Claim7.holds Tryz.pinned (.plain (OpenSpec.ofChange emitFilesSpec)) emitFilesCard

/-- THE TIED CARD OF 'runnellaw21.ShowBack'. -/
def showBackCard : Claim7 := { stood := { row := showBackRow, standIns := [], harness := (true, "82b5bd609421ddce1b422d06f422883f97491983fc12f802721022fef6c66dcd"), looks := true }, kinds := [], alts := [], laidByText := true, laidKinds := [.data, .data, .data, .data, .handle, .pinned], laidTests := true, laidLooks := .later }
def ShowBackCardSaid : Prop := Claim7.holds Tryz.pinned (.plain (OpenSpec.ofChange showBackSpec)) showBackCard

/-- THE TIED CARD OF 'runnellaw21.ShowOnes'. -/
def showOnesCard : Claim7 := { stood := { row := showOnesRow, standIns := [], harness := (true, "82b5bd609421ddce1b422d06f422883f97491983fc12f802721022fef6c66dcd"), looks := true }, kinds := [], alts := [], laidByText := true, laidKinds := [.data, .data, .data, .data, .handle, .pinned], laidTests := true, laidLooks := .later }
def ShowOnesCardSaid : Prop := Claim7.holds Tryz.pinned (.plain (OpenSpec.ofChange showOnesSpec)) showOnesCard

/-- THE TIED CARD OF 'runneltop.WholeScripts'. -/
def wholeScriptsCard : Claim7 := { stood := { row := wholeScriptsRow, standIns := [], harness := (true, "82b5bd609421ddce1b422d06f422883f97491983fc12f802721022fef6c66dcd"), looks := true }, kinds := [], alts := [], laidByText := true, laidKinds := [.data, .data, .data, .data, .handle, .pinned], laidTests := true, laidLooks := .later }
def WholeScriptsCardSaid : Prop := Claim7.holds Tryz.pinned (.plain (OpenSpec.ofChange wholeScriptsSpec)) wholeScriptsCard

/-- THE TIED CARD OF 'runneltop.WholeLoads'. -/
def wholeLoadsCard : Claim7 := { stood := { row := wholeLoadsRow, standIns := [], harness := (true, "82b5bd609421ddce1b422d06f422883f97491983fc12f802721022fef6c66dcd"), looks := true }, kinds := [], alts := [], laidByText := true, laidKinds := [.data, .data, .handle, .pinned], laidTests := true, laidLooks := .later }
def WholeLoadsCardSaid : Prop := Claim7.holds Tryz.pinned (.plain (OpenSpec.ofChange wholeLoadsSpec)) wholeLoadsCard

/-- THE SECOND FORM's CARD OF 'runnellaw20.EmitJumps'. -/
def emitJumpsUptoCard : Claim7 := { stood := { row := emitJumpsUptoRow, standIns := [], harness := (true, "82b5bd609421ddce1b422d06f422883f97491983fc12f802721022fef6c66dcd"), looks := true }, kinds := [], alts := [], laidByText := true, laidKinds := [.data, .data, .handle, .pinned], laidTests := true, laidLooks := .later }
def EmitJumpsUptoCardSaid : Prop := Claim7.holds Tryz.pinned (.plain (OpenSpec.upto emitJumpsSpec)) emitJumpsUptoCard

/-- THE SECOND FORM's CARD OF 'runnellaw20.EmitFiles'. -/
def emitFilesUptoCard : Claim7 := { stood := { row := emitFilesUptoRow, standIns := [], harness := (true, "82b5bd609421ddce1b422d06f422883f97491983fc12f802721022fef6c66dcd"), looks := true }, kinds := [], alts := [], laidByText := true, laidKinds := [.data, .data, .handle, .pinned], laidTests := true, laidLooks := .later }
def EmitFilesUptoCardSaid : Prop := Claim7.holds Tryz.pinned (.plain (OpenSpec.upto emitFilesSpec)) emitFilesUptoCard

/-- THE SECOND FORM's CARD OF 'runnellaw21.ShowBack'. -/
def showBackUptoCard : Claim7 := { stood := { row := showBackUptoRow, standIns := [], harness := (true, "82b5bd609421ddce1b422d06f422883f97491983fc12f802721022fef6c66dcd"), looks := true }, kinds := [], alts := [], laidByText := true, laidKinds := [.data, .data, .data, .data, .handle, .pinned], laidTests := true, laidLooks := .later }
def ShowBackUptoCardSaid : Prop := Claim7.holds Tryz.pinned (.plain (OpenSpec.upto showBackSpec)) showBackUptoCard

/-- THE SECOND FORM's CARD OF 'runnellaw21.ShowOnes'. -/
def showOnesUptoCard : Claim7 := { stood := { row := showOnesUptoRow, standIns := [], harness := (true, "82b5bd609421ddce1b422d06f422883f97491983fc12f802721022fef6c66dcd"), looks := true }, kinds := [], alts := [], laidByText := true, laidKinds := [.data, .data, .data, .data, .handle, .pinned], laidTests := true, laidLooks := .later }
def ShowOnesUptoCardSaid : Prop := Claim7.holds Tryz.pinned (.plain (OpenSpec.upto showOnesSpec)) showOnesUptoCard

/-- THE SECOND FORM's CARD OF 'runneltop.WholeScripts'. -/
def wholeScriptsUptoCard : Claim7 := { stood := { row := wholeScriptsUptoRow, standIns := [], harness := (true, "82b5bd609421ddce1b422d06f422883f97491983fc12f802721022fef6c66dcd"), looks := true }, kinds := [], alts := [], laidByText := true, laidKinds := [.data, .data, .data, .data, .handle, .pinned], laidTests := true, laidLooks := .later }
def WholeScriptsUptoCardSaid : Prop := Claim7.holds Tryz.pinned (.plain (OpenSpec.upto wholeScriptsSpec)) wholeScriptsUptoCard

/-- THE SECOND FORM's CARD OF 'runneltop.WholeLoads'. -/
def wholeLoadsUptoCard : Claim7 := { stood := { row := wholeLoadsUptoRow, standIns := [], harness := (true, "82b5bd609421ddce1b422d06f422883f97491983fc12f802721022fef6c66dcd"), looks := true }, kinds := [], alts := [], laidByText := true, laidKinds := [.data, .data, .handle, .pinned], laidTests := true, laidLooks := .later }
def WholeLoadsUptoCardSaid : Prop := Claim7.holds Tryz.pinned (.plain (OpenSpec.upto wholeLoadsSpec)) wholeLoadsUptoCard
end Rows
end Go.Proofs.YtidgnebbibkmhaaGreatDoor
