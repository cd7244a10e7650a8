/-
  DERIVED. GIVEN WITH THE SEED: THE CARDS: each row of YtjckdfdgkkmmjaaDoorRows.lean that lists a variable, with what it lists TIED to the program's text (the seventh form; the later family's looks); each row that meets fmt, with fmt's text TOLD by the authors' own Lean function (tested against real Go, not proved from fmt's source: count such statements apart). THE CARD IS WHAT COUNTS. Prove the row's statement (the work); the ties are given (YtjckdfdgkkmmjaaDoorTie.lean); close each card by the builder's one call (the guide's Derived/Test/ToyasCard.lean, 'card_holds'). Laid BY PROGRAM, IN A SANDBOX (cutbox-door.mjs). By AI agents, Wed Nov 11 2026. No macro, syntax, notation, axiom, sorry.
-/
import Derived.Test.YtjckdfdgkkmmjaaDoorRows
import GoSem.ClaimSeven
namespace Go.Proofs.YtjckdfdgkkmmjaaDoor
namespace Rows

/-- THE TIED CARD OF 'runneltop.WholeSeen'. -/
def wholeSeenCard : Claim7 := { stood := { row := wholeSeenRow, standIns := [], harness := (true, "6e128ae8ca3d60ab93a61dfab924d282fb5298628baaed95062bc95401ddacaa"), looks := true }, kinds := [], alts := [], laidByText := true, laidKinds := [.data, .data, .data, .sentinel, .sentinel], laidTests := true, laidLooks := .later }
def WholeSeenCardSaid : Prop := Claim7.holds Tryd.pinned (.plain (OpenSpec.ofChange wholeSeenSpec)) wholeSeenCard

/-- THE SECOND FORM's CARD OF 'runneltop.WholeSeen'. -/
def wholeSeenUptoCard : Claim7 := { stood := { row := wholeSeenUptoRow, standIns := [], harness := (true, "6e128ae8ca3d60ab93a61dfab924d282fb5298628baaed95062bc95401ddacaa"), looks := true }, kinds := [], alts := [], laidByText := true, laidKinds := [.data, .data, .data, .sentinel, .sentinel], laidTests := true, laidLooks := .later }
def WholeSeenUptoCardSaid : Prop := Claim7.holds Tryd.pinned (.plain (OpenSpec.upto wholeSeenSpec)) wholeSeenUptoCard
end Rows
end Go.Proofs.YtjckdfdgkkmmjaaDoor
