/-
  DERIVED. GIVEN WITH THE SEED: THE CARDS: each row of YtiegmgcdfafhiaaDoorRows.lean that lists a variable, with what it lists TIED to the program's text (the seventh form; the later family's looks); each row that meets fmt, with fmt's text TOLD by the authors' own Lean function (tested against real Go, not proved from fmt's source: count such statements apart). THE CARD IS WHAT COUNTS. Prove the row's statement (the work); the ties are given (YtiegmgcdfafhiaaDoorTie.lean); close each card by the builder's one call (the guide's Derived/Test/ToyasCard.lean, 'card_holds'). Laid BY PROGRAM, IN A SANDBOX (cutbox-door.mjs). By AI agents, Wed Nov 11 2026. No macro, syntax, notation, axiom, sorry.
-/
import Derived.Test.YtiegmgcdfafhiaaDoorRows
import GoSem.ClaimSeven
namespace Go.Proofs.YtiegmgcdfafhiaaDoor
namespace Rows

/-- THE TIED CARD OF 'runnellaw16.ListingLines'. -/
def listingLinesCard : Claim7 := { stood := { row := listingLinesRow, standIns := [], harness := (true, "72e82506bfa0347d68e4c3bf110d1be25fbacc4f8b2fe966cf31bb5df816bc55"), looks := true }, kinds := [], alts := [], laidByText := true, laidKinds := [.data, .data, .data, .sentinel, .sentinel], laidTests := true, laidLooks := .later }
def ListingLinesCardSaid : Prop := Claim7.holds Tryd.pinned (.plain (OpenSpec.ofChange listingLinesSpec)) listingLinesCard

/-- THE TIED CARD OF 'runnellaw16.ListingReads'. -/
def listingReadsCard : Claim7 := { stood := { row := listingReadsRow, standIns := [], harness := (true, "72e82506bfa0347d68e4c3bf110d1be25fbacc4f8b2fe966cf31bb5df816bc55"), looks := true }, kinds := [], alts := [], laidByText := true, laidKinds := [.data, .data, .data, .sentinel, .sentinel], laidTests := true, laidLooks := .later }
def ListingReadsCardSaid : Prop := Claim7.holds Tryd.pinned (.plain (OpenSpec.ofChange listingReadsSpec)) listingReadsCard

/-- THE TIED CARD OF 'runnellaw16.ListingBack'. -/
def listingBackCard : Claim7 := { stood := { row := listingBackRow, standIns := [], harness := (true, "72e82506bfa0347d68e4c3bf110d1be25fbacc4f8b2fe966cf31bb5df816bc55"), looks := true }, kinds := [], alts := [], laidByText := true, laidKinds := [.data, .data, .data, .sentinel, .sentinel], laidTests := true, laidLooks := .later }
def ListingBackCardSaid : Prop := Claim7.holds Tryd.pinned (.plain (OpenSpec.ofChange listingBackSpec)) listingBackCard

/-- THE TIED CARD OF 'runnellaw16.ListingStops'. -/
def listingStopsCard : Claim7 := { stood := { row := listingStopsRow, standIns := [], harness := (true, "72e82506bfa0347d68e4c3bf110d1be25fbacc4f8b2fe966cf31bb5df816bc55"), looks := true }, kinds := [], alts := [], laidByText := true, laidKinds := [.data, .data, .data, .sentinel, .sentinel], laidTests := true, laidLooks := .later }
def ListingStopsCardSaid : Prop := Claim7.holds Tryd.pinned (.plain (OpenSpec.ofChange listingStopsSpec)) listingStopsCard

/-- THE TIED CARD OF 'runnellaw16.ListingJoins'. -/
def listingJoinsCard : Claim7 := { stood := { row := listingJoinsRow, standIns := [], harness := (true, "72e82506bfa0347d68e4c3bf110d1be25fbacc4f8b2fe966cf31bb5df816bc55"), looks := true }, kinds := [], alts := [], laidByText := true, laidKinds := [.data, .data, .data, .sentinel, .sentinel], laidTests := true, laidLooks := .later }
def ListingJoinsCardSaid : Prop := Claim7.holds Tryd.pinned (.plain (OpenSpec.ofChange listingJoinsSpec)) listingJoinsCard

/-- THE TIED CARD OF 'runnellaw16.ListingKeeps'. -/
def listingKeepsCard : Claim7 := { stood := { row := listingKeepsRow, standIns := [], harness := (true, "72e82506bfa0347d68e4c3bf110d1be25fbacc4f8b2fe966cf31bb5df816bc55"), looks := true }, kinds := [], alts := [], laidByText := true, laidKinds := [.data, .data, .data, .sentinel, .sentinel], laidTests := true, laidLooks := .later }
def ListingKeepsCardSaid : Prop := Claim7.holds Tryd.pinned (.plain (OpenSpec.ofChange listingKeepsSpec)) listingKeepsCard

/-- THE SECOND FORM's CARD OF 'runnellaw16.ListingLines'. -/
def listingLinesUptoCard : Claim7 := { stood := { row := listingLinesUptoRow, standIns := [], harness := (true, "72e82506bfa0347d68e4c3bf110d1be25fbacc4f8b2fe966cf31bb5df816bc55"), looks := true }, kinds := [], alts := [], laidByText := true, laidKinds := [.data, .data, .data, .sentinel, .sentinel], laidTests := true, laidLooks := .later }
def ListingLinesUptoCardSaid : Prop := Claim7.holds Tryd.pinned (.plain (OpenSpec.upto listingLinesSpec)) listingLinesUptoCard

/-- THE SECOND FORM's CARD OF 'runnellaw16.ListingReads'. -/
def listingReadsUptoCard : Claim7 := { stood := { row := listingReadsUptoRow, standIns := [], harness := (true, "72e82506bfa0347d68e4c3bf110d1be25fbacc4f8b2fe966cf31bb5df816bc55"), looks := true }, kinds := [], alts := [], laidByText := true, laidKinds := [.data, .data, .data, .sentinel, .sentinel], laidTests := true, laidLooks := .later }
def ListingReadsUptoCardSaid : Prop := Claim7.holds Tryd.pinned (.plain (OpenSpec.upto listingReadsSpec)) listingReadsUptoCard

/-- THE SECOND FORM's CARD OF 'runnellaw16.ListingBack'. -/
def listingBackUptoCard : Claim7 := { stood := { row := listingBackUptoRow, standIns := [], harness := (true, "72e82506bfa0347d68e4c3bf110d1be25fbacc4f8b2fe966cf31bb5df816bc55"), looks := true }, kinds := [], alts := [], laidByText := true, laidKinds := [.data, .data, .data, .sentinel, .sentinel], laidTests := true, laidLooks := .later }
def ListingBackUptoCardSaid : Prop := Claim7.holds Tryd.pinned (.plain (OpenSpec.upto listingBackSpec)) listingBackUptoCard

/-- THE SECOND FORM's CARD OF 'runnellaw16.ListingStops'. -/
def listingStopsUptoCard : Claim7 := { stood := { row := listingStopsUptoRow, standIns := [], harness := (true, "72e82506bfa0347d68e4c3bf110d1be25fbacc4f8b2fe966cf31bb5df816bc55"), looks := true }, kinds := [], alts := [], laidByText := true, laidKinds := [.data, .data, .data, .sentinel, .sentinel], laidTests := true, laidLooks := .later }
def ListingStopsUptoCardSaid : Prop := Claim7.holds Tryd.pinned (.plain (OpenSpec.upto listingStopsSpec)) listingStopsUptoCard

/-- THE SECOND FORM's CARD OF 'runnellaw16.ListingJoins'. -/
def listingJoinsUptoCard : Claim7 := { stood := { row := listingJoinsUptoRow, standIns := [], harness := (true, "72e82506bfa0347d68e4c3bf110d1be25fbacc4f8b2fe966cf31bb5df816bc55"), looks := true }, kinds := [], alts := [], laidByText := true, laidKinds := [.data, .data, .data, .sentinel, .sentinel], laidTests := true, laidLooks := .later }
def ListingJoinsUptoCardSaid : Prop := Claim7.holds Tryd.pinned (.plain (OpenSpec.upto listingJoinsSpec)) listingJoinsUptoCard

/-- THE SECOND FORM's CARD OF 'runnellaw16.ListingKeeps'. -/
def listingKeepsUptoCard : Claim7 := { stood := { row := listingKeepsUptoRow, standIns := [], harness := (true, "72e82506bfa0347d68e4c3bf110d1be25fbacc4f8b2fe966cf31bb5df816bc55"), looks := true }, kinds := [], alts := [], laidByText := true, laidKinds := [.data, .data, .data, .sentinel, .sentinel], laidTests := true, laidLooks := .later }
def ListingKeepsUptoCardSaid : Prop := Claim7.holds Tryd.pinned (.plain (OpenSpec.upto listingKeepsSpec)) listingKeepsUptoCard
end Rows
end Go.Proofs.YtiegmgcdfafhiaaDoor
