/-
  DERIVED. GIVEN WITH THE SEED: THE CARDS: each row of YtaapmphdnholaaaGreatDoorRows.lean that lists a variable, with what it lists TIED to the program's text (the seventh form; the later family's looks); each row that meets fmt, with fmt's text TOLD by the authors' own Lean function (tested against real Go, not proved from fmt's source: count such statements apart). THE CARD IS WHAT COUNTS. Prove the row's statement (the work); the ties are given (YtaapmphdnholaaaGreatDoorTie.lean); close each card by the builder's one call (the guide's Derived/Test/ToyasCard.lean, 'card_holds'). Laid BY PROGRAM, IN A SANDBOX (cutbox-door.mjs). By AI agents, Wed Nov 11 2026. No macro, syntax, notation, axiom, sorry.
-/
import Derived.Test.YtaapmphdnholaaaGreatDoorRows
import GoSem.ClaimSeven
namespace Go.Proofs.YtaapmphdnholaaaGreatDoor
namespace Rows

/-- THE TIED CARD OF 'runnellaw05.CanonTexts'. -/
def canonTextsCard : Claim7 := { stood := { row := canonTextsRow, standIns := [], harness := (true, "e7e2f261f177e0e4989dc30fec81de0e5f743bf447f58b2e63793f111f357b45"), looks := false }, kinds := [], alts := [], laidByText := true, laidKinds := [.data, .data, .data], laidTests := true, laidLooks := .later }
def CanonTextsCardSaid : Prop := Claim7.holds Tryz.pinned (.plain (OpenSpec.ofChange canonTextsSpec)) canonTextsCard

/-- THE TIED CARD OF 'runnellaw05.CanonOnes'. -/
def canonOnesCard : Claim7 := { stood := { row := canonOnesRow, standIns := [], harness := (true, "e7e2f261f177e0e4989dc30fec81de0e5f743bf447f58b2e63793f111f357b45"), looks := false }, kinds := [], alts := [], laidByText := true, laidKinds := [.data, .data, .data], laidTests := true, laidLooks := .later }
def CanonOnesCardSaid : Prop := Claim7.holds Tryz.pinned (.plain (OpenSpec.ofChange canonOnesSpec)) canonOnesCard

/-- THE SECOND FORM's CARD OF 'runnellaw05.CanonTexts'. -/
def canonTextsUptoCard : Claim7 := { stood := { row := canonTextsUptoRow, standIns := [], harness := (true, "e7e2f261f177e0e4989dc30fec81de0e5f743bf447f58b2e63793f111f357b45"), looks := false }, kinds := [], alts := [], laidByText := true, laidKinds := [.data, .data, .data], laidTests := true, laidLooks := .later }
def CanonTextsUptoCardSaid : Prop := Claim7.holds Tryz.pinned (.plain (OpenSpec.upto canonTextsSpec)) canonTextsUptoCard

/-- THE SECOND FORM's CARD OF 'runnellaw05.CanonOnes'. -/
def canonOnesUptoCard : Claim7 := { stood := { row := canonOnesUptoRow, standIns := [], harness := (true, "e7e2f261f177e0e4989dc30fec81de0e5f743bf447f58b2e63793f111f357b45"), looks := false }, kinds := [], alts := [], laidByText := true, laidKinds := [.data, .data, .data], laidTests := true, laidLooks := .later }
def CanonOnesUptoCardSaid : Prop := Claim7.holds Tryz.pinned (.plain (OpenSpec.upto canonOnesSpec)) canonOnesUptoCard
end Rows
end Go.Proofs.YtaapmphdnholaaaGreatDoor
