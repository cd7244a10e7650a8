/-
  DERIVED. GIVEN WITH THE SEED: THE CARDS: each row of YtbekghinikjjeaaGreatDoorRows.lean that lists a variable, with what it lists TIED to the program's text (the seventh form; the later family's looks); each row that meets fmt, with fmt's text TOLD by the authors' own Lean function (tested against real Go, not proved from fmt's source: count such statements apart). THE CARD IS WHAT COUNTS. Prove the row's statement (the work); the ties are given (YtbekghinikjjeaaGreatDoorTie.lean); close each card by the builder's one call (the guide's Derived/Test/ToyasCard.lean, 'card_holds'). Laid BY PROGRAM, IN A SANDBOX (cutbox-door.mjs). By AI agents, Wed Nov 11 2026. No macro, syntax, notation, axiom, sorry.
-/
import Derived.Test.YtbekghinikjjeaaGreatDoorRows
import GoSem.ClaimSeven
namespace Go.Proofs.YtbekghinikjjeaaGreatDoor
namespace Rows

/-- THE TIED CARD OF 'runnellaw12.OccurBytes'. -/
def occurBytesCard : Claim7 := { stood := { row := occurBytesRow, standIns := [], harness := (true, "80c8bb6d82a812211c8ba6d10871750efb6fa6fec2448a1b76c31410c4e18240"), looks := false }, kinds := [], alts := [], laidByText := true, laidKinds := [.data], laidTests := true, laidLooks := .later }
def OccurBytesCardSaid : Prop := Claim7.holds Tryz.pinned (.plain (OpenSpec.ofChange occurBytesSpec)) occurBytesCard

/-- THE TIED CARD OF 'runnellaw12.OccurNone'. -/
def occurNoneCard : Claim7 := { stood := { row := occurNoneRow, standIns := [], harness := (true, "80c8bb6d82a812211c8ba6d10871750efb6fa6fec2448a1b76c31410c4e18240"), looks := false }, kinds := [], alts := [], laidByText := true, laidKinds := [.data], laidTests := true, laidLooks := .later }
def OccurNoneCardSaid : Prop := Claim7.holds Tryz.pinned (.plain (OpenSpec.ofChange occurNoneSpec)) occurNoneCard

/-- THE TIED CARD OF 'runnellaw22.PickLines'. -/
def pickLinesCard : Claim7 := { stood := { row := pickLinesRow, standIns := [], harness := (true, "80c8bb6d82a812211c8ba6d10871750efb6fa6fec2448a1b76c31410c4e18240"), looks := false }, kinds := [], alts := [], laidByText := true, laidKinds := [.data], laidTests := true, laidLooks := .later }
def PickLinesCardSaid : Prop := Claim7.holds Tryz.pinned (.plain (OpenSpec.ofChange pickLinesSpec)) pickLinesCard

/-- THE TIED CARD OF 'runnellaw22.PickLast'. -/
def pickLastCard : Claim7 := { stood := { row := pickLastRow, standIns := [], harness := (true, "80c8bb6d82a812211c8ba6d10871750efb6fa6fec2448a1b76c31410c4e18240"), looks := false }, kinds := [], alts := [], laidByText := true, laidKinds := [.data], laidTests := true, laidLooks := .later }
def PickLastCardSaid : Prop := Claim7.holds Tryz.pinned (.plain (OpenSpec.ofChange pickLastSpec)) pickLastCard

/-- THE SECOND FORM's CARD OF 'runnellaw12.OccurBytes'. -/
def occurBytesUptoCard : Claim7 := { stood := { row := occurBytesUptoRow, standIns := [], harness := (true, "80c8bb6d82a812211c8ba6d10871750efb6fa6fec2448a1b76c31410c4e18240"), looks := false }, kinds := [], alts := [], laidByText := true, laidKinds := [.data], laidTests := true, laidLooks := .later }
def OccurBytesUptoCardSaid : Prop := Claim7.holds Tryz.pinned (.plain (OpenSpec.upto occurBytesSpec)) occurBytesUptoCard

/-- THE SECOND FORM's CARD OF 'runnellaw12.OccurNone'. -/
def occurNoneUptoCard : Claim7 := { stood := { row := occurNoneUptoRow, standIns := [], harness := (true, "80c8bb6d82a812211c8ba6d10871750efb6fa6fec2448a1b76c31410c4e18240"), looks := false }, kinds := [], alts := [], laidByText := true, laidKinds := [.data], laidTests := true, laidLooks := .later }
def OccurNoneUptoCardSaid : Prop := Claim7.holds Tryz.pinned (.plain (OpenSpec.upto occurNoneSpec)) occurNoneUptoCard

/-- THE SECOND FORM's CARD OF 'runnellaw22.PickLines'. -/
def pickLinesUptoCard : Claim7 := { stood := { row := pickLinesUptoRow, standIns := [], harness := (true, "80c8bb6d82a812211c8ba6d10871750efb6fa6fec2448a1b76c31410c4e18240"), looks := false }, kinds := [], alts := [], laidByText := true, laidKinds := [.data], laidTests := true, laidLooks := .later }
def PickLinesUptoCardSaid : Prop := Claim7.holds Tryz.pinned (.plain (OpenSpec.upto pickLinesSpec)) pickLinesUptoCard

/-- THE SECOND FORM's CARD OF 'runnellaw22.PickLast'. -/
def pickLastUptoCard : Claim7 := { stood := { row := pickLastUptoRow, standIns := [], harness := (true, "80c8bb6d82a812211c8ba6d10871750efb6fa6fec2448a1b76c31410c4e18240"), looks := false }, kinds := [], alts := [], laidByText := true, laidKinds := [.data], laidTests := true, laidLooks := .later }
def PickLastUptoCardSaid : Prop := Claim7.holds Tryz.pinned (.plain (OpenSpec.upto pickLastSpec)) pickLastUptoCard
end Rows
end Go.Proofs.YtbekghinikjjeaaGreatDoor
