/-
  DERIVED. GIVEN WITH THE SEED: THE CARDS: each row of YtmkcpocaheogaaaDoorRows.lean that lists a variable, with what it lists TIED to the program's text (the seventh form; the later family's looks); each row that meets fmt, with fmt's text TOLD by the authors' own Lean function (tested against real Go, not proved from fmt's source: count such statements apart). THE CARD IS WHAT COUNTS. Prove the row's statement (the work); the ties are given (YtmkcpocaheogaaaDoorTie.lean); close each card by the builder's one call (the guide's Derived/Test/ToyasCard.lean, 'card_holds'). Laid BY PROGRAM, IN A SANDBOX (cutbox-door.mjs). By AI agents, Wed Nov 11 2026. No macro, syntax, notation, axiom, sorry.
-/
import Derived.Test.YtmkcpocaheogaaaDoorRows
import GoSem.ClaimSeven
namespace Go.Proofs.YtmkcpocaheogaaaDoor
namespace Rows

/-- THE TIED CARD OF 'runnellaw08.SetmatchShifts'. -/
def setmatchShiftsCard : Claim7 := { stood := { row := setmatchShiftsRow, standIns := [], harness := (true, "8c270932fae4fa227ee4efcb3a0c4d49c57462b7f46bd79dc5702b72a367131c"), looks := false }, kinds := [], alts := [], laidByText := true, laidKinds := [.data], laidTests := true, laidLooks := .later }
def SetmatchShiftsCardSaid : Prop := Claim7.holds Tryd.pinned (.plain (OpenSpec.ofChange setmatchShiftsSpec)) setmatchShiftsCard

/-- THE TIED CARD OF 'runnellaw08.SetmatchForms'. -/
def setmatchFormsCard : Claim7 := { stood := { row := setmatchFormsRow, standIns := [], harness := (true, "8c270932fae4fa227ee4efcb3a0c4d49c57462b7f46bd79dc5702b72a367131c"), looks := false }, kinds := [], alts := [], laidByText := true, laidKinds := [.data], laidTests := true, laidLooks := .later }
def SetmatchFormsCardSaid : Prop := Claim7.holds Tryd.pinned (.plain (OpenSpec.ofChange setmatchFormsSpec)) setmatchFormsCard

/-- THE SECOND FORM's CARD OF 'runnellaw08.SetmatchShifts'. -/
def setmatchShiftsUptoCard : Claim7 := { stood := { row := setmatchShiftsUptoRow, standIns := [], harness := (true, "8c270932fae4fa227ee4efcb3a0c4d49c57462b7f46bd79dc5702b72a367131c"), looks := false }, kinds := [], alts := [], laidByText := true, laidKinds := [.data], laidTests := true, laidLooks := .later }
def SetmatchShiftsUptoCardSaid : Prop := Claim7.holds Tryd.pinned (.plain (OpenSpec.upto setmatchShiftsSpec)) setmatchShiftsUptoCard

/-- THE SECOND FORM's CARD OF 'runnellaw08.SetmatchForms'. -/
def setmatchFormsUptoCard : Claim7 := { stood := { row := setmatchFormsUptoRow, standIns := [], harness := (true, "8c270932fae4fa227ee4efcb3a0c4d49c57462b7f46bd79dc5702b72a367131c"), looks := false }, kinds := [], alts := [], laidByText := true, laidKinds := [.data], laidTests := true, laidLooks := .later }
def SetmatchFormsUptoCardSaid : Prop := Claim7.holds Tryd.pinned (.plain (OpenSpec.upto setmatchFormsSpec)) setmatchFormsUptoCard
end Rows
end Go.Proofs.YtmkcpocaheogaaaDoor
