/-
  DERIVED. GIVEN WITH THE SEED: THE CARDS: each row of YtjfkhlmoppbbgaaGreatDoorRows.lean that lists a variable, with what it lists TIED to the program's text (the seventh form; the later family's looks); each row that meets fmt, with fmt's text TOLD by the authors' own Lean function (tested against real Go, not proved from fmt's source: count such statements apart). THE CARD IS WHAT COUNTS. Prove the row's statement (the work); the ties are given (YtjfkhlmoppbbgaaGreatDoorTie.lean); close each card by the builder's one call (the guide's Derived/Test/ToyasCard.lean, 'card_holds'). Laid BY PROGRAM, IN A SANDBOX (cutbox-door.mjs). By AI agents, Wed Nov 11 2026. No macro, syntax, notation, axiom, sorry.
-/
import Derived.Test.YtjfkhlmoppbbgaaGreatDoorRows
import GoSem.ClaimSeven
namespace Go.Proofs.YtjfkhlmoppbbgaaGreatDoor
namespace Rows

/-- THE TIED CARD OF 'runnellaw18.ScriptParses'. -/
def scriptParsesCard : Claim7 := { stood := { row := scriptParsesRow, standIns := [], harness := (true, "0738b3100b14d46ab2bd791bcd8693dff3d4ef43dd062169b184aa49fc25ae64"), looks := true }, kinds := [], alts := [], laidByText := true, laidKinds := [.data, .data, .handle, .pinned], laidTests := true, laidLooks := .later }
def ScriptParsesCardSaid : Prop := Claim7.holds Tryz.pinned (.plain (OpenSpec.ofChange scriptParsesSpec)) scriptParsesCard

/-- THE TIED CARD OF 'runnellaw18.ScriptJoins'. -/
def scriptJoinsCard : Claim7 := { stood := { row := scriptJoinsRow, standIns := [], harness := (true, "0738b3100b14d46ab2bd791bcd8693dff3d4ef43dd062169b184aa49fc25ae64"), looks := true }, kinds := [], alts := [], laidByText := true, laidKinds := [.data, .data, .handle, .pinned], laidTests := true, laidLooks := .later }
def ScriptJoinsCardSaid : Prop := Claim7.holds Tryz.pinned (.plain (OpenSpec.ofChange scriptJoinsSpec)) scriptJoinsCard

/-- THE TIED CARD OF 'runnellaw18.ScriptBetween'. -/
def scriptBetweenCard : Claim7 := { stood := { row := scriptBetweenRow, standIns := [], harness := (true, "0738b3100b14d46ab2bd791bcd8693dff3d4ef43dd062169b184aa49fc25ae64"), looks := true }, kinds := [], alts := [], laidByText := true, laidKinds := [.data, .data, .handle, .pinned], laidTests := true, laidLooks := .later }
def ScriptBetweenCardSaid : Prop := Claim7.holds Tryz.pinned (.plain (OpenSpec.ofChange scriptBetweenSpec)) scriptBetweenCard

/-- THE TIED CARD OF 'runnellaw18.ScriptFields'. -/
def scriptFieldsCard : Claim7 := { stood := { row := scriptFieldsRow, standIns := [], harness := (true, "0738b3100b14d46ab2bd791bcd8693dff3d4ef43dd062169b184aa49fc25ae64"), looks := true }, kinds := [], alts := [], laidByText := true, laidKinds := [.data, .data, .handle, .pinned], laidTests := true, laidLooks := .later }
def ScriptFieldsCardSaid : Prop := Claim7.holds Tryz.pinned (.plain (OpenSpec.ofChange scriptFieldsSpec)) scriptFieldsCard

/-- THE TIED CARD OF 'runnellaw18.ScriptFixed'. -/
def scriptFixedCard : Claim7 := { stood := { row := scriptFixedRow, standIns := [], harness := (true, "0738b3100b14d46ab2bd791bcd8693dff3d4ef43dd062169b184aa49fc25ae64"), looks := true }, kinds := [], alts := [], laidByText := true, laidKinds := [.data, .data, .handle, .pinned], laidTests := true, laidLooks := .later }
def ScriptFixedCardSaid : Prop := Claim7.holds Tryz.pinned (.plain (OpenSpec.ofChange scriptFixedSpec)) scriptFixedCard

/-- THE TIED CARD OF 'runnellaw18.ScriptKeeps'. -/
def scriptKeepsCard : Claim7 := { stood := { row := scriptKeepsRow, standIns := [], harness := (true, "0738b3100b14d46ab2bd791bcd8693dff3d4ef43dd062169b184aa49fc25ae64"), looks := true }, kinds := [], alts := [], laidByText := true, laidKinds := [.data, .data, .handle, .pinned], laidTests := true, laidLooks := .later }
def ScriptKeepsCardSaid : Prop := Claim7.holds Tryz.pinned (.plain (OpenSpec.ofChange scriptKeepsSpec)) scriptKeepsCard

/-- THE SECOND FORM's CARD OF 'runnellaw18.ScriptParses'. -/
def scriptParsesUptoCard : Claim7 := { stood := { row := scriptParsesUptoRow, standIns := [], harness := (true, "0738b3100b14d46ab2bd791bcd8693dff3d4ef43dd062169b184aa49fc25ae64"), looks := true }, kinds := [], alts := [], laidByText := true, laidKinds := [.data, .data, .handle, .pinned], laidTests := true, laidLooks := .later }
def ScriptParsesUptoCardSaid : Prop := Claim7.holds Tryz.pinned (.plain (OpenSpec.upto scriptParsesSpec)) scriptParsesUptoCard

/-- THE SECOND FORM's CARD OF 'runnellaw18.ScriptJoins'. -/
def scriptJoinsUptoCard : Claim7 := { stood := { row := scriptJoinsUptoRow, standIns := [], harness := (true, "0738b3100b14d46ab2bd791bcd8693dff3d4ef43dd062169b184aa49fc25ae64"), looks := true }, kinds := [], alts := [], laidByText := true, laidKinds := [.data, .data, .handle, .pinned], laidTests := true, laidLooks := .later }
def ScriptJoinsUptoCardSaid : Prop := Claim7.holds Tryz.pinned (.plain (OpenSpec.upto scriptJoinsSpec)) scriptJoinsUptoCard

/-- THE SECOND FORM's CARD OF 'runnellaw18.ScriptBetween'. -/
def scriptBetweenUptoCard : Claim7 := { stood := { row := scriptBetweenUptoRow, standIns := [], harness := (true, "0738b3100b14d46ab2bd791bcd8693dff3d4ef43dd062169b184aa49fc25ae64"), looks := true }, kinds := [], alts := [], laidByText := true, laidKinds := [.data, .data, .handle, .pinned], laidTests := true, laidLooks := .later }
def ScriptBetweenUptoCardSaid : Prop := Claim7.holds Tryz.pinned (.plain (OpenSpec.upto scriptBetweenSpec)) scriptBetweenUptoCard

/-- THE SECOND FORM's CARD OF 'runnellaw18.ScriptFields'. -/
def scriptFieldsUptoCard : Claim7 := { stood := { row := scriptFieldsUptoRow, standIns := [], harness := (true, "0738b3100b14d46ab2bd791bcd8693dff3d4ef43dd062169b184aa49fc25ae64"), looks := true }, kinds := [], alts := [], laidByText := true, laidKinds := [.data, .data, .handle, .pinned], laidTests := true, laidLooks := .later }
def ScriptFieldsUptoCardSaid : Prop := Claim7.holds Tryz.pinned (.plain (OpenSpec.upto scriptFieldsSpec)) scriptFieldsUptoCard

/-- THE SECOND FORM's CARD OF 'runnellaw18.ScriptFixed'. -/
def scriptFixedUptoCard : Claim7 := { stood := { row := scriptFixedUptoRow, standIns := [], harness := (true, "0738b3100b14d46ab2bd791bcd8693dff3d4ef43dd062169b184aa49fc25ae64"), looks := true }, kinds := [], alts := [], laidByText := true, laidKinds := [.data, .data, .handle, .pinned], laidTests := true, laidLooks := .later }
def ScriptFixedUptoCardSaid : Prop := Claim7.holds Tryz.pinned (.plain (OpenSpec.upto scriptFixedSpec)) scriptFixedUptoCard

/-- THE SECOND FORM's CARD OF 'runnellaw18.ScriptKeeps'. -/
def scriptKeepsUptoCard : Claim7 := { stood := { row := scriptKeepsUptoRow, standIns := [], harness := (true, "0738b3100b14d46ab2bd791bcd8693dff3d4ef43dd062169b184aa49fc25ae64"), looks := true }, kinds := [], alts := [], laidByText := true, laidKinds := [.data, .data, .handle, .pinned], laidTests := true, laidLooks := .later }
def ScriptKeepsUptoCardSaid : Prop := Claim7.holds Tryz.pinned (.plain (OpenSpec.upto scriptKeepsSpec)) scriptKeepsUptoCard
end Rows
end Go.Proofs.YtjfkhlmoppbbgaaGreatDoor
