/-
  No cell of these rows narrows 'for every input' (looked for: loops, veiled, ifaces, maps, wideKeys, modest, calm, conditions, laid).
  DERIVED. THE GIVEN ROWS OF THIS SEAT. 6 by the template 'for every input the law returns true; each argument reads behind the call as it read before'; 0 by the template 'total and deterministic' (their statements: YtbncokfpkkmoiaaTotals.lean).
  GIVEN WITH THE SEED: the statements are not yours to turn. If you find one false, say at which input.
  Laid BY PROGRAM, IN A SANDBOX (cutbox-rows.mjs): the forced cells as the released guide's own fill.sh prints them over the translation 0340147e5fe9ab4e… (all of the seat's roots in one cut). By AI agents, Wed Nov 11 2026. No macro, syntax, notation, axiom, sorry.
-/
import Derived.Test.YtbncokfpkkmoiaaChecked
import GoSem.Claim
import GoSem.ClaimJoined
import GoSem.ClaimMapViews
import Derived.JoinedTies
import Derived.KernelRfl
namespace Go.Proofs.Ytbncokfpkkmoiaa
/- THE CELL 'sum', in the pinned program and in every row, IS THE sha256 OF THE DUMP (.gsa) THAT YtbncokfpkkmoiaaProg.lean LOADS. Nothing in Lean hashes anything: it is a label: what it is worth is what the hold of that sum in a sandbox is worth. -/
noncomputable def Try.pinned : Pinned := { name := "ytbncokfpkkmoiaa", sum := "0340147e5fe9ab4ed329ab859a0cd56fba1d7ab01933891964fb6619ef0ff627", checked := Try.checked }
namespace Rows
def none {H : Type} : Left H := { results := [], args := [] }

/-- 'runnellaw13.TemplateParses': WHATEVER THE INPUT: true; the input reads as it did. -/
def templateParsesSpec : ChangeSpec := { name := "templateParses", fn := fun _ => fun
  | [d] => { results := [.lit (.bool true)], args := [d] }
  | _ => none }
def templateParsesRow : OpenClaim := { program := "ytbncokfpkkmoiaa", sum := "0340147e5fe9ab4ed329ab859a0cd56fba1d7ab01933891964fb6619ef0ff627", func := "runnel/runnellaw13.TemplateParses", spec := "templateParses", inPlace := ["internal/abi.NoEscape"], apart := false }
def TemplateParsesSaid : Prop := templateParsesRow.holds Try.pinned (OpenSpec.ofChange templateParsesSpec)

/-- ITS FALSE NEIGHBOUR: 'it returns false'. Refute it at one input. -/
def templateParsesWrong : ChangeSpec := { name := "templateParses", fn := fun _ => fun
  | [d] => { results := [.lit (.bool false)], args := [d] }
  | _ => none }
def TemplateParsesWrongFalsely : Prop := templateParsesRow.holds Try.pinned (OpenSpec.ofChange templateParsesWrong)

/-- 'runnellaw13.TemplateTexts': WHATEVER THE INPUT: true; the input reads as it did. -/
def templateTextsSpec : ChangeSpec := { name := "templateTexts", fn := fun _ => fun
  | [d] => { results := [.lit (.bool true)], args := [d] }
  | _ => none }
def templateTextsRow : OpenClaim := { program := "ytbncokfpkkmoiaa", sum := "0340147e5fe9ab4ed329ab859a0cd56fba1d7ab01933891964fb6619ef0ff627", func := "runnel/runnellaw13.TemplateTexts", spec := "templateTexts", inPlace := ["internal/abi.NoEscape"], recurses := true, apart := false }
def TemplateTextsSaid : Prop := templateTextsRow.holds Try.pinned (OpenSpec.ofChange templateTextsSpec)

/-- ITS FALSE NEIGHBOUR: 'it returns false'. Refute it at one input. -/
def templateTextsWrong : ChangeSpec := { name := "templateTexts", fn := fun _ => fun
  | [d] => { results := [.lit (.bool false)], args := [d] }
  | _ => none }
def TemplateTextsWrongFalsely : Prop := templateTextsRow.holds Try.pinned (OpenSpec.ofChange templateTextsWrong)

/-- 'runnellaw13.TemplateBuilds': WHATEVER THE INPUT: true; the input reads as it did. -/
def templateBuildsSpec : ChangeSpec := { name := "templateBuilds", fn := fun _ => fun
  | [d1, d2, d3] => { results := [.lit (.bool true)], args := [d1, d2, d3] }
  | _ => none }
def templateBuildsRow : OpenClaim := { program := "ytbncokfpkkmoiaa", sum := "0340147e5fe9ab4ed329ab859a0cd56fba1d7ab01933891964fb6619ef0ff627", func := "runnel/runnellaw13.TemplateBuilds", spec := "templateBuilds", inPlace := ["internal/abi.NoEscape"], apart := false }
def TemplateBuildsSaid : Prop := templateBuildsRow.holds Try.pinned (OpenSpec.ofChange templateBuildsSpec)

/-- ITS FALSE NEIGHBOUR: 'it returns false'. Refute it at one input. -/
def templateBuildsWrong : ChangeSpec := { name := "templateBuilds", fn := fun _ => fun
  | [d1, d2, d3] => { results := [.lit (.bool false)], args := [d1, d2, d3] }
  | _ => none }
def TemplateBuildsWrongFalsely : Prop := templateBuildsRow.holds Try.pinned (OpenSpec.ofChange templateBuildsWrong)

/-- 'runnellaw13.TemplateBack': WHATEVER THE INPUT: true; the input reads as it did. -/
def templateBackSpec : ChangeSpec := { name := "templateBack", fn := fun _ => fun
  | [d1, d2, d3, d4] => { results := [.lit (.bool true)], args := [d1, d2, d3, d4] }
  | _ => none }
def templateBackRow : OpenClaim := { program := "ytbncokfpkkmoiaa", sum := "0340147e5fe9ab4ed329ab859a0cd56fba1d7ab01933891964fb6619ef0ff627", func := "runnel/runnellaw13.TemplateBack", spec := "templateBack", inPlace := ["internal/abi.NoEscape"], apart := false }
def TemplateBackSaid : Prop := templateBackRow.holds Try.pinned (OpenSpec.ofChange templateBackSpec)

/-- ITS FALSE NEIGHBOUR: 'it returns false'. Refute it at one input. -/
def templateBackWrong : ChangeSpec := { name := "templateBack", fn := fun _ => fun
  | [d1, d2, d3, d4] => { results := [.lit (.bool false)], args := [d1, d2, d3, d4] }
  | _ => none }
def TemplateBackWrongFalsely : Prop := templateBackRow.holds Try.pinned (OpenSpec.ofChange templateBackWrong)

/-- 'runnellaw13.TemplatePlain': WHATEVER THE INPUT: true; the input reads as it did. -/
def templatePlainSpec : ChangeSpec := { name := "templatePlain", fn := fun _ => fun
  | [d1, d2, d3] => { results := [.lit (.bool true)], args := [d1, d2, d3] }
  | _ => none }
def templatePlainRow : OpenClaim := { program := "ytbncokfpkkmoiaa", sum := "0340147e5fe9ab4ed329ab859a0cd56fba1d7ab01933891964fb6619ef0ff627", func := "runnel/runnellaw13.TemplatePlain", spec := "templatePlain", inPlace := ["internal/abi.NoEscape"], apart := false }
def TemplatePlainSaid : Prop := templatePlainRow.holds Try.pinned (OpenSpec.ofChange templatePlainSpec)

/-- ITS FALSE NEIGHBOUR: 'it returns false'. Refute it at one input. -/
def templatePlainWrong : ChangeSpec := { name := "templatePlain", fn := fun _ => fun
  | [d1, d2, d3] => { results := [.lit (.bool false)], args := [d1, d2, d3] }
  | _ => none }
def TemplatePlainWrongFalsely : Prop := templatePlainRow.holds Try.pinned (OpenSpec.ofChange templatePlainWrong)

/-- 'runnellaw13.TemplateKeeps': WHATEVER THE INPUT: true; the input reads as it did. -/
def templateKeepsSpec : ChangeSpec := { name := "templateKeeps", fn := fun _ => fun
  | [d1, d2, d3, d4] => { results := [.lit (.bool true)], args := [d1, d2, d3, d4] }
  | _ => none }
def templateKeepsRow : OpenClaim := { program := "ytbncokfpkkmoiaa", sum := "0340147e5fe9ab4ed329ab859a0cd56fba1d7ab01933891964fb6619ef0ff627", func := "runnel/runnellaw13.TemplateKeeps", spec := "templateKeeps", inPlace := ["internal/abi.NoEscape"], apart := false }
def TemplateKeepsSaid : Prop := templateKeepsRow.holds Try.pinned (OpenSpec.ofChange templateKeepsSpec)

/-- ITS FALSE NEIGHBOUR: 'it returns false'. Refute it at one input. -/
def templateKeepsWrong : ChangeSpec := { name := "templateKeeps", fn := fun _ => fun
  | [d1, d2, d3, d4] => { results := [.lit (.bool false)], args := [d1, d2, d3, d4] }
  | _ => none }
def TemplateKeepsWrongFalsely : Prop := templateKeepsRow.holds Try.pinned (OpenSpec.ofChange templateKeepsWrong)

/- THE SECOND FORM. 'bulk': how many values and letters a reading holds, each counted each time it is reached (what is shared counts as often as it is met; a slice's spare places count too). A statement '..UptoSaid' is the law's where the arguments, and the package variables that the reading takes, are together of bulk at most 1048576: NARROWER than '..Said'. Prove '..Said' where nothing that the law and all that it calls make is longer than what came in: it says more and counts as full. Else prove '..UptoSaid'. A law counts once. -/
mutual
def uptoBulk {H : Type} : DataW H → Nat
  | .lit (.string bytes) => bytes.length + 1
  | .lit _ => 1
  | .nil => 1
  | .ptr d => uptoBulk d + 1
  | .slice elems spare => uptoBulkAll elems + uptoBulkAll spare + 1
  | .agg parts => uptoBulkAll parts + 1
  | .iface _ d => uptoBulk d + 1
  | .map entries => uptoBulkEntries entries + 1
  | .held _ => 1
def uptoBulkAll {H : Type} : List (DataW H) → Nat
  | [] => 0
  | d :: r => uptoBulk d + uptoBulkAll r
def uptoBulkEntries {H : Type} : List (Lit × DataW H) → Nat
  | [] => 0
  | x :: r => uptoBulkEntry x + uptoBulkEntries r
def uptoBulkEntry {H : Type} : Lit × DataW H → Nat
  | (.string bytes, d) => bytes.length + uptoBulk d + 1
  | (_, d) => uptoBulk d + 1
 end
def uptoSmall : (H : Type) → List (DataW H) → Bool := fun _ ds => decide (uptoBulkAll ds ≤ 1048576)
def OpenSpec.upto (s : _root_.Go.ChangeSpec) : _root_.Go.OpenSpec := { _root_.Go.OpenSpec.ofChange s with cond := some uptoSmall }

/-- 'runnellaw13.TemplateParses', WHERE WHAT IT READS IS OF BULK AT MOST 1048576: true; the input reads as it did. -/
def templateParsesUptoRow : OpenClaim := { program := "ytbncokfpkkmoiaa", sum := "0340147e5fe9ab4ed329ab859a0cd56fba1d7ab01933891964fb6619ef0ff627", func := "runnel/runnellaw13.TemplateParses", spec := "templateParses", inPlace := ["internal/abi.NoEscape"], apart := false, narrowed := true }
def TemplateParsesUptoSaid : Prop := templateParsesUptoRow.holds Try.pinned (OpenSpec.upto templateParsesSpec)

/-- 'runnellaw13.TemplateTexts', WHERE WHAT IT READS IS OF BULK AT MOST 1048576: true; the input reads as it did. -/
def templateTextsUptoRow : OpenClaim := { program := "ytbncokfpkkmoiaa", sum := "0340147e5fe9ab4ed329ab859a0cd56fba1d7ab01933891964fb6619ef0ff627", func := "runnel/runnellaw13.TemplateTexts", spec := "templateTexts", inPlace := ["internal/abi.NoEscape"], recurses := true, apart := false, narrowed := true }
def TemplateTextsUptoSaid : Prop := templateTextsUptoRow.holds Try.pinned (OpenSpec.upto templateTextsSpec)

/-- 'runnellaw13.TemplateBuilds', WHERE WHAT IT READS IS OF BULK AT MOST 1048576: true; the input reads as it did. -/
def templateBuildsUptoRow : OpenClaim := { program := "ytbncokfpkkmoiaa", sum := "0340147e5fe9ab4ed329ab859a0cd56fba1d7ab01933891964fb6619ef0ff627", func := "runnel/runnellaw13.TemplateBuilds", spec := "templateBuilds", inPlace := ["internal/abi.NoEscape"], apart := false, narrowed := true }
def TemplateBuildsUptoSaid : Prop := templateBuildsUptoRow.holds Try.pinned (OpenSpec.upto templateBuildsSpec)

/-- 'runnellaw13.TemplateBack', WHERE WHAT IT READS IS OF BULK AT MOST 1048576: true; the input reads as it did. -/
def templateBackUptoRow : OpenClaim := { program := "ytbncokfpkkmoiaa", sum := "0340147e5fe9ab4ed329ab859a0cd56fba1d7ab01933891964fb6619ef0ff627", func := "runnel/runnellaw13.TemplateBack", spec := "templateBack", inPlace := ["internal/abi.NoEscape"], apart := false, narrowed := true }
def TemplateBackUptoSaid : Prop := templateBackUptoRow.holds Try.pinned (OpenSpec.upto templateBackSpec)

/-- 'runnellaw13.TemplatePlain', WHERE WHAT IT READS IS OF BULK AT MOST 1048576: true; the input reads as it did. -/
def templatePlainUptoRow : OpenClaim := { program := "ytbncokfpkkmoiaa", sum := "0340147e5fe9ab4ed329ab859a0cd56fba1d7ab01933891964fb6619ef0ff627", func := "runnel/runnellaw13.TemplatePlain", spec := "templatePlain", inPlace := ["internal/abi.NoEscape"], apart := false, narrowed := true }
def TemplatePlainUptoSaid : Prop := templatePlainUptoRow.holds Try.pinned (OpenSpec.upto templatePlainSpec)

/-- 'runnellaw13.TemplateKeeps', WHERE WHAT IT READS IS OF BULK AT MOST 1048576: true; the input reads as it did. -/
def templateKeepsUptoRow : OpenClaim := { program := "ytbncokfpkkmoiaa", sum := "0340147e5fe9ab4ed329ab859a0cd56fba1d7ab01933891964fb6619ef0ff627", func := "runnel/runnellaw13.TemplateKeeps", spec := "templateKeeps", inPlace := ["internal/abi.NoEscape"], apart := false, narrowed := true }
def TemplateKeepsUptoSaid : Prop := templateKeepsUptoRow.holds Try.pinned (OpenSpec.upto templateKeepsSpec)

end Rows
end Go.Proofs.Ytbncokfpkkmoiaa
