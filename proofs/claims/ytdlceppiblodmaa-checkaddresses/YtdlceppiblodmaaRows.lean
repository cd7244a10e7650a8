/-
  No cell of these rows narrows 'for every input' (looked for: loops, veiled, ifaces, maps, wideKeys, modest, calm, conditions, laid).
  DERIVED. THE GIVEN ROWS OF THIS SEAT. 4 by the template 'for every input the law returns true; each argument reads behind the call as it read before'; 0 by the template 'total and deterministic' (their statements: YtdlceppiblodmaaTotals.lean).
  GIVEN WITH THE SEED: the statements are not yours to turn. If you find one false, say at which input.
  Laid BY PROGRAM, IN A SANDBOX (cutbox-rows.mjs): the forced cells as the released guide's own fill.sh prints them over the translation b69fe93c82b789ca… (all of the seat's roots in one cut). By AI agents, Wed Nov 11 2026. No macro, syntax, notation, axiom, sorry.
-/
import Derived.Test.YtdlceppiblodmaaChecked
import GoSem.Claim
import GoSem.ClaimJoined
import GoSem.ClaimMapViews
import Derived.JoinedTies
import Derived.KernelRfl
namespace Go.Proofs.Ytdlceppiblodmaa
/- THE CELL 'sum', in the pinned program and in every row, IS THE sha256 OF THE DUMP (.gsa) THAT YtdlceppiblodmaaProg.lean LOADS. Nothing in Lean hashes anything: it is a label: what it is worth is what the hold of that sum in a sandbox is worth. -/
noncomputable def Try.pinned : Pinned := { name := "ytdlceppiblodmaa", sum := "b69fe93c82b789cad6e6992509d2434faf55712ca353d0870ad1c00c68e3962c", checked := Try.checked }
namespace Rows
def none {H : Type} : Left H := { results := [], args := [] }

/-- 'runnellaw19.CheckChecks': WHATEVER THE INPUT: true; the input reads as it did. -/
def checkChecksSpec : ChangeSpec := { name := "checkChecks", fn := fun _ => fun
  | [d] => { results := [.lit (.bool true)], args := [d] }
  | _ => none }
def checkChecksRow : OpenClaim := { program := "ytdlceppiblodmaa", sum := "b69fe93c82b789cad6e6992509d2434faf55712ca353d0870ad1c00c68e3962c", func := "runnel/runnellaw19.CheckChecks", spec := "checkChecks", inPlace := ["internal/bytealg.IndexByteString"], apart := false }
def CheckChecksSaid : Prop := checkChecksRow.holds Try.pinned (OpenSpec.ofChange checkChecksSpec)

/-- ITS FALSE NEIGHBOUR: 'it returns false'. Refute it at one input. -/
def checkChecksWrong : ChangeSpec := { name := "checkChecks", fn := fun _ => fun
  | [d] => { results := [.lit (.bool false)], args := [d] }
  | _ => none }
def CheckChecksWrongFalsely : Prop := checkChecksRow.holds Try.pinned (OpenSpec.ofChange checkChecksWrong)

/-- 'runnellaw19.CheckBlocks': WHATEVER THE INPUT: true; the input reads as it did. -/
def checkBlocksSpec : ChangeSpec := { name := "checkBlocks", fn := fun _ => fun
  | [d1, d2] => { results := [.lit (.bool true)], args := [d1, d2] }
  | _ => none }
def checkBlocksRow : OpenClaim := { program := "ytdlceppiblodmaa", sum := "b69fe93c82b789cad6e6992509d2434faf55712ca353d0870ad1c00c68e3962c", func := "runnel/runnellaw19.CheckBlocks", spec := "checkBlocks", inPlace := ["internal/bytealg.IndexByteString"], apart := false }
def CheckBlocksSaid : Prop := checkBlocksRow.holds Try.pinned (OpenSpec.ofChange checkBlocksSpec)

/-- ITS FALSE NEIGHBOUR: 'it returns false'. Refute it at one input. -/
def checkBlocksWrong : ChangeSpec := { name := "checkBlocks", fn := fun _ => fun
  | [d1, d2] => { results := [.lit (.bool false)], args := [d1, d2] }
  | _ => none }
def CheckBlocksWrongFalsely : Prop := checkBlocksRow.holds Try.pinned (OpenSpec.ofChange checkBlocksWrong)

/-- 'runnellaw19.CheckLabels': WHATEVER THE INPUT: true; the input reads as it did. -/
def checkLabelsSpec : ChangeSpec := { name := "checkLabels", fn := fun _ => fun
  | [d1, d2] => { results := [.lit (.bool true)], args := [d1, d2] }
  | _ => none }
def checkLabelsRow : OpenClaim := { program := "ytdlceppiblodmaa", sum := "b69fe93c82b789cad6e6992509d2434faf55712ca353d0870ad1c00c68e3962c", func := "runnel/runnellaw19.CheckLabels", spec := "checkLabels", inPlace := ["internal/bytealg.IndexByteString"], apart := false }
def CheckLabelsSaid : Prop := checkLabelsRow.holds Try.pinned (OpenSpec.ofChange checkLabelsSpec)

/-- ITS FALSE NEIGHBOUR: 'it returns false'. Refute it at one input. -/
def checkLabelsWrong : ChangeSpec := { name := "checkLabels", fn := fun _ => fun
  | [d1, d2] => { results := [.lit (.bool false)], args := [d1, d2] }
  | _ => none }
def CheckLabelsWrongFalsely : Prop := checkLabelsRow.holds Try.pinned (OpenSpec.ofChange checkLabelsWrong)

/-- 'runnellaw19.CheckAddresses': WHATEVER THE INPUT: true; the input reads as it did. -/
def checkAddressesSpec : ChangeSpec := { name := "checkAddresses", fn := fun _ => fun
  | [] => { results := [.lit (.bool true)], args := [] }
  | _ => none }
def checkAddressesRow : OpenClaim := { program := "ytdlceppiblodmaa", sum := "b69fe93c82b789cad6e6992509d2434faf55712ca353d0870ad1c00c68e3962c", func := "runnel/runnellaw19.CheckAddresses", spec := "checkAddresses", inPlace := ["internal/bytealg.IndexByteString"], apart := false }
def CheckAddressesSaid : Prop := checkAddressesRow.holds Try.pinned (OpenSpec.ofChange checkAddressesSpec)

/-- ITS FALSE NEIGHBOUR: 'it returns false'. Refute it at one input. -/
def checkAddressesWrong : ChangeSpec := { name := "checkAddresses", fn := fun _ => fun
  | [] => { results := [.lit (.bool false)], args := [] }
  | _ => none }
def CheckAddressesWrongFalsely : Prop := checkAddressesRow.holds Try.pinned (OpenSpec.ofChange checkAddressesWrong)

/- THE SECOND FORM. 'bulk': how many values and letters a reading holds, each counted each time it is reached (what is shared counts as often as it is met; a slice's spare places count too). A statement '..UptoSaid' is the law's where the arguments, and the package variables that the reading takes, are together of bulk at most 1048576: NARROWER than '..Said'. Prove '..Said' where nothing that the law and all that it calls make is longer than what came in: it says more and counts as full. Else prove '..UptoSaid'. A law counts once. -/
mutual
def uptoBulk {H : Type} : DataW H → Nat
  | .lit (.string bytes) => bytes.length + 1
  | .lit _ => 1
  | .nil => 1
  | .ptr d => uptoBulk d + 1
  | .slice elems spare => uptoBulkAll elems + uptoBulkAll spare + 1
  | .agg parts => uptoBulkAll parts + 1
  | .iface _ d => uptoBulk d + 1
  | .map entries => uptoBulkEntries entries + 1
  | .held _ => 1
def uptoBulkAll {H : Type} : List (DataW H) → Nat
  | [] => 0
  | d :: r => uptoBulk d + uptoBulkAll r
def uptoBulkEntries {H : Type} : List (Lit × DataW H) → Nat
  | [] => 0
  | x :: r => uptoBulkEntry x + uptoBulkEntries r
def uptoBulkEntry {H : Type} : Lit × DataW H → Nat
  | (.string bytes, d) => bytes.length + uptoBulk d + 1
  | (_, d) => uptoBulk d + 1
 end
def uptoSmall : (H : Type) → List (DataW H) → Bool := fun _ ds => decide (uptoBulkAll ds ≤ 1048576)
def OpenSpec.upto (s : _root_.Go.ChangeSpec) : _root_.Go.OpenSpec := { _root_.Go.OpenSpec.ofChange s with cond := some uptoSmall }

/-- 'runnellaw19.CheckChecks', WHERE WHAT IT READS IS OF BULK AT MOST 1048576: true; the input reads as it did. -/
def checkChecksUptoRow : OpenClaim := { program := "ytdlceppiblodmaa", sum := "b69fe93c82b789cad6e6992509d2434faf55712ca353d0870ad1c00c68e3962c", func := "runnel/runnellaw19.CheckChecks", spec := "checkChecks", inPlace := ["internal/bytealg.IndexByteString"], apart := false, narrowed := true }
def CheckChecksUptoSaid : Prop := checkChecksUptoRow.holds Try.pinned (OpenSpec.upto checkChecksSpec)

/-- 'runnellaw19.CheckBlocks', WHERE WHAT IT READS IS OF BULK AT MOST 1048576: true; the input reads as it did. -/
def checkBlocksUptoRow : OpenClaim := { program := "ytdlceppiblodmaa", sum := "b69fe93c82b789cad6e6992509d2434faf55712ca353d0870ad1c00c68e3962c", func := "runnel/runnellaw19.CheckBlocks", spec := "checkBlocks", inPlace := ["internal/bytealg.IndexByteString"], apart := false, narrowed := true }
def CheckBlocksUptoSaid : Prop := checkBlocksUptoRow.holds Try.pinned (OpenSpec.upto checkBlocksSpec)

/-- 'runnellaw19.CheckLabels', WHERE WHAT IT READS IS OF BULK AT MOST 1048576: true; the input reads as it did. -/
def checkLabelsUptoRow : OpenClaim := { program := "ytdlceppiblodmaa", sum := "b69fe93c82b789cad6e6992509d2434faf55712ca353d0870ad1c00c68e3962c", func := "runnel/runnellaw19.CheckLabels", spec := "checkLabels", inPlace := ["internal/bytealg.IndexByteString"], apart := false, narrowed := true }
def CheckLabelsUptoSaid : Prop := checkLabelsUptoRow.holds Try.pinned (OpenSpec.upto checkLabelsSpec)

/-- 'runnellaw19.CheckAddresses', WHERE WHAT IT READS IS OF BULK AT MOST 1048576: true; the input reads as it did. -/
def checkAddressesUptoRow : OpenClaim := { program := "ytdlceppiblodmaa", sum := "b69fe93c82b789cad6e6992509d2434faf55712ca353d0870ad1c00c68e3962c", func := "runnel/runnellaw19.CheckAddresses", spec := "checkAddresses", inPlace := ["internal/bytealg.IndexByteString"], apart := false, narrowed := true }
def CheckAddressesUptoSaid : Prop := checkAddressesUptoRow.holds Try.pinned (OpenSpec.upto checkAddressesSpec)

end Rows
end Go.Proofs.Ytdlceppiblodmaa
