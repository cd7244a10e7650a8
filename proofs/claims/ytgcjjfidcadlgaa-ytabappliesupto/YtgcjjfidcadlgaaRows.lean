/-
  No cell of these rows narrows 'for every input' (looked for: loops, veiled, ifaces, maps, wideKeys, modest, calm, conditions, laid).
  DERIVED. THE GIVEN ROWS OF THIS SEAT. 4 by the template 'for every input the law returns true; each argument reads behind the call as it read before'; 0 by the template 'total and deterministic' (their statements: YtgcjjfidcadlgaaTotals.lean).
  GIVEN WITH THE SEED: the statements are not yours to turn. If you find one false, say at which input.
  Laid BY PROGRAM, IN A SANDBOX (cutbox-rows.mjs): the forced cells as the released guide's own fill.sh prints them over the translation 0b6acbeccb753d87… (all of the seat's roots in one cut). By AI agents, Wed Nov 11 2026. No macro, syntax, notation, axiom, sorry.
-/
import Derived.Test.YtgcjjfidcadlgaaChecked
import GoSem.Claim
import GoSem.ClaimJoined
import GoSem.ClaimMapViews
import Derived.JoinedTies
import Derived.KernelRfl
namespace Go.Proofs.Ytgcjjfidcadlgaa
/- THE CELL 'sum', in the pinned program and in every row, IS THE sha256 OF THE DUMP (.gsa) THAT YtgcjjfidcadlgaaProg.lean LOADS. Nothing in Lean hashes anything: it is a label: what it is worth is what the hold of that sum in a sandbox is worth. -/
noncomputable def Try.pinned : Pinned := { name := "ytgcjjfidcadlgaa", sum := "0b6acbeccb753d87003652a7c2f8e83eb2b3c62e597a3b494ca02c74358535ba", checked := Try.checked }
namespace Rows
def none {H : Type} : Left H := { results := [], args := [] }

/-- 'runnellaw15.YtabPieces': WHATEVER THE INPUT: true; the input reads as it did. -/
def ytabPiecesSpec : ChangeSpec := { name := "ytabPieces", fn := fun _ => fun
  | [d] => { results := [.lit (.bool true)], args := [d] }
  | _ => none }
def ytabPiecesRow : OpenClaim := { program := "ytgcjjfidcadlgaa", sum := "0b6acbeccb753d87003652a7c2f8e83eb2b3c62e597a3b494ca02c74358535ba", func := "runnel/runnellaw15.YtabPieces", spec := "ytabPieces", inPlace := ["internal/abi.NoEscape"], apart := false }
def YtabPiecesSaid : Prop := ytabPiecesRow.holds Try.pinned (OpenSpec.ofChange ytabPiecesSpec)

/-- ITS FALSE NEIGHBOUR: 'it returns false'. Refute it at one input. -/
def ytabPiecesWrong : ChangeSpec := { name := "ytabPieces", fn := fun _ => fun
  | [d] => { results := [.lit (.bool false)], args := [d] }
  | _ => none }
def YtabPiecesWrongFalsely : Prop := ytabPiecesRow.holds Try.pinned (OpenSpec.ofChange ytabPiecesWrong)

/-- 'runnellaw15.YtabNews': WHATEVER THE INPUT: true; the input reads as it did. -/
def ytabNewsSpec : ChangeSpec := { name := "ytabNews", fn := fun _ => fun
  | [d1, d2, d3] => { results := [.lit (.bool true)], args := [d1, d2, d3] }
  | _ => none }
def ytabNewsRow : OpenClaim := { program := "ytgcjjfidcadlgaa", sum := "0b6acbeccb753d87003652a7c2f8e83eb2b3c62e597a3b494ca02c74358535ba", func := "runnel/runnellaw15.YtabNews", spec := "ytabNews", inPlace := ["internal/abi.NoEscape"], apart := false }
def YtabNewsSaid : Prop := ytabNewsRow.holds Try.pinned (OpenSpec.ofChange ytabNewsSpec)

/-- ITS FALSE NEIGHBOUR: 'it returns false'. Refute it at one input. -/
def ytabNewsWrong : ChangeSpec := { name := "ytabNews", fn := fun _ => fun
  | [d1, d2, d3] => { results := [.lit (.bool false)], args := [d1, d2, d3] }
  | _ => none }
def YtabNewsWrongFalsely : Prop := ytabNewsRow.holds Try.pinned (OpenSpec.ofChange ytabNewsWrong)

/-- 'runnellaw15.YtabApplies': WHATEVER THE INPUT: true; the input reads as it did. -/
def ytabAppliesSpec : ChangeSpec := { name := "ytabApplies", fn := fun _ => fun
  | [d1, d2, d3] => { results := [.lit (.bool true)], args := [d1, d2, d3] }
  | _ => none }
def ytabAppliesRow : OpenClaim := { program := "ytgcjjfidcadlgaa", sum := "0b6acbeccb753d87003652a7c2f8e83eb2b3c62e597a3b494ca02c74358535ba", func := "runnel/runnellaw15.YtabApplies", spec := "ytabApplies", inPlace := ["internal/abi.NoEscape"], apart := false }
def YtabAppliesSaid : Prop := ytabAppliesRow.holds Try.pinned (OpenSpec.ofChange ytabAppliesSpec)

/-- ITS FALSE NEIGHBOUR: 'it returns false'. Refute it at one input. -/
def ytabAppliesWrong : ChangeSpec := { name := "ytabApplies", fn := fun _ => fun
  | [d1, d2, d3] => { results := [.lit (.bool false)], args := [d1, d2, d3] }
  | _ => none }
def YtabAppliesWrongFalsely : Prop := ytabAppliesRow.holds Try.pinned (OpenSpec.ofChange ytabAppliesWrong)

/-- 'runnellaw15.YtabBack': WHATEVER THE INPUT: true; the input reads as it did. -/
def ytabBackSpec : ChangeSpec := { name := "ytabBack", fn := fun _ => fun
  | [d1, d2, d3] => { results := [.lit (.bool true)], args := [d1, d2, d3] }
  | _ => none }
def ytabBackRow : OpenClaim := { program := "ytgcjjfidcadlgaa", sum := "0b6acbeccb753d87003652a7c2f8e83eb2b3c62e597a3b494ca02c74358535ba", func := "runnel/runnellaw15.YtabBack", spec := "ytabBack", inPlace := ["internal/abi.NoEscape"], apart := false }
def YtabBackSaid : Prop := ytabBackRow.holds Try.pinned (OpenSpec.ofChange ytabBackSpec)

/-- ITS FALSE NEIGHBOUR: 'it returns false'. Refute it at one input. -/
def ytabBackWrong : ChangeSpec := { name := "ytabBack", fn := fun _ => fun
  | [d1, d2, d3] => { results := [.lit (.bool false)], args := [d1, d2, d3] }
  | _ => none }
def YtabBackWrongFalsely : Prop := ytabBackRow.holds Try.pinned (OpenSpec.ofChange ytabBackWrong)

/- THE SECOND FORM. 'bulk': how many values and letters a reading holds, each counted each time it is reached (what is shared counts as often as it is met; a slice's spare places count too). A statement '..UptoSaid' is the law's where the arguments, and the package variables that the reading takes, are together of bulk at most 1048576: NARROWER than '..Said'. Prove '..Said' where nothing that the law and all that it calls make is longer than what came in: it says more and counts as full. Else prove '..UptoSaid'. A law counts once. -/
mutual
def uptoBulk {H : Type} : DataW H → Nat
  | .lit (.string bytes) => bytes.length + 1
  | .lit _ => 1
  | .nil => 1
  | .ptr d => uptoBulk d + 1
  | .slice elems spare => uptoBulkAll elems + uptoBulkAll spare + 1
  | .agg parts => uptoBulkAll parts + 1
  | .iface _ d => uptoBulk d + 1
  | .map entries => uptoBulkEntries entries + 1
  | .held _ => 1
def uptoBulkAll {H : Type} : List (DataW H) → Nat
  | [] => 0
  | d :: r => uptoBulk d + uptoBulkAll r
def uptoBulkEntries {H : Type} : List (Lit × DataW H) → Nat
  | [] => 0
  | x :: r => uptoBulkEntry x + uptoBulkEntries r
def uptoBulkEntry {H : Type} : Lit × DataW H → Nat
  | (.string bytes, d) => bytes.length + uptoBulk d + 1
  | (_, d) => uptoBulk d + 1
 end
def uptoSmall : (H : Type) → List (DataW H) → Bool := fun _ ds => decide (uptoBulkAll ds ≤ 1048576)
def OpenSpec.upto (s : _root_.Go.ChangeSpec) : _root_.Go.OpenSpec := { _root_.Go.OpenSpec.ofChange s with cond := some uptoSmall }

/-- 'runnellaw15.YtabPieces', WHERE WHAT IT READS IS OF BULK AT MOST 1048576: true; the input reads as it did. -/
def ytabPiecesUptoRow : OpenClaim := { program := "ytgcjjfidcadlgaa", sum := "0b6acbeccb753d87003652a7c2f8e83eb2b3c62e597a3b494ca02c74358535ba", func := "runnel/runnellaw15.YtabPieces", spec := "ytabPieces", inPlace := ["internal/abi.NoEscape"], apart := false, narrowed := true }
def YtabPiecesUptoSaid : Prop := ytabPiecesUptoRow.holds Try.pinned (OpenSpec.upto ytabPiecesSpec)

/-- 'runnellaw15.YtabNews', WHERE WHAT IT READS IS OF BULK AT MOST 1048576: true; the input reads as it did. -/
def ytabNewsUptoRow : OpenClaim := { program := "ytgcjjfidcadlgaa", sum := "0b6acbeccb753d87003652a7c2f8e83eb2b3c62e597a3b494ca02c74358535ba", func := "runnel/runnellaw15.YtabNews", spec := "ytabNews", inPlace := ["internal/abi.NoEscape"], apart := false, narrowed := true }
def YtabNewsUptoSaid : Prop := ytabNewsUptoRow.holds Try.pinned (OpenSpec.upto ytabNewsSpec)

/-- 'runnellaw15.YtabApplies', WHERE WHAT IT READS IS OF BULK AT MOST 1048576: true; the input reads as it did. -/
def ytabAppliesUptoRow : OpenClaim := { program := "ytgcjjfidcadlgaa", sum := "0b6acbeccb753d87003652a7c2f8e83eb2b3c62e597a3b494ca02c74358535ba", func := "runnel/runnellaw15.YtabApplies", spec := "ytabApplies", inPlace := ["internal/abi.NoEscape"], apart := false, narrowed := true }
def YtabAppliesUptoSaid : Prop := ytabAppliesUptoRow.holds Try.pinned (OpenSpec.upto ytabAppliesSpec)

/-- 'runnellaw15.YtabBack', WHERE WHAT IT READS IS OF BULK AT MOST 1048576: true; the input reads as it did. -/
def ytabBackUptoRow : OpenClaim := { program := "ytgcjjfidcadlgaa", sum := "0b6acbeccb753d87003652a7c2f8e83eb2b3c62e597a3b494ca02c74358535ba", func := "runnel/runnellaw15.YtabBack", spec := "ytabBack", inPlace := ["internal/abi.NoEscape"], apart := false, narrowed := true }
def YtabBackUptoSaid : Prop := ytabBackUptoRow.holds Try.pinned (OpenSpec.upto ytabBackSpec)

end Rows
end Go.Proofs.Ytgcjjfidcadlgaa
