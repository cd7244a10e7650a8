/-
  No cell of these rows narrows 'for every input' (looked for: loops, veiled, ifaces, maps, wideKeys, modest, calm, conditions, laid).
  DERIVED. THE GIVEN ROWS OF THIS SEAT. 6 by the template 'for every input the law returns true; each argument reads behind the call as it read before'; 0 by the template 'total and deterministic' (their statements: YtolpakpdkheanaaTotals.lean).
  GIVEN WITH THE SEED: the statements are not yours to turn. If you find one false, say at which input.
  Laid BY PROGRAM, IN A SANDBOX (cutbox-rows.mjs): the forced cells as the released guide's own fill.sh prints them over the translation 5c0372661cf9e352… (all of the seat's roots in one cut). By AI agents, Wed Nov 11 2026. No macro, syntax, notation, axiom, sorry.
-/
import Derived.Test.YtolpakpdkheanaaChecked
import GoSem.Claim
import GoSem.ClaimJoined
import GoSem.ClaimMapViews
import Derived.JoinedTies
import Derived.KernelRfl
namespace Go.Proofs.Ytolpakpdkheanaa
/- THE CELL 'sum', in the pinned program and in every row, IS THE sha256 OF THE DUMP (.gsa) THAT YtolpakpdkheanaaProg.lean LOADS. Nothing in Lean hashes anything: it is a label: what it is worth is what the hold of that sum in a sandbox is worth. -/
noncomputable def Try.pinned : Pinned := { name := "ytolpakpdkheanaa", sum := "5c0372661cf9e352a0df7c2fc941e9dbd209f102a4f946c995ae6de4fa888d51", checked := Try.checked }
namespace Rows
def none {H : Type} : Left H := { results := [], args := [] }

/-- 'runnellaw09.WaysRuns': WHATEVER THE INPUT: true; the input reads as it did. -/
def waysRunsSpec : ChangeSpec := { name := "waysRuns", fn := fun _ => fun
  | [d] => { results := [.lit (.bool true)], args := [d] }
  | _ => none }
def waysRunsRow : OpenClaim := { program := "ytolpakpdkheanaa", sum := "5c0372661cf9e352a0df7c2fc941e9dbd209f102a4f946c995ae6de4fa888d51", func := "runnel/runnellaw09.WaysRuns", spec := "waysRuns", inPlace := ["internal/bytealg.IndexByteString", "internal/bytealg.IndexString"], unfollowed := true, recurses := true, named := ["internal/bytealg.MaxLen"], plainKeys := false, apart := false }
def WaysRunsSaid : Prop := waysRunsRow.holds Try.pinned (OpenSpec.ofChange waysRunsSpec)

/-- ITS FALSE NEIGHBOUR: 'it returns false'. Refute it at one input. -/
def waysRunsWrong : ChangeSpec := { name := "waysRuns", fn := fun _ => fun
  | [d] => { results := [.lit (.bool false)], args := [d] }
  | _ => none }
def WaysRunsWrongFalsely : Prop := waysRunsRow.holds Try.pinned (OpenSpec.ofChange waysRunsWrong)

/-- 'runnellaw09.WaysProducts': WHATEVER THE INPUT: true; the input reads as it did. -/
def waysProductsSpec : ChangeSpec := { name := "waysProducts", fn := fun _ => fun
  | [d1, d2, d3] => { results := [.lit (.bool true)], args := [d1, d2, d3] }
  | _ => none }
def waysProductsRow : OpenClaim := { program := "ytolpakpdkheanaa", sum := "5c0372661cf9e352a0df7c2fc941e9dbd209f102a4f946c995ae6de4fa888d51", func := "runnel/runnellaw09.WaysProducts", spec := "waysProducts", inPlace := ["internal/bytealg.IndexByteString", "internal/bytealg.IndexString"], unfollowed := true, recurses := true, named := ["internal/bytealg.MaxLen"], plainKeys := false, apart := false }
def WaysProductsSaid : Prop := waysProductsRow.holds Try.pinned (OpenSpec.ofChange waysProductsSpec)

/-- ITS FALSE NEIGHBOUR: 'it returns false'. Refute it at one input. -/
def waysProductsWrong : ChangeSpec := { name := "waysProducts", fn := fun _ => fun
  | [d1, d2, d3] => { results := [.lit (.bool false)], args := [d1, d2, d3] }
  | _ => none }
def WaysProductsWrongFalsely : Prop := waysProductsRow.holds Try.pinned (OpenSpec.ofChange waysProductsWrong)

/-- 'runnellaw10.BackmatchSquares': WHATEVER THE INPUT: true; the input reads as it did. -/
def backmatchSquaresSpec : ChangeSpec := { name := "backmatchSquares", fn := fun _ => fun
  | [d1, d2] => { results := [.lit (.bool true)], args := [d1, d2] }
  | _ => none }
def backmatchSquaresRow : OpenClaim := { program := "ytolpakpdkheanaa", sum := "5c0372661cf9e352a0df7c2fc941e9dbd209f102a4f946c995ae6de4fa888d51", func := "runnel/runnellaw10.BackmatchSquares", spec := "backmatchSquares", inPlace := ["internal/bytealg.IndexByteString", "internal/bytealg.IndexString"], unfollowed := true, recurses := true, named := ["internal/bytealg.MaxLen"], plainKeys := false, apart := false }
def BackmatchSquaresSaid : Prop := backmatchSquaresRow.holds Try.pinned (OpenSpec.ofChange backmatchSquaresSpec)

/-- ITS FALSE NEIGHBOUR: 'it returns false'. Refute it at one input. -/
def backmatchSquaresWrong : ChangeSpec := { name := "backmatchSquares", fn := fun _ => fun
  | [d1, d2] => { results := [.lit (.bool false)], args := [d1, d2] }
  | _ => none }
def BackmatchSquaresWrongFalsely : Prop := backmatchSquaresRow.holds Try.pinned (OpenSpec.ofChange backmatchSquaresWrong)

/-- 'runnellaw10.BackmatchWays': WHATEVER THE INPUT: true; the input reads as it did. -/
def backmatchWaysSpec : ChangeSpec := { name := "backmatchWays", fn := fun _ => fun
  | [d1, d2] => { results := [.lit (.bool true)], args := [d1, d2] }
  | _ => none }
def backmatchWaysRow : OpenClaim := { program := "ytolpakpdkheanaa", sum := "5c0372661cf9e352a0df7c2fc941e9dbd209f102a4f946c995ae6de4fa888d51", func := "runnel/runnellaw10.BackmatchWays", spec := "backmatchWays", inPlace := ["internal/bytealg.IndexByteString", "internal/bytealg.IndexString"], unfollowed := true, recurses := true, named := ["internal/bytealg.MaxLen"], plainKeys := false, apart := false }
def BackmatchWaysSaid : Prop := backmatchWaysRow.holds Try.pinned (OpenSpec.ofChange backmatchWaysSpec)

/-- ITS FALSE NEIGHBOUR: 'it returns false'. Refute it at one input. -/
def backmatchWaysWrong : ChangeSpec := { name := "backmatchWays", fn := fun _ => fun
  | [d1, d2] => { results := [.lit (.bool false)], args := [d1, d2] }
  | _ => none }
def BackmatchWaysWrongFalsely : Prop := backmatchWaysRow.holds Try.pinned (OpenSpec.ofChange backmatchWaysWrong)

/-- 'runnellaw10.BackmatchEquals': WHATEVER THE INPUT: true; the input reads as it did. -/
def backmatchEqualsSpec : ChangeSpec := { name := "backmatchEquals", fn := fun _ => fun
  | [d1, d2] => { results := [.lit (.bool true)], args := [d1, d2] }
  | _ => none }
def backmatchEqualsRow : OpenClaim := { program := "ytolpakpdkheanaa", sum := "5c0372661cf9e352a0df7c2fc941e9dbd209f102a4f946c995ae6de4fa888d51", func := "runnel/runnellaw10.BackmatchEquals", spec := "backmatchEquals", inPlace := ["internal/bytealg.IndexByteString", "internal/bytealg.IndexString"], unfollowed := true, recurses := true, named := ["internal/bytealg.MaxLen"], plainKeys := false, apart := false }
def BackmatchEqualsSaid : Prop := backmatchEqualsRow.holds Try.pinned (OpenSpec.ofChange backmatchEqualsSpec)

/-- ITS FALSE NEIGHBOUR: 'it returns false'. Refute it at one input. -/
def backmatchEqualsWrong : ChangeSpec := { name := "backmatchEquals", fn := fun _ => fun
  | [d1, d2] => { results := [.lit (.bool false)], args := [d1, d2] }
  | _ => none }
def BackmatchEqualsWrongFalsely : Prop := backmatchEqualsRow.holds Try.pinned (OpenSpec.ofChange backmatchEqualsWrong)

/-- 'runnellaw10.BackmatchTurned': WHATEVER THE INPUT: true; the input reads as it did. -/
def backmatchTurnedSpec : ChangeSpec := { name := "backmatchTurned", fn := fun _ => fun
  | [d] => { results := [.lit (.bool true)], args := [d] }
  | _ => none }
def backmatchTurnedRow : OpenClaim := { program := "ytolpakpdkheanaa", sum := "5c0372661cf9e352a0df7c2fc941e9dbd209f102a4f946c995ae6de4fa888d51", func := "runnel/runnellaw10.BackmatchTurned", spec := "backmatchTurned", inPlace := ["internal/bytealg.IndexByteString", "internal/bytealg.IndexString"], unfollowed := true, recurses := true, named := ["internal/bytealg.MaxLen"], plainKeys := false, apart := false }
def BackmatchTurnedSaid : Prop := backmatchTurnedRow.holds Try.pinned (OpenSpec.ofChange backmatchTurnedSpec)

/-- ITS FALSE NEIGHBOUR: 'it returns false'. Refute it at one input. -/
def backmatchTurnedWrong : ChangeSpec := { name := "backmatchTurned", fn := fun _ => fun
  | [d] => { results := [.lit (.bool false)], args := [d] }
  | _ => none }
def BackmatchTurnedWrongFalsely : Prop := backmatchTurnedRow.holds Try.pinned (OpenSpec.ofChange backmatchTurnedWrong)

/- THE SECOND FORM. 'bulk': how many values and letters a reading holds, each counted each time it is reached (what is shared counts as often as it is met; a slice's spare places count too). A statement '..UptoSaid' is the law's where the arguments, and the package variables that the reading takes, are together of bulk at most 1048576: NARROWER than '..Said'. Prove '..Said' where nothing that the law and all that it calls make is longer than what came in: it says more and counts as full. Else prove '..UptoSaid'. A law counts once. -/
mutual
def uptoBulk {H : Type} : DataW H → Nat
  | .lit (.string bytes) => bytes.length + 1
  | .lit _ => 1
  | .nil => 1
  | .ptr d => uptoBulk d + 1
  | .slice elems spare => uptoBulkAll elems + uptoBulkAll spare + 1
  | .agg parts => uptoBulkAll parts + 1
  | .iface _ d => uptoBulk d + 1
  | .map entries => uptoBulkEntries entries + 1
  | .held _ => 1
def uptoBulkAll {H : Type} : List (DataW H) → Nat
  | [] => 0
  | d :: r => uptoBulk d + uptoBulkAll r
def uptoBulkEntries {H : Type} : List (Lit × DataW H) → Nat
  | [] => 0
  | x :: r => uptoBulkEntry x + uptoBulkEntries r
def uptoBulkEntry {H : Type} : Lit × DataW H → Nat
  | (.string bytes, d) => bytes.length + uptoBulk d + 1
  | (_, d) => uptoBulk d + 1
 end
def uptoSmall : (H : Type) → List (DataW H) → Bool := fun _ ds => decide (uptoBulkAll ds ≤ 1048576)
def OpenSpec.upto (s : _root_.Go.ChangeSpec) : _root_.Go.OpenSpec := { _root_.Go.OpenSpec.ofChange s with cond := some uptoSmall }

/-- 'runnellaw09.WaysRuns', WHERE WHAT IT READS IS OF BULK AT MOST 1048576: true; the input reads as it did. -/
def waysRunsUptoRow : OpenClaim := { program := "ytolpakpdkheanaa", sum := "5c0372661cf9e352a0df7c2fc941e9dbd209f102a4f946c995ae6de4fa888d51", func := "runnel/runnellaw09.WaysRuns", spec := "waysRuns", inPlace := ["internal/bytealg.IndexByteString", "internal/bytealg.IndexString"], unfollowed := true, recurses := true, named := ["internal/bytealg.MaxLen"], plainKeys := false, apart := false, narrowed := true }
def WaysRunsUptoSaid : Prop := waysRunsUptoRow.holds Try.pinned (OpenSpec.upto waysRunsSpec)

/-- 'runnellaw09.WaysProducts', WHERE WHAT IT READS IS OF BULK AT MOST 1048576: true; the input reads as it did. -/
def waysProductsUptoRow : OpenClaim := { program := "ytolpakpdkheanaa", sum := "5c0372661cf9e352a0df7c2fc941e9dbd209f102a4f946c995ae6de4fa888d51", func := "runnel/runnellaw09.WaysProducts", spec := "waysProducts", inPlace := ["internal/bytealg.IndexByteString", "internal/bytealg.IndexString"], unfollowed := true, recurses := true, named := ["internal/bytealg.MaxLen"], plainKeys := false, apart := false, narrowed := true }
def WaysProductsUptoSaid : Prop := waysProductsUptoRow.holds Try.pinned (OpenSpec.upto waysProductsSpec)

/-- 'runnellaw10.BackmatchSquares', WHERE WHAT IT READS IS OF BULK AT MOST 1048576: true; the input reads as it did. -/
def backmatchSquaresUptoRow : OpenClaim := { program := "ytolpakpdkheanaa", sum := "5c0372661cf9e352a0df7c2fc941e9dbd209f102a4f946c995ae6de4fa888d51", func := "runnel/runnellaw10.BackmatchSquares", spec := "backmatchSquares", inPlace := ["internal/bytealg.IndexByteString", "internal/bytealg.IndexString"], unfollowed := true, recurses := true, named := ["internal/bytealg.MaxLen"], plainKeys := false, apart := false, narrowed := true }
def BackmatchSquaresUptoSaid : Prop := backmatchSquaresUptoRow.holds Try.pinned (OpenSpec.upto backmatchSquaresSpec)

/-- 'runnellaw10.BackmatchWays', WHERE WHAT IT READS IS OF BULK AT MOST 1048576: true; the input reads as it did. -/
def backmatchWaysUptoRow : OpenClaim := { program := "ytolpakpdkheanaa", sum := "5c0372661cf9e352a0df7c2fc941e9dbd209f102a4f946c995ae6de4fa888d51", func := "runnel/runnellaw10.BackmatchWays", spec := "backmatchWays", inPlace := ["internal/bytealg.IndexByteString", "internal/bytealg.IndexString"], unfollowed := true, recurses := true, named := ["internal/bytealg.MaxLen"], plainKeys := false, apart := false, narrowed := true }
def BackmatchWaysUptoSaid : Prop := backmatchWaysUptoRow.holds Try.pinned (OpenSpec.upto backmatchWaysSpec)

/-- 'runnellaw10.BackmatchEquals', WHERE WHAT IT READS IS OF BULK AT MOST 1048576: true; the input reads as it did. -/
def backmatchEqualsUptoRow : OpenClaim := { program := "ytolpakpdkheanaa", sum := "5c0372661cf9e352a0df7c2fc941e9dbd209f102a4f946c995ae6de4fa888d51", func := "runnel/runnellaw10.BackmatchEquals", spec := "backmatchEquals", inPlace := ["internal/bytealg.IndexByteString", "internal/bytealg.IndexString"], unfollowed := true, recurses := true, named := ["internal/bytealg.MaxLen"], plainKeys := false, apart := false, narrowed := true }
def BackmatchEqualsUptoSaid : Prop := backmatchEqualsUptoRow.holds Try.pinned (OpenSpec.upto backmatchEqualsSpec)

/-- 'runnellaw10.BackmatchTurned', WHERE WHAT IT READS IS OF BULK AT MOST 1048576: true; the input reads as it did. -/
def backmatchTurnedUptoRow : OpenClaim := { program := "ytolpakpdkheanaa", sum := "5c0372661cf9e352a0df7c2fc941e9dbd209f102a4f946c995ae6de4fa888d51", func := "runnel/runnellaw10.BackmatchTurned", spec := "backmatchTurned", inPlace := ["internal/bytealg.IndexByteString", "internal/bytealg.IndexString"], unfollowed := true, recurses := true, named := ["internal/bytealg.MaxLen"], plainKeys := false, apart := false, narrowed := true }
def BackmatchTurnedUptoSaid : Prop := backmatchTurnedUptoRow.holds Try.pinned (OpenSpec.upto backmatchTurnedSpec)

end Rows
end Go.Proofs.Ytolpakpdkheanaa
