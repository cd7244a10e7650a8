/-
  No cell of these rows narrows 'for every input' (looked for: loops, veiled, ifaces, maps, wideKeys, modest, calm, conditions, laid).
  DERIVED. THE GIVEN ROWS OF THIS SEAT. 6 by the template 'for every input the law returns true; each argument reads behind the call as it read before'; 0 by the template 'total and deterministic' (their statements: YtolkbemclkgmmaaTotals.lean).
  GIVEN WITH THE SEED: the statements are not yours to turn. If you find one false, say at which input.
  Laid BY PROGRAM, IN A SANDBOX (cutbox-rows.mjs): the forced cells as the released guide's own fill.sh prints them over the translation 5bd7e2ae64d6858a… (all of the seat's roots in one cut). By AI agents, Wed Nov 11 2026. No macro, syntax, notation, axiom, sorry.
-/
import Derived.Test.YtolkbemclkgmmaaChecked
import GoSem.Claim
import GoSem.ClaimJoined
import GoSem.ClaimMapViews
import Derived.JoinedTies
import Derived.KernelRfl
namespace Go.Proofs.Ytolkbemclkgmmaa
/- THE CELL 'sum', in the pinned program and in every row, IS THE sha256 OF THE DUMP (.gsa) THAT YtolkbemclkgmmaaProg.lean LOADS. Nothing in Lean hashes anything: it is a label: what it is worth is what the hold of that sum in a sandbox is worth. -/
noncomputable def Try.pinned : Pinned := { name := "ytolkbemclkgmmaa", sum := "5bd7e2ae64d6858a6ac91de3fbdecafb89b4192f859ed0c3c6c555e7cc5470be", checked := Try.checked }
namespace Rows
def none {H : Type} : Left H := { results := [], args := [] }

/-- 'runnellaw03.BracketParses': WHATEVER THE INPUT: true; the input reads as it did. -/
def bracketParsesSpec : ChangeSpec := { name := "bracketParses", fn := fun _ => fun
  | [d1, d2] => { results := [.lit (.bool true)], args := [d1, d2] }
  | _ => none }
def bracketParsesRow : OpenClaim := { program := "ytolkbemclkgmmaa", sum := "5bd7e2ae64d6858a6ac91de3fbdecafb89b4192f859ed0c3c6c555e7cc5470be", func := "runnel/runnellaw03.BracketParses", spec := "bracketParses", inPlace := ["internal/bytealg.IndexByteString", "internal/bytealg.IndexString"], unfollowed := true, recurses := true, named := ["internal/bytealg.MaxLen"], apart := false }
def BracketParsesSaid : Prop := bracketParsesRow.holds Try.pinned (OpenSpec.ofChange bracketParsesSpec)

/-- ITS FALSE NEIGHBOUR: 'it returns false'. Refute it at one input. -/
def bracketParsesWrong : ChangeSpec := { name := "bracketParses", fn := fun _ => fun
  | [d1, d2] => { results := [.lit (.bool false)], args := [d1, d2] }
  | _ => none }
def BracketParsesWrongFalsely : Prop := bracketParsesRow.holds Try.pinned (OpenSpec.ofChange bracketParsesWrong)

/-- 'runnellaw03.BracketTexts': WHATEVER THE INPUT: true; the input reads as it did. -/
def bracketTextsSpec : ChangeSpec := { name := "bracketTexts", fn := fun _ => fun
  | [d] => { results := [.lit (.bool true)], args := [d] }
  | _ => none }
def bracketTextsRow : OpenClaim := { program := "ytolkbemclkgmmaa", sum := "5bd7e2ae64d6858a6ac91de3fbdecafb89b4192f859ed0c3c6c555e7cc5470be", func := "runnel/runnellaw03.BracketTexts", spec := "bracketTexts", inPlace := ["internal/bytealg.IndexByteString", "internal/bytealg.IndexString"], unfollowed := true, recurses := true, named := ["internal/bytealg.MaxLen"], apart := false }
def BracketTextsSaid : Prop := bracketTextsRow.holds Try.pinned (OpenSpec.ofChange bracketTextsSpec)

/-- ITS FALSE NEIGHBOUR: 'it returns false'. Refute it at one input. -/
def bracketTextsWrong : ChangeSpec := { name := "bracketTexts", fn := fun _ => fun
  | [d] => { results := [.lit (.bool false)], args := [d] }
  | _ => none }
def BracketTextsWrongFalsely : Prop := bracketTextsRow.holds Try.pinned (OpenSpec.ofChange bracketTextsWrong)

/-- 'runnellaw03.BracketBack': WHATEVER THE INPUT: true; the input reads as it did. -/
def bracketBackSpec : ChangeSpec := { name := "bracketBack", fn := fun _ => fun
  | [d1, d2, d3] => { results := [.lit (.bool true)], args := [d1, d2, d3] }
  | _ => none }
def bracketBackRow : OpenClaim := { program := "ytolkbemclkgmmaa", sum := "5bd7e2ae64d6858a6ac91de3fbdecafb89b4192f859ed0c3c6c555e7cc5470be", func := "runnel/runnellaw03.BracketBack", spec := "bracketBack", inPlace := ["internal/bytealg.IndexByteString", "internal/bytealg.IndexString"], unfollowed := true, recurses := true, named := ["internal/bytealg.MaxLen"], apart := false }
def BracketBackSaid : Prop := bracketBackRow.holds Try.pinned (OpenSpec.ofChange bracketBackSpec)

/-- ITS FALSE NEIGHBOUR: 'it returns false'. Refute it at one input. -/
def bracketBackWrong : ChangeSpec := { name := "bracketBack", fn := fun _ => fun
  | [d1, d2, d3] => { results := [.lit (.bool false)], args := [d1, d2, d3] }
  | _ => none }
def BracketBackWrongFalsely : Prop := bracketBackRow.holds Try.pinned (OpenSpec.ofChange bracketBackWrong)

/-- 'runnellaw03.BracketNots': WHATEVER THE INPUT: true; the input reads as it did. -/
def bracketNotsSpec : ChangeSpec := { name := "bracketNots", fn := fun _ => fun
  | [d1, d2, d3] => { results := [.lit (.bool true)], args := [d1, d2, d3] }
  | _ => none }
def bracketNotsRow : OpenClaim := { program := "ytolkbemclkgmmaa", sum := "5bd7e2ae64d6858a6ac91de3fbdecafb89b4192f859ed0c3c6c555e7cc5470be", func := "runnel/runnellaw03.BracketNots", spec := "bracketNots", inPlace := ["internal/bytealg.IndexByteString", "internal/bytealg.IndexString"], unfollowed := true, recurses := true, named := ["internal/bytealg.MaxLen"], apart := false }
def BracketNotsSaid : Prop := bracketNotsRow.holds Try.pinned (OpenSpec.ofChange bracketNotsSpec)

/-- ITS FALSE NEIGHBOUR: 'it returns false'. Refute it at one input. -/
def bracketNotsWrong : ChangeSpec := { name := "bracketNots", fn := fun _ => fun
  | [d1, d2, d3] => { results := [.lit (.bool false)], args := [d1, d2, d3] }
  | _ => none }
def BracketNotsWrongFalsely : Prop := bracketNotsRow.holds Try.pinned (OpenSpec.ofChange bracketNotsWrong)

/-- 'runnellaw03.BracketUnions': WHATEVER THE INPUT: true; the input reads as it did. -/
def bracketUnionsSpec : ChangeSpec := { name := "bracketUnions", fn := fun _ => fun
  | [d1, d2] => { results := [.lit (.bool true)], args := [d1, d2] }
  | _ => none }
def bracketUnionsRow : OpenClaim := { program := "ytolkbemclkgmmaa", sum := "5bd7e2ae64d6858a6ac91de3fbdecafb89b4192f859ed0c3c6c555e7cc5470be", func := "runnel/runnellaw03.BracketUnions", spec := "bracketUnions", inPlace := ["internal/bytealg.IndexByteString", "internal/bytealg.IndexString"], unfollowed := true, recurses := true, named := ["internal/bytealg.MaxLen"], apart := false }
def BracketUnionsSaid : Prop := bracketUnionsRow.holds Try.pinned (OpenSpec.ofChange bracketUnionsSpec)

/-- ITS FALSE NEIGHBOUR: 'it returns false'. Refute it at one input. -/
def bracketUnionsWrong : ChangeSpec := { name := "bracketUnions", fn := fun _ => fun
  | [d1, d2] => { results := [.lit (.bool false)], args := [d1, d2] }
  | _ => none }
def BracketUnionsWrongFalsely : Prop := bracketUnionsRow.holds Try.pinned (OpenSpec.ofChange bracketUnionsWrong)

/-- 'runnellaw03.BracketFixed': WHATEVER THE INPUT: true; the input reads as it did. -/
def bracketFixedSpec : ChangeSpec := { name := "bracketFixed", fn := fun _ => fun
  | [] => { results := [.lit (.bool true)], args := [] }
  | _ => none }
def bracketFixedRow : OpenClaim := { program := "ytolkbemclkgmmaa", sum := "5bd7e2ae64d6858a6ac91de3fbdecafb89b4192f859ed0c3c6c555e7cc5470be", func := "runnel/runnellaw03.BracketFixed", spec := "bracketFixed", inPlace := ["internal/bytealg.IndexByteString", "internal/bytealg.IndexString"], unfollowed := true, recurses := true, named := ["internal/bytealg.MaxLen"], apart := false }
def BracketFixedSaid : Prop := bracketFixedRow.holds Try.pinned (OpenSpec.ofChange bracketFixedSpec)

/-- ITS FALSE NEIGHBOUR: 'it returns false'. Refute it at one input. -/
def bracketFixedWrong : ChangeSpec := { name := "bracketFixed", fn := fun _ => fun
  | [] => { results := [.lit (.bool false)], args := [] }
  | _ => none }
def BracketFixedWrongFalsely : Prop := bracketFixedRow.holds Try.pinned (OpenSpec.ofChange bracketFixedWrong)

/- THE SECOND FORM. 'bulk': how many values and letters a reading holds, each counted each time it is reached (what is shared counts as often as it is met; a slice's spare places count too). A statement '..UptoSaid' is the law's where the arguments, and the package variables that the reading takes, are together of bulk at most 1048576: NARROWER than '..Said'. Prove '..Said' where nothing that the law and all that it calls make is longer than what came in: it says more and counts as full. Else prove '..UptoSaid'. A law counts once. -/
mutual
def uptoBulk {H : Type} : DataW H → Nat
  | .lit (.string bytes) => bytes.length + 1
  | .lit _ => 1
  | .nil => 1
  | .ptr d => uptoBulk d + 1
  | .slice elems spare => uptoBulkAll elems + uptoBulkAll spare + 1
  | .agg parts => uptoBulkAll parts + 1
  | .iface _ d => uptoBulk d + 1
  | .map entries => uptoBulkEntries entries + 1
  | .held _ => 1
def uptoBulkAll {H : Type} : List (DataW H) → Nat
  | [] => 0
  | d :: r => uptoBulk d + uptoBulkAll r
def uptoBulkEntries {H : Type} : List (Lit × DataW H) → Nat
  | [] => 0
  | x :: r => uptoBulkEntry x + uptoBulkEntries r
def uptoBulkEntry {H : Type} : Lit × DataW H → Nat
  | (.string bytes, d) => bytes.length + uptoBulk d + 1
  | (_, d) => uptoBulk d + 1
 end
def uptoSmall : (H : Type) → List (DataW H) → Bool := fun _ ds => decide (uptoBulkAll ds ≤ 1048576)
def OpenSpec.upto (s : _root_.Go.ChangeSpec) : _root_.Go.OpenSpec := { _root_.Go.OpenSpec.ofChange s with cond := some uptoSmall }

/-- 'runnellaw03.BracketParses', WHERE WHAT IT READS IS OF BULK AT MOST 1048576: true; the input reads as it did. -/
def bracketParsesUptoRow : OpenClaim := { program := "ytolkbemclkgmmaa", sum := "5bd7e2ae64d6858a6ac91de3fbdecafb89b4192f859ed0c3c6c555e7cc5470be", func := "runnel/runnellaw03.BracketParses", spec := "bracketParses", inPlace := ["internal/bytealg.IndexByteString", "internal/bytealg.IndexString"], unfollowed := true, recurses := true, named := ["internal/bytealg.MaxLen"], apart := false, narrowed := true }
def BracketParsesUptoSaid : Prop := bracketParsesUptoRow.holds Try.pinned (OpenSpec.upto bracketParsesSpec)

/-- 'runnellaw03.BracketTexts', WHERE WHAT IT READS IS OF BULK AT MOST 1048576: true; the input reads as it did. -/
def bracketTextsUptoRow : OpenClaim := { program := "ytolkbemclkgmmaa", sum := "5bd7e2ae64d6858a6ac91de3fbdecafb89b4192f859ed0c3c6c555e7cc5470be", func := "runnel/runnellaw03.BracketTexts", spec := "bracketTexts", inPlace := ["internal/bytealg.IndexByteString", "internal/bytealg.IndexString"], unfollowed := true, recurses := true, named := ["internal/bytealg.MaxLen"], apart := false, narrowed := true }
def BracketTextsUptoSaid : Prop := bracketTextsUptoRow.holds Try.pinned (OpenSpec.upto bracketTextsSpec)

/-- 'runnellaw03.BracketBack', WHERE WHAT IT READS IS OF BULK AT MOST 1048576: true; the input reads as it did. -/
def bracketBackUptoRow : OpenClaim := { program := "ytolkbemclkgmmaa", sum := "5bd7e2ae64d6858a6ac91de3fbdecafb89b4192f859ed0c3c6c555e7cc5470be", func := "runnel/runnellaw03.BracketBack", spec := "bracketBack", inPlace := ["internal/bytealg.IndexByteString", "internal/bytealg.IndexString"], unfollowed := true, recurses := true, named := ["internal/bytealg.MaxLen"], apart := false, narrowed := true }
def BracketBackUptoSaid : Prop := bracketBackUptoRow.holds Try.pinned (OpenSpec.upto bracketBackSpec)

/-- 'runnellaw03.BracketNots', WHERE WHAT IT READS IS OF BULK AT MOST 1048576: true; the input reads as it did. -/
def bracketNotsUptoRow : OpenClaim := { program := "ytolkbemclkgmmaa", sum := "5bd7e2ae64d6858a6ac91de3fbdecafb89b4192f859ed0c3c6c555e7cc5470be", func := "runnel/runnellaw03.BracketNots", spec := "bracketNots", inPlace := ["internal/bytealg.IndexByteString", "internal/bytealg.IndexString"], unfollowed := true, recurses := true, named := ["internal/bytealg.MaxLen"], apart := false, narrowed := true }
def BracketNotsUptoSaid : Prop := bracketNotsUptoRow.holds Try.pinned (OpenSpec.upto bracketNotsSpec)

/-- 'runnellaw03.BracketUnions', WHERE WHAT IT READS IS OF BULK AT MOST 1048576: true; the input reads as it did. -/
def bracketUnionsUptoRow : OpenClaim := { program := "ytolkbemclkgmmaa", sum := "5bd7e2ae64d6858a6ac91de3fbdecafb89b4192f859ed0c3c6c555e7cc5470be", func := "runnel/runnellaw03.BracketUnions", spec := "bracketUnions", inPlace := ["internal/bytealg.IndexByteString", "internal/bytealg.IndexString"], unfollowed := true, recurses := true, named := ["internal/bytealg.MaxLen"], apart := false, narrowed := true }
def BracketUnionsUptoSaid : Prop := bracketUnionsUptoRow.holds Try.pinned (OpenSpec.upto bracketUnionsSpec)

/-- 'runnellaw03.BracketFixed', WHERE WHAT IT READS IS OF BULK AT MOST 1048576: true; the input reads as it did. -/
def bracketFixedUptoRow : OpenClaim := { program := "ytolkbemclkgmmaa", sum := "5bd7e2ae64d6858a6ac91de3fbdecafb89b4192f859ed0c3c6c555e7cc5470be", func := "runnel/runnellaw03.BracketFixed", spec := "bracketFixed", inPlace := ["internal/bytealg.IndexByteString", "internal/bytealg.IndexString"], unfollowed := true, recurses := true, named := ["internal/bytealg.MaxLen"], apart := false, narrowed := true }
def BracketFixedUptoSaid : Prop := bracketFixedUptoRow.holds Try.pinned (OpenSpec.upto bracketFixedSpec)

end Rows
end Go.Proofs.Ytolkbemclkgmmaa
