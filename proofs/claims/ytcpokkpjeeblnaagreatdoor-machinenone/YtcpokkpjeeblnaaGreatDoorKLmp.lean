/- Closed facts of MachineNone's row and card, by the kernel. -/
import Derived.Test.YtcpokkpjeeblnaaGreatDoorRows
import Derived.Test.YtcpokkpjeeblnaaGreatDoorTie
import Derived.Test.YtcpokkpjeeblnaaGreatDoorCards
import Derived.ChangeSame
import Derived.JoinedOf
import Derived.JoinedAt
import Derived.JoinedStill
import Derived.JoinedCond
import Derived.RowKit
import Derived.ProofKit
import Derived.ShutString
import Derived.ChangeShapes
import Derived.ChangeMaps5
import Derived.OpenShut
import Derived.Laws.IdiomArrays
import Derived.Deep.DeepHandedRow
import Derived.Lib.LaidTab
import Derived.Shelf.Vars
import Derived.Lay
import Derived.MakeChecks
import Derived.SevenTiedAt
import Derived.LaidMore
import Derived.SizedLaws
set_option maxRecDepth 100000
set_option maxHeartbeats 1000000
namespace Go.Proofs.YtcpokkpjeeblnaaGreatDoor
open Go.ChangeShapes Go.WideShapes Go.ChangeAt Go.RowKit
open Go.ChangeMaps (open_string shut_string)
set_option linter.unusedVariables false
namespace MachineNoneP
theorem own : ownKnob Tryz.prog.godebug = none := by kernel_rfl
theorem laidOut : laidOutB Tryz.prog = true := by kernel_rfl
theorem bnd {a b : Bool} (h : a = true) (k : b = true) : (a && b) = true := by rw [h, k]; rfl
theorem cInPlace : (Rows.machineNoneRow.inPlace == Tryz.prog.inPlace 3) = true := by kernel_rfl
theorem xln : (Rows.machineNoneRow.unfollowed == Tryz.prog.unfollowed 3) = true := by kernel_rfl
theorem xrd : (Rows.machineNoneRow.recurses == Tryz.prog.recurses 3) = true := by kernel_rfl
theorem cNamed : (Rows.machineNoneRow.named == Tryz.prog.varsNamed 3) = true := by kernel_rfl
theorem cMaps : mapsRowed Tryz.prog = true := by kernel_rfl
theorem cWf : Rows.machineNoneRow.wf (OpenSpec.ofChange (OpenSpec.ofChange Rows.machineNoneSpec).bare) = true := by kernel_rfl
theorem cTie : namedTie Tryz.prog Rows.machineNoneRow.named (OpenSpec.ofChange Rows.machineNoneSpec).bare.vars = true := by kernel_rfl
theorem closed : joinedFacts Tryz.prog 3 Tryz.f3 (OpenSpec.ofChange Rows.machineNoneSpec).bare Rows.machineNoneRow = true := by
 unfold joinedFacts
 refine bnd ?_ (by kernel_rfl)
 refine bnd ?_ (by kernel_rfl)
 refine bnd ?_ (by kernel_rfl)
 refine bnd ?_ (by kernel_rfl)
 refine bnd ?_ (by kernel_rfl)
 refine bnd ?_ (by kernel_rfl)
 refine bnd ?_ (by kernel_rfl)
 refine bnd ?_ (by kernel_rfl)
 refine bnd ?_ (by kernel_rfl)
 refine bnd ?_ (by kernel_rfl)
 refine bnd ?_ (by kernel_rfl)
 refine bnd ?_ (by kernel_rfl)
 refine bnd ?_ (by kernel_rfl)
 refine bnd ?_ (by kernel_rfl)
 refine bnd ?_ (by kernel_rfl)
 refine bnd ?_ (by kernel_rfl)
 refine bnd ?_ (by kernel_rfl)
 refine bnd ?_ (by kernel_rfl)
 refine bnd ?_ (by kernel_rfl)
 refine bnd ?_ cNamed
 refine bnd ?_ xrd
 refine bnd ?_ xln
 refine bnd ?_ cInPlace
 refine bnd ?_ (by kernel_rfl)
 refine bnd ?_ (by kernel_rfl)
 refine bnd ?_ (by kernel_rfl)
 refine bnd ?_ (by kernel_rfl)
 refine bnd ?_ cTie
 refine bnd ?_ (by kernel_rfl)
 refine bnd ?_ cMaps
 refine bnd ?_ laidOut
 exact cWf
theorem kw : Rows.machineNoneRow.wfByText (OpenSpec.ofChange Rows.machineNoneSpec) = true := by kernel_rfl
theorem km : Tryz.pinned.checked.prog.mainIs = some ((true, "bf036568bdb34ecd0001cf31445efc6f512015678f6bdad502c8049830bc5303").1, (true, "bf036568bdb34ecd0001cf31445efc6f512015678f6bdad502c8049830bc5303").2.toList) := by kernel_rfl
theorem kl : true = Tryz.pinned.checked.prog.looks [] := by kernel_rfl
theorem kf : Tryz.prog.funcNamed "runnel/runnellaw25.MachineNone" = some 3 := by kernel_rfl
theorem k9 : Tryz.prog.wantsStandIn 9 = false := by kernel_rfl
theorem k3 : Tryz.prog.wantsStandIn 3 = false := by kernel_rfl
theorem kg : false = Rows.machineNoneRow.goesBy Tryz.pinned.checked.prog := by kernel_rfl
end MachineNoneP
end Go.Proofs.YtcpokkpjeeblnaaGreatDoor
