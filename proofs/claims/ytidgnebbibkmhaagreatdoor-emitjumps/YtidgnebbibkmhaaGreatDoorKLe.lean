/- EmitJumps: the law (a tied card). -/
import Derived.Test.YtidgnebbibkmhaaGreatDoorKEr
import Derived.Test.YtidgnebbibkmhaaGreatDoorKXw1
import Derived.Test.YtidgnebbibkmhaaGreatDoorRows
import Derived.Test.YtidgnebbibkmhaaGreatDoorTie
import Derived.Test.YtidgnebbibkmhaaGreatDoorCards
import Derived.ChangeSame
import Derived.JoinedOf
import Derived.JoinedAt
import Derived.JoinedStill
import Derived.JoinedCond
import Derived.RowKit
import Derived.ProofKit
import Derived.ShutString
import Derived.ChangeShapes
import Derived.ChangeMaps5
import Derived.OpenShut
import Derived.Laws.IdiomArrays
import Derived.Deep.DeepHandedRow
import Derived.Lib.LaidTab
import Derived.Shelf.Vars
import Derived.Lay
import Derived.MakeChecks
import Derived.SevenTiedAt
import Derived.LaidMore
import Derived.SizedLaws
set_option maxRecDepth 100000
set_option maxHeartbeats 1000000
namespace Go.Proofs.YtidgnebbibkmhaaGreatDoor
open Go.ChangeShapes Go.WideShapes Go.ChangeAt Go.RowKit
open Go.ChangeMaps (open_string shut_string)
set_option linter.unusedVariables false
namespace EmitJumpsP
theorem own : ownKnob Tryz.prog.godebug = none := by kernel_rfl
theorem laidOut : laidOutB Tryz.prog = true := by kernel_rfl
theorem glob {W : World} (h : W.ShapedOpen Tryz.prog) : ∃ m : Int, W.cell? ⟨1, 0, none⟩ = some (.int .i64 m) :=
 cell_of_shapedOpen_int (g := 1) (t := 3) (k := .i64) (zero := #[.int .i64 0]) h (of_decide_eq_true (by kernel_rfl)) (by kernel_rfl) rfl (by kernel_rfl) (by kernel_rfl) Tryz.underlying3
theorem lifted (os : Os) (started : os.Started) (H : Type) (enc : TypeId × Value → H) (F0 : Stop.Interp) :
  ReturnsInHanded {} Tryz.checked os 3 .any ((OpenSpec.ofChange Rows.emitJumpsSpec).preRow enc Tryz.prog Tryz.f3 Rows.emitJumpsRow.domain false Rows.emitJumpsRow.laid) (((OpenSpec.ofChange Rows.emitJumpsSpec).at F0).post enc Tryz.prog Tryz.f3 false true false false) := by
 refine returnsInHanded_of_row (C := Tryz.checked) (s := (OpenSpec.ofChange Rows.emitJumpsSpec)) own started (by kernel_rfl) Tryz.func3
  (witness_row_at (enc := enc) (C := Tryz.checked) false (xeo os) #[.string ⟨#[]⟩] (xjz os) (by kernel_rfl) (by kernel_rfl) (by kernel_rfl)
   (OpenSpec.preRow_of_cond 8 (x := ([.lit (.string [])], [], [])) (by kernel_rfl) (by kernel_rfl) (fun k hk => by cases hk) (by kernel_rfl) (xii os _))) ?_
 intro W base args ds gs before hval0 hW _ _ hsz0 hL hsh _
 have hsz : (DataW.weightsEach Tryz.prog (Tryz.f3.params.toList ++ (OpenSpec.ofChange Rows.emitJumpsSpec).bare.plain.varTypes Tryz.prog) (ds ++ gs)).all (· ≤ reachBytes) = true := hsz0
 rw [Tryz.params3] at hsz
 have hg := gl_of hL (glob hsh)
 have hval : ∀ (j : Nat) t v, Tryz.f3.params[j]? = some t → args[j]? = some v → Value.okWide Tryz.prog W .any base t v := hval0
 have hW' := hW
 obtain ⟨p, q, hA0, hV, rfl, hfz, hnd⟩ := hW
 have hA : DataW.TrodAll enc Tryz.prog W 0 (fun _ => true) true Tryz.f3.params.toList args.toList ds p := hA0
 rw [Tryz.params3] at hA hval
 obtain ⟨v0, vs0, d0, ds0, p0, q0, hargs, rfl, rfl, h0, r0⟩ := trodAll_cons hA
 obtain ⟨rfl, rfl, rfl⟩ := trodAll_nil r0
 obtain rfl : args = #[v0] := by cases args; simp_all
 obtain ⟨rfl, rfl⟩ := trodVars_none hV
 obtain ⟨s0, rfl, rfl, rfl, w0⟩ := open_string Tryz.underlying9 (hval 0 9 v0 rfl rfl) h0
 clear hA0 hval0
 have z0 : s0.size ≤ 140737488351232 := by
  have h := sized_string hsz (j := 0) (t := 9) rfl rfl
  simpa [reachBytes] using h
 refine (em.jumps_any s0 (by omega) W hg).mono fun e W' ⟨he, bel⟩ => ?_
 subst he
 exact ⟨_, rfl, _, _, _, [], _, [], hW', trodAll_mk1 (shut_bool Tryz.underlying4 _), (trodAll_cons_mk (shut_string Tryz.underlying9 w0) trodAll_mk0), rfl, bel.frame _, fun h => by cases h⟩
theorem bnd {a b : Bool} (h : a = true) (k : b = true) : (a && b) = true := by rw [h, k]; rfl
theorem cInPlace : (Rows.emitJumpsRow.inPlace == Tryz.prog.inPlace 3) = true := by kernel_rfl
theorem xln : (Rows.emitJumpsRow.unfollowed == Tryz.prog.unfollowed 3) = true := by kernel_rfl
theorem xrd : (Rows.emitJumpsRow.recurses == Tryz.prog.recurses 3) = true := by kernel_rfl
theorem cNamed : (Rows.emitJumpsRow.named == Tryz.prog.varsNamed 3) = true := by kernel_rfl
theorem cMaps : mapsRowed Tryz.prog = true := by kernel_rfl
theorem cWf : Rows.emitJumpsRow.wf (OpenSpec.ofChange (OpenSpec.ofChange Rows.emitJumpsSpec).bare) = true := by kernel_rfl
theorem cTie : namedTie Tryz.prog Rows.emitJumpsRow.named (OpenSpec.ofChange Rows.emitJumpsSpec).bare.vars = true := by kernel_rfl
theorem closed : joinedFacts Tryz.prog 3 Tryz.f3 (OpenSpec.ofChange Rows.emitJumpsSpec).bare Rows.emitJumpsRow = true := by
 unfold joinedFacts
 refine bnd ?_ (by kernel_rfl)
 refine bnd ?_ (by kernel_rfl)
 refine bnd ?_ (by kernel_rfl)
 refine bnd ?_ (by kernel_rfl)
 refine bnd ?_ (by kernel_rfl)
 refine bnd ?_ (by kernel_rfl)
 refine bnd ?_ (by kernel_rfl)
 refine bnd ?_ (by kernel_rfl)
 refine bnd ?_ (by kernel_rfl)
 refine bnd ?_ (by kernel_rfl)
 refine bnd ?_ (by kernel_rfl)
 refine bnd ?_ (by kernel_rfl)
 refine bnd ?_ (by kernel_rfl)
 refine bnd ?_ (by kernel_rfl)
 refine bnd ?_ (by kernel_rfl)
 refine bnd ?_ (by kernel_rfl)
 refine bnd ?_ (by kernel_rfl)
 refine bnd ?_ (by kernel_rfl)
 refine bnd ?_ (by kernel_rfl)
 refine bnd ?_ cNamed
 refine bnd ?_ xrd
 refine bnd ?_ xln
 refine bnd ?_ cInPlace
 refine bnd ?_ (by kernel_rfl)
 refine bnd ?_ (by kernel_rfl)
 refine bnd ?_ (by kernel_rfl)
 refine bnd ?_ (by kernel_rfl)
 refine bnd ?_ cTie
 refine bnd ?_ (by kernel_rfl)
 refine bnd ?_ cMaps
 refine bnd ?_ laidOut
 exact cWf
theorem over : Rows.emitJumpsRow.holds Tryz.pinned (OpenSpec.ofChange Rows.emitJumpsSpec) :=
 OpenClaim.holds_of_cond 3 Tryz.f3 rfl rfl rfl rfl rfl rfl rfl ⟨rfl, rfl, rfl, rfl, rfl⟩ rfl rfl rfl rfl rfl (by kernel_rfl) Tryz.func3 closed
  (of_decide_eq_true (by kernel_rfl)) (by unfold Func.isWrapper; first | (rw [if_pos (by decide +kernel)]; kernel_rfl) | (rw [if_neg (by decide +kernel)]; exact ⟨rfl, rfl⟩))
  (fun os started H enc _ F0 => by rw [OpenClaim.pre_eq_preRow]; exact lifted os started H enc F0)
theorem proved : Rows.EmitJumpsSaid := over
end EmitJumpsP
theorem emitJumps_holds : Rows.EmitJumpsCardSaid :=
 Claim7.holds_tied_plain_at .later [] [.data, .data, .handle, .pinned] true (true, "82b5bd609421ddce1b422d06f422883f97491983fc12f802721022fef6c66dcd") true
  EmitJumpsP.proved (fun _ h => by cases h) (by kernel_rfl) (fun _ h => by cases h) emitJumps_row_tie rfl ⟨rfl, rfl⟩ (by kernel_rfl) rfl
  (fun f fn hf hfn => by
   obtain rfl : f = 3 := Option.some.inj ((show Tryz.prog.funcNamed "runnel/runnellaw20.EmitJumps" = some 3 by kernel_rfl).symm.trans hf) |>.symm
   obtain rfl : fn = Tryz.f3 := (Option.some.inj (Tryz.func3.symm.trans hfn)).symm
   exact ⟨by kernel_rfl, fun j t ht => by
    rw [Tryz.params3] at ht
    rcases j with _ | j
    ·have h9 : t = 9 := by simpa using ht.symm
     subst h9
     exact (show Tryz.prog.wantsStandIn 9 = false by kernel_rfl)
    ·simp at ht⟩)
  (by kernel_rfl)
end Go.Proofs.YtidgnebbibkmhaaGreatDoor
