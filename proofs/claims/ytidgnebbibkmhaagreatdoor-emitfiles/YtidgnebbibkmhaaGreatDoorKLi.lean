/- Of a script made of w and s commands that name files, Build's Files are these names, each once, in the order of their first places; the seventeenth is ErrFull at its command, and leaves none: EmitFiles. No condition but that the listed variables (errors.errorType, the tables of math/bits and unicode/utf8) are as the program's text lays them (the card ties them). -/
import Derived.Test.YtidgnebbibkmhaaGreatDoorKEy
import Derived.Test.YtidgnebbibkmhaaGreatDoorKXw1
import Derived.Test.YtidgnebbibkmhaaGreatDoorRows
import Derived.Test.YtidgnebbibkmhaaGreatDoorTie
import Derived.Test.YtidgnebbibkmhaaGreatDoorCards
import Derived.ChangeSame
import Derived.JoinedOf
import Derived.JoinedAt
import Derived.JoinedStill
import Derived.JoinedCond
import Derived.RowKit
import Derived.ProofKit
import Derived.ShutString
import Derived.ChangeShapes
import Derived.ChangeMaps5
import Derived.OpenShut
import Derived.Laws.IdiomArrays
import Derived.Deep.DeepHandedRow
import Derived.Lib.LaidTab
import Derived.Shelf.Vars
import Derived.Lay
import Derived.MakeChecks
import Derived.SevenTiedAt
import Derived.LaidMore
import Derived.SizedLaws
set_option maxRecDepth 100000
set_option maxHeartbeats 1000000
namespace Go.Proofs.YtidgnebbibkmhaaGreatDoor
open Go.ChangeShapes Go.WideShapes Go.ChangeAt Go.RowKit
open Go.ChangeMaps (open_string shut_string)
set_option linter.unusedVariables false
namespace EmitFilesP
theorem own : ownKnob Tryz.prog.godebug = none := by kernel_rfl
theorem laidOut : laidOutB Tryz.prog = true := by kernel_rfl
theorem glob {W : World} (h : W.ShapedOpen Tryz.prog) : ∃ m : Int, W.cell? ⟨1, 0, none⟩ = some (.int .i64 m) :=
 cell_of_shapedOpen_int (g := 1) (t := 3) (k := .i64) (zero := #[.int .i64 0]) h (of_decide_eq_true (by kernel_rfl)) (by kernel_rfl) rfl (by kernel_rfl) (by kernel_rfl) Tryz.underlying3
theorem lifted (os : Os) (started : os.Started) (H : Type) (enc : TypeId × Value → H) (F0 : Stop.Interp) :
  ReturnsInHanded {} Tryz.checked os 4 .any ((OpenSpec.ofChange Rows.emitFilesSpec).preRow enc Tryz.prog Tryz.f4 Rows.emitFilesRow.domain false Rows.emitFilesRow.laid) (((OpenSpec.ofChange Rows.emitFilesSpec).at F0).post enc Tryz.prog Tryz.f4 false true false false) := by
 refine returnsInHanded_of_row (C := Tryz.checked) (s := (OpenSpec.ofChange Rows.emitFilesSpec)) own started (by kernel_rfl) Tryz.func4
  (witness_row_at (enc := enc) (C := Tryz.checked) false (xeo os) #[.slice none 0 0] (xjz os) (by kernel_rfl) (by kernel_rfl) (by kernel_rfl)
   (OpenSpec.preRow_of_cond 8 (x := ([.nil], [], [])) (by kernel_rfl) (by kernel_rfl) (fun k hk => by cases hk) (by kernel_rfl) (xii os _))) ?_
 intro W base args ds gs before hval0 hW _ _ hsz0 hL hsh _
 have hsz : (DataW.weightsEach Tryz.prog (Tryz.f4.params.toList ++ (OpenSpec.ofChange Rows.emitFilesSpec).bare.plain.varTypes Tryz.prog) (ds ++ gs)).all (· ≤ reachBytes) = true := hsz0
 rw [Tryz.params4] at hsz
 have hg := gl_of hL (glob hsh)
 have hval : ∀ (j : Nat) t v, Tryz.f4.params[j]? = some t → args[j]? = some v → Value.okWide Tryz.prog W .any base t v := hval0
 have hW' := hW
 obtain ⟨p, q, hA0, hV, rfl, hfz, hnd⟩ := hW
 have hA : DataW.TrodAll enc Tryz.prog W 0 (fun _ => true) true Tryz.f4.params.toList args.toList ds p := hA0
 rw [Tryz.params4] at hA hval
 obtain ⟨v0, vs0, d0, ds0, p0, q0, hargs, rfl, rfl, h0, r0⟩ := trodAll_cons hA
 obtain ⟨rfl, rfl, rfl⟩ := trodAll_nil r0
 obtain rfl : args = #[v0] := by cases args; simp_all
 obtain ⟨rfl, rfl⟩ := trodVars_none hV
 have k0 := h0
 have lt0 : ∀ x ∈ p0, x.block < W.heap.size := by obtain ⟨m, hm⟩ := k0; exact DataW.trod_lt m _ _ _ hm
 obtain ⟨l0, row0⟩ := open_bytes2 (hval 0 44 v0 rfl rfl) h0
 clear hA0 hval0
 refine (em.files_any v0 l0 W row0 hg).mono fun e W' ⟨he, bel⟩ => ?_
 subst he
 exact ⟨_, rfl, _, _, _, [], _, [], hW', trodAll_mk1 (shut_bool Tryz.underlying4 _), (trodAll_cons_mk (Below.trod laidOut (by kernel_rfl) (of_decide_eq_true (by kernel_rfl)) k0 bel lt0) trodAll_mk0), rfl, bel.frame _, fun h => by cases h⟩
theorem bnd {a b : Bool} (h : a = true) (k : b = true) : (a && b) = true := by rw [h, k]; rfl
theorem cInPlace : (Rows.emitFilesRow.inPlace == Tryz.prog.inPlace 4) = true := by kernel_rfl
theorem xln : (Rows.emitFilesRow.unfollowed == Tryz.prog.unfollowed 4) = true := by kernel_rfl
theorem xrd : (Rows.emitFilesRow.recurses == Tryz.prog.recurses 4) = true := by kernel_rfl
theorem cNamed : (Rows.emitFilesRow.named == Tryz.prog.varsNamed 4) = true := by kernel_rfl
theorem cMaps : mapsRowed Tryz.prog = true := by kernel_rfl
theorem cWf : Rows.emitFilesRow.wf (OpenSpec.ofChange (OpenSpec.ofChange Rows.emitFilesSpec).bare) = true := by kernel_rfl
theorem cTie : namedTie Tryz.prog Rows.emitFilesRow.named (OpenSpec.ofChange Rows.emitFilesSpec).bare.vars = true := by kernel_rfl
theorem closed : joinedFacts Tryz.prog 4 Tryz.f4 (OpenSpec.ofChange Rows.emitFilesSpec).bare Rows.emitFilesRow = true := by
 unfold joinedFacts
 refine bnd ?_ (by kernel_rfl)
 refine bnd ?_ (by kernel_rfl)
 refine bnd ?_ (by kernel_rfl)
 refine bnd ?_ (by kernel_rfl)
 refine bnd ?_ (by kernel_rfl)
 refine bnd ?_ (by kernel_rfl)
 refine bnd ?_ (by kernel_rfl)
 refine bnd ?_ (by kernel_rfl)
 refine bnd ?_ (by kernel_rfl)
 refine bnd ?_ (by kernel_rfl)
 refine bnd ?_ (by kernel_rfl)
 refine bnd ?_ (by kernel_rfl)
 refine bnd ?_ (by kernel_rfl)
 refine bnd ?_ (by kernel_rfl)
 refine bnd ?_ (by kernel_rfl)
 refine bnd ?_ (by kernel_rfl)
 refine bnd ?_ (by kernel_rfl)
 refine bnd ?_ (by kernel_rfl)
 refine bnd ?_ (by kernel_rfl)
 refine bnd ?_ cNamed
 refine bnd ?_ xrd
 refine bnd ?_ xln
 refine bnd ?_ cInPlace
 refine bnd ?_ (by kernel_rfl)
 refine bnd ?_ (by kernel_rfl)
 refine bnd ?_ (by kernel_rfl)
 refine bnd ?_ (by kernel_rfl)
 refine bnd ?_ cTie
 refine bnd ?_ (by kernel_rfl)
 refine bnd ?_ cMaps
 refine bnd ?_ laidOut
 exact cWf
theorem over : Rows.emitFilesRow.holds Tryz.pinned (OpenSpec.ofChange Rows.emitFilesSpec) :=
 OpenClaim.holds_of_cond 4 Tryz.f4 rfl rfl rfl rfl rfl rfl rfl ⟨rfl, rfl, rfl, rfl, rfl⟩ rfl rfl rfl rfl rfl (by kernel_rfl) Tryz.func4 closed
  (of_decide_eq_true (by kernel_rfl)) (by unfold Func.isWrapper; first | (rw [if_pos (by decide +kernel)]; kernel_rfl) | (rw [if_neg (by decide +kernel)]; exact ⟨rfl, rfl⟩))
  (fun os started H enc _ F0 => by rw [OpenClaim.pre_eq_preRow]; exact lifted os started H enc F0)
theorem proved : Rows.EmitFilesSaid := over
end EmitFilesP
theorem emitFiles_holds : Rows.EmitFilesCardSaid :=
 Claim7.holds_tied_plain_at .later [] [.data, .data, .handle, .pinned] true (true, "82b5bd609421ddce1b422d06f422883f97491983fc12f802721022fef6c66dcd") true
  EmitFilesP.proved (fun _ h => by cases h) (by kernel_rfl) (fun _ h => by cases h) emitFiles_row_tie rfl ⟨rfl, rfl⟩ (by kernel_rfl) rfl
  (fun f fn hf hfn => by
   obtain rfl : f = 4 := Option.some.inj ((show Tryz.prog.funcNamed "runnel/runnellaw20.EmitFiles" = some 4 by kernel_rfl).symm.trans hf) |>.symm
   obtain rfl : fn = Tryz.f4 := (Option.some.inj (Tryz.func4.symm.trans hfn)).symm
   exact ⟨by kernel_rfl, fun j t ht => by
    rw [Tryz.params4] at ht
    rcases j with _ | j
    ·have h9 : t = 44 := by simpa using ht.symm
     subst h9
     exact (show Tryz.prog.wantsStandIn 44 = false by kernel_rfl)
    ·simp at ht⟩)
  (by kernel_rfl)
end Go.Proofs.YtidgnebbibkmhaaGreatDoor
