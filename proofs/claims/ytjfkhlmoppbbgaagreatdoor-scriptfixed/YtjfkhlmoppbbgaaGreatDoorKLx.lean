/- The document's examples of faulty scripts are answered with the document's faults and places; 4097 bytes are too many, 4096 are not; #n and nothing else in the first line makes a script quiet: ScriptFixed. No condition but that the listed variables (errors.errorType, the tables of math/bits and unicode/utf8) are as the program's text lays them (the card ties them). -/
import Derived.Test.YtjfkhlmoppbbgaaGreatDoorKXw2
import Derived.Test.YtjfkhlmoppbbgaaGreatDoorKXd2
import Derived.Test.YtjfkhlmoppbbgaaGreatDoorRows
import Derived.Test.YtjfkhlmoppbbgaaGreatDoorTie
import Derived.Test.YtjfkhlmoppbbgaaGreatDoorCards
import Derived.ChangeSame
import Derived.JoinedOf
import Derived.JoinedAt
import Derived.JoinedStill
import Derived.JoinedCond
import Derived.RowKit
import Derived.ProofKit
import Derived.ShutString
import Derived.ChangeShapes
import Derived.ChangeMaps5
import Derived.OpenShut
import Derived.Laws.IdiomArrays
import Derived.Deep.DeepHandedRow
import Derived.Lib.LaidTab
import Derived.Shelf.Vars
import Derived.Lay
import Derived.MakeChecks
import Derived.SevenTiedAt
import Derived.LaidMore
import Derived.SizedLaws
namespace Go.Proofs.YtjfkhlmoppbbgaaGreatDoor
open Go.ChangeShapes Go.WideShapes Go.ChangeAt Go.RowKit
open Go.ChangeMaps (open_string shut_string)
set_option linter.unusedVariables false

namespace ScriptFixedP

theorem own : ownKnob Tryz.prog.godebug = none := by kernel_rfl
theorem laidOut : laidOutB Tryz.prog = true := by kernel_rfl

/-- bytealg.MaxLen's cell holds some int. -/
theorem glob {W : World} (h : W.ShapedOpen Tryz.prog) : ∃ m : Int, W.cell? ⟨1, 0, none⟩ = some (.int .i64 m) :=
  cell_of_shapedOpen_int (g := 1) (t := 3) (k := .i64) (zero := #[.int .i64 0]) h (of_decide_eq_true (by kernel_rfl)) (by kernel_rfl) rfl (by kernel_rfl) (by kernel_rfl) Tryz.underlying3

set_option maxHeartbeats 1000000 in
set_option maxRecDepth 100000 in
theorem lifted (os : Os) (started : os.Started) (H : Type) (enc : TypeId × Value → H) (F0 : Stop.Interp) :
    ReturnsInHanded {} Tryz.checked os 7 .any ((OpenSpec.ofChange Rows.scriptFixedSpec).preRow enc Tryz.prog Tryz.f7 Rows.scriptFixedRow.domain false Rows.scriptFixedRow.laid) (((OpenSpec.ofChange Rows.scriptFixedSpec).at F0).post enc Tryz.prog Tryz.f7 false true false false) := by
  refine returnsInHanded_of_row (C := Tryz.checked) (s := (OpenSpec.ofChange Rows.scriptFixedSpec)) own started (by kernel_rfl) Tryz.func7
    (witness_row_at (enc := enc) (C := Tryz.checked) false (laidWorld os) #[] (laidWorld_os os) (by kernel_rfl) (by kernel_rfl) (by kernel_rfl)
      (OpenSpec.preRow_of_cond 8 (x := ([], [], [])) (by kernel_rfl) (by kernel_rfl) (fun k hk => by cases hk) (by kernel_rfl) (laidWorld_met os _))) ?_
  intro W base args ds gs before hval0 hW _ _ hsz0 hL hsh _
  have hg := gl_of hL (glob hsh)
  have hval : ∀ (j : Nat) t v, Tryz.f7.params[j]? = some t → args[j]? = some v → Value.okWide Tryz.prog W .any base t v := hval0
  have hW' := hW
  obtain ⟨p, q, hA0, hV, rfl, hfz, hnd⟩ := hW
  have hA : DataW.TrodAll enc Tryz.prog W 0 (fun _ => true) true Tryz.f7.params.toList args.toList ds p := hA0
  rw [Tryz.params7] at hA hval
  obtain ⟨hargs, rfl, rfl⟩ := trodAll_nil hA
  obtain rfl : args = #[] := by cases args; simp_all
  obtain ⟨rfl, rfl⟩ := trodVars_none hV
  clear hA0 hval0
  refine (fixed_any W hg).mono fun e W' ⟨he, bel⟩ => ?_
  subst he
  exact ⟨_, rfl, _, _, _, [], _, [], hW', trodAll_mk1 (shut_bool Tryz.underlying4 _), trodAll_mk0, rfl, bel.frame _, fun h => by cases h⟩

theorem bnd {a b : Bool} (h : a = true) (k : b = true) : (a && b) = true := by rw [h, k]; rfl
set_option maxRecDepth 100000 in
theorem cInPlace : (Rows.scriptFixedRow.inPlace == Tryz.prog.inPlace 7) = true := by kernel_rfl
set_option maxRecDepth 100000 in
theorem cUnfollowed : (Rows.scriptFixedRow.unfollowed == Tryz.prog.unfollowed 7) = true := by kernel_rfl
set_option maxRecDepth 100000 in
theorem cRecurses : (Rows.scriptFixedRow.recurses == Tryz.prog.recurses 7) = true := by kernel_rfl
set_option maxRecDepth 100000 in
theorem cNamed : (Rows.scriptFixedRow.named == Tryz.prog.varsNamed 7) = true := by kernel_rfl
set_option maxRecDepth 100000 in
theorem cMaps : mapsRowed Tryz.prog = true := by kernel_rfl
set_option maxRecDepth 100000 in
theorem cWf : Rows.scriptFixedRow.wf (OpenSpec.ofChange (OpenSpec.ofChange Rows.scriptFixedSpec).bare) = true := by kernel_rfl
set_option maxRecDepth 100000 in
theorem cTie : namedTie Tryz.prog Rows.scriptFixedRow.named (OpenSpec.ofChange Rows.scriptFixedSpec).bare.vars = true := by kernel_rfl
set_option maxRecDepth 100000 in
theorem closed : joinedFacts Tryz.prog 7 Tryz.f7 (OpenSpec.ofChange Rows.scriptFixedSpec).bare Rows.scriptFixedRow = true := by
  unfold joinedFacts
  refine bnd ?_ (by kernel_rfl)
  refine bnd ?_ (by kernel_rfl)
  refine bnd ?_ (by kernel_rfl)
  refine bnd ?_ (by kernel_rfl)
  refine bnd ?_ (by kernel_rfl)
  refine bnd ?_ (by kernel_rfl)
  refine bnd ?_ (by kernel_rfl)
  refine bnd ?_ (by kernel_rfl)
  refine bnd ?_ (by kernel_rfl)
  refine bnd ?_ (by kernel_rfl)
  refine bnd ?_ (by kernel_rfl)
  refine bnd ?_ (by kernel_rfl)
  refine bnd ?_ (by kernel_rfl)
  refine bnd ?_ (by kernel_rfl)
  refine bnd ?_ (by kernel_rfl)
  refine bnd ?_ (by kernel_rfl)
  refine bnd ?_ (by kernel_rfl)
  refine bnd ?_ (by kernel_rfl)
  refine bnd ?_ (by kernel_rfl)
  refine bnd ?_ cNamed
  refine bnd ?_ cRecurses
  refine bnd ?_ cUnfollowed
  refine bnd ?_ cInPlace
  refine bnd ?_ (by kernel_rfl)
  refine bnd ?_ (by kernel_rfl)
  refine bnd ?_ (by kernel_rfl)
  refine bnd ?_ (by kernel_rfl)
  refine bnd ?_ cTie
  refine bnd ?_ (by kernel_rfl)
  refine bnd ?_ cMaps
  refine bnd ?_ laidOut
  exact cWf

theorem over : Rows.scriptFixedRow.holds Tryz.pinned (OpenSpec.ofChange Rows.scriptFixedSpec) :=
  OpenClaim.holds_of_cond 7 Tryz.f7 rfl rfl rfl rfl rfl rfl rfl ⟨rfl, rfl, rfl, rfl, rfl⟩ rfl rfl rfl rfl rfl (by kernel_rfl) Tryz.func7 closed
    (of_decide_eq_true (by kernel_rfl)) (by unfold Func.isWrapper; first | (rw [if_pos (by decide +kernel)]; kernel_rfl) | (rw [if_neg (by decide +kernel)]; exact ⟨rfl, rfl⟩))
    (fun os started H enc _ F0 => by rw [OpenClaim.pre_eq_preRow]; exact lifted os started H enc F0)

/-- The statement. -/
theorem proved : Rows.ScriptFixedSaid := over
end ScriptFixedP

/-- The statement: the card. -/
theorem scriptFixed_holds : Rows.ScriptFixedCardSaid :=
  Claim7.holds_tied_plain_at .later [] [.data, .data, .handle, .pinned] true (true, "0738b3100b14d46ab2bd791bcd8693dff3d4ef43dd062169b184aa49fc25ae64") true
    ScriptFixedP.proved (fun _ h => by cases h) (by kernel_rfl) (fun _ h => by cases h) scriptFixed_row_tie rfl ⟨rfl, rfl⟩ (by kernel_rfl) rfl
    (fun f fn hf hfn => by
      obtain rfl : f = 7 := Option.some.inj ((show Tryz.prog.funcNamed "runnel/runnellaw18.ScriptFixed" = some 7 by kernel_rfl).symm.trans hf) |>.symm
      obtain rfl : fn = Tryz.f7 := (Option.some.inj (Tryz.func7.symm.trans hfn)).symm
      exact ⟨by kernel_rfl, fun j t ht => by
        rw [Tryz.params7] at ht
        · simp at ht⟩)
    (by kernel_rfl)
end Go.Proofs.YtjfkhlmoppbbgaaGreatDoor
