/- Of every script's text: fields that a command's name doesn't use are zero, places rise, each name stands at its place, a text ends with a newline; beside a fault there are no commands, and its place lies within the text or at its end: ScriptFields. No condition but that the listed variables (errors.errorType, the tables of math/bits and unicode/utf8) are as the program's text lays them (the card ties them). -/
import Derived.Test.YtjfkhlmoppbbgaaGreatDoorKXd2
import Derived.Test.YtjfkhlmoppbbgaaGreatDoorKXt2
import Derived.Test.YtjfkhlmoppbbgaaGreatDoorRows
import Derived.Test.YtjfkhlmoppbbgaaGreatDoorTie
import Derived.Test.YtjfkhlmoppbbgaaGreatDoorCards
import Derived.ChangeSame
import Derived.JoinedOf
import Derived.JoinedAt
import Derived.JoinedStill
import Derived.JoinedCond
import Derived.RowKit
import Derived.ProofKit
import Derived.ShutString
import Derived.ChangeShapes
import Derived.ChangeMaps5
import Derived.OpenShut
import Derived.Laws.IdiomArrays
import Derived.Deep.DeepHandedRow
import Derived.Lib.LaidTab
import Derived.Shelf.Vars
import Derived.Lay
import Derived.MakeChecks
import Derived.SevenTiedAt
import Derived.LaidMore
import Derived.SizedLaws
namespace Go.Proofs.YtjfkhlmoppbbgaaGreatDoor
open Go.ChangeShapes Go.WideShapes Go.ChangeAt Go.RowKit
open Go.ChangeMaps (open_string shut_string)
set_option linter.unusedVariables false

namespace ScriptFieldsP

theorem own : ownKnob Tryz.prog.godebug = none := by kernel_rfl
theorem laidOut : laidOutB Tryz.prog = true := by kernel_rfl

/-- bytealg.MaxLen's cell holds some int. -/
theorem glob {W : World} (h : W.ShapedOpen Tryz.prog) : ∃ m : Int, W.cell? ⟨1, 0, none⟩ = some (.int .i64 m) :=
  cell_of_shapedOpen_int (g := 1) (t := 3) (k := .i64) (zero := #[.int .i64 0]) h (of_decide_eq_true (by kernel_rfl)) (by kernel_rfl) rfl (by kernel_rfl) (by kernel_rfl) Tryz.underlying3

set_option maxHeartbeats 1000000 in
set_option maxRecDepth 100000 in
theorem lifted (os : Os) (started : os.Started) (H : Type) (enc : TypeId × Value → H) (F0 : Stop.Interp) :
    ReturnsInHanded {} Tryz.checked os 6 .any ((OpenSpec.ofChange Rows.scriptFieldsSpec).preRow enc Tryz.prog Tryz.f6 Rows.scriptFieldsRow.domain false Rows.scriptFieldsRow.laid) (((OpenSpec.ofChange Rows.scriptFieldsSpec).at F0).post enc Tryz.prog Tryz.f6 false true false false) := by
  refine returnsInHanded_of_row (C := Tryz.checked) (s := (OpenSpec.ofChange Rows.scriptFieldsSpec)) own started (by kernel_rfl) Tryz.func6
    (witness_row_at (enc := enc) (C := Tryz.checked) false (laidWorld os) #[.string ⟨#[]⟩] (laidWorld_os os) (by kernel_rfl) (by kernel_rfl) (by kernel_rfl)
      (OpenSpec.preRow_of_cond 8 (x := ([.lit (.string [])], [], [])) (by kernel_rfl) (by kernel_rfl) (fun k hk => by cases hk) (by kernel_rfl) (laidWorld_met os _))) ?_
  intro W base args ds gs before hval0 hW _ _ hsz0 hL hsh _
  have hsz : (DataW.weightsEach Tryz.prog (Tryz.f6.params.toList ++ (OpenSpec.ofChange Rows.scriptFieldsSpec).bare.plain.varTypes Tryz.prog) (ds ++ gs)).all (· ≤ reachBytes) = true := hsz0
  rw [Tryz.params6] at hsz
  have hg := gl_of hL (glob hsh)
  have hval : ∀ (j : Nat) t v, Tryz.f6.params[j]? = some t → args[j]? = some v → Value.okWide Tryz.prog W .any base t v := hval0
  have hW' := hW
  obtain ⟨p, q, hA0, hV, rfl, hfz, hnd⟩ := hW
  have hA : DataW.TrodAll enc Tryz.prog W 0 (fun _ => true) true Tryz.f6.params.toList args.toList ds p := hA0
  rw [Tryz.params6] at hA hval
  obtain ⟨v0, vs0, d0, ds0, p0, q0, hargs, rfl, rfl, h0, r0⟩ := trodAll_cons hA
  obtain ⟨rfl, rfl, rfl⟩ := trodAll_nil r0
  obtain rfl : args = #[v0] := by cases args; simp_all
  obtain ⟨rfl, rfl⟩ := trodVars_none hV
  obtain ⟨s0, rfl, rfl, rfl, w0⟩ := open_string Tryz.underlying9 (hval 0 9 v0 rfl rfl) h0
  clear hA0 hval0
  have z0 : s0.size ≤ 140737488351232 := by
    have h := sized_string hsz (j := 0) (t := 9) rfl rfl
    simpa [reachBytes] using h
  refine (fields_any s0 (by omega) W hg).mono fun e W' ⟨he, bel⟩ => ?_
  subst he
  exact ⟨_, rfl, _, _, _, [], _, [], hW', trodAll_mk1 (shut_bool Tryz.underlying4 _), (trodAll_cons_mk (shut_string Tryz.underlying9 w0) trodAll_mk0), rfl, bel.frame _, fun h => by cases h⟩

theorem bnd {a b : Bool} (h : a = true) (k : b = true) : (a && b) = true := by rw [h, k]; rfl
set_option maxRecDepth 100000 in
theorem cInPlace : (Rows.scriptFieldsRow.inPlace == Tryz.prog.inPlace 6) = true := by kernel_rfl
set_option maxRecDepth 100000 in
theorem cUnfollowed : (Rows.scriptFieldsRow.unfollowed == Tryz.prog.unfollowed 6) = true := by kernel_rfl
set_option maxRecDepth 100000 in
theorem cRecurses : (Rows.scriptFieldsRow.recurses == Tryz.prog.recurses 6) = true := by kernel_rfl
set_option maxRecDepth 100000 in
theorem cNamed : (Rows.scriptFieldsRow.named == Tryz.prog.varsNamed 6) = true := by kernel_rfl
set_option maxRecDepth 100000 in
theorem cMaps : mapsRowed Tryz.prog = true := by kernel_rfl
set_option maxRecDepth 100000 in
theorem cWf : Rows.scriptFieldsRow.wf (OpenSpec.ofChange (OpenSpec.ofChange Rows.scriptFieldsSpec).bare) = true := by kernel_rfl
set_option maxRecDepth 100000 in
theorem cTie : namedTie Tryz.prog Rows.scriptFieldsRow.named (OpenSpec.ofChange Rows.scriptFieldsSpec).bare.vars = true := by kernel_rfl
set_option maxRecDepth 100000 in
theorem closed : joinedFacts Tryz.prog 6 Tryz.f6 (OpenSpec.ofChange Rows.scriptFieldsSpec).bare Rows.scriptFieldsRow = true := by
  unfold joinedFacts
  refine bnd ?_ (by kernel_rfl)
  refine bnd ?_ (by kernel_rfl)
  refine bnd ?_ (by kernel_rfl)
  refine bnd ?_ (by kernel_rfl)
  refine bnd ?_ (by kernel_rfl)
  refine bnd ?_ (by kernel_rfl)
  refine bnd ?_ (by kernel_rfl)
  refine bnd ?_ (by kernel_rfl)
  refine bnd ?_ (by kernel_rfl)
  refine bnd ?_ (by kernel_rfl)
  refine bnd ?_ (by kernel_rfl)
  refine bnd ?_ (by kernel_rfl)
  refine bnd ?_ (by kernel_rfl)
  refine bnd ?_ (by kernel_rfl)
  refine bnd ?_ (by kernel_rfl)
  refine bnd ?_ (by kernel_rfl)
  refine bnd ?_ (by kernel_rfl)
  refine bnd ?_ (by kernel_rfl)
  refine bnd ?_ (by kernel_rfl)
  refine bnd ?_ cNamed
  refine bnd ?_ cRecurses
  refine bnd ?_ cUnfollowed
  refine bnd ?_ cInPlace
  refine bnd ?_ (by kernel_rfl)
  refine bnd ?_ (by kernel_rfl)
  refine bnd ?_ (by kernel_rfl)
  refine bnd ?_ (by kernel_rfl)
  refine bnd ?_ cTie
  refine bnd ?_ (by kernel_rfl)
  refine bnd ?_ cMaps
  refine bnd ?_ laidOut
  exact cWf

theorem over : Rows.scriptFieldsRow.holds Tryz.pinned (OpenSpec.ofChange Rows.scriptFieldsSpec) :=
  OpenClaim.holds_of_cond 6 Tryz.f6 rfl rfl rfl rfl rfl rfl rfl ⟨rfl, rfl, rfl, rfl, rfl⟩ rfl rfl rfl rfl rfl (by kernel_rfl) Tryz.func6 closed
    (of_decide_eq_true (by kernel_rfl)) (by unfold Func.isWrapper; first | (rw [if_pos (by decide +kernel)]; kernel_rfl) | (rw [if_neg (by decide +kernel)]; exact ⟨rfl, rfl⟩))
    (fun os started H enc _ F0 => by rw [OpenClaim.pre_eq_preRow]; exact lifted os started H enc F0)

/-- The statement. -/
theorem proved : Rows.ScriptFieldsSaid := over
end ScriptFieldsP

/-- The statement: the card. -/
theorem scriptFields_holds : Rows.ScriptFieldsCardSaid :=
  Claim7.holds_tied_plain_at .later [] [.data, .data, .handle, .pinned] true (true, "0738b3100b14d46ab2bd791bcd8693dff3d4ef43dd062169b184aa49fc25ae64") true
    ScriptFieldsP.proved (fun _ h => by cases h) (by kernel_rfl) (fun _ h => by cases h) scriptFields_row_tie rfl ⟨rfl, rfl⟩ (by kernel_rfl) rfl
    (fun f fn hf hfn => by
      obtain rfl : f = 6 := Option.some.inj ((show Tryz.prog.funcNamed "runnel/runnellaw18.ScriptFields" = some 6 by kernel_rfl).symm.trans hf) |>.symm
      obtain rfl : fn = Tryz.f6 := (Option.some.inj (Tryz.func6.symm.trans hfn)).symm
      exact ⟨by kernel_rfl, fun j t ht => by
        rw [Tryz.params6] at ht
        rcases j with _ | j
        · have h9 : t = 9 := by simpa using ht.symm
          subst h9
          exact (show Tryz.prog.wantsStandIn 9 = false by kernel_rfl)
        · simp at ht⟩)
    (by kernel_rfl)
end Go.Proofs.YtjfkhlmoppbbgaaGreatDoor
