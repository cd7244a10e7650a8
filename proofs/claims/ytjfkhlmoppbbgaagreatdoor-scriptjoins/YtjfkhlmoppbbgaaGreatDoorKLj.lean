/- Two scripts that are read without a fault, together of at most 4000 bytes, with a newline between are the commands of both, those of the second so much further; the first one alone says whether anything is printed by itself: ScriptJoins. No condition but that the listed variables (errors.errorType, the tables of math/bits and unicode/utf8) are as the program's text lays them (the card ties them). -/
import Derived.Test.YtjfkhlmoppbbgaaGreatDoorKXd2
import Derived.Test.YtjfkhlmoppbbgaaGreatDoorKXn2
import Derived.Test.YtjfkhlmoppbbgaaGreatDoorRows
import Derived.Test.YtjfkhlmoppbbgaaGreatDoorTie
import Derived.Test.YtjfkhlmoppbbgaaGreatDoorCards
import Derived.ChangeSame
import Derived.JoinedOf
import Derived.JoinedAt
import Derived.JoinedStill
import Derived.JoinedCond
import Derived.RowKit
import Derived.ProofKit
import Derived.ShutString
import Derived.ChangeShapes
import Derived.ChangeMaps5
import Derived.OpenShut
import Derived.Laws.IdiomArrays
import Derived.Deep.DeepHandedRow
import Derived.Lib.LaidTab
import Derived.Shelf.Vars
import Derived.Lay
import Derived.MakeChecks
import Derived.SevenTiedAt
import Derived.LaidMore
import Derived.SizedLaws
namespace Go.Proofs.YtjfkhlmoppbbgaaGreatDoor
open Go.ChangeShapes Go.WideShapes Go.ChangeAt Go.RowKit
open Go.ChangeMaps (open_string shut_string)
set_option linter.unusedVariables false

namespace ScriptJoinsP

theorem own : ownKnob Tryz.prog.godebug = none := by kernel_rfl
theorem laidOut : laidOutB Tryz.prog = true := by kernel_rfl

/-- bytealg.MaxLen's cell holds some int. -/
theorem glob {W : World} (h : W.ShapedOpen Tryz.prog) : ∃ m : Int, W.cell? ⟨1, 0, none⟩ = some (.int .i64 m) :=
  cell_of_shapedOpen_int (g := 1) (t := 3) (k := .i64) (zero := #[.int .i64 0]) h (of_decide_eq_true (by kernel_rfl)) (by kernel_rfl) rfl (by kernel_rfl) (by kernel_rfl) Tryz.underlying3

set_option maxHeartbeats 1000000 in
set_option maxRecDepth 100000 in
theorem lifted (os : Os) (started : os.Started) (H : Type) (enc : TypeId × Value → H) (F0 : Stop.Interp) :
    ReturnsInHanded {} Tryz.checked os 4 .any ((OpenSpec.ofChange Rows.scriptJoinsSpec).preRow enc Tryz.prog Tryz.f4 Rows.scriptJoinsRow.domain false Rows.scriptJoinsRow.laid) (((OpenSpec.ofChange Rows.scriptJoinsSpec).at F0).post enc Tryz.prog Tryz.f4 false true false false) := by
  refine returnsInHanded_of_row (C := Tryz.checked) (s := (OpenSpec.ofChange Rows.scriptJoinsSpec)) own started (by kernel_rfl) Tryz.func4
    (witness_row_at (enc := enc) (C := Tryz.checked) false (laidWorld os) #[.string ⟨#[]⟩, .string ⟨#[]⟩] (laidWorld_os os) (by kernel_rfl) (by kernel_rfl) (by kernel_rfl)
      (OpenSpec.preRow_of_cond 8 (x := ([.lit (.string []), .lit (.string [])], [], [])) (by kernel_rfl) (by kernel_rfl) (fun k hk => by cases hk) (by kernel_rfl) (laidWorld_met os _))) ?_
  intro W base args ds gs before hval0 hW _ _ hsz0 hL hsh _
  have hsz : (DataW.weightsEach Tryz.prog (Tryz.f4.params.toList ++ (OpenSpec.ofChange Rows.scriptJoinsSpec).bare.plain.varTypes Tryz.prog) (ds ++ gs)).all (· ≤ reachBytes) = true := hsz0
  rw [Tryz.params4] at hsz
  have hg := gl_of hL (glob hsh)
  have hval : ∀ (j : Nat) t v, Tryz.f4.params[j]? = some t → args[j]? = some v → Value.okWide Tryz.prog W .any base t v := hval0
  have hW' := hW
  obtain ⟨p, q, hA0, hV, rfl, hfz, hnd⟩ := hW
  have hA : DataW.TrodAll enc Tryz.prog W 0 (fun _ => true) true Tryz.f4.params.toList args.toList ds p := hA0
  rw [Tryz.params4] at hA hval
  obtain ⟨v0, vs0, d0, ds0, p0, q0, hargs, rfl, rfl, h0, r0⟩ := trodAll_cons hA
  obtain ⟨v1, vs1, d1, ds1, p1, q1, rfl, rfl, rfl, h1, r1⟩ := trodAll_cons r0
  obtain ⟨rfl, rfl, rfl⟩ := trodAll_nil r1
  obtain rfl : args = #[v0, v1] := by cases args; simp_all
  obtain ⟨rfl, rfl⟩ := trodVars_none hV
  obtain ⟨s0, rfl, rfl, rfl, w0⟩ := open_string Tryz.underlying9 (hval 0 9 v0 rfl rfl) h0
  obtain ⟨s1, rfl, rfl, rfl, w1⟩ := open_string Tryz.underlying9 (hval 1 9 v1 rfl rfl) h1
  clear hA0 hval0
  have z0 : s0.size ≤ 140737488351232 := by
    have h := sized_string hsz (j := 0) (t := 9) rfl rfl
    simpa [reachBytes] using h
  have z1 : s1.size ≤ 140737488351232 := by
    have h := sized_string hsz (j := 1) (t := 9) rfl rfl
    simpa [reachBytes] using h
  refine (joins_any s0 s1 (by omega) (by omega) W hg).mono fun e W' ⟨he, bel⟩ => ?_
  subst he
  exact ⟨_, rfl, _, _, _, [], _, [], hW', trodAll_mk1 (shut_bool Tryz.underlying4 _), (trodAll_cons_mk (shut_string Tryz.underlying9 w0) (trodAll_cons_mk (shut_string Tryz.underlying9 w1) trodAll_mk0)), rfl, bel.frame _, fun h => by cases h⟩

theorem bnd {a b : Bool} (h : a = true) (k : b = true) : (a && b) = true := by rw [h, k]; rfl
set_option maxRecDepth 100000 in
theorem cInPlace : (Rows.scriptJoinsRow.inPlace == Tryz.prog.inPlace 4) = true := by kernel_rfl
set_option maxRecDepth 100000 in
theorem cUnfollowed : (Rows.scriptJoinsRow.unfollowed == Tryz.prog.unfollowed 4) = true := by kernel_rfl
set_option maxRecDepth 100000 in
theorem cRecurses : (Rows.scriptJoinsRow.recurses == Tryz.prog.recurses 4) = true := by kernel_rfl
set_option maxRecDepth 100000 in
theorem cNamed : (Rows.scriptJoinsRow.named == Tryz.prog.varsNamed 4) = true := by kernel_rfl
set_option maxRecDepth 100000 in
theorem cMaps : mapsRowed Tryz.prog = true := by kernel_rfl
set_option maxRecDepth 100000 in
theorem cWf : Rows.scriptJoinsRow.wf (OpenSpec.ofChange (OpenSpec.ofChange Rows.scriptJoinsSpec).bare) = true := by kernel_rfl
set_option maxRecDepth 100000 in
theorem cTie : namedTie Tryz.prog Rows.scriptJoinsRow.named (OpenSpec.ofChange Rows.scriptJoinsSpec).bare.vars = true := by kernel_rfl
set_option maxRecDepth 100000 in
theorem closed : joinedFacts Tryz.prog 4 Tryz.f4 (OpenSpec.ofChange Rows.scriptJoinsSpec).bare Rows.scriptJoinsRow = true := by
  unfold joinedFacts
  refine bnd ?_ (by kernel_rfl)
  refine bnd ?_ (by kernel_rfl)
  refine bnd ?_ (by kernel_rfl)
  refine bnd ?_ (by kernel_rfl)
  refine bnd ?_ (by kernel_rfl)
  refine bnd ?_ (by kernel_rfl)
  refine bnd ?_ (by kernel_rfl)
  refine bnd ?_ (by kernel_rfl)
  refine bnd ?_ (by kernel_rfl)
  refine bnd ?_ (by kernel_rfl)
  refine bnd ?_ (by kernel_rfl)
  refine bnd ?_ (by kernel_rfl)
  refine bnd ?_ (by kernel_rfl)
  refine bnd ?_ (by kernel_rfl)
  refine bnd ?_ (by kernel_rfl)
  refine bnd ?_ (by kernel_rfl)
  refine bnd ?_ (by kernel_rfl)
  refine bnd ?_ (by kernel_rfl)
  refine bnd ?_ (by kernel_rfl)
  refine bnd ?_ cNamed
  refine bnd ?_ cRecurses
  refine bnd ?_ cUnfollowed
  refine bnd ?_ cInPlace
  refine bnd ?_ (by kernel_rfl)
  refine bnd ?_ (by kernel_rfl)
  refine bnd ?_ (by kernel_rfl)
  refine bnd ?_ (by kernel_rfl)
  refine bnd ?_ cTie
  refine bnd ?_ (by kernel_rfl)
  refine bnd ?_ cMaps
  refine bnd ?_ laidOut
  exact cWf

theorem over : Rows.scriptJoinsRow.holds Tryz.pinned (OpenSpec.ofChange Rows.scriptJoinsSpec) :=
  OpenClaim.holds_of_cond 4 Tryz.f4 rfl rfl rfl rfl rfl rfl rfl ⟨rfl, rfl, rfl, rfl, rfl⟩ rfl rfl rfl rfl rfl (by kernel_rfl) Tryz.func4 closed
    (of_decide_eq_true (by kernel_rfl)) (by unfold Func.isWrapper; first | (rw [if_pos (by decide +kernel)]; kernel_rfl) | (rw [if_neg (by decide +kernel)]; exact ⟨rfl, rfl⟩))
    (fun os started H enc _ F0 => by rw [OpenClaim.pre_eq_preRow]; exact lifted os started H enc F0)

/-- The statement. -/
theorem proved : Rows.ScriptJoinsSaid := over
end ScriptJoinsP

/-- The statement: the card. -/
theorem scriptJoins_holds : Rows.ScriptJoinsCardSaid :=
  Claim7.holds_tied_plain_at .later [] [.data, .data, .handle, .pinned] true (true, "0738b3100b14d46ab2bd791bcd8693dff3d4ef43dd062169b184aa49fc25ae64") true
    ScriptJoinsP.proved (fun _ h => by cases h) (by kernel_rfl) (fun _ h => by cases h) scriptJoins_row_tie rfl ⟨rfl, rfl⟩ (by kernel_rfl) rfl
    (fun f fn hf hfn => by
      obtain rfl : f = 4 := Option.some.inj ((show Tryz.prog.funcNamed "runnel/runnellaw18.ScriptJoins" = some 4 by kernel_rfl).symm.trans hf) |>.symm
      obtain rfl : fn = Tryz.f4 := (Option.some.inj (Tryz.func4.symm.trans hfn)).symm
      exact ⟨by kernel_rfl, fun j t ht => by
        rw [Tryz.params4] at ht
        rcases j with _ | j
        · have h9 : t = 9 := by simpa using ht.symm
          subst h9
          exact (show Tryz.prog.wantsStandIn 9 = false by kernel_rfl)
        rcases j with _ | j
        · have h9 : t = 9 := by simpa using ht.symm
          subst h9
          exact (show Tryz.prog.wantsStandIn 9 = false by kernel_rfl)
        · simp at ht⟩)
    (by kernel_rfl)
end Go.Proofs.YtjfkhlmoppbbgaaGreatDoor
