/- Blanks, newlines, ; and comments in front of a script change the places of its commands and of its fault alone; behind a newline nothing does (where the arguments' bulk is at most 1048576): ScriptBetween. No other condition but that the listed variables (errors.errorType, the tables of math/bits and unicode/utf8) are as the program's text lays them (the card ties them). -/
import Derived.Test.YtjfkhlmoppbbgaaGreatDoorKXd2
import Derived.Test.YtjfkhlmoppbbgaaGreatDoorKXq2
import Derived.Test.YtjfkhlmoppbbgaaGreatDoorRows
import Derived.Test.YtjfkhlmoppbbgaaGreatDoorTie
import Derived.Test.YtjfkhlmoppbbgaaGreatDoorCards
import Derived.ChangeSame
import Derived.JoinedOf
import Derived.JoinedAt
import Derived.JoinedStill
import Derived.JoinedCond
import Derived.RowKit
import Derived.ProofKit
import Derived.ShutString
import Derived.ChangeShapes
import Derived.ChangeMaps5
import Derived.OpenShut
import Derived.Laws.IdiomArrays
import Derived.Deep.DeepHandedRow
import Derived.Lib.LaidTab
import Derived.Shelf.Vars
import Derived.Lay
import Derived.MakeChecks
import Derived.SevenTiedAt
import Derived.LaidMore
import Derived.SizedLaws
namespace Go.Proofs.YtjfkhlmoppbbgaaGreatDoor
open Go.ChangeShapes Go.WideShapes Go.ChangeAt Go.RowKit
open Go.ChangeMaps (open_string shut_string)
set_option linter.unusedVariables false

namespace ScriptBetweenP

theorem own : ownKnob Tryz.prog.godebug = none := by kernel_rfl
theorem laidOut : laidOutB Tryz.prog = true := by kernel_rfl

/-- bytealg.MaxLen's cell holds some int. -/
theorem glob {W : World} (h : W.ShapedOpen Tryz.prog) : ∃ m : Int, W.cell? ⟨1, 0, none⟩ = some (.int .i64 m) :=
  cell_of_shapedOpen_int (g := 1) (t := 3) (k := .i64) (zero := #[.int .i64 0]) h (of_decide_eq_true (by kernel_rfl)) (by kernel_rfl) rfl (by kernel_rfl) (by kernel_rfl) Tryz.underlying3

set_option maxHeartbeats 1000000 in
set_option maxRecDepth 100000 in
theorem lifted (os : Os) (started : os.Started) (H : Type) (enc : TypeId × Value → H) (F0 : Stop.Interp) :
    ReturnsInHanded {} Tryz.checked os 5 .any ((Rows.OpenSpec.upto Rows.scriptBetweenSpec).preRow enc Tryz.prog Tryz.f5 Rows.scriptBetweenUptoRow.domain false Rows.scriptBetweenUptoRow.laid) (((Rows.OpenSpec.upto Rows.scriptBetweenSpec).at F0).post enc Tryz.prog Tryz.f5 false true false false) := by
  refine returnsInHanded_of_row (C := Tryz.checked) (s := (Rows.OpenSpec.upto Rows.scriptBetweenSpec)) own started (by kernel_rfl) Tryz.func5
    (witness_row_at (enc := enc) (C := Tryz.checked) false (laidWorld os) #[.string ⟨#[]⟩, .slice none 0 0, .string ⟨#[]⟩] (laidWorld_os os) (by kernel_rfl) (by kernel_rfl) (by kernel_rfl)
      (OpenSpec.preRow_of_cond 8 (x := ([.lit (.string []), .nil, .lit (.string [])], [], [])) (by kernel_rfl) (by kernel_rfl) (fun k hk => by cases hk; kernel_rfl) (by kernel_rfl) (laidWorld_met os _))) ?_
  intro W base args ds gs before hval0 hW _ hcond _ hL hsh _
  have hk0 : Rows.uptoSmall H (ds ++ gs) = true := hcond _ rfl
  have hg := gl_of hL (glob hsh)
  have hval : ∀ (j : Nat) t v, Tryz.f5.params[j]? = some t → args[j]? = some v → Value.okWide Tryz.prog W .any base t v := hval0
  have hW' := hW
  obtain ⟨p, q, hA0, hV, rfl, hfz, hnd⟩ := hW
  have hA : DataW.TrodAll enc Tryz.prog W 0 (fun _ => true) true Tryz.f5.params.toList args.toList ds p := hA0
  rw [Tryz.params5] at hA hval
  obtain ⟨v0, vs0, d0, ds0, p0, q0, hargs, rfl, rfl, h0, r0⟩ := trodAll_cons hA
  obtain ⟨v1, vs1, d1, ds1, p1, q1, rfl, rfl, rfl, h1, r1⟩ := trodAll_cons r0
  obtain ⟨v2, vs2, d2, ds2, p2, q2, rfl, rfl, rfl, h2, r2⟩ := trodAll_cons r1
  obtain ⟨rfl, rfl, rfl⟩ := trodAll_nil r2
  obtain rfl : args = #[v0, v1, v2] := by cases args; simp_all
  obtain ⟨rfl, rfl⟩ := trodVars_none hV
  obtain ⟨s0, rfl, rfl, rfl, w0⟩ := open_string Tryz.underlying9 (hval 0 9 v0 rfl rfl) h0
  have k1 := h1
  have lt1 : ∀ x ∈ p1, x.block < W.heap.size := by obtain ⟨m, hm⟩ := k1; exact DataW.trod_lt m _ _ _ hm
  obtain ⟨l1, row1, blk1⟩ := open_bytes (hval 1 35 v1 rfl rfl) h1
  obtain ⟨s2, rfl, rfl, rfl, w2⟩ := open_string Tryz.underlying9 (hval 2 9 v2 rfl rfl) h2
  clear hA0 hval0
  have hk : Rows.uptoBulkAll ([.lit (.string s0.data.toList), d1, .lit (.string s2.data.toList)] ++ [] : List (DataW H)) ≤ 1048576 := of_decide_eq_true hk0
  have e0 : s0.data.toList.length = s0.size := rfl
  have e2 : s2.data.toList.length = s2.size := rfl
  simp only [List.append_nil, Rows.uptoBulkAll, Rows.uptoBulk] at hk
  rw [e0, e2] at hk
  refine (between_any s0 s2 v1 l1 (by omega) (by omega) (by omega) W row1 hg).mono fun e W' ⟨he, bel⟩ => ?_
  subst he
  exact ⟨_, rfl, _, _, _, [], _, [], hW', trodAll_mk1 (shut_bool Tryz.underlying4 _), (trodAll_cons_mk (shut_string Tryz.underlying9 w0) (trodAll_cons_mk (Below.trod laidOut (by kernel_rfl) (of_decide_eq_true (by kernel_rfl)) k1 bel lt1) (trodAll_cons_mk (shut_string Tryz.underlying9 w2) trodAll_mk0))), rfl, bel.frame _, fun h => by cases h⟩

theorem bnd {a b : Bool} (h : a = true) (k : b = true) : (a && b) = true := by rw [h, k]; rfl
set_option maxRecDepth 100000 in
theorem cInPlace : (Rows.scriptBetweenUptoRow.inPlace == Tryz.prog.inPlace 5) = true := by kernel_rfl
set_option maxRecDepth 100000 in
theorem cUnfollowed : (Rows.scriptBetweenUptoRow.unfollowed == Tryz.prog.unfollowed 5) = true := by kernel_rfl
set_option maxRecDepth 100000 in
theorem cRecurses : (Rows.scriptBetweenUptoRow.recurses == Tryz.prog.recurses 5) = true := by kernel_rfl
set_option maxRecDepth 100000 in
theorem cNamed : (Rows.scriptBetweenUptoRow.named == Tryz.prog.varsNamed 5) = true := by kernel_rfl
set_option maxRecDepth 100000 in
theorem cMaps : mapsRowed Tryz.prog = true := by kernel_rfl
set_option maxRecDepth 100000 in
theorem cWf : Rows.scriptBetweenUptoRow.wf (OpenSpec.ofChange (Rows.OpenSpec.upto Rows.scriptBetweenSpec).bare) = true := by kernel_rfl
set_option maxRecDepth 100000 in
theorem cTie : namedTie Tryz.prog Rows.scriptBetweenUptoRow.named (Rows.OpenSpec.upto Rows.scriptBetweenSpec).bare.vars = true := by kernel_rfl
set_option maxRecDepth 100000 in
theorem closed : joinedFacts Tryz.prog 5 Tryz.f5 (Rows.OpenSpec.upto Rows.scriptBetweenSpec).bare Rows.scriptBetweenUptoRow = true := by
  unfold joinedFacts
  refine bnd ?_ (by kernel_rfl)
  refine bnd ?_ (by kernel_rfl)
  refine bnd ?_ (by kernel_rfl)
  refine bnd ?_ (by kernel_rfl)
  refine bnd ?_ (by kernel_rfl)
  refine bnd ?_ (by kernel_rfl)
  refine bnd ?_ (by kernel_rfl)
  refine bnd ?_ (by kernel_rfl)
  refine bnd ?_ (by kernel_rfl)
  refine bnd ?_ (by kernel_rfl)
  refine bnd ?_ (by kernel_rfl)
  refine bnd ?_ (by kernel_rfl)
  refine bnd ?_ (by kernel_rfl)
  refine bnd ?_ (by kernel_rfl)
  refine bnd ?_ (by kernel_rfl)
  refine bnd ?_ (by kernel_rfl)
  refine bnd ?_ (by kernel_rfl)
  refine bnd ?_ (by kernel_rfl)
  refine bnd ?_ (by kernel_rfl)
  refine bnd ?_ cNamed
  refine bnd ?_ cRecurses
  refine bnd ?_ cUnfollowed
  refine bnd ?_ cInPlace
  refine bnd ?_ (by kernel_rfl)
  refine bnd ?_ (by kernel_rfl)
  refine bnd ?_ (by kernel_rfl)
  refine bnd ?_ (by kernel_rfl)
  refine bnd ?_ cTie
  refine bnd ?_ (by kernel_rfl)
  refine bnd ?_ cMaps
  refine bnd ?_ laidOut
  exact cWf

theorem over : Rows.scriptBetweenUptoRow.holds Tryz.pinned (Rows.OpenSpec.upto Rows.scriptBetweenSpec) :=
  OpenClaim.holds_of_cond 5 Tryz.f5 rfl rfl rfl rfl rfl rfl rfl ⟨rfl, rfl, rfl, rfl, rfl⟩ rfl rfl rfl rfl rfl (by kernel_rfl) Tryz.func5 closed
    (of_decide_eq_true (by kernel_rfl)) (by unfold Func.isWrapper; first | (rw [if_pos (by decide +kernel)]; kernel_rfl) | (rw [if_neg (by decide +kernel)]; exact ⟨rfl, rfl⟩))
    (fun os started H enc _ F0 => by rw [OpenClaim.pre_eq_preRow]; exact lifted os started H enc F0)

/-- The statement. -/
theorem proved : Rows.ScriptBetweenUptoSaid := over
end ScriptBetweenP

/-- The statement: the card. -/
theorem scriptBetween_holds : Rows.ScriptBetweenUptoCardSaid :=
  Claim7.holds_tied_plain_at .later [] [.data, .data, .handle, .pinned] true (true, "0738b3100b14d46ab2bd791bcd8693dff3d4ef43dd062169b184aa49fc25ae64") true
    ScriptBetweenP.proved (fun _ h => by cases h) (by kernel_rfl) (fun _ h => by cases h) scriptBetweenUpto_row_tie rfl ⟨rfl, rfl⟩ (by kernel_rfl) rfl
    (fun f fn hf hfn => by
      obtain rfl : f = 5 := Option.some.inj ((show Tryz.prog.funcNamed "runnel/runnellaw18.ScriptBetween" = some 5 by kernel_rfl).symm.trans hf) |>.symm
      obtain rfl : fn = Tryz.f5 := (Option.some.inj (Tryz.func5.symm.trans hfn)).symm
      exact ⟨by kernel_rfl, fun j t ht => by
        rw [Tryz.params5] at ht
        rcases j with _ | j
        · have h9 : t = 9 := by simpa using ht.symm
          subst h9
          exact (show Tryz.prog.wantsStandIn 9 = false by kernel_rfl)
        rcases j with _ | j
        · have h9 : t = 35 := by simpa using ht.symm
          subst h9
          exact (show Tryz.prog.wantsStandIn 35 = false by kernel_rfl)
        rcases j with _ | j
        · have h9 : t = 9 := by simpa using ht.symm
          subst h9
          exact (show Tryz.prog.wantsStandIn 9 = false by kernel_rfl)
        · simp at ht⟩)
    (by kernel_rfl)
end Go.Proofs.YtjfkhlmoppbbgaaGreatDoor
