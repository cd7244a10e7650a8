/- LinesCuts: for every text of bulk at most 1048576 Cut and All answer just what the document says: the law returns true, and the text reads as it did. -/
import Derived.Test.YtfmgpcefghoncaaAwake
import Derived.Test.YtfmgpcefghoncaaAll
import Derived.Test.YtfmgpcefghoncaaRefCut
import Derived.ChangeSame
import Derived.JoinedOf
import Derived.JoinedAt
import Derived.JoinedStill
import Derived.JoinedCond
import Derived.RowKit
import Derived.ProofKit
import Derived.ShutString
import Derived.ChangeShapes
import Derived.ChangeMaps5
import Derived.OpenShut
import Derived.Laws.IdiomArrays
namespace Go.Proofs.Ytfmgpcefghoncaa
open Go.ChangeShapes Go.WideShapes Go.ChangeAt Go.RowKit
open Go.ChangeMaps (open_string shut_string)
namespace cuts

set_option maxRecDepth 100000 in
set_option maxHeartbeats 1000000 in
theorem walk (s : ByteArray) (hs : s.size ≤ 1073741824) (w : World) : Calls Try.prog 3 #[.string s] w fun e w' => e = .returned (.bool true) ∧ Below w.heap.size w w' := by
  have hcl := cutL_le s.data.toList
  have hsz : s.data.toList.length = s.size := by simp
  go_enter Try.func3, Try.ntmps3
  go_wp2_with fail
  refine (allCall s hs (-1) (by decide) w).mono ?_
  rintro e w1 ⟨v1, pre, rfl, hown1, hpre, hb1⟩
  obtain rfl : pre = cutL s.data.toList := by
    rcases hpre with ⟨h, -⟩ | ⟨-, h⟩
    · exact h
    · omega
  have hsz1 := hb1.size
  clear hpre
  go_wp2_with fail
  refine (awake_any w1).mono ?_
  rintro e w2 ⟨rfl, hb2⟩
  have hown2 := owns_below hown1 hb2
  have hB2 := hb1.trans (hb2.mono hsz1)
  clear hb1 hb2 hown1
  have hsz2 := hB2.size
  obtain ⟨ao1, cp1, rfl⟩ := owns_shape hown2
  go_wp2_with fail
  refine (refCut_any s hs w2).mono ?_
  rintro e w3 ⟨v3, rfl, hown3, hb3⟩
  have hownA := owns_below hown2 hb3
  have hB3 := hB2.trans (hb3.mono hsz2)
  have hsz3 := hB3.size
  clear hown2 hB2 hb3
  obtain ⟨ao3, cp3, rfl⟩ := owns_shape hown3
  go_wp2_with fail
  refine (same_any _ _ _ _ w3 (Row.of_owns hownA) (Row.of_owns hown3) (by omega) (by omega)).mono ?_
  rintro e w4 ⟨rfl, hb4⟩
  have hB4 := hB3.trans (hb4.mono hsz3)
  have hsz4 := hB4.size
  rw [decide_eq_true rfl]
  clear hownA hown3 hB3 hb4
  go_wp2_with fail
  refine (cutCall s hs w4).mono ?_
  rintro e w5 ⟨v5, rfl, hown5, hb5⟩
  have hB5 := hB4.trans (hb5.mono hsz4)
  have hsz5 := hB5.size
  clear hB4 hb5
  obtain ⟨ao5, cp5, rfl⟩ := owns_shape hown5
  go_wp2_with fail
  refine (refCut_any s hs w5).mono ?_
  rintro e w6 ⟨v6, rfl, hown6, hb6⟩
  have hownC := owns_below hown5 hb6
  have hB6 := hB5.trans (hb6.mono hsz5)
  have hsz6 := hB6.size
  clear hown5 hB5 hb6
  obtain ⟨ao6, cp6, rfl⟩ := owns_shape hown6
  go_wp2_with fail
  refine (same_any _ _ _ _ w6 (Row.of_owns hownC) (Row.of_owns hown6) (by omega) (by omega)).mono ?_
  rintro e w7 ⟨rfl, hb7⟩
  have hB7 := hB6.trans (hb7.mono hsz6)
  rw [decide_eq_true rfl]
  clear hownC hown6 hB6 hb7
  go_wp2
  go_ret
  exact ⟨rfl, hB7⟩

theorem own : ownKnob Try.prog.godebug = none := by kernel_rfl
theorem laidOut : laidOutB Try.prog = true := by kernel_rfl

set_option maxHeartbeats 1000000 in
set_option maxRecDepth 100000 in
theorem lifted (os : Os) (started : os.Started) (H : Type) (enc : TypeId × Value → H) (F0 : Stop.Interp) :
    ReturnsInHanded {} Try.checked os 3 .any ((Rows.OpenSpec.upto Rows.linesCutsSpec).pre6 enc Try.prog Try.f3 Rows.linesCutsUptoRow.domain false) (((Rows.OpenSpec.upto Rows.linesCutsSpec).at F0).post enc Try.prog Try.f3 false true false false) := by
  refine returnsInHanded_of_cond (C := Try.checked) (s := (Rows.OpenSpec.upto Rows.linesCutsSpec)) (k := Rows.uptoSmall) rfl own started (by kernel_rfl) Try.func3
    (OpenSpec.witness (enc := enc) (C := Try.checked) (s := (Rows.OpenSpec.upto Rows.linesCutsSpec)) (k := Rows.uptoSmall) rfl false ⟨#[], #[.string ⟨#[]⟩], []⟩ 8 (by kernel_rfl) (by kernel_rfl) (by kernel_rfl)
      (x := ([.lit (.string [])], [], [])) (by kernel_rfl) (by kernel_rfl) (by kernel_rfl)) ?_
  intro W base args ds gs before hval0 hW _ hk0 _
  have hval : ∀ (j : Nat) t v, Try.f3.params[j]? = some t → args[j]? = some v → Value.okWide Try.prog W .any base t v := hval0
  have hW' := hW
  obtain ⟨p, q, hA0, hV, rfl, hfz, hnd⟩ := hW
  have hA : DataW.TrodAll enc Try.prog W 0 (fun _ => true) true Try.f3.params.toList args.toList ds p := hA0
  rw [Try.params3] at hA hval
  obtain ⟨v0, vs0, d0, ds0, p0, q0, hargs, rfl, rfl, h0, r0⟩ := trodAll_cons hA
  obtain ⟨rfl, rfl, rfl⟩ := trodAll_nil r0
  obtain rfl : args = #[v0] := by cases args; simp_all
  obtain ⟨rfl, rfl⟩ := trodVars_none hV
  obtain ⟨s0, rfl, rfl, rfl, w0⟩ := open_string Try.underlying9 (hval 0 9 v0 rfl rfl) h0
  clear hA0 hval0
  have hk : Rows.uptoBulkAll ([.lit (.string s0.data.toList)] ++ [] : List (DataW H)) ≤ 1048576 := of_decide_eq_true hk0
  have z0 : s0.size ≤ 1073741824 := by
    simp only [List.append_nil, Rows.uptoBulkAll, Rows.uptoBulk] at hk
    simp at hk
    omega
  refine (walk s0 z0 W).mono fun e W' ⟨he, bel⟩ => ?_
  subst he
  exact ⟨_, rfl, _, _, _, [], _, [], hW', trodAll_mk1 (shut_bool Try.underlying4 _), (trodAll_cons_mk (shut_string Try.underlying9 w0) trodAll_mk0), rfl, bel.frame _, fun h => by cases h⟩

theorem over : Rows.linesCutsUptoRow.holds Try.pinned (Rows.OpenSpec.upto Rows.linesCutsSpec) :=
  OpenClaim.holds_of_cond 3 Try.f3 rfl rfl rfl rfl rfl rfl rfl ⟨rfl, rfl, rfl, rfl, rfl⟩ rfl rfl rfl rfl rfl (by kernel_rfl) Try.func3 (by kernel_rfl)
    (of_decide_eq_true (by kernel_rfl)) (by unfold Func.isWrapper; first | (rw [if_pos (by decide +kernel)]; kernel_rfl) | (rw [if_neg (by decide +kernel)]; exact ⟨rfl, rfl⟩))
    (fun os started H enc _ F0 => lifted os started H enc F0)

end cuts

/-- The statement. -/
theorem linesCuts_holds : Rows.LinesCutsUptoSaid := cuts.over
#print axioms linesCuts_holds
end Go.Proofs.Ytfmgpcefghoncaa
