/- BsetTells returns true at every set and byte: Has, Count and Members of package bset answer what the document's plain ones answer. No condition. -/
import Derived.Test.YtfmgpcefghoncabOpen
import Derived.Test.YtfmgpcefghoncabAwake
import Derived.Test.YtfmgpcefghoncabClassA
import Derived.Test.YtfmgpcefghoncabMembs
import Derived.Deep.RegionHeld
namespace Go.Proofs.Ytfmgpcefghoncab
open Go.RowKit

theorem card_mem (p : Nat → Bool) : card p = (mem p 256).length := rfl

theorem membs_all (p : Nat → Bool) (w : World) :
    Calls Try.prog 22 #[.agg #[.int .u64 (wd p 0 : Nat), .int .u64 (wd p 1 : Nat), .int .u64 (wd p 2 : Nat), .int .u64 (wd p 3 : Nat)], .int .i64 (-1)] w fun e w' => e = .returned (.tuple #[.string (bstr (mem p 256)), .bool true]) ∧ Below w.heap.size w w' :=
  (membs p (-1) (by decide) w).mono fun _ _ ⟨pre, he, h, hb⟩ => by
    rcases h with ⟨rfl, -⟩ | ⟨-, h⟩
    · exact ⟨he, hb⟩
    · omega

theorem keepS1 {b : Nat} {W wv : World} {a : Nat → Bool} (hb : Below W.heap.size W wv) (h : W.cell? ⟨b, 0, none⟩ = some (.int .u64 (wd a 0 : Nat)) ∧ W.cell? ⟨b, 1, none⟩ = some (.int .u64 (wd a 1 : Nat)) ∧ W.cell? ⟨b, 2, none⟩ = some (.int .u64 (wd a 2 : Nat)) ∧ W.cell? ⟨b, 3, none⟩ = some (.int .u64 (wd a 3 : Nat))) : wv.cell? ⟨b, 0, none⟩ = some (.int .u64 (wd a 0 : Nat)) ∧ wv.cell? ⟨b, 1, none⟩ = some (.int .u64 (wd a 1 : Nat)) ∧ wv.cell? ⟨b, 2, none⟩ = some (.int .u64 (wd a 2 : Nat)) ∧ wv.cell? ⟨b, 3, none⟩ = some (.int .u64 (wd a 3 : Nat)) := by
  obtain ⟨c0, c1, c2, c3⟩ := h
  have l1 := World.block_lt_of_cell? W _ c0
  exact ⟨(hb.cell (p := ⟨b, 0, none⟩) l1).trans c0, (hb.cell (p := ⟨b, 1, none⟩) l1).trans c1, (hb.cell (p := ⟨b, 2, none⟩) l1).trans c2, (hb.cell (p := ⟨b, 3, none⟩) l1).trans c3⟩
end Go.Proofs.Ytfmgpcefghoncab

namespace Go.Proofs.Ytfmgpcefghoncab.tells
open Go.ChangeShapes Go.WideShapes Go.ChangeAt Go.RowKit
set_option linter.unusedVariables false

set_option maxRecDepth 100000 in
set_option maxHeartbeats 2000000 in
theorem walk0 (p : Nat → Bool) (x : Int) (hx0 : 0 ≤ x) (hx1 : x < 256) (w : World) :
    Calls Try.prog 5 #[.agg #[.int .u64 (wd p 0 : Nat), .int .u64 (wd p 1 : Nat), .int .u64 (wd p 2 : Nat), .int .u64 (wd p 3 : Nat)], .int .u8 x] w fun e w' => e = .returned (.bool true) ∧ Below w.heap.size w w' := by
  have hwx : IntKind.i64.wrap x = x := by rw [IntKind.wrap_i64]; omega
  go_enter Try.func5, Try.ntmps5
  go_wp2_with fail
  have ha := holds4_new w p 24
  have hB : Below w.heap.size w (w.alloc (.cells #[.int .u64 (wd p 0 : Nat), .int .u64 (wd p 1 : Nat), .int .u64 (wd p 2 : Nat), .int .u64 (wd p 3 : Nat)] 24)) := (Below.refl _ _).alloc (Nat.le_refl _) _
  refine (membs_all p _).mono ?_
  rintro e w1 ⟨rfl, hb⟩
  replace ha := ha.below hb ha.lt
  replace hB := hB.trans (hb.mono hB.size)
  clear hb
  go_wp2_with fail
  replace hB := hB.drew
  have hS : w1.drew.cell? ⟨w.heap.size, 0, none⟩ = some (.int .u64 (wd p 0 : Nat)) ∧ w1.drew.cell? ⟨w.heap.size, 1, none⟩ = some (.int .u64 (wd p 1 : Nat)) ∧ w1.drew.cell? ⟨w.heap.size, 2, none⟩ = some (.int .u64 (wd p 2 : Nat)) ∧ w1.drew.cell? ⟨w.heap.size, 3, none⟩ = some (.int .u64 (wd p 3 : Nat)) := ha.1
  obtain ⟨c0, c1, c2, c3⟩ := id ha.1
  go_region_held (fun W' => W'.cell? ⟨w.heap.size, 0, none⟩ = some (.int .u64 (wd p 0 : Nat)) ∧ W'.cell? ⟨w.heap.size, 1, none⟩ = some (.int .u64 (wd p 1 : Nat)) ∧ W'.cell? ⟨w.heap.size, 2, none⟩ = some (.int .u64 (wd p 2 : Nat)) ∧ W'.cell? ⟨w.heap.size, 3, none⟩ = some (.int .u64 (wd p 3 : Nat))) (first | exact hS | exact keepS1 (by assumption) (by assumption) | go_keep) (first | (go_at_call 13; go_must (refine (awake_any class_digit _).mono ?_; rintro e wv ⟨rfl, hb⟩; have hS := keepS1 hb (by assumption); replace hB := hB.trans (hb.mono hB.size))) | (go_at_call 23; go_must (refine (has_any _ _ hx0 hx1 _).mono ?_; rintro e wv ⟨rfl, hb⟩; have hS := keepS1 hb (by assumption); replace hB := hB.trans (hb.mono hB.size))) | (go_at_call 24; go_must (refine (refHas_any _ _ hx0 hx1 _).mono ?_; rintro e wv ⟨rfl, hb⟩; have hS := keepS1 hb (by assumption); replace hB := hB.trans (hb.mono hB.size))) | (go_at_call 25; go_must (refine (countD _ _).mono ?_; rintro e wv ⟨rfl, hb⟩; have hS := keepS1 hb (by assumption); replace hB := hB.trans (hb.mono hB.size))) | (go_at_call 26; go_must (refine (refCountD _ _).mono ?_; rintro e wv ⟨rfl, hb⟩; have hS := keepS1 hb (by assumption); replace hB := hB.trans (hb.mono hB.size))) | (go_at_call 27; go_must (refine (refMembers_any _ _).mono ?_; rintro e wv ⟨v, rfl, hown, hb⟩; have hS := keepS1 hb (by assumption); replace hB := hB.trans (hb.mono hB.size); have hcv := conv_owned (l := mem p 256) (by rw [← card_mem]; exact hown))))
  all_goals
    go_wp2
    go_ret
    exact ⟨by simp, hB⟩

theorem walk (p : Nat → Bool) (x : Int) (wx : (Lit.int .u8 x).wf = true) (w : World) :
    Calls Try.prog 5 #[.agg #[.int .u64 (wd p 0 : Nat), .int .u64 (wd p 1 : Nat), .int .u64 (wd p 2 : Nat), .int .u64 (wd p 3 : Nat)], .int .u8 x] w fun e w' => e = .returned (.bool true) ∧ Below w.heap.size w w' := by
  have bx := bounds_u8 wx
  exact walk0 p x (by omega) (by omega) w

theorem own : ownKnob Try.prog.godebug = none := by kernel_rfl
theorem laidOut : laidOutB Try.prog = true := by kernel_rfl

set_option maxHeartbeats 1000000 in
set_option maxRecDepth 100000 in
theorem lifted (os : Os) (started : os.Started) (H : Type) (enc : TypeId × Value → H) :
    ReturnsInHanded {} Try.checked os 5 .any (Rows.bsetTellsSpec.pre6 enc Try.prog Try.f5 Rows.bsetTellsRow.domain false) (Rows.bsetTellsSpec.post enc Try.prog Try.f5 false true false false) := by
  refine returnsInHanded_of_change (C := Try.checked) own started (by kernel_rfl) Try.func5
    (ChangeSpec.witness6 (enc := enc) (C := Try.checked) false ⟨#[], #[.agg #[.int .u64 0, .int .u64 0, .int .u64 0, .int .u64 0], .int .u8 0], []⟩ 8 (by kernel_rfl) (by kernel_rfl) (by kernel_rfl) (by kernel_rfl)) ?_
  intro W base args ds gs before hval0 hW hcnd _
  have hval : ∀ (j : Nat) t v, Try.f5.params[j]? = some t → args[j]? = some v → Value.okWide Try.prog W .any base t v := hval0
  have hW' := hW
  obtain ⟨p, q, hA0, hV, rfl, hfz, hnd⟩ := hW
  have hA : DataW.TrodAll enc Try.prog W 0 (fun _ => true) true Try.f5.params.toList args.toList ds p := hA0
  rw [Try.params5] at hA hval
  obtain ⟨v0, vs0, d0, ds0, p0, q0, hargs, rfl, rfl, h0, r0⟩ := trodAll_cons hA
  obtain ⟨v1, vs1, d1, ds1, p1, q1, rfl, rfl, rfl, h1, r1⟩ := trodAll_cons r0
  obtain ⟨rfl, rfl, rfl⟩ := trodAll_nil r1
  obtain rfl : args = #[v0, v1] := by cases args; simp_all
  obtain ⟨rfl, rfl⟩ := trodVars_none hV
  have k0 := h0
  have lt0 : ∀ x ∈ p0, x.block < W.heap.size := by obtain ⟨m, hm⟩ := k0; exact DataW.trod_lt m _ _ _ hm
  obtain ⟨a0, rfl⟩ := open_set (hval 0 24 v0 rfl rfl) h0
  obtain ⟨a1, rfl, rfl, rfl, w1⟩ := open_int Try.underlying5 (hval 1 5 v1 rfl rfl) h1
  clear hA0 hval0
  refine (walk a0 a1 w1 W).mono fun e W' ⟨he, bel⟩ => ?_
  subst he
  exact ⟨_, rfl, _, _, _, [], _, [], hW', trodAll_mk1 (shut_bool Try.underlying4 _), (trodAll_cons_mk (Below.trod laidOut (by kernel_rfl) (of_decide_eq_true (by kernel_rfl)) k0 bel lt0) (trodAll_cons_mk (shut_int Try.underlying5 w1) trodAll_mk0)), rfl, bel.frame _, fun h => by cases h⟩

theorem over : Rows.bsetTellsRow.holds Try.pinned (OpenSpec.ofChange Rows.bsetTellsSpec) :=
  OpenClaim.holds_of_wide 5 Try.f5 rfl rfl rfl rfl rfl rfl rfl ⟨rfl, rfl, rfl, rfl, rfl⟩ rfl rfl rfl rfl rfl (by kernel_rfl) Try.func5 (by kernel_rfl)
    (of_decide_eq_true (by kernel_rfl)) (by unfold Func.isWrapper; first | (rw [if_pos (by decide +kernel)]; kernel_rfl) | (rw [if_neg (by decide +kernel)]; exact ⟨rfl, rfl⟩))
    (fun os started H enc _ => lifted os started H enc)

/-- The statement. -/
theorem proved : Rows.BsetTellsSaid := over

end Go.Proofs.Ytfmgpcefghoncab.tells

namespace Go.Proofs.Ytfmgpcefghoncab
/-- BsetTells, for every input. -/
theorem bsetTells_holds : Rows.BsetTellsSaid := tells.proved
#print axioms bsetTells_holds
end Go.Proofs.Ytfmgpcefghoncab
