/- BsetJoins returns true at every two sets: Not, Or and And of package bset answer what the document's plain Not, Or and And answer. No condition. -/
import Derived.Test.YtfmgpcefghoncabOpen
import Derived.Test.YtfmgpcefghoncabAwake
import Derived.Test.YtfmgpcefghoncabClassA
namespace Go.Proofs.Ytfmgpcefghoncab.joins
open Go.ChangeShapes Go.WideShapes Go.ChangeAt Go.RowKit Go.Sort
set_option linter.unusedVariables false

set_option maxRecDepth 100000 in
set_option maxHeartbeats 2000000 in
theorem walk (a b : Nat → Bool) (w : World) :
    Calls Try.prog 4 #[.agg #[.int .u64 (wd a 0 : Nat), .int .u64 (wd a 1 : Nat), .int .u64 (wd a 2 : Nat), .int .u64 (wd a 3 : Nat)], .agg #[.int .u64 (wd b 0 : Nat), .int .u64 (wd b 1 : Nat), .int .u64 (wd b 2 : Nat), .int .u64 (wd b 3 : Nat)]] w fun e w' => e = .returned (.bool true) ∧ RowKit.Below w.heap.size w w' := by
  go_enter Try.func4, Try.ntmps4
  go_wp2_with fail
  have ha : Holds4 ((w.alloc (.cells #[.int .u64 (wd a 0 : Nat), .int .u64 (wd a 1 : Nat), .int .u64 (wd a 2 : Nat), .int .u64 (wd a 3 : Nat)] 24)).alloc (.cells #[.int .u64 (wd b 0 : Nat), .int .u64 (wd b 1 : Nat), .int .u64 (wd b 2 : Nat), .int .u64 (wd b 3 : Nat)] 24)) w.heap.size a := (holds4_new w a 24).alloc _
  have hb : Holds4 ((w.alloc (.cells #[.int .u64 (wd a 0 : Nat), .int .u64 (wd a 1 : Nat), .int .u64 (wd a 2 : Nat), .int .u64 (wd a 3 : Nat)] 24)).alloc (.cells #[.int .u64 (wd b 0 : Nat), .int .u64 (wd b 1 : Nat), .int .u64 (wd b 2 : Nat), .int .u64 (wd b 3 : Nat)] 24)) (w.heap.size + 1) b := by
    have h := holds4_new (w.alloc (.cells #[.int .u64 (wd a 0 : Nat), .int .u64 (wd a 1 : Nat), .int .u64 (wd a 2 : Nat), .int .u64 (wd a 3 : Nat)] 24)) b 24
    rwa [World.size_alloc] at h
  have hB : RowKit.Below w.heap.size w ((w.alloc (.cells #[.int .u64 (wd a 0 : Nat), .int .u64 (wd a 1 : Nat), .int .u64 (wd a 2 : Nat), .int .u64 (wd a 3 : Nat)] 24)).alloc (.cells #[.int .u64 (wd b 0 : Nat), .int .u64 (wd b 1 : Nat), .int .u64 (wd b 2 : Nat), .int .u64 (wd b 3 : Nat)] 24)) := ((RowKit.Below.refl _ _).alloc (Nat.le_refl _) _).alloc (by simp) _
  generalize (w.alloc (.cells #[.int .u64 (wd a 0 : Nat), .int .u64 (wd a 1 : Nat), .int .u64 (wd a 2 : Nat), .int .u64 (wd a 3 : Nat)] 24)).alloc (.cells #[.int .u64 (wd b 0 : Nat), .int .u64 (wd b 1 : Nat), .int .u64 (wd b 2 : Nat), .int .u64 (wd b 3 : Nat)] 24) = W at *
  have ks := fun d os => (cells_regrown ha d os).1
  have kd := fun d os => (cells_regrown hb d os).1
  have s0 := fun d os => (ks d os).1
  have s1 := fun d os => (ks d os).2.1
  have s2 := fun d os => (ks d os).2.2.1
  have s3 := fun d os => (ks d os).2.2.2
  have d0 := fun d os => (kd d os).1
  have d1 := fun d os => (kd d os).2.1
  have d2 := fun d os => (kd d os).2.2.1
  have d3 := fun d os => (kd d os).2.2.2
  clear ks kd ha hb
  have hq : ∀ (p : Nat → Bool) w, (binOp .eql 24 (.agg #[.int .u64 (wd p 0 : Nat), .int .u64 (wd p 1 : Nat), .int .u64 (wd p 2 : Nat), .int .u64 (wd p 3 : Nat)]) (.agg #[.int .u64 (wd p 0 : Nat), .int .u64 (wd p 1 : Nat), .int .u64 (wd p 2 : Nat), .int .u64 (wd p 3 : Nat)])).run Try.prog w = .ok (.bool true) w := fun p w => by rw [run_eql_set, eqB_of (Is.refl p)]
  have cA : Hid (∀ d os, Calls Try.prog 13 #[] (grow (redrawn W d) os) fun e w'' => e = .returned (.bool true) ∧ ∃ p : Regrown, w'' = grow (redrawn W p.d) p.os) := fun d os => Calls.regrown_of (awake_any class_digit _)
  have cN : Hid (∀ d os, Calls Try.prog 16 #[.agg #[.int .u64 (wd a 0 : Nat), .int .u64 (wd a 1 : Nat), .int .u64 (wd a 2 : Nat), .int .u64 (wd a 3 : Nat)]] (grow (redrawn W d) os) fun e w'' => e = .returned (.agg #[.int .u64 (wd (notP a) 0 : Nat), .int .u64 (wd (notP a) 1 : Nat), .int .u64 (wd (notP a) 2 : Nat), .int .u64 (wd (notP a) 3 : Nat)]) ∧ ∃ p : Regrown, w'' = grow (redrawn W p.d) p.os) := fun d os => Calls.regrown_of (notD _ _)
  have cM : Hid (∀ d os, Calls Try.prog 17 #[.agg #[.int .u64 (wd a 0 : Nat), .int .u64 (wd a 1 : Nat), .int .u64 (wd a 2 : Nat), .int .u64 (wd a 3 : Nat)]] (grow (redrawn W d) os) fun e w'' => e = .returned (.agg #[.int .u64 (wd (notP a) 0 : Nat), .int .u64 (wd (notP a) 1 : Nat), .int .u64 (wd (notP a) 2 : Nat), .int .u64 (wd (notP a) 3 : Nat)]) ∧ ∃ p : Regrown, w'' = grow (redrawn W p.d) p.os) := fun d os => Calls.regrown_of (refNotD _ _)
  have cO : Hid (∀ d os, Calls Try.prog 18 #[.agg #[.int .u64 (wd a 0 : Nat), .int .u64 (wd a 1 : Nat), .int .u64 (wd a 2 : Nat), .int .u64 (wd a 3 : Nat)], .agg #[.int .u64 (wd b 0 : Nat), .int .u64 (wd b 1 : Nat), .int .u64 (wd b 2 : Nat), .int .u64 (wd b 3 : Nat)]] (grow (redrawn W d) os) fun e w'' => e = .returned (.agg #[.int .u64 (wd (orP a b) 0 : Nat), .int .u64 (wd (orP a b) 1 : Nat), .int .u64 (wd (orP a b) 2 : Nat), .int .u64 (wd (orP a b) 3 : Nat)]) ∧ ∃ p : Regrown, w'' = grow (redrawn W p.d) p.os) := fun d os => Calls.regrown_of (orD _ _ _)
  have cP : Hid (∀ d os, Calls Try.prog 19 #[.agg #[.int .u64 (wd a 0 : Nat), .int .u64 (wd a 1 : Nat), .int .u64 (wd a 2 : Nat), .int .u64 (wd a 3 : Nat)], .agg #[.int .u64 (wd b 0 : Nat), .int .u64 (wd b 1 : Nat), .int .u64 (wd b 2 : Nat), .int .u64 (wd b 3 : Nat)]] (grow (redrawn W d) os) fun e w'' => e = .returned (.agg #[.int .u64 (wd (orP a b) 0 : Nat), .int .u64 (wd (orP a b) 1 : Nat), .int .u64 (wd (orP a b) 2 : Nat), .int .u64 (wd (orP a b) 3 : Nat)]) ∧ ∃ p : Regrown, w'' = grow (redrawn W p.d) p.os) := fun d os => Calls.regrown_of (refOrD _ _ _)
  have cQ : Hid (∀ d os, Calls Try.prog 20 #[.agg #[.int .u64 (wd a 0 : Nat), .int .u64 (wd a 1 : Nat), .int .u64 (wd a 2 : Nat), .int .u64 (wd a 3 : Nat)], .agg #[.int .u64 (wd b 0 : Nat), .int .u64 (wd b 1 : Nat), .int .u64 (wd b 2 : Nat), .int .u64 (wd b 3 : Nat)]] (grow (redrawn W d) os) fun e w'' => e = .returned (.agg #[.int .u64 (wd (andP a b) 0 : Nat), .int .u64 (wd (andP a b) 1 : Nat), .int .u64 (wd (andP a b) 2 : Nat), .int .u64 (wd (andP a b) 3 : Nat)]) ∧ ∃ p : Regrown, w'' = grow (redrawn W p.d) p.os) := fun d os => Calls.regrown_of (andD _ _ _)
  have cR : Hid (∀ d os, Calls Try.prog 21 #[.agg #[.int .u64 (wd a 0 : Nat), .int .u64 (wd a 1 : Nat), .int .u64 (wd a 2 : Nat), .int .u64 (wd a 3 : Nat)], .agg #[.int .u64 (wd b 0 : Nat), .int .u64 (wd b 1 : Nat), .int .u64 (wd b 2 : Nat), .int .u64 (wd b 3 : Nat)]] (grow (redrawn W d) os) fun e w'' => e = .returned (.agg #[.int .u64 (wd (andP a b) 0 : Nat), .int .u64 (wd (andP a b) 1 : Nat), .int .u64 (wd (andP a b) 2 : Nat), .int .u64 (wd (andP a b) 3 : Nat)]) ∧ ∃ p : Regrown, w'' = grow (redrawn W p.d) p.os) := fun d os => Calls.regrown_of (refAnd_any _ _ _)
  refine wp_region_quiet_below (by kernel_rfl) (by kernel_rfl) ?_
  repeat (quiet_step (first | with_reducible exact cA.out _ _ | with_reducible exact cN.out _ _ | with_reducible exact cM.out _ _ | with_reducible exact cO.out _ _ | with_reducible exact cP.out _ _ | with_reducible exact cQ.out _ _ | with_reducible exact cR.out _ _))
  refine wpQuiet_nil ?_
  intro _ hw'
  obtain ⟨⟨dq, osq⟩, hw''⟩ := hw'
  subst hw''
  go_wp2
  go_ret
  exact ⟨rfl, hB.trans ((below_regrown W dq osq).mono hB.size)⟩

theorem own : ownKnob Try.prog.godebug = none := by kernel_rfl
theorem laidOut : laidOutB Try.prog = true := by kernel_rfl

set_option maxHeartbeats 1000000 in
set_option maxRecDepth 100000 in
theorem lifted (os : Os) (started : os.Started) (H : Type) (enc : TypeId × Value → H) :
    ReturnsInHanded {} Try.checked os 4 .any (Rows.bsetJoinsSpec.pre6 enc Try.prog Try.f4 Rows.bsetJoinsRow.domain false) (Rows.bsetJoinsSpec.post enc Try.prog Try.f4 false true false false) := by
  refine returnsInHanded_of_change (C := Try.checked) own started (by kernel_rfl) Try.func4
    (ChangeSpec.witness6 (enc := enc) (C := Try.checked) false ⟨#[], #[.agg #[.int .u64 0, .int .u64 0, .int .u64 0, .int .u64 0], .agg #[.int .u64 0, .int .u64 0, .int .u64 0, .int .u64 0]], []⟩ 8 (by kernel_rfl) (by kernel_rfl) (by kernel_rfl) (by kernel_rfl)) ?_
  intro W base args ds gs before hval0 hW hcnd _
  have hval : ∀ (j : Nat) t v, Try.f4.params[j]? = some t → args[j]? = some v → Value.okWide Try.prog W .any base t v := hval0
  have hW' := hW
  obtain ⟨p, q, hA0, hV, rfl, hfz, hnd⟩ := hW
  have hA : DataW.TrodAll enc Try.prog W 0 (fun _ => true) true Try.f4.params.toList args.toList ds p := hA0
  rw [Try.params4] at hA hval
  obtain ⟨v0, vs0, d0, ds0, p0, q0, hargs, rfl, rfl, h0, r0⟩ := trodAll_cons hA
  obtain ⟨v1, vs1, d1, ds1, p1, q1, rfl, rfl, rfl, h1, r1⟩ := trodAll_cons r0
  obtain ⟨rfl, rfl, rfl⟩ := trodAll_nil r1
  obtain rfl : args = #[v0, v1] := by cases args; simp_all
  obtain ⟨rfl, rfl⟩ := trodVars_none hV
  have k0 := h0
  have lt0 : ∀ x ∈ p0, x.block < W.heap.size := by obtain ⟨m, hm⟩ := k0; exact DataW.trod_lt m _ _ _ hm
  obtain ⟨a0, rfl⟩ := open_set (hval 0 24 v0 rfl rfl) h0
  have k1 := h1
  have lt1 : ∀ x ∈ p1, x.block < W.heap.size := by obtain ⟨m, hm⟩ := k1; exact DataW.trod_lt m _ _ _ hm
  obtain ⟨a1, rfl⟩ := open_set (hval 1 24 v1 rfl rfl) h1
  clear hA0 hval0
  refine (walk a0 a1 W).mono fun e W' ⟨he, bel⟩ => ?_
  subst he
  exact ⟨_, rfl, _, _, _, [], _, [], hW', trodAll_mk1 (shut_bool Try.underlying4 _), (trodAll_cons_mk (Below.trod laidOut (by kernel_rfl) (of_decide_eq_true (by kernel_rfl)) k0 bel lt0) (trodAll_cons_mk (Below.trod laidOut (by kernel_rfl) (of_decide_eq_true (by kernel_rfl)) k1 bel lt1) trodAll_mk0)), rfl, bel.frame _, fun h => by cases h⟩

theorem over : Rows.bsetJoinsRow.holds Try.pinned (OpenSpec.ofChange Rows.bsetJoinsSpec) :=
  OpenClaim.holds_of_wide 4 Try.f4 rfl rfl rfl rfl rfl rfl rfl ⟨rfl, rfl, rfl, rfl, rfl⟩ rfl rfl rfl rfl rfl (by kernel_rfl) Try.func4 (by kernel_rfl)
    (of_decide_eq_true (by kernel_rfl)) (by unfold Func.isWrapper; first | (rw [if_pos (by decide +kernel)]; kernel_rfl) | (rw [if_neg (by decide +kernel)]; exact ⟨rfl, rfl⟩))
    (fun os started H enc _ => lifted os started H enc)

/-- The statement. -/
theorem proved : Rows.BsetJoinsSaid := over

end Go.Proofs.Ytfmgpcefghoncab.joins

namespace Go.Proofs.Ytfmgpcefghoncab
/-- BsetJoins, for every input. -/
theorem bsetJoins_holds : Rows.BsetJoinsSaid := joins.proved
#print axioms bsetJoins_holds
end Go.Proofs.Ytfmgpcefghoncab
