/- BsetMakes returns true at every text, two bytes and name: Of, Span and Class of package bset answer what the document's plain Of, Span and Class answer. No condition. -/
import Derived.Test.YtfmgpcefghoncabOpen
import Derived.Test.YtfmgpcefghoncabAwake
import Derived.Test.YtfmgpcefghoncabBoth
namespace Go.Proofs.Ytfmgpcefghoncab.makes
open Go.ChangeShapes Go.WideShapes Go.ChangeAt Go.RowKit
open Go.ChangeMaps (open_string shut_string)
set_option linter.unusedVariables false

set_option maxRecDepth 100000 in
set_option maxHeartbeats 2000000 in
theorem core (t : ByteArray) (ht : t.size ≤ maxLen) (s : ByteArray) (lo hi : Int) (p q r : Nat → Bool) (c d : Int)
    (h9 : Hid (∀ w : World, Calls Try.prog 9 #[.int .u8 lo, .int .u8 hi] w fun e w' => e = .returned (.tuple #[.agg #[.int .u64 (wd p 0 : Nat), .int .u64 (wd p 1 : Nat), .int .u64 (wd p 2 : Nat), .int .u64 (wd p 3 : Nat)], .int .i64 d]) ∧ Below w.heap.size w w'))
    (h10 : Hid (∀ w : World, Calls Try.prog 10 #[.int .u8 lo, .int .u8 hi] w fun e w' => e = .returned (.tuple #[.agg #[.int .u64 (wd p 0 : Nat), .int .u64 (wd p 1 : Nat), .int .u64 (wd p 2 : Nat), .int .u64 (wd p 3 : Nat)], .int .i64 d]) ∧ Below w.heap.size w w'))
    (h11 : Hid (∀ w : World, Calls Try.prog 11 #[.string s] w fun e w' => e = .returned (.tuple #[.agg #[.int .u64 (wd q 0 : Nat), .int .u64 (wd q 1 : Nat), .int .u64 (wd q 2 : Nat), .int .u64 (wd q 3 : Nat)], .int .i64 c]) ∧ Below w.heap.size w w'))
    (h12 : Hid (∀ w : World, Calls Try.prog 12 #[.string s] w fun e w' => e = .returned (.tuple #[.agg #[.int .u64 (wd r 0 : Nat), .int .u64 (wd r 1 : Nat), .int .u64 (wd r 2 : Nat), .int .u64 (wd r 3 : Nat)], .int .i64 c]) ∧ Below w.heap.size w w'))
    (hqr : Hid (eqB q r = true)) (w : World) :
    Calls Try.prog 3 #[.string t, .int .u8 lo, .int .u8 hi, .string s] w fun e w' => e = .returned (.bool true) ∧ Below w.heap.size w w' := by
  have HT : Hid _ := ht
  clear ht
  have hq : ∀ (p : Nat → Bool) w, (binOp .eql 24 (.agg #[.int .u64 (wd p 0 : Nat), .int .u64 (wd p 1 : Nat), .int .u64 (wd p 2 : Nat), .int .u64 (wd p 3 : Nat)]) (.agg #[.int .u64 (wd p 0 : Nat), .int .u64 (wd p 1 : Nat), .int .u64 (wd p 2 : Nat), .int .u64 (wd p 3 : Nat)])).run Try.prog w = .ok (.bool true) w := fun p w => by rw [run_eql_set, eqB_of (Is.refl p)]
  have hq2 : ∀ w, (binOp .eql 24 (.agg #[.int .u64 (wd q 0 : Nat), .int .u64 (wd q 1 : Nat), .int .u64 (wd q 2 : Nat), .int .u64 (wd q 3 : Nat)]) (.agg #[.int .u64 (wd r 0 : Nat), .int .u64 (wd r 1 : Nat), .int .u64 (wd r 2 : Nat), .int .u64 (wd r 3 : Nat)])).run Try.prog w = .ok (.bool true) w := fun w => by rw [run_eql_set, hqr.out]
  go_enter Try.func3, Try.ntmps3
  go_wp2_with fail
  refine (h9.out _).mono ?_
  rintro e w1 ⟨rfl, hB⟩
  go_wp2_with fail
  have a1 := holds4_new w1 p 24
  replace hB := hB.alloc hB.size (.cells #[.int .u64 (wd p 0 : Nat), .int .u64 (wd p 1 : Nat), .int .u64 (wd p 2 : Nat), .int .u64 (wd p 3 : Nat)] 24)
  refine (h10.out _).mono ?_
  rintro e w2 ⟨rfl, hb⟩
  replace a1 := a1.below hb a1.lt
  replace hB := hB.trans (hb.mono hB.size)
  clear hb
  go_wp2_with fail
  replace a1 := a1.alloc (.cells #[.int .u64 (wd p 0 : Nat), .int .u64 (wd p 1 : Nat), .int .u64 (wd p 2 : Nat), .int .u64 (wd p 3 : Nat)] 24)
  replace hB := hB.alloc hB.size (.cells #[.int .u64 (wd p 0 : Nat), .int .u64 (wd p 1 : Nat), .int .u64 (wd p 2 : Nat), .int .u64 (wd p 3 : Nat)] 24)
  have a2 := holds4_new w2 p 24
  refine (h11.out _).mono ?_
  rintro e w3 ⟨rfl, hb⟩
  replace a1 := a1.below hb a1.lt
  replace a2 := a2.below hb a2.lt
  replace hB := hB.trans (hb.mono hB.size)
  clear hb
  go_wp2_with fail
  replace a1 := a1.alloc (.cells #[.int .u64 (wd q 0 : Nat), .int .u64 (wd q 1 : Nat), .int .u64 (wd q 2 : Nat), .int .u64 (wd q 3 : Nat)] 24)
  replace a2 := a2.alloc (.cells #[.int .u64 (wd q 0 : Nat), .int .u64 (wd q 1 : Nat), .int .u64 (wd q 2 : Nat), .int .u64 (wd q 3 : Nat)] 24)
  replace hB := hB.alloc hB.size (.cells #[.int .u64 (wd q 0 : Nat), .int .u64 (wd q 1 : Nat), .int .u64 (wd q 2 : Nat), .int .u64 (wd q 3 : Nat)] 24)
  have a3 := holds4_new w3 q 24
  refine (h12.out _).mono ?_
  rintro e w4 ⟨rfl, hb⟩
  replace a1 := a1.below hb a1.lt
  replace a2 := a2.below hb a2.lt
  replace a3 := a3.below hb a3.lt
  replace hB := hB.trans (hb.mono hB.size)
  clear hb
  go_wp2_with fail
  replace a1 := a1.alloc (.cells #[.int .u64 (wd r 0 : Nat), .int .u64 (wd r 1 : Nat), .int .u64 (wd r 2 : Nat), .int .u64 (wd r 3 : Nat)] 24)
  replace a2 := a2.alloc (.cells #[.int .u64 (wd r 0 : Nat), .int .u64 (wd r 1 : Nat), .int .u64 (wd r 2 : Nat), .int .u64 (wd r 3 : Nat)] 24)
  replace a3 := a3.alloc (.cells #[.int .u64 (wd r 0 : Nat), .int .u64 (wd r 1 : Nat), .int .u64 (wd r 2 : Nat), .int .u64 (wd r 3 : Nat)] 24)
  replace hB := hB.alloc hB.size (.cells #[.int .u64 (wd r 0 : Nat), .int .u64 (wd r 1 : Nat), .int .u64 (wd r 2 : Nat), .int .u64 (wd r 3 : Nat)] 24)
  have a4 := holds4_new w4 r 24
  refine (awake_any class_digit _).mono ?_
  rintro e w5 ⟨rfl, hb⟩
  replace a1 := a1.below hb a1.lt
  replace a2 := a2.below hb a2.lt
  replace a3 := a3.below hb a3.lt
  replace a4 := a4.below hb a4.lt
  replace hB := hB.trans (hb.mono hB.size)
  clear hb
  go_wp2_with fail
  refine (ofD t HT.out _).mono ?_
  rintro e w6 ⟨rfl, hb⟩
  replace a1 := a1.below hb a1.lt
  replace a2 := a2.below hb a2.lt
  replace a3 := a3.below hb a3.lt
  replace a4 := a4.below hb a4.lt
  replace hB := hB.trans (hb.mono hB.size)
  clear hb
  go_wp2_with fail
  refine (refOfD t HT.out _).mono ?_
  rintro e w7 ⟨rfl, hb⟩
  replace a1 := a1.below hb a1.lt
  replace a2 := a2.below hb a2.lt
  replace a3 := a3.below hb a3.lt
  replace a4 := a4.below hb a4.lt
  replace hB := hB.trans (hb.mono hB.size)
  clear hb
  obtain ⟨⟨c0, c1, c2, c3⟩, -⟩ := a1
  obtain ⟨⟨d0, d1, d2, d3⟩, -⟩ := a2
  obtain ⟨⟨e0, e1, e2, e3⟩, -⟩ := a3
  obtain ⟨⟨f0, f1, f2, f3⟩, -⟩ := a4
  go_wp2
  go_ret
  exact ⟨rfl, hB⟩

theorem walk (t : ByteArray) (lo hi : Int) (s : ByteArray) (ht : t.size ≤ maxLen) (wl : (Lit.int .u8 lo).wf = true) (wh : (Lit.int .u8 hi).wf = true) (w : World) :
    Calls Try.prog 3 #[.string t, .int .u8 lo, .int .u8 hi, .string s] w fun e w' => e = .returned (.bool true) ∧ Below w.heap.size w w' := by
  have bl := bounds_u8 wl
  have bh := bounds_u8 wh
  obtain ⟨q, r, c, h11, h12, hqr⟩ := class_both s
  by_cases h : hi < lo
  · exact core t ht s lo hi _ q r c 7 (fun w => spanBad lo hi h w) (fun w => docSpanBad lo hi h w) h11 h12 hqr w
  · exact core t ht s lo hi _ q r c 0 (fun w => spanD lo hi (by omega) (by omega) (by omega) w) (fun w => docSpanD lo hi (by omega) (by omega) (by omega) w) h11 h12 hqr w

theorem own : ownKnob Try.prog.godebug = none := by kernel_rfl
theorem laidOut : laidOutB Try.prog = true := by kernel_rfl

set_option maxHeartbeats 1000000 in
set_option maxRecDepth 100000 in
theorem lifted (os : Os) (started : os.Started) (H : Type) (enc : TypeId × Value → H) :
    ReturnsInHanded {} Try.checked os 3 .any (Rows.bsetMakesSpec.pre6 enc Try.prog Try.f3 Rows.bsetMakesRow.domain false) (Rows.bsetMakesSpec.post enc Try.prog Try.f3 false true false false) := by
  refine returnsInHanded_of_change (C := Try.checked) own started (by kernel_rfl) Try.func3
    (ChangeSpec.witness6 (enc := enc) (C := Try.checked) false ⟨#[], #[.string ⟨#[]⟩, .int .u8 0, .int .u8 0, .string ⟨#[]⟩], []⟩ 8 (by kernel_rfl) (by kernel_rfl) (by kernel_rfl) (by kernel_rfl)) ?_
  intro W base args ds gs before hval0 hW hcnd _
  have hval : ∀ (j : Nat) t v, Try.f3.params[j]? = some t → args[j]? = some v → Value.okWide Try.prog W .any base t v := hval0
  have hW' := hW
  obtain ⟨p, q, hA0, hV, rfl, hfz, hnd⟩ := hW
  have hA : DataW.TrodAll enc Try.prog W 0 (fun _ => true) true Try.f3.params.toList args.toList ds p := hA0
  rw [Try.params3] at hA hval
  obtain ⟨v0, vs0, d0, ds0, p0, q0, hargs, rfl, rfl, h0, r0⟩ := trodAll_cons hA
  obtain ⟨v1, vs1, d1, ds1, p1, q1, rfl, rfl, rfl, h1, r1⟩ := trodAll_cons r0
  obtain ⟨v2, vs2, d2, ds2, p2, q2, rfl, rfl, rfl, h2, r2⟩ := trodAll_cons r1
  obtain ⟨v3, vs3, d3, ds3, p3, q3, rfl, rfl, rfl, h3, r3⟩ := trodAll_cons r2
  obtain ⟨rfl, rfl, rfl⟩ := trodAll_nil r3
  obtain rfl : args = #[v0, v1, v2, v3] := by cases args; simp_all
  obtain ⟨rfl, rfl⟩ := trodVars_none hV
  obtain ⟨s0, rfl, rfl, rfl, w0⟩ := open_string Try.underlying9 (hval 0 9 v0 rfl rfl) h0
  obtain ⟨a1, rfl, rfl, rfl, w1⟩ := open_int Try.underlying5 (hval 1 5 v1 rfl rfl) h1
  obtain ⟨a2, rfl, rfl, rfl, w2⟩ := open_int Try.underlying5 (hval 2 5 v2 rfl rfl) h2
  obtain ⟨s3, rfl, rfl, rfl, w3⟩ := open_string Try.underlying9 (hval 3 9 v3 rfl rfl) h3
  clear hA0 hval0
  refine (walk s0 a1 a2 s3 w0 w1 w2 W).mono fun e W' ⟨he, bel⟩ => ?_
  subst he
  exact ⟨_, rfl, _, _, _, [], _, [], hW', trodAll_mk1 (shut_bool Try.underlying4 _), (trodAll_cons_mk (shut_string Try.underlying9 w0) (trodAll_cons_mk (shut_int Try.underlying5 w1) (trodAll_cons_mk (shut_int Try.underlying5 w2) (trodAll_cons_mk (shut_string Try.underlying9 w3) trodAll_mk0)))), rfl, bel.frame _, fun h => by cases h⟩

theorem over : Rows.bsetMakesRow.holds Try.pinned (OpenSpec.ofChange Rows.bsetMakesSpec) :=
  OpenClaim.holds_of_wide 3 Try.f3 rfl rfl rfl rfl rfl rfl rfl ⟨rfl, rfl, rfl, rfl, rfl⟩ rfl rfl rfl rfl rfl (by kernel_rfl) Try.func3 (by kernel_rfl)
    (of_decide_eq_true (by kernel_rfl)) (by unfold Func.isWrapper; first | (rw [if_pos (by decide +kernel)]; kernel_rfl) | (rw [if_neg (by decide +kernel)]; exact ⟨rfl, rfl⟩))
    (fun os started H enc _ => lifted os started H enc)

/-- The statement. -/
theorem proved : Rows.BsetMakesSaid := over

end Go.Proofs.Ytfmgpcefghoncab.makes

namespace Go.Proofs.Ytfmgpcefghoncab
/-- BsetMakes, for every input. -/
theorem bsetMakes_holds : Rows.BsetMakesSaid := makes.proved
#print axioms bsetMakes_holds
end Go.Proofs.Ytfmgpcefghoncab
