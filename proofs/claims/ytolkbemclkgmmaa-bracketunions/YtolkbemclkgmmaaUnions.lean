/- BracketUnions: an expression of two texts' insides is the union. No condition. -/
import Derived.Test.YtolkbemclkgmmaaAwake
import Derived.Test.YtolkbemclkgmmaaChk
import Derived.Test.YtolkbemclkgmmaaOpen
import Derived.Test.YtolkbemclkgmmaaRows
import Derived.ChangeSame
import Derived.JoinedOf
import Derived.JoinedAt
import Derived.JoinedStill
import Derived.JoinedCond
import Derived.RowKit
import Derived.ProofKit
import Derived.ShutString
import Derived.ChangeShapes
import Derived.ChangeMaps5
import Derived.OpenShut
import Derived.Laws.IdiomArrays
import Derived.Deep.DeepHandedRow
import Derived.Lib.LaidTab
import Derived.Shelf.Vars
namespace Go.Proofs.Ytolkbemclkgmmaa
open Go.ChangeShapes Go.WideShapes Go.ChangeAt Go.RowKit
open Go.ChangeMaps (open_string shut_string)
open Go.Sort

theorem bstr_extract (l : List Nat) (a b : Nat) : (bstr l).extract a b = bstr ((l.take b).drop a) := by
  apply ByteArray.ext
  rw [ByteArray.data_extract]
  simp [bstr, List.map_drop, List.map_take, List.drop_take]

theorem bstr_append (l m : List Nat) : bstr l ++ bstr m = bstr (l ++ m) := by
  apply ByteArray.ext
  rw [ByteArray.data_append]
  simp [bstr]

theorem union_text (A B : List Nat) : (bstr (91 :: A ++ [93])).extract 0 (A.length + 1) ++ (bstr (91 :: B ++ [93])).extract 1 (B.length + 2) = bstr (91 :: (A ++ B) ++ [93]) := by
  rw [bstr_extract, bstr_extract, bstr_append]
  congr 1
  simp [List.take_append]
  exact List.take_of_length_le (by omega)

namespace unions
set_option maxRecDepth 100000 in
set_option maxHeartbeats 1000000 in
theorem walk (p r : Nat → Bool) (w : World) (hg : Glob w) : Calls Try.prog 7 #[.agg #[.int .u64 (wd p 0 : Nat), .int .u64 (wd p 1 : Nat), .int .u64 (wd p 2 : Nat), .int .u64 (wd p 3 : Nat)], .agg #[.int .u64 (wd r 0 : Nat), .int .u64 (wd r 1 : Nat), .int .u64 (wd r 2 : Nat), .int .u64 (wd r 3 : Nat)]] w fun e w' => e = .returned (.bool true) ∧ Below w.heap.size w w' := by
  have z0 : wd noneP 0 = 0 := wd_none 0
  have z1 : wd noneP 1 = 0 := wd_none 1
  have z2 : wd noneP 2 = 0 := wd_none 2
  have z3 : wd noneP 3 = 0 := wd_none 3
  have heq := fun W => run_eql_set p noneP W
  simp only [z0, z1, z2, z3, Int.ofNat_zero] at heq
  have her := fun W => run_eql_set r noneP W
  simp only [z0, z1, z2, z3, Int.ofNat_zero] at her
  clear z0 z1 z2 z3
  have hB0 : Below w.heap.size w ((w.alloc (.cells #[.int .u64 (wd p 0 : Nat), .int .u64 (wd p 1 : Nat), .int .u64 (wd p 2 : Nat), .int .u64 (wd p 3 : Nat)] 24)).alloc (.cells #[.int .u64 (wd r 0 : Nat), .int .u64 (wd r 1 : Nat), .int .u64 (wd r 2 : Nat), .int .u64 (wd r 3 : Nat)] 24)) := ((Below.refl _ _).alloc (Nat.le_refl _) _).alloc (by simp) _
  have hp0 := (holds4_new w p 24).alloc (.cells #[.int .u64 (wd r 0 : Nat), .int .u64 (wd r 1 : Nat), .int .u64 (wd r 2 : Nat), .int .u64 (wd r 3 : Nat)] 24)
  have hr0 := holds4_new (w.alloc (.cells #[.int .u64 (wd p 0 : Nat), .int .u64 (wd p 1 : Nat), .int .u64 (wd p 2 : Nat), .int .u64 (wd p 3 : Nat)] 24)) r 24
  rw [World.size_alloc] at hr0
  go_enter Try.func7, Try.ntmps7
  go_wp2_with fail
  generalize (w.alloc (.cells #[.int .u64 (wd p 0 : Nat), .int .u64 (wd p 1 : Nat), .int .u64 (wd p 2 : Nat), .int .u64 (wd p 3 : Nat)] 24)).alloc (.cells #[.int .u64 (wd r 0 : Nat), .int .u64 (wd r 1 : Nat), .int .u64 (wd r 2 : Nat), .int .u64 (wd r 3 : Nat)] 24) = W0 at *
  refine (awake_any _ (hg.below hB0 (Nat.le_refl _))).mono ?_
  rintro e' w1 ⟨rfl, hb1⟩
  have hB1 := hB0.trans (hb1.mono hB0.size)
  have hp1 := hp0.below hb1 hp0.lt
  have hr1 := hr0.below hb1 hr0.lt
  clear hp0 hr0 hb1
  obtain ⟨⟨c0, c1, c2, c3⟩, -⟩ := id hp1
  obtain ⟨⟨d0, d1, d2, d3⟩, -⟩ := id hr1
  cases hep : eqB p noneP
  · cases her2 : eqB r noneP
    · rw [hep] at heq
      rw [her2] at her
      obtain ⟨A, B, q, hA, hBt, nA, nB, hq, hIs⟩ := text_union p r (mem_some hep) (mem_some her2)
      have hlA := (textL_len p).2
      have hlB := (textL_len r).2
      rw [hA] at hlA
      rw [hBt] at hlB
      have lA : 0 < A.length := List.length_pos_iff.2 nA
      have lB : 0 < B.length := List.length_pos_iff.2 nB
      simp at hlA hlB
      have sA : (bstr (91 :: A ++ [93])).size = A.length + 2 := by rw [bstr_size]; simp
      have sB : (bstr (91 :: B ++ [93])).size = B.length + 2 := by rw [bstr_size]; simp
      have hut := union_text A B
      have hUS : (bstr (91 :: (A ++ B) ++ [93])).size = A.length + B.length + 2 := by rw [bstr_size]; simp; omega
      have hXq : parseX (bstr (91 :: (A ++ B) ++ [93])) 0 = ⟨0, q, 0, false, A.length + B.length + 2⟩ := by
        rw [parseX, if_pos (by omega)]
        show parseS _ 0 = _
        rw [hq]
        simp
        omega
      clear hq
      generalize hba : bstr (91 :: A ++ [93]) = ba at *
      generalize hbb : bstr (91 :: B ++ [93]) = bb at *
      generalize bstr (91 :: (A ++ B) ++ [93]) = bu at *
      have ks := fun d os => (cells_regrown hp1 d os).1
      have s0 := fun d os => (ks d os).1
      have s1 := fun d os => (ks d os).2.1
      have s2 := fun d os => (ks d os).2.2.1
      have s3 := fun d os => (ks d os).2.2.2
      have kt := fun d os => (cells_regrown hr1 d os).1
      have t0 := fun d os => (kt d os).1
      have t1 := fun d os => (kt d os).2.1
      have t2 := fun d os => (kt d os).2.2.1
      have t3 := fun d os => (kt d os).2.2.2
      clear ks kt
      have cP : Hid (∀ d os, Calls Try.prog 12 #[setW p] (grow (redrawn w1 d) os) fun e w'' => e = .returned (.string ba) ∧ ∃ p : Regrown, w'' = grow (redrawn w1 p.d) p.os) := fun d os => Calls.regrown_of (by have h := text_any p (grow (redrawn w1 d) os); rw [hA, hba] at h; exact h)
      have cR : Hid (∀ d os, Calls Try.prog 12 #[setW r] (grow (redrawn w1 d) os) fun e w'' => e = .returned (.string bb) ∧ ∃ p : Regrown, w'' = grow (redrawn w1 p.d) p.os) := fun d os => Calls.regrown_of (by have h := text_any r (grow (redrawn w1 d) os); rw [hBt, hbb] at h; exact h)
      have HU := brows.hide2 (And.intro sA (And.intro sB (And.intro hut (And.intro hUS hXq))))
      have m1 : ¬ (ba.size : Int) < 3 := by omega
      have m2 : ¬ (bb.size : Int) < 3 := by omega
      obtain ⟨k, hk⟩ : ∃ k, k = A.length + 1 := ⟨_, rfl⟩
      have m3 : IntKind.i64.wrap ((ba.size : Int) - 1) = (k : Int) := by rw [IntKind.wrap_i64]; omega
      have m4 : (0 : Int) ≤ (k : Int) := by omega
      have m5 : (k : Int) ≤ (ba.size : Int) := by omega
      have m5' : k ≤ ba.size := by omega
      have m6 : (1 : Int) ≤ (bb.size : Int) := by omega
      have m6' : 1 ≤ bb.size := by omega
      have m7 : (ba.extract 0 k).size = k := by rw [ByteArray.size_extract]; omega
      have m8 : (bb.extract 1 bb.size).size = bb.size - 1 := by rw [ByteArray.size_extract]; omega
      have m9 : ¬ 9223372036854775807 < k + (bb.size - 1) := by omega
      have HK := brows.hide2 hk
      clear hk
      clear sA sB hut hUS hXq hA hBt hba hbb
      go_wp2_with fail
      refine wp_region_quiet_below (by kernel_rfl) (by kernel_rfl) ?_
      repeat (quiet_step (first | with_reducible exact cP.out _ _ | with_reducible exact cR.out _ _))
      refine wpQuiet_nil ?_
      intro _ hw'
      obtain ⟨⟨dq, osq⟩, hw''⟩ := hw'
      subst hw''
      have hB2 := hB1.trans ((below_regrown w1 dq osq).mono hB1.size)
      have hp2 := cells_regrown hp1 dq osq
      have hr2 := cells_regrown hr1 dq osq
      clear s0 s1 s2 s3 t0 t1 t2 t3 cP cR c0 c1 c2 c3 d0 d1 d2 d3
      generalize grow (redrawn w1 dq) osq = W at *
      go_wp2_with fail
      go_quiet (fail)
      go_wp2_with fail
      have HE : Hid (ba.extract 0 k ++ bb.extract 1 bb.size = bu) := brows.hide2 (by rw [HK.out, HU.out.2.1]; exact HU.out.2.2.1)
      rw [HE.out]
      have hB3 : Below w.heap.size w (W.drewN nq) := hB2.trans ⟨rfl, rfl, rfl, Nat.le_refl _, fun _ _ => rfl⟩
      have hp3 : Holds4 (W.drewN nq) w.heap.size p := hp2
      have hr3 : Holds4 (W.drewN nq) (w.heap.size + 1) r := hr2
      clear hp2 hr2
      generalize W.drewN nq = W3 at *
      have hP := parse_any bu (by rw [HU.out.2.2.2.1]; omega) 0 W3 (hg.below hB3 (Nat.le_refl _))
      rw [HU.out.2.2.2.2] at hP
      refine hP.mono ?_
      rintro e' w4 ⟨rfl, hb4⟩
      clear hP
      have us : bu.size = A.length + B.length + 2 := HU.out.2.2.2.1
      have hp4 := (hp3.below hb4 hp3.lt).alloc (.cells #[.int .u64 (wd q 0 : Nat), .int .u64 (wd q 1 : Nat), .int .u64 (wd q 2 : Nat), .int .u64 (wd q 3 : Nat)] 24)
      have hr4 := (hr3.below hb4 hr3.lt).alloc (.cells #[.int .u64 (wd q 0 : Nat), .int .u64 (wd q 1 : Nat), .int .u64 (wd q 2 : Nat), .int .u64 (wd q 3 : Nat)] 24)
      have hq4 := holds4_new w4 q 24
      have hB4 := hB3.trans (hb4.mono hB3.size)
      have hB5 := hB4.alloc hB4.size (.cells #[.int .u64 (wd q 0 : Nat), .int .u64 (wd q 1 : Nat), .int .u64 (wd q 2 : Nat), .int .u64 (wd q 3 : Nat)] 24)
      clear m1 m2 m3 m4 m5 m5' m6 m6' m7 m8 m9 heq her
      go_wp2_with fail
      generalize w4.alloc (.cells #[.int .u64 (wd q 0 : Nat), .int .u64 (wd q 1 : Nat), .int .u64 (wd q 2 : Nat), .int .u64 (wd q 3 : Nat)] 24) = W5 at *
      have ks := fun d os => (cells_regrown hp4 d os).1
      have s0 := fun d os => (ks d os).1
      have s1 := fun d os => (ks d os).2.1
      have s2 := fun d os => (ks d os).2.2.1
      have s3 := fun d os => (ks d os).2.2.2
      have kt := fun d os => (cells_regrown hr4 d os).1
      have t0 := fun d os => (kt d os).1
      have t1 := fun d os => (kt d os).2.1
      have t2 := fun d os => (kt d os).2.2.1
      have t3 := fun d os => (kt d os).2.2.2
      have ku := fun d os => (cells_regrown hq4 d os).1
      have u0 := fun d os => (ku d os).1
      have u1 := fun d os => (ku d os).2.1
      have u2 := fun d os => (ku d os).2.2.1
      have u3 := fun d os => (ku d os).2.2.2
      clear ks kt ku hp4 hr4 hq4
      have hqe : ∀ w, (binOp .eql 24 (setW q) (setW (orP p r))).run Try.prog w = .ok (.bool true) w := fun w => by rw [run_eql_set, eqB_of hIs]
      have cO : Hid (∀ d os, Calls Try.prog 15 #[setW p, setW r] (grow (redrawn W5 d) os) fun e w'' => e = .returned (setW (orP p r)) ∧ ∃ p : Regrown, w'' = grow (redrawn W5 p.d) p.os) := fun d os => Calls.regrown_of (refOrD p r _)
      refine wp_region_quiet_below (by kernel_rfl) (by kernel_rfl) ?_
      repeat (quiet_step (with_reducible exact cO.out _ _))
      refine wpQuiet_nil ?_
      intro _ hw'
      obtain ⟨⟨dq, osq⟩, hw''⟩ := hw'
      subst hw''
      go_wp2
      go_ret
      exact ⟨rfl, hB5.trans ((below_regrown W5 dq osq).mono hB5.size)⟩
    · rw [hep] at heq
      rw [her2] at her
      go_wp2_with fail
      refine (awake_any _ (hg.below hB1 (Nat.le_refl _))).mono ?_
      rintro e' w2 ⟨rfl, hb2⟩
      go_wp2
      go_ret
      exact ⟨rfl, hB1.trans (hb2.mono hB1.size)⟩
  · rw [hep] at heq
    go_wp2_with fail
    refine (awake_any _ (hg.below hB1 (Nat.le_refl _))).mono ?_
    rintro e' w2 ⟨rfl, hb2⟩
    go_wp2
    go_ret
    exact ⟨rfl, hB1.trans (hb2.mono hB1.size)⟩

theorem own : ownKnob Try.prog.godebug = none := by kernel_rfl
theorem laidOut : laidOutB Try.prog = true := by kernel_rfl

/-- bytealg.MaxLen's cell holds some int. -/
theorem glob {W : World} (h : W.ShapedOpen Try.prog) : Glob W :=
  cell_of_shapedOpen_int (g := 0) (t := 3) (k := .i64) (zero := #[.int .i64 0]) h (of_decide_eq_true (by kernel_rfl)) (by kernel_rfl) rfl (by kernel_rfl) (by kernel_rfl) Try.underlying3

set_option maxHeartbeats 1000000 in
set_option maxRecDepth 100000 in
theorem lifted (os : Os) (started : os.Started) (H : Type) (enc : TypeId × Value → H) (F0 : Stop.Interp) :
    ReturnsInHanded {} Try.checked os 7 .any ((OpenSpec.ofChange Rows.bracketUnionsSpec).preRow enc Try.prog Try.f7 Rows.bracketUnionsRow.domain false Rows.bracketUnionsRow.laid) (((OpenSpec.ofChange Rows.bracketUnionsSpec).at F0).post enc Try.prog Try.f7 false true false false) := by
  refine returnsInHanded_of_row (C := Try.checked) (s := (OpenSpec.ofChange Rows.bracketUnionsSpec)) own started (by kernel_rfl) Try.func7
    (witness_row_at (enc := enc) (C := Try.checked) false (World.holding Try.prog os ⟨#[], #[], []⟩) #[.agg #[.int .u64 0, .int .u64 0, .int .u64 0, .int .u64 0], .agg #[.int .u64 0, .int .u64 0, .int .u64 0, .int .u64 0]] rfl (by kernel_rfl) (by kernel_rfl) (by kernel_rfl)
      (OpenSpec.preRow_of_cond 8 (x := ([.agg [.lit (.int .u64 0), .lit (.int .u64 0), .lit (.int .u64 0), .lit (.int .u64 0)], .agg [.lit (.int .u64 0), .lit (.int .u64 0), .lit (.int .u64 0), .lit (.int .u64 0)]], [], [])) (by kernel_rfl) (by kernel_rfl) (fun k hk => by cases hk) (by kernel_rfl) (laidMet_of_run' 8 (by kernel_rfl) (by kernel_rfl)))) ?_
  intro W base args ds gs before hval0 hW _ _ _ _ hsh _
  have hg := glob hsh
  have hval : ∀ (j : Nat) t v, Try.f7.params[j]? = some t → args[j]? = some v → Value.okWide Try.prog W .any base t v := hval0
  have hW' := hW
  obtain ⟨p, q, hA0, hV, rfl, hfz, hnd⟩ := hW
  have hA : DataW.TrodAll enc Try.prog W 0 (fun _ => true) true Try.f7.params.toList args.toList ds p := hA0
  rw [Try.params7] at hA hval
  obtain ⟨v0, vs0, d0, ds0, p0, q0, hargs, rfl, rfl, h0, r0⟩ := trodAll_cons hA
  obtain ⟨v1, vs1, d1, ds1, p1, q1, rfl, rfl, rfl, h1, r1⟩ := trodAll_cons r0
  obtain ⟨rfl, rfl, rfl⟩ := trodAll_nil r1
  obtain rfl : args = #[v0, v1] := by cases args; simp_all
  obtain ⟨rfl, rfl⟩ := trodVars_none hV
  have k0 := h0
  have lt0 : ∀ x ∈ p0, x.block < W.heap.size := by obtain ⟨m, hm⟩ := k0; exact DataW.trod_lt m _ _ _ hm
  obtain ⟨a0, rfl⟩ := open_set (hval 0 24 v0 rfl rfl) h0
  have k1 := h1
  have lt1 : ∀ x ∈ p1, x.block < W.heap.size := by obtain ⟨m, hm⟩ := k1; exact DataW.trod_lt m _ _ _ hm
  obtain ⟨a1, rfl⟩ := open_set (hval 1 24 v1 rfl rfl) h1
  clear hA0 hval0
  refine (walk a0 a1 W hg).mono fun e W' ⟨he, bel⟩ => ?_
  subst he
  exact ⟨_, rfl, _, _, _, [], _, [], hW', trodAll_mk1 (shut_bool Try.underlying4 _), (trodAll_cons_mk (Below.trod laidOut (by kernel_rfl) (of_decide_eq_true (by kernel_rfl)) k0 bel lt0) (trodAll_cons_mk (Below.trod laidOut (by kernel_rfl) (of_decide_eq_true (by kernel_rfl)) k1 bel lt1) trodAll_mk0)), rfl, bel.frame _, fun h => by cases h⟩

theorem over : Rows.bracketUnionsRow.holds Try.pinned (OpenSpec.ofChange Rows.bracketUnionsSpec) :=
  OpenClaim.holds_of_cond 7 Try.f7 rfl rfl rfl rfl rfl rfl rfl ⟨rfl, rfl, rfl, rfl, rfl⟩ rfl rfl rfl rfl rfl (by kernel_rfl) Try.func7 (by kernel_rfl)
    (of_decide_eq_true (by kernel_rfl)) (by unfold Func.isWrapper; first | (rw [if_pos (by decide +kernel)]; kernel_rfl) | (rw [if_neg (by decide +kernel)]; exact ⟨rfl, rfl⟩))
    (fun os started H enc _ F0 => by rw [OpenClaim.pre_eq_preRow]; exact lifted os started H enc F0)

/-- The statement. -/
theorem proved : Rows.BracketUnionsSaid := over
end unions

/-- The statement. -/
theorem bracketUnions_holds : Rows.BracketUnionsSaid := unions.proved
end Go.Proofs.Ytolkbemclkgmmaa
