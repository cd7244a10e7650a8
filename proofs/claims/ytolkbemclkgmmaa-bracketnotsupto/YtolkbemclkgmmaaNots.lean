/- BracketNots: with a caret behind the bracket the set is of all other bytes; what lies ahead and behind isn't looked at; texts of at most 1048576 bytes together. -/
import Derived.Test.YtolkbemclkgmmaaAwake
import Derived.Test.YtolkbemclkgmmaaChk
import Derived.Test.YtolkbemclkgmmaaOpen
import Derived.Test.YtolkbemclkgmmaaRows
import Derived.ChangeSame
import Derived.JoinedOf
import Derived.JoinedAt
import Derived.JoinedStill
import Derived.JoinedCond
import Derived.RowKit
import Derived.ProofKit
import Derived.ShutString
import Derived.ChangeShapes
import Derived.ChangeMaps5
import Derived.OpenShut
import Derived.Laws.IdiomArrays
import Derived.Deep.DeepHandedRow
import Derived.Lib.LaidTab
import Derived.Shelf.Vars
namespace Go.Proofs.Ytolkbemclkgmmaa
open Go.ChangeShapes Go.WideShapes Go.ChangeAt Go.RowKit
open Go.ChangeMaps (open_string shut_string)
open Go.Sort

theorem parse_err (s : ByteArray) (i : Nat) (h : (parseS s i).e ≠ 0) : parseS s i = .err (parseS s i).e := by
  unfold parseS at h ⊢
  split
  · split
    · rename_i h1 h2
      rw [if_pos h1, if_pos h2] at h
      by_cases hl : (loopS s (s.size + 2) true noneP (i + 2)).e ≠ 0
      · rw [if_pos hl]; rfl
      · rw [if_neg hl] at h; simp at h
    · rename_i h1 h2
      rw [if_pos h1, if_neg h2] at h
      by_cases hl : (loopS s (s.size + 2) true noneP (i + 1)).e ≠ 0
      · rw [if_pos hl]; rfl
      · rw [if_neg hl] at h; simp at h
  · rfl

theorem win_cut (t a c : ByteArray) (n : Nat) (h : n ≤ t.size) : Win t 0 (a ++ t.extract 0 n ++ c) a.size n := by
  have hs : (t.extract 0 n).size = n := by rw [ByteArray.size_extract]; omega
  have hw := win_mid a (t.extract 0 n) c n (by omega)
  refine ⟨by omega, hw.2.1, fun j hj => ?_⟩
  rw [← hw.2.2 j hj, Nat.zero_add, byteAt_extract t 0 n j h (by omega), Nat.zero_add]

theorem win_caret (t : ByteArray) (n : Nat) (h : n ≤ t.size) (h1 : 1 ≤ n) : Win t 1 (⟨#[91, 94]⟩ ++ (t.extract 0 n).extract 1 n) 2 (n - 1) := by
  have hs : (t.extract 0 n).size = n := by rw [ByteArray.size_extract]; omega
  have hs2 : ((t.extract 0 n).extract 1 n).size = n - 1 := by rw [ByteArray.size_extract]; omega
  have h2 : (ByteArray.mk #[91, 94]).size = 2 := rfl
  refine ⟨by omega, by rw [ByteArray.size_append, hs2, h2]; omega, fun j hj => ?_⟩
  have := byteAt_right ⟨#[91, 94]⟩ ((t.extract 0 n).extract 1 n) j (by omega)
  rw [h2] at this
  rw [this, byteAt_extract _ _ _ _ (by omega) (by omega), byteAt_extract _ _ _ _ (by omega) (by omega), Nat.zero_add]

namespace nots
set_option maxRecDepth 100000 in
set_option maxHeartbeats 1000000 in
theorem walk_err (t a c : ByteArray) (hs : t.size + a.size + c.size ≤ 1048576) (he : (parseS t 0).e ≠ 0) (w : World) (hg : Glob w) : Calls Try.prog 6 #[.string t, .string a, .string c] w fun e w' => e = .returned (.bool true) ∧ Below w.heap.size w w' := by
  have hx : parseX t 0 = .err (parseS t 0).e := by rw [parseX, if_pos (by omega)]; exact parse_err t 0 he
  generalize (parseS t 0).e = ec at *
  have HP : Hid (∀ w, Glob w → Calls Try.prog 9 #[.string t, .int .i64 0] w fun e w' => e = .returned (.tuple #[.agg #[.int .u64 0, .int .u64 0, .int .u64 0, .int .u64 0], .int .i64 0, .int .i64 ec]) ∧ Below w.heap.size w w') := brows.hide2 (fun w hg => by
    have h := parse_any t (by omega) 0 w hg
    rw [hx] at h
    simp only [It.err] at h
    unfold noneP at h
    rw [wd_none, wd_none, wd_none, wd_none] at h
    exact h)
  have hb : (ec == 0) = false := by rw [beq_eq_false_iff_ne]; exact he
  have hqe : ∀ w, (binOp .eql 24 (.agg #[.int .u64 0, .int .u64 0, .int .u64 0, .int .u64 0]) (.agg #[.int .u64 0, .int .u64 0, .int .u64 0, .int .u64 0])).run Try.prog w = .ok (.bool true) w := fun w => by rw [run_eql_words]; rfl
  clear hx
  go_enter Try.func6, Try.ntmps6
  go_wp2_with fail
  refine (awake_any _ hg).mono ?_
  rintro e' w1 ⟨rfl, hb1⟩
  go_wp2_with fail
  refine (HP.out _ (hg.below hb1 (Nat.le_refl _))).mono ?_
  rintro e' w2 ⟨rfl, hb2⟩
  have hB2 := hb1.trans (hb2.mono hb1.size)
  go_wp2
  go_ret
  exact ⟨rfl, hB2.alloc hB2.size _⟩

set_option maxRecDepth 100000 in
set_option maxHeartbeats 1000000 in
theorem walk_ok (t a c : ByteArray) (hs : t.size + a.size + c.size ≤ 1048576) (he : (parseS t 0).e = 0) (w : World) (hg : Glob w) : Calls Try.prog 6 #[.string t, .string a, .string c] w fun e w' => e = .returned (.bool true) ∧ Below w.heap.size w w' := by
  obtain ⟨f1, f2, f3, f4⟩ := parse_form he
  have hx : parseX t 0 = parseS t 0 := by rw [parseX, if_pos (by omega)]; rfl
  have hw1 := parse_win he (by rw [Nat.sub_zero]; exact win_cut t a c _ f2)
  have hx1 : parseX (a ++ t.extract 0 (parseS t 0).next ++ c) (a.size : Int) = parseS (a ++ t.extract 0 (parseS t 0).next ++ c) a.size := by rw [parseX, if_pos (by omega), Int.toNat_natCast]
  have hcar := fun h94 => parse_caret (s := t) (s' := ⟨#[91, 94]⟩ ++ (t.extract 0 (parseS t 0).next).extract 1 (parseS t 0).next) he h94 (by rw [byteAt_left _ _ _ (by decide)]; rfl) (by rw [byteAt_left _ _ _ (by decide)]; rfl) (win_caret t _ f2 (by omega))
  rw [hw1] at hx1
  rw [Nat.sub_zero] at hx1
  generalize hn : (parseS t 0).next = n at *
  generalize hq : (parseS t 0).q = q at *
  have HP : Hid (∀ w, Glob w → Calls Try.prog 9 #[.string t, .int .i64 0] w fun e w' => e = .returned (.tuple #[.agg #[.int .u64 (wd q 0 : Nat), .int .u64 (wd q 1 : Nat), .int .u64 (wd q 2 : Nat), .int .u64 (wd q 3 : Nat)], .int .i64 (n : Int), .int .i64 0]) ∧ Below w.heap.size w w') := brows.hide2 (fun w hg => by
    have h := parse_any t (by omega) 0 w hg
    rw [hx, he, hn, hq] at h
    exact h)
  have hes : (t.extract 0 n).size = n := by rw [ByteArray.size_extract]; omega
  have HP1 : Hid (∀ w, Glob w → Calls Try.prog 9 #[.string (a ++ t.extract 0 n ++ c), .int .i64 (a.size : Int)] w fun e w' => e = .returned (.tuple #[.agg #[.int .u64 (wd q 0 : Nat), .int .u64 (wd q 1 : Nat), .int .u64 (wd q 2 : Nat), .int .u64 (wd q 3 : Nat)], .int .i64 ((a.size + n : Nat) : Int), .int .i64 0]) ∧ Below w.heap.size w w') := brows.hide2 (fun w hg => by
    have h := parse_any (a ++ t.extract 0 n ++ c) (by rw [ByteArray.size_append, ByteArray.size_append, hes]; omega) (a.size : Int) w hg
    rw [hx1] at h
    exact h)
  have HP2 : Hid (¬ byteAt t 1 = 94 → ∀ w, Glob w → Calls Try.prog 9 #[.string (⟨#[91, 94]⟩ ++ (t.extract 0 n).extract 1 n), .int .i64 0] w fun e w' => e = .returned (.tuple #[.agg #[.int .u64 (wd (notP q) 0 : Nat), .int .u64 (wd (notP q) 1 : Nat), .int .u64 (wd (notP q) 2 : Nat), .int .u64 (wd (notP q) 3 : Nat)], .int .i64 ((n + 1 : Nat) : Int), .int .i64 0]) ∧ Below w.heap.size w w') := brows.hide2 (fun h94 w hg => by
    have h := parse_any (⟨#[91, 94]⟩ ++ (t.extract 0 n).extract 1 n) (by rw [ByteArray.size_append, ByteArray.size_extract, hes]; show 2 + _ ≤ _; omega) 0 w hg
    have hx2 : parseX (⟨#[91, 94]⟩ ++ (t.extract 0 n).extract 1 n) 0 = parseS (⟨#[91, 94]⟩ ++ (t.extract 0 n).extract 1 n) 0 := by rw [parseX, if_pos (by omega)]; rfl
    rw [hx2, hcar h94] at h
    exact h)
  clear hx hx1 hcar hw1
  rw [byteAt_in (by omega)] at f3 f4
  have n1 : ¬ (n : Int) < 3 := by omega
  have n2 : ¬ (t.size : Int) < (n : Int) := by omega
  go_enter Try.func6, Try.ntmps6
  go_wp2_with fail
  refine (awake_any _ hg).mono ?_
  rintro e' w1 ⟨rfl, hb1⟩
  go_wp2_with fail
  refine (HP.out _ (hg.below hb1 (Nat.le_refl _))).mono ?_
  rintro e' w2 ⟨rfl, hb2⟩
  have hB2 := hb1.trans (hb2.mono hb1.size)
  go_wp2_with fail
  have hB3 := hB2.alloc hB2.size (.cells #[.int .u64 (wd q 0 : Nat), .int .u64 (wd q 1 : Nat), .int .u64 (wd q 2 : Nat), .int .u64 (wd q 3 : Nat)] 24)
  have hs2 := holds4_new w2 q 24
  refine (HP1.out _ (hg.below hB3 (Nat.le_refl _))).mono ?_
  rintro e' w3 ⟨rfl, hb3⟩
  have hs3 := (hs2.below hb3 hs2.lt).alloc (.cells #[.int .u64 (wd q 0 : Nat), .int .u64 (wd q 1 : Nat), .int .u64 (wd q 2 : Nat), .int .u64 (wd q 3 : Nat)] 24)
  have ht3 := holds4_new w3 q 24
  have hB4 := hB3.trans (hb3.mono hB3.size)
  have hB5 := hB4.alloc hB4.size (.cells #[.int .u64 (wd q 0 : Nat), .int .u64 (wd q 1 : Nat), .int .u64 (wd q 2 : Nat), .int .u64 (wd q 3 : Nat)] 24)
  obtain ⟨⟨c0, c1, c2, c3⟩, -⟩ := id hs3
  obtain ⟨⟨d0, d1, d2, d3⟩, -⟩ := id ht3
  have hqe : ∀ w, (binOp .neq 24 (setW q) (setW q)).run Try.prog w = .ok (.bool false) w := fun w => by rw [run_neq_set, eqB_of (Is.refl q)]; rfl
  have k3 : IntKind.i64.wrap ((a.size : Int) + (n : Int)) = (a.size : Int) + (n : Int) := by rw [IntKind.wrap_i64]; omega
  have n3 : 1 < (t.extract 0 n).size := by omega
  have hb1t : (((t.extract 0 n)[1]'n3).toNat : Int) = byteAt t 1 := by
    rw [← byteAt_in n3, byteAt_extract t 0 n 1 f2 (by omega)]
  have HBT := brows.hide2 hb1t
  clear hb1t
  by_cases h94 : byteAt t 1 = 94
  · have n4 : ((((t.extract 0 n)[1]'n3).toNat : Int) == 94) = true := by rw [HBT.out, h94]; rfl
    go_wp2
    go_ret
    exact ⟨rfl, hB5⟩
  · have n4 : ((((t.extract 0 n)[1]'n3).toNat : Int) == 94) = false := by rw [HBT.out, beq_eq_false_iff_ne]; exact h94
    have H94 := brows.hide2 h94
    clear h94
    go_wp2_with fail
    refine (HP2.out H94.out _ (hg.below hB5 (Nat.le_refl _))).mono ?_
    rintro e' w4 ⟨rfl, hb4⟩
    clear c0 c1 c2 c3 d0 d1 d2 d3
    have ht4 := ht3.below hb4 ht3.lt
    have hs4 := hs3.below hb4 hs3.lt
    obtain ⟨⟨d0, d1, d2, d3⟩, ⟨g0, g1, g2, g3⟩⟩ := id ht4
    have hlt : w2.heap.size ≠ w3.heap.size := by have := hb3.size; simp at this; omega
    have ht5 := ht4.put (notP q)
    have hs5 := hs4.other (notP q) hlt
    have hB6 := hB5.trans (hb4.mono hB5.size)
    have hB7 : Below w.heap.size w (put4 w4 w3.heap.size (notP q)) := below4 hB6 (by have := hB4.size; omega) _ _ _ _
    go_wp2_with fail
    clear d0 d1 d2 d3 g0 g1 g2 g3 ht4 hs4
    unfold put4 at hs5 ht5 hB7
    generalize (((w4.setCell ⟨w3.heap.size, 0, none⟩ (.int .u64 (wd (notP q) 0 : Nat))).setCell ⟨w3.heap.size, 1, none⟩ (.int .u64 (wd (notP q) 1 : Nat))).setCell ⟨w3.heap.size, 2, none⟩ (.int .u64 (wd (notP q) 2 : Nat))).setCell ⟨w3.heap.size, 3, none⟩ (.int .u64 (wd (notP q) 3 : Nat)) = W at *
    have ks := fun d os => (cells_regrown hs5 d os).1
    have s0 := fun d os => (ks d os).1
    have s1 := fun d os => (ks d os).2.1
    have s2 := fun d os => (ks d os).2.2.1
    have s3 := fun d os => (ks d os).2.2.2
    have kt := fun d os => (cells_regrown ht5 d os).1
    have t0 := fun d os => (kt d os).1
    have t1 := fun d os => (kt d os).2.1
    have t2 := fun d os => (kt d os).2.2.1
    have t3 := fun d os => (kt d os).2.2.2
    clear ks kt hs5 ht5 hqe
    have k4 : IntKind.i64.wrap ((n : Int) + 1) = (n : Int) + 1 := by rw [IntKind.wrap_i64]; omega
    have hqe : ∀ w, (binOp .eql 24 (setW (notP q)) (setW (notP q))).run Try.prog w = .ok (.bool true) w := fun w => by rw [run_eql_set, eqB_of (Is.refl _)]
    have cN : Hid (∀ d os, Calls Try.prog 14 #[setW q] (grow (redrawn W d) os) fun e w'' => e = .returned (setW (notP q)) ∧ ∃ p : Regrown, w'' = grow (redrawn W p.d) p.os) := fun d os => Calls.regrown_of (refNotD q _)
    refine wp_region_quiet_below (by kernel_rfl) (by kernel_rfl) ?_
    repeat (quiet_step (with_reducible exact cN.out _ _))
    refine wpQuiet_nil ?_
    intro _ hw'
    obtain ⟨⟨dq, osq⟩, hw''⟩ := hw'
    subst hw''
    go_wp2
    go_ret
    exact ⟨rfl, hB7.trans ((below_regrown W dq osq).mono hB7.size)⟩
theorem walk (t a c : ByteArray) (hs : t.size + a.size + c.size ≤ 1048576) (w : World) (hg : Glob w) : Calls Try.prog 6 #[.string t, .string a, .string c] w fun e w' => e = .returned (.bool true) ∧ Below w.heap.size w w' := by
  by_cases he : (parseS t 0).e = 0
  · exact walk_ok t a c hs he w hg
  · exact walk_err t a c hs he w hg

theorem own : ownKnob Try.prog.godebug = none := by kernel_rfl
theorem laidOut : laidOutB Try.prog = true := by kernel_rfl

/-- bytealg.MaxLen's cell holds some int. -/
theorem glob {W : World} (h : W.ShapedOpen Try.prog) : Glob W :=
  cell_of_shapedOpen_int (g := 0) (t := 3) (k := .i64) (zero := #[.int .i64 0]) h (of_decide_eq_true (by kernel_rfl)) (by kernel_rfl) rfl (by kernel_rfl) (by kernel_rfl) Try.underlying3

set_option maxHeartbeats 1000000 in
set_option maxRecDepth 100000 in
theorem lifted (os : Os) (started : os.Started) (H : Type) (enc : TypeId × Value → H) (F0 : Stop.Interp) :
    ReturnsInHanded {} Try.checked os 6 .any ((Rows.OpenSpec.upto Rows.bracketNotsSpec).preRow enc Try.prog Try.f6 Rows.bracketNotsUptoRow.domain false Rows.bracketNotsUptoRow.laid) (((Rows.OpenSpec.upto Rows.bracketNotsSpec).at F0).post enc Try.prog Try.f6 false true false false) := by
  refine returnsInHanded_of_row (C := Try.checked) (s := (Rows.OpenSpec.upto Rows.bracketNotsSpec)) own started (by kernel_rfl) Try.func6
    (witness_row_at (enc := enc) (C := Try.checked) false (World.holding Try.prog os ⟨#[], #[], []⟩) #[.string ⟨#[]⟩, .string ⟨#[]⟩, .string ⟨#[]⟩] rfl (by kernel_rfl) (by kernel_rfl) (by kernel_rfl)
      (OpenSpec.preRow_of_cond 8 (x := ([.lit (.string []), .lit (.string []), .lit (.string [])], [], [])) (by kernel_rfl) (by kernel_rfl) (fun k hk => by cases hk; kernel_rfl) (by kernel_rfl) (laidMet_of_run' 8 (by kernel_rfl) (by kernel_rfl)))) ?_
  intro W base args ds gs before hval0 hW _ hcond _ _ hsh _
  have hk0 : Rows.uptoSmall H (ds ++ gs) = true := hcond _ rfl
  have hg := glob hsh
  have hval : ∀ (j : Nat) t v, Try.f6.params[j]? = some t → args[j]? = some v → Value.okWide Try.prog W .any base t v := hval0
  have hW' := hW
  obtain ⟨p, q, hA0, hV, rfl, hfz, hnd⟩ := hW
  have hA : DataW.TrodAll enc Try.prog W 0 (fun _ => true) true Try.f6.params.toList args.toList ds p := hA0
  rw [Try.params6] at hA hval
  obtain ⟨v0, vs0, d0, ds0, p0, q0, hargs, rfl, rfl, h0, r0⟩ := trodAll_cons hA
  obtain ⟨v1, vs1, d1, ds1, p1, q1, rfl, rfl, rfl, h1, r1⟩ := trodAll_cons r0
  obtain ⟨v2, vs2, d2, ds2, p2, q2, rfl, rfl, rfl, h2, r2⟩ := trodAll_cons r1
  obtain ⟨rfl, rfl, rfl⟩ := trodAll_nil r2
  obtain rfl : args = #[v0, v1, v2] := by cases args; simp_all
  obtain ⟨rfl, rfl⟩ := trodVars_none hV
  obtain ⟨s0, rfl, rfl, rfl, w0⟩ := open_string Try.underlying9 (hval 0 9 v0 rfl rfl) h0
  obtain ⟨s1, rfl, rfl, rfl, w1⟩ := open_string Try.underlying9 (hval 1 9 v1 rfl rfl) h1
  obtain ⟨s2, rfl, rfl, rfl, w2⟩ := open_string Try.underlying9 (hval 2 9 v2 rfl rfl) h2
  clear hA0 hval0
  have hk : Rows.uptoBulkAll ([.lit (.string s0.data.toList), .lit (.string s1.data.toList), .lit (.string s2.data.toList)] ++ [] : List (DataW H)) ≤ 1048576 := of_decide_eq_true hk0
  have z0 : s0.size + s1.size + s2.size ≤ 1048576 := by
    simp only [List.append_nil, Rows.uptoBulkAll, Rows.uptoBulk] at hk
    simp at hk
    omega
  refine (walk s0 s1 s2 z0 W hg).mono fun e W' ⟨he, bel⟩ => ?_
  subst he
  exact ⟨_, rfl, _, _, _, [], _, [], hW', trodAll_mk1 (shut_bool Try.underlying4 _), (trodAll_cons_mk (shut_string Try.underlying9 w0) (trodAll_cons_mk (shut_string Try.underlying9 w1) (trodAll_cons_mk (shut_string Try.underlying9 w2) trodAll_mk0))), rfl, bel.frame _, fun h => by cases h⟩

theorem over : Rows.bracketNotsUptoRow.holds Try.pinned (Rows.OpenSpec.upto Rows.bracketNotsSpec) :=
  OpenClaim.holds_of_cond 6 Try.f6 rfl rfl rfl rfl rfl rfl rfl ⟨rfl, rfl, rfl, rfl, rfl⟩ rfl rfl rfl rfl rfl (by kernel_rfl) Try.func6 (by kernel_rfl)
    (of_decide_eq_true (by kernel_rfl)) (by unfold Func.isWrapper; first | (rw [if_pos (by decide +kernel)]; kernel_rfl) | (rw [if_neg (by decide +kernel)]; exact ⟨rfl, rfl⟩))
    (fun os started H enc _ F0 => by rw [OpenClaim.pre_eq_preRow]; exact lifted os started H enc F0)

/-- The statement. -/
theorem proved : Rows.BracketNotsUptoSaid := over
end nots

/-- The statement. -/
theorem bracketNots_holds : Rows.BracketNotsUptoSaid := nots.proved
end Go.Proofs.Ytolkbemclkgmmaa
