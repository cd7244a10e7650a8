/- WholeBrackets: every set can be written and is read as it; with a caret it is its opposite. No condition. -/
import Derived.Test.YtolkbemclkgmmabChk
import Derived.Test.YtolkbemclkgmmabOpen
import Derived.Test.YtolkbemclkgmmabRows
import Derived.Lib.QuietBelow
import Derived.ChangeSame
import Derived.JoinedOf
import Derived.JoinedAt
import Derived.JoinedStill
import Derived.JoinedCond
import Derived.RowKit
import Derived.ProofKit
import Derived.ShutString
import Derived.ChangeShapes
import Derived.ChangeMaps5
import Derived.OpenShut
import Derived.Laws.IdiomArrays
import Derived.Deep.DeepHandedRow
import Derived.Lib.LaidTab
import Derived.Shelf.Vars
namespace Go.Proofs.Ytolkbemclkgmmab
open Go.ChangeShapes Go.WideShapes Go.ChangeAt Go.RowKit
open Go.ChangeMaps (open_string shut_string)
open Go.Sort

abbrev setW (p : Nat → Bool) : Value := .agg #[.int .u64 (wd p 0 : Nat), .int .u64 (wd p 1 : Nat), .int .u64 (wd p 2 : Nat), .int .u64 (wd p 3 : Nat)]

theorem cells_regrown {w : World} {b : Nat} {p : Nat → Bool} (h : Holds4 w b p) (d : Nat) (os : Array Obj) : Holds4 (grow (redrawn w d) os) b p :=
  h.below (below_regrown w d os) h.lt

theorem win_caret1 (t : ByteArray) (h1 : 1 ≤ t.size) : Win t 1 (⟨#[91, 94]⟩ ++ t.extract 1 t.size) 2 (t.size - 1) := by
  have hs2 : (t.extract 1 t.size).size = t.size - 1 := by rw [ByteArray.size_extract]; omega
  have h2 : (ByteArray.mk #[91, 94]).size = 2 := rfl
  refine ⟨by omega, by rw [ByteArray.size_append, hs2, h2]; omega, fun j hj => ?_⟩
  have := byteAt_right ⟨#[91, 94]⟩ (t.extract 1 t.size) j (by omega)
  rw [h2] at this
  rw [this, byteAt_extract _ _ _ _ (by omega) (by omega)]

theorem text_second (p : Nat → Bool) : byteAt (bstr (textL (mem p 256))) 1 = 94 ↔ eqB p noneP = true := by
  cases h : eqB p noneP
  · refine ⟨fun h94 => ?_, fun h' => by cases h'⟩
    exfalso
    have hne := mem_some h
    obtain ⟨cs, h1, h2, h3⟩ := text_chunks (mem p 256) (mem_bytes p 256)
    unfold textL at h94
    rw [if_neg hne, h1] at h94
    cases cs with
    | nil =>
      obtain ⟨x, hx⟩ := List.exists_mem_of_ne_nil _ hne
      simpa using (h3 x).1 hx
    | cons c cs =>
      obtain ⟨b, l, hc, _, _, hb94⟩ := chunk_head c (h2 c (by simp))
      have hb := flat_bytes (c :: cs) h2 b (by rw [flat_cons, hc]; simp)
      have := byteAt_bstr (91 :: flat (c :: cs) ++ [93]) 1 b (by rw [flat_cons, hc]; rfl) hb
      rw [this] at h94
      omega
  · refine ⟨fun _ => rfl, fun _ => ?_⟩
    unfold textL
    rw [if_pos (mem_none h)]
    decide

theorem b_parse : ∃ q, parseX ⟨#[91, 98, 93]⟩ 0 = ⟨0, q, 0, false, 3⟩ ∧ Is q (ofP ⟨#[98]⟩) := by
  obtain ⟨q, h1, h2⟩ := chunk_parse [⟨1, 98, 0⟩] (fun c hc => by rw [List.mem_singleton] at hc; subst hc; exact ⟨by decide, by decide, .inr (by decide), .inl (by decide)⟩) (by simp)
  refine ⟨q, ?_, fun n hn => ?_⟩
  · rw [parseX, if_pos (by omega)]
    exact h1
  · rw [h2]
    simp [ckP, ofP, inText, ByteArray.size]
    rw [Bool.eq_iff_iff, beq_iff_eq, beq_iff_eq]
    exact eq_comm

namespace wbrk
set_option maxRecDepth 100000 in
set_option maxHeartbeats 1000000 in
theorem walk (p : Nat → Bool) (w : World) (hg : Glob w) : Calls Try.prog 3 #[.agg #[.int .u64 (wd p 0 : Nat), .int .u64 (wd p 1 : Nat), .int .u64 (wd p 2 : Nat), .int .u64 (wd p 3 : Nat)]] w fun e w' => e = .returned (.bool true) ∧ Below w.heap.size w w' := by
  obtain ⟨qb, hqb, hIb⟩ := b_parse
  have HPb : Hid (∀ w, Glob w → Calls Try.prog 4 #[.string ⟨#[91, 98, 93]⟩, .int .i64 0] w fun e w' => e = .returned (.tuple #[setW qb, .int .i64 3, .int .i64 0]) ∧ Below w.heap.size w w') := fun w hg => by
    have h := parse_any ⟨#[91, 98, 93]⟩ (by decide) 0 w hg
    rw [hqb] at h
    exact h
  clear hqb
  go_enter Try.func3, Try.ntmps3
  go_wp2_with fail
  have hs0 := holds4_new w p 24
  have hB0 : Below w.heap.size w (w.alloc (.cells #[.int .u64 (wd p 0 : Nat), .int .u64 (wd p 1 : Nat), .int .u64 (wd p 2 : Nat), .int .u64 (wd p 3 : Nat)] 24)) := (Below.refl _ _).alloc (Nat.le_refl _) _
  refine (HPb.out _ (hg.below hB0 (Nat.le_refl _))).mono ?_
  rintro e' w1 ⟨rfl, hb1⟩
  have hs1 := hs0.below hb1 hs0.lt
  have hB1 := hB0.trans (hb1.mono hB0.size)
  have ha1 := hs1.alloc (.cells #[.int .u64 (wd qb 0 : Nat), .int .u64 (wd qb 1 : Nat), .int .u64 (wd qb 2 : Nat), .int .u64 (wd qb 3 : Nat)] 24)
  have hb1' := holds4_new w1 qb 24
  have hB2 := hB1.alloc hB1.size (.cells #[.int .u64 (wd qb 0 : Nat), .int .u64 (wd qb 1 : Nat), .int .u64 (wd qb 2 : Nat), .int .u64 (wd qb 3 : Nat)] 24)
  go_wp2_with fail
  generalize w1.alloc (.cells #[.int .u64 (wd qb 0 : Nat), .int .u64 (wd qb 1 : Nat), .int .u64 (wd qb 2 : Nat), .int .u64 (wd qb 3 : Nat)] 24) = W at *
  have kb := fun d os => (cells_regrown hb1' d os).1
  have u0 := fun d os => (kb d os).1
  have u1 := fun d os => (kb d os).2.1
  have u2 := fun d os => (kb d os).2.2.1
  have u3 := fun d os => (kb d os).2.2.2
  clear kb
  have hne : ∀ w, (binOp .neq 24 (setW qb) (setW (ofP ⟨#[98]⟩))).run Try.prog w = .ok (.bool false) w := fun w => by rw [run_neq_set, eqB_of hIb]; rfl
  have cO : Hid (∀ d os, Calls Try.prog 5 #[.string ⟨#[98]⟩] (grow (redrawn W d) os) fun e w'' => e = .returned (setW (ofP ⟨#[98]⟩)) ∧ ∃ p : Regrown, w'' = grow (redrawn W p.d) p.os) := fun d os => Calls.regrown_of (ofD _ (by decide) _)
  refine wp_region_quiet_below (by kernel_rfl) (by kernel_rfl) ?_
  repeat (quiet_step (with_reducible exact cO.out _ _))
  refine wpQuiet_nil ?_
  intro _ hw'
  obtain ⟨⟨dq, osq⟩, hw''⟩ := hw'
  subst hw''
  have hp2 := cells_regrown ha1 dq osq
  have hB3 := hB2.trans ((below_regrown W dq osq).mono hB2.size)
  clear hs0 hs1 ha1 hb1 hb1' hB0 hB1 hB2 u0 u1 u2 u3 cO hne hIb HPb
  generalize grow (redrawn W dq) osq = W1 at *
  obtain ⟨q, hq, hIq⟩ := text_parse p
  obtain ⟨r, hr, hIr⟩ := text_parse (notP p)
  have hT := textL_len p
  have hO := textL_len (notP p)
  have hsec := text_second p
  have hTs := bstr_size (textL (mem p 256))
  have hOs := bstr_size (textL (mem (notP p) 256))
  have htx := fun w => text_any p w
  have hto := fun w => text_any (notP p) w
  have hX : parseX (bstr (textL (mem p 256))) 0 = parseS (bstr (textL (mem p 256))) 0 := by rw [parseX, if_pos (by omega)]; rfl
  have hX2 : parseX (bstr (textL (mem (notP p) 256))) 0 = parseS (bstr (textL (mem (notP p) 256))) 0 := by rw [parseX, if_pos (by omega)]; rfl
  have hpa := fun w hg => parse_any (bstr (textL (mem p 256))) (by omega) 0 w hg
  have hpo := fun w hg => parse_any (bstr (textL (mem (notP p) 256))) (by omega) 0 w hg
  rw [hX, hq] at hpa
  rw [hX2, hr] at hpo
  have hcar := fun h94 => parse_caret (s := bstr (textL (mem p 256))) (s' := ⟨#[91, 94]⟩ ++ (bstr (textL (mem p 256))).extract 1 (bstr (textL (mem p 256))).size) (by rw [hq]) h94 (by rw [byteAt_left _ _ _ (by decide)]; rfl) (by rw [byteAt_left _ _ _ (by decide)]; rfl) (by rw [hq]; simp only []; rw [← hTs]; exact win_caret1 _ (by omega))
  rw [hq] at hcar
  simp only [] at hpa hpo hcar
  rw [← hTs] at hT hpa hcar
  rw [← hOs] at hO hpo
  clear hTs hOs hX hX2 hq hr
  generalize bstr (textL (mem p 256)) = bt at *
  generalize bstr (textL (mem (notP p) 256)) = bo at *
  have HPA := hide hpa
  have HPO := hide hpo
  have HSEC := hide hsec
  have HTX : Hid (∀ d os, Calls Try.prog 6 #[setW p] (grow (redrawn W1 d) os) fun e w'' => e = .returned (.string bt) ∧ ∃ p : Regrown, w'' = grow (redrawn W1 p.d) p.os) := fun d os => Calls.regrown_of (htx _)
  have HTO : Hid (∀ d os, Calls Try.prog 6 #[setW (notP p)] (grow (redrawn W1 d) os) fun e w'' => e = .returned (.string bo) ∧ ∃ p : Regrown, w'' = grow (redrawn W1 p.d) p.os) := fun d os => Calls.regrown_of (hto _)
  have HNO : Hid (∀ d os, Calls Try.prog 7 #[setW p] (grow (redrawn W1 d) os) fun e w'' => e = .returned (setW (notP p)) ∧ ∃ p : Regrown, w'' = grow (redrawn W1 p.d) p.os) := fun d os => Calls.regrown_of (notD p _)
  have hbt2 : (⟨#[91, 94]⟩ ++ bt.extract 1 bt.size : ByteArray).size ≤ 1073741824 := by rw [ByteArray.size_append, ByteArray.size_extract]; show 2 + _ ≤ _; omega
  have HPC : Hid (¬ byteAt bt 1 = 94 → ∀ w, Glob w → Calls Try.prog 4 #[.string (⟨#[91, 94]⟩ ++ bt.extract 1 bt.size), .int .i64 0] w fun e w' => e = .returned (.tuple #[setW (notP q), .int .i64 ((bt.size + 1 : Nat) : Int), .int .i64 0]) ∧ Below w.heap.size w w') := hide (fun h94 w hg => by
    have h := parse_any (⟨#[91, 94]⟩ ++ bt.extract 1 bt.size) hbt2 0 w hg
    have hx2 : parseX (⟨#[91, 94]⟩ ++ bt.extract 1 bt.size) 0 = parseS (⟨#[91, 94]⟩ ++ bt.extract 1 bt.size) 0 := by rw [parseX, if_pos (by omega)]; rfl
    rw [hx2, hcar h94] at h
    exact h)
  clear htx hto hpa hpo hsec hcar hbt2
  have kb := fun d os => (cells_regrown hp2 d os).1
  have u0 := fun d os => (kb d os).1
  have u1 := fun d os => (kb d os).2.1
  have u2 := fun d os => (kb d os).2.2.1
  have u3 := fun d os => (kb d os).2.2.2
  clear kb
  go_wp2_with fail
  refine wp_region_quiet_below (by kernel_rfl) (by kernel_rfl) ?_
  repeat (quiet_step (first | with_reducible exact HTX.out _ _ | with_reducible exact HTO.out _ _ | with_reducible exact HNO.out _ _))
  refine wpQuiet_nil ?_
  intro _ hw'
  obtain ⟨⟨dq, osq⟩, hw''⟩ := hw'
  subst hw''
  have hp3 := cells_regrown hp2 dq osq
  have hB4 := hB3.trans ((below_regrown W1 dq osq).mono hB3.size)
  clear hp2 hB3 u0 u1 u2 u3 HTX HTO HNO
  generalize grow (redrawn W1 dq) osq = W2 at *
  go_wp2_with fail
  refine (HPA.out _ (hg.below hB4 (Nat.le_refl _))).mono ?_
  rintro e' w3 ⟨rfl, hb3⟩
  have hp4 := (hp3.below hb3 hp3.lt).alloc (.cells #[.int .u64 (wd q 0 : Nat), .int .u64 (wd q 1 : Nat), .int .u64 (wd q 2 : Nat), .int .u64 (wd q 3 : Nat)] 24)
  have hq4 := holds4_new w3 q 24
  have hB5 := hB4.trans (hb3.mono hB4.size)
  have hB6 := hB5.alloc hB5.size (.cells #[.int .u64 (wd q 0 : Nat), .int .u64 (wd q 1 : Nat), .int .u64 (wd q 2 : Nat), .int .u64 (wd q 3 : Nat)] 24)
  go_wp2_with fail
  refine (HPO.out _ (hg.below hB6 (Nat.le_refl _))).mono ?_
  rintro e' w4 ⟨rfl, hb4⟩
  have hp5 := (hp4.below hb4 hp4.lt).alloc (.cells #[.int .u64 (wd r 0 : Nat), .int .u64 (wd r 1 : Nat), .int .u64 (wd r 2 : Nat), .int .u64 (wd r 3 : Nat)] 24)
  have hq5 := (hq4.below hb4 hq4.lt).alloc (.cells #[.int .u64 (wd r 0 : Nat), .int .u64 (wd r 1 : Nat), .int .u64 (wd r 2 : Nat), .int .u64 (wd r 3 : Nat)] 24)
  have hr5 := holds4_new w4 r 24
  have hB7 := hB6.trans (hb4.mono hB6.size)
  have hB8 := hB7.alloc hB7.size (.cells #[.int .u64 (wd r 0 : Nat), .int .u64 (wd r 1 : Nat), .int .u64 (wd r 2 : Nat), .int .u64 (wd r 3 : Nat)] 24)
  go_wp2_with fail
  generalize w4.alloc (.cells #[.int .u64 (wd r 0 : Nat), .int .u64 (wd r 1 : Nat), .int .u64 (wd r 2 : Nat), .int .u64 (wd r 3 : Nat)] 24) = W5 at *
  have kb := fun d os => (cells_regrown hp5 d os).1
  have u0 := fun d os => (kb d os).1
  have u1 := fun d os => (kb d os).2.1
  have u2 := fun d os => (kb d os).2.2.1
  have u3 := fun d os => (kb d os).2.2.2
  clear kb
  have kc := fun d os => (cells_regrown hq5 d os).1
  have v0 := fun d os => (kc d os).1
  have v1 := fun d os => (kc d os).2.1
  have v2 := fun d os => (kc d os).2.2.1
  have v3 := fun d os => (kc d os).2.2.2
  clear kc
  have kd := fun d os => (cells_regrown hr5 d os).1
  have x0 := fun d os => (kd d os).1
  have x1 := fun d os => (kd d os).2.1
  have x2 := fun d os => (kd d os).2.2.1
  have x3 := fun d os => (kd d os).2.2.2
  clear kd
  have hne1 : ∀ w, (binOp .neq 24 (setW q) (setW p)).run Try.prog w = .ok (.bool false) w := fun w => by rw [run_neq_set, eqB_of hIq]; rfl
  have hne2 : ∀ w, (binOp .neq 24 (setW r) (setW (notP p))).run Try.prog w = .ok (.bool false) w := fun w => by rw [run_neq_set, eqB_of hIr]; rfl
  have HNO : Hid (∀ d os, Calls Try.prog 7 #[setW p] (grow (redrawn W5 d) os) fun e w'' => e = .returned (setW (notP p)) ∧ ∃ p : Regrown, w'' = grow (redrawn W5 p.d) p.os) := fun d os => Calls.regrown_of (notD p _)
  refine wp_region_quiet_below (by kernel_rfl) (by kernel_rfl) ?_
  repeat (quiet_step (with_reducible exact HNO.out _ _))
  refine wpQuiet_nil ?_
  intro _ hw'
  obtain ⟨⟨dq, osq⟩, hw''⟩ := hw'
  subst hw''
  have hp6 := cells_regrown hp5 dq osq
  have hr6 := cells_regrown hr5 dq osq
  have hB9 := hB8.trans ((below_regrown W5 dq osq).mono hB8.size)
  clear u0 u1 u2 u3 v0 v1 v2 v3 x0 x1 x2 x3 hp5 hq5 hr5 hB8 hB7 hB6 hB5 hB4 hne1 hne2 HNO hb3 hb4 hp3 hp4 hq4
  generalize grow (redrawn W5 dq) osq = W6 at *
  have n3 : 1 < bt.size := by omega
  have n4 : ¬ (bt.size : Int) < 2 := by omega
  have HBT : Hid (((bt[1]'n3).toNat : Int) = byteAt bt 1) := hide (byteAt_in n3).symm
  obtain ⟨⟨c0, c1, c2, c3⟩, -⟩ := id hp6
  by_cases h94 : byteAt bt 1 = 94
  · have n5 : (((bt[1]'n3).toNat : Int) == 94) = true := by rw [HBT.out, h94]; rfl
    have z0 : wd noneP 0 = 0 := wd_none 0
    have z1 : wd noneP 1 = 0 := wd_none 1
    have z2 : wd noneP 2 = 0 := wd_none 2
    have z3 : wd noneP 3 = 0 := wd_none 3
    have heq := fun W => run_eql_set p noneP W
    rw [HSEC.out.1 h94] at heq
    simp only [z0, z1, z2, z3, Int.ofNat_zero] at heq
    clear z0 z1 z2 z3 h94
    go_wp2
    go_ret
    exact ⟨rfl, hB9⟩
  · have n5 : (((bt[1]'n3).toNat : Int) == 94) = false := by rw [HBT.out, beq_eq_false_iff_ne]; exact h94
    have H94 := hide h94
    clear h94
    go_wp2_with fail
    refine (HPC.out H94.out _ (hg.below hB9 (Nat.le_refl _))).mono ?_
    rintro e' w7 ⟨rfl, hb7⟩
    clear c0 c1 c2 c3
    have hr7 := (hr6.below hb7 hr6.lt).alloc (.cells #[.int .u64 (wd (notP q) 0 : Nat), .int .u64 (wd (notP q) 1 : Nat), .int .u64 (wd (notP q) 2 : Nat), .int .u64 (wd (notP q) 3 : Nat)] 24)
    have hc7 := holds4_new w7 (notP q) 24
    have hB10 := hB9.trans (hb7.mono hB9.size)
    have hB11 := hB10.alloc hB10.size (.cells #[.int .u64 (wd (notP q) 0 : Nat), .int .u64 (wd (notP q) 1 : Nat), .int .u64 (wd (notP q) 2 : Nat), .int .u64 (wd (notP q) 3 : Nat)] 24)
    obtain ⟨⟨c0, c1, c2, c3⟩, -⟩ := id hr7
    obtain ⟨⟨d0, d1, d2, d3⟩, -⟩ := id hc7
    have heq : ∀ w, (binOp .eql 24 (setW (notP q)) (setW r)).run Try.prog w = .ok (.bool true) w := fun w => by rw [run_eql_set, eqB_of (fun n hn => by rw [hIr n hn]; simp only [notP]; rw [hIq n hn])]
    go_wp2
    go_ret
    exact ⟨rfl, hB11⟩

theorem own : ownKnob Try.prog.godebug = none := by kernel_rfl
theorem laidOut : laidOutB Try.prog = true := by kernel_rfl

/-- bytealg.MaxLen's cell holds some int. -/
theorem glob {W : World} (h : W.ShapedOpen Try.prog) : Glob W :=
  cell_of_shapedOpen_int (g := 0) (t := 3) (k := .i64) (zero := #[.int .i64 0]) h (of_decide_eq_true (by kernel_rfl)) (by kernel_rfl) rfl (by kernel_rfl) (by kernel_rfl) Try.underlying3

set_option maxHeartbeats 1000000 in
set_option maxRecDepth 100000 in
theorem lifted (os : Os) (started : os.Started) (H : Type) (enc : TypeId × Value → H) (F0 : Stop.Interp) :
    ReturnsInHanded {} Try.checked os 3 .any ((OpenSpec.ofChange Rows.wholeBracketsSpec).preRow enc Try.prog Try.f3 Rows.wholeBracketsRow.domain false Rows.wholeBracketsRow.laid) (((OpenSpec.ofChange Rows.wholeBracketsSpec).at F0).post enc Try.prog Try.f3 false true false false) := by
  refine returnsInHanded_of_row (C := Try.checked) (s := (OpenSpec.ofChange Rows.wholeBracketsSpec)) own started (by kernel_rfl) Try.func3
    (witness_row_at (enc := enc) (C := Try.checked) false (World.holding Try.prog os ⟨#[], #[], []⟩) #[.agg #[.int .u64 0, .int .u64 0, .int .u64 0, .int .u64 0]] rfl (by kernel_rfl) (by kernel_rfl) (by kernel_rfl)
      (OpenSpec.preRow_of_cond 8 (x := ([.agg [.lit (.int .u64 0), .lit (.int .u64 0), .lit (.int .u64 0), .lit (.int .u64 0)]], [], [])) (by kernel_rfl) (by kernel_rfl) (fun k hk => by cases hk) (by kernel_rfl) (laidMet_of_run' 8 (by kernel_rfl) (by kernel_rfl)))) ?_
  intro W base args ds gs before hval0 hW _ _ _ _ hsh _
  have hg := glob hsh
  have hval : ∀ (j : Nat) t v, Try.f3.params[j]? = some t → args[j]? = some v → Value.okWide Try.prog W .any base t v := hval0
  have hW' := hW
  obtain ⟨p, q, hA0, hV, rfl, hfz, hnd⟩ := hW
  have hA : DataW.TrodAll enc Try.prog W 0 (fun _ => true) true Try.f3.params.toList args.toList ds p := hA0
  rw [Try.params3] at hA hval
  obtain ⟨v0, vs0, d0, ds0, p0, q0, hargs, rfl, rfl, h0, r0⟩ := trodAll_cons hA
  obtain ⟨rfl, rfl, rfl⟩ := trodAll_nil r0
  obtain rfl : args = #[v0] := by cases args; simp_all
  obtain ⟨rfl, rfl⟩ := trodVars_none hV
  have k0 := h0
  have lt0 : ∀ x ∈ p0, x.block < W.heap.size := by obtain ⟨m, hm⟩ := k0; exact DataW.trod_lt m _ _ _ hm
  obtain ⟨a0, rfl⟩ := open_set (hval 0 24 v0 rfl rfl) h0
  clear hA0 hval0
  refine (walk a0 W hg).mono fun e W' ⟨he, bel⟩ => ?_
  subst he
  exact ⟨_, rfl, _, _, _, [], _, [], hW', trodAll_mk1 (shut_bool Try.underlying4 _), (trodAll_cons_mk (Below.trod laidOut (by kernel_rfl) (of_decide_eq_true (by kernel_rfl)) k0 bel lt0) trodAll_mk0), rfl, bel.frame _, fun h => by cases h⟩

theorem over : Rows.wholeBracketsRow.holds Try.pinned (OpenSpec.ofChange Rows.wholeBracketsSpec) :=
  OpenClaim.holds_of_cond 3 Try.f3 rfl rfl rfl rfl rfl rfl rfl ⟨rfl, rfl, rfl, rfl, rfl⟩ rfl rfl rfl rfl rfl (by kernel_rfl) Try.func3 (by kernel_rfl)
    (of_decide_eq_true (by kernel_rfl)) (by unfold Func.isWrapper; first | (rw [if_pos (by decide +kernel)]; kernel_rfl) | (rw [if_neg (by decide +kernel)]; exact ⟨rfl, rfl⟩))
    (fun os started H enc _ F0 => by rw [OpenClaim.pre_eq_preRow]; exact lifted os started H enc F0)

/-- The statement. -/
theorem proved : Rows.WholeBracketsSaid := over
end wbrk

/-- The statement. -/
theorem wholeBrackets_holds : Rows.WholeBracketsSaid := wbrk.proved
end Go.Proofs.Ytolkbemclkgmmab
