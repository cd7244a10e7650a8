/- Walks: awake. -/
import Derived.Test.YtfmgpcefghoncabCount
import Derived.Lib.QuietBelow
import Derived.BigQuiet
namespace Go.Proofs.Ytfmgpcefghoncab
open Go.RowKit Go.Sort

theorem cells_regrown {w : World} {b : Nat} {p : Nat → Bool} (h : Holds4 w b p) (d : Nat) (os : Array Obj) : Holds4 (grow (redrawn w d) os) b p :=
  h.below (below_regrown w d os) h.lt

theorem eq_abc : eqB (spanP 97 99) (ofP ⟨#[99, 97, 98]⟩) = true := by decide +kernel
theorem card_digit : card (spanP 48 57) = 10 := by decide +kernel

set_option maxRecDepth 100000 in
set_option maxHeartbeats 1000000 in
theorem awake_any (hdigit : ∀ w : World, Calls Try.prog 11 #[.string ⟨#[100, 105, 103, 105, 116]⟩] w fun e w' => e = .returned (.tuple #[.agg #[.int .u64 (wd (spanP 48 57) 0 : Nat), .int .u64 (wd (spanP 48 57) 1 : Nat), .int .u64 (wd (spanP 48 57) 2 : Nat), .int .u64 (wd (spanP 48 57) 3 : Nat)], .int .i64 0]) ∧ Below w.heap.size w w') (w : World) :
    Calls Try.prog 13 #[] w fun e w' => e = .returned (.bool true) ∧ Below w.heap.size w w' := by
  have Hd : Hid _ := hdigit
  clear hdigit
  go_enter Try.func13, Try.ntmps13
  go_wp2_with fail
  refine (spanD 97 99 (by omega) (by omega) (by omega) _).mono ?_
  rintro e w1 ⟨rfl, hb1⟩
  go_wp2_with fail
  refine (Hd.out _).mono ?_
  rintro e w2 ⟨rfl, hb2⟩
  go_wp2_with fail
  have hs : Holds4 (w1.alloc (.cells #[.int .u64 (wd (spanP 97 99) 0 : Nat), .int .u64 (wd (spanP 97 99) 1 : Nat), .int .u64 (wd (spanP 97 99) 2 : Nat), .int .u64 (wd (spanP 97 99) 3 : Nat)] 24)) w1.heap.size (spanP 97 99) := holds4_new _ _ _
  replace hs := (hs.below hb2 hs.lt).alloc (.cells #[.int .u64 (wd (spanP 48 57) 0 : Nat), .int .u64 (wd (spanP 48 57) 1 : Nat), .int .u64 (wd (spanP 48 57) 2 : Nat), .int .u64 (wd (spanP 48 57) 3 : Nat)] 24)
  have hd : Holds4 (w2.alloc (.cells #[.int .u64 (wd (spanP 48 57) 0 : Nat), .int .u64 (wd (spanP 48 57) 1 : Nat), .int .u64 (wd (spanP 48 57) 2 : Nat), .int .u64 (wd (spanP 48 57) 3 : Nat)] 24)) w2.heap.size (spanP 48 57) := holds4_new _ _ _
  have hB : Below w.heap.size w w2 := (hb1.alloc hb1.size _).trans (hb2.mono (by have := hb1.size; simp; omega))
  replace hB := hB.alloc hB.size (.cells #[.int .u64 (wd (spanP 48 57) 0 : Nat), .int .u64 (wd (spanP 48 57) 1 : Nat), .int .u64 (wd (spanP 48 57) 2 : Nat), .int .u64 (wd (spanP 48 57) 3 : Nat)] 24)
  generalize w2.alloc (.cells #[.int .u64 (wd (spanP 48 57) 0 : Nat), .int .u64 (wd (spanP 48 57) 1 : Nat), .int .u64 (wd (spanP 48 57) 2 : Nat), .int .u64 (wd (spanP 48 57) 3 : Nat)] 24) = W at *
  clear hb1 hb2
  have ks := fun d os => (cells_regrown hs d os).1
  have kd := fun d os => (cells_regrown hd d os).1
  have s0 := fun d os => (ks d os).1
  have s1 := fun d os => (ks d os).2.1
  have s2 := fun d os => (ks d os).2.2.1
  have s3 := fun d os => (ks d os).2.2.2
  have d0 := fun d os => (kd d os).1
  have d1 := fun d os => (kd d os).2.1
  have d2 := fun d os => (kd d os).2.2.1
  have d3 := fun d os => (kd d os).2.2.2
  clear ks kd hs hd
  have hq : ∀ w, (binOp .eql 24 (.agg #[.int .u64 (wd (spanP 97 99) 0 : Nat), .int .u64 (wd (spanP 97 99) 1 : Nat), .int .u64 (wd (spanP 97 99) 2 : Nat), .int .u64 (wd (spanP 97 99) 3 : Nat)]) (.agg #[.int .u64 (wd (ofP ⟨#[99, 97, 98]⟩) 0 : Nat), .int .u64 (wd (ofP ⟨#[99, 97, 98]⟩) 1 : Nat), .int .u64 (wd (ofP ⟨#[99, 97, 98]⟩) 2 : Nat), .int .u64 (wd (ofP ⟨#[99, 97, 98]⟩) 3 : Nat)])).run Try.prog w = .ok (.bool true) w := fun w => by rw [run_eql_set, eq_abc]
  have cO : Hid (∀ d os, Calls Try.prog 14 #[.string ⟨#[99, 97, 98]⟩] (grow (redrawn W d) os) fun e w'' => e = .returned (.agg #[.int .u64 (wd (ofP ⟨#[99, 97, 98]⟩) 0 : Nat), .int .u64 (wd (ofP ⟨#[99, 97, 98]⟩) 1 : Nat), .int .u64 (wd (ofP ⟨#[99, 97, 98]⟩) 2 : Nat), .int .u64 (wd (ofP ⟨#[99, 97, 98]⟩) 3 : Nat)]) ∧ ∃ p : Regrown, w'' = grow (redrawn W p.d) p.os) := fun d os => Calls.regrown_of (ofD _ (by decide) _)
  have cC : Hid (∀ d os, Calls Try.prog 25 #[.agg #[.int .u64 (wd (spanP 48 57) 0 : Nat), .int .u64 (wd (spanP 48 57) 1 : Nat), .int .u64 (wd (spanP 48 57) 2 : Nat), .int .u64 (wd (spanP 48 57) 3 : Nat)]] (grow (redrawn W d) os) fun e w'' => e = .returned (.int .i64 10) ∧ ∃ p : Regrown, w'' = grow (redrawn W p.d) p.os) := fun d os => Calls.regrown_of (by have h := countD (spanP 48 57) (grow (redrawn W d) os); rw [card_digit] at h; exact h)
  have c7 : Hid (∀ d os, Calls Try.prog 23 #[.agg #[.int .u64 (wd (spanP 48 57) 0 : Nat), .int .u64 (wd (spanP 48 57) 1 : Nat), .int .u64 (wd (spanP 48 57) 2 : Nat), .int .u64 (wd (spanP 48 57) 3 : Nat)], .int .u8 55] (grow (redrawn W d) os) fun e w'' => e = .returned (.bool true) ∧ ∃ p : Regrown, w'' = grow (redrawn W p.d) p.os) := fun d os => Calls.regrown_of (has_any (spanP 48 57) 55 (by omega) (by omega) _)
  have ca : Hid (∀ d os, Calls Try.prog 23 #[.agg #[.int .u64 (wd (spanP 48 57) 0 : Nat), .int .u64 (wd (spanP 48 57) 1 : Nat), .int .u64 (wd (spanP 48 57) 2 : Nat), .int .u64 (wd (spanP 48 57) 3 : Nat)], .int .u8 97] (grow (redrawn W d) os) fun e w'' => e = .returned (.bool false) ∧ ∃ p : Regrown, w'' = grow (redrawn W p.d) p.os) := fun d os => Calls.regrown_of (has_any (spanP 48 57) 97 (by omega) (by omega) _)
  refine wp_region_quiet_below (by kernel_rfl) (by kernel_rfl) ?_
  repeat (quiet_step (first | with_reducible exact cO.out _ _ | with_reducible exact cC.out _ _ | with_reducible exact c7.out _ _ | with_reducible exact ca.out _ _))
  trace_state
  refine wpQuiet_nil ?_
  intro _ hw'
  obtain ⟨⟨dq, osq⟩, hw''⟩ := hw'
  subst hw''
  go_wp2
  go_ret
  exact ⟨rfl, hB.trans ((below_regrown W dq osq).mono hB.size)⟩
end Go.Proofs.Ytfmgpcefghoncab
