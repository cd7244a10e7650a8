/- awake. -/
import Derived.Test.YtolkbemclkgmmaaRtE
import Derived.Test.YtolkbemclkgmmaaAbc
import Derived.Lib.QuietBelow
namespace Go.Proofs.Ytolkbemclkgmmaa
open Go.RowKit Go.Sort

theorem cells_regrown {w : World} {b : Nat} {p : Nat → Bool} (h : Holds4 w b p) (d : Nat) (os : Array Obj) : Holds4 (grow (redrawn w d) os) b p :=
  h.below (below_regrown w d os) h.lt

theorem eq_abc : eqB (orP noneP (spanP 97 99)) (ofP ⟨#[97, 98, 99]⟩) = true := by decide +kernel
theorem text_three : bstr (textL (mem (ofP ⟨#[93, 45, 97]⟩) 256)) = ⟨#[91, 91, 46, 45, 46, 93, 91, 46, 93, 46, 93, 97, 93]⟩ := by decide +kernel

abbrev setW (p : Nat → Bool) : Value := .agg #[.int .u64 (wd p 0 : Nat), .int .u64 (wd p 1 : Nat), .int .u64 (wd p 2 : Nat), .int .u64 (wd p 3 : Nat)]

set_option maxRecDepth 100000 in
set_option maxHeartbeats 1000000 in
theorem awake_any (w : World) (hg : Glob w) :
    Calls Try.prog 11 #[] w fun e w' => e = .returned (.bool true) ∧ Below w.heap.size w w' := by
  have hp := parse_any abcx (by decide) 0 w hg
  rw [abc_parse] at hp
  go_enter Try.func11, Try.ntmps11
  go_wp2_with fail
  refine hp.mono ?_
  rintro e w1 ⟨rfl, hb1⟩
  clear hp
  go_wp2_with fail
  have hs := holds4_new w1 (orP noneP (spanP 97 99)) 24
  have hB : Below w.heap.size w (w1.alloc (.cells #[.int .u64 (wd (orP noneP (spanP 97 99)) 0 : Nat), .int .u64 (wd (orP noneP (spanP 97 99)) 1 : Nat), .int .u64 (wd (orP noneP (spanP 97 99)) 2 : Nat), .int .u64 (wd (orP noneP (spanP 97 99)) 3 : Nat)] 24)) := hb1.alloc hb1.size _
  generalize w1.alloc (.cells #[.int .u64 (wd (orP noneP (spanP 97 99)) 0 : Nat), .int .u64 (wd (orP noneP (spanP 97 99)) 1 : Nat), .int .u64 (wd (orP noneP (spanP 97 99)) 2 : Nat), .int .u64 (wd (orP noneP (spanP 97 99)) 3 : Nat)] 24) = W at *
  clear hb1
  have ks := fun d os => (cells_regrown hs d os).1
  have s0 := fun d os => (ks d os).1
  have s1 := fun d os => (ks d os).2.1
  have s2 := fun d os => (ks d os).2.2.1
  have s3 := fun d os => (ks d os).2.2.2
  clear ks hs
  have hq : ∀ w, (binOp .eql 24 (setW (orP noneP (spanP 97 99))) (setW (ofP ⟨#[97, 98, 99]⟩))).run Try.prog w = .ok (.bool true) w := fun w => by rw [run_eql_set, eq_abc]
  have cO : Hid (∀ d os, Calls Try.prog 16 #[.string ⟨#[97, 98, 99]⟩] (grow (redrawn W d) os) fun e w'' => e = .returned (setW (ofP ⟨#[97, 98, 99]⟩)) ∧ ∃ p : Regrown, w'' = grow (redrawn W p.d) p.os) := fun d os => Calls.regrown_of (refOfD _ (by decide) _)
  have cP : Hid (∀ d os, Calls Try.prog 16 #[.string ⟨#[93, 45, 97]⟩] (grow (redrawn W d) os) fun e w'' => e = .returned (setW (ofP ⟨#[93, 45, 97]⟩)) ∧ ∃ p : Regrown, w'' = grow (redrawn W p.d) p.os) := fun d os => Calls.regrown_of (refOfD _ (by decide) _)
  have cT : Hid (∀ d os, Calls Try.prog 12 #[setW (ofP ⟨#[93, 45, 97]⟩)] (grow (redrawn W d) os) fun e w'' => e = .returned (.string ⟨#[91, 91, 46, 45, 46, 93, 91, 46, 93, 46, 93, 97, 93]⟩) ∧ ∃ p : Regrown, w'' = grow (redrawn W p.d) p.os) := fun d os => Calls.regrown_of (by have h := text_any (ofP ⟨#[93, 45, 97]⟩) (grow (redrawn W d) os); rw [text_three] at h; exact h)
  refine wp_region_quiet_below (by kernel_rfl) (by kernel_rfl) ?_
  repeat (quiet_step (first | with_reducible exact cO.out _ _ | with_reducible exact cP.out _ _ | with_reducible exact cT.out _ _))
  refine wpQuiet_nil ?_
  intro _ hw'
  obtain ⟨⟨dq, osq⟩, hw''⟩ := hw'
  subst hw''
  go_wp2
  go_ret
  exact ⟨rfl, hB.trans ((below_regrown W dq osq).mono hB.size)⟩
end Go.Proofs.Ytolkbemclkgmmaa
