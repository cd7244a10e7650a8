/- Walks: Not, Or and And on four words, at every four words. -/
import Derived.Test.YtooanbbnjiogaaaKWith
import Derived.Handy
import Derived.RegionTactic
import Derived.ChangeAlike
import Derived.BigRegion
namespace Go.Proofs.Ytooanbbnjiogaaa
open Go.RowKit

theorem u64_unsigned : ¬ IntKind.u64.signed = true := by decide


set_option maxHeartbeats 400000 in
theorem not_words (a0 a1 a2 a3 : Int) (w : World) :
    Calls Try.prog 36 #[.agg #[.int .u64 a0, .int .u64 a1, .int .u64 a2, .int .u64 a3]] w fun e w' => e = .returned (.agg #[.int .u64 (bits .xor .u64 IntKind.u64.max a0), .int .u64 (bits .xor .u64 IntKind.u64.max a1), .int .u64 (bits .xor .u64 IntKind.u64.max a2), .int .u64 (bits .xor .u64 IntKind.u64.max a3)]) ∧ Below w.heap.size w w' := by
  have i0 : ∀ w : World, (Instr.index 24 (.agg #[.int .u64 a0, .int .u64 a1, .int .u64 a2, .int .u64 a3]) (.int .i64 0)).run Try.prog w = .ok (.int .u64 a0) w := fun _ => by kernel_rfl
  have i1 : ∀ w : World, (Instr.index 24 (.agg #[.int .u64 a0, .int .u64 a1, .int .u64 a2, .int .u64 a3]) (.int .i64 1)).run Try.prog w = .ok (.int .u64 a1) w := fun _ => by kernel_rfl
  have i2 : ∀ w : World, (Instr.index 24 (.agg #[.int .u64 a0, .int .u64 a1, .int .u64 a2, .int .u64 a3]) (.int .i64 2)).run Try.prog w = .ok (.int .u64 a2) w := fun _ => by kernel_rfl
  have i3 : ∀ w : World, (Instr.index 24 (.agg #[.int .u64 a0, .int .u64 a1, .int .u64 a2, .int .u64 a3]) (.int .i64 3)).run Try.prog w = .ok (.int .u64 a3) w := fun _ => by kernel_rfl
  have hns := u64_unsigned
  go_enter Try.func36, Try.ntmps36
  go_wp2
  go_rounds 5
  exact bodyPost_ret (v := .agg #[.int .u64 (bits .xor .u64 IntKind.u64.max a0), .int .u64 (bits .xor .u64 IntKind.u64.max a1), .int .u64 (bits .xor .u64 IntKind.u64.max a2), .int .u64 (bits .xor .u64 IntKind.u64.max a3)]) (by simp [results, Try.results36, go_sem]) rfl ⟨rfl, (((Below.refl _ _).alloc (Nat.le_refl _) _).alloc (by simp) _).alloc (by simp; omega) _⟩

set_option maxHeartbeats 400000 in
theorem or_words (a0 a1 a2 a3 b0 b1 b2 b3 : Int) (w : World) :
    Calls Try.prog 62 #[.agg #[.int .u64 a0, .int .u64 a1, .int .u64 a2, .int .u64 a3], .agg #[.int .u64 b0, .int .u64 b1, .int .u64 b2, .int .u64 b3]] w fun e w' => e = .returned (.agg #[.int .u64 (bits .or .u64 a0 b0), .int .u64 (bits .or .u64 a1 b1), .int .u64 (bits .or .u64 a2 b2), .int .u64 (bits .or .u64 a3 b3)]) ∧ Below w.heap.size w w' := by
  go_enter Try.func62, Try.ntmps62
  go_wp2
  refine wp_loop_rounds 5 ?_
  rw [rounds_succ]; go_wp2; go_region; go_wp2
  rw [rounds_succ]; go_wp2; go_region; go_wp2
  rw [rounds_succ]; go_wp2; go_region; go_wp2
  rw [rounds_succ]; go_wp2; go_region; go_wp2
  rw [rounds_succ]; go_wp2
  exact bodyPost_ret (v := .agg #[.int .u64 (bits .or .u64 a0 b0), .int .u64 (bits .or .u64 a1 b1), .int .u64 (bits .or .u64 a2 b2), .int .u64 (bits .or .u64 a3 b3)]) (by simp [results, Try.results62, go_sem]) rfl ⟨rfl, by repeat (first | exact Below.refl _ _ | refine Below.drew ?_ | refine Below.alloc ?_ (by simp; try omega) _)⟩

set_option maxHeartbeats 400000 in
theorem and_words (a0 a1 a2 a3 b0 b1 b2 b3 : Int) (w : World) :
    Calls Try.prog 89 #[.agg #[.int .u64 a0, .int .u64 a1, .int .u64 a2, .int .u64 a3], .agg #[.int .u64 b0, .int .u64 b1, .int .u64 b2, .int .u64 b3]] w fun e w' => e = .returned (.agg #[.int .u64 (bits .and .u64 a0 b0), .int .u64 (bits .and .u64 a1 b1), .int .u64 (bits .and .u64 a2 b2), .int .u64 (bits .and .u64 a3 b3)]) ∧ Below w.heap.size w w' := by
  go_enter Try.func89, Try.ntmps89
  go_wp2
  refine wp_loop_rounds 5 ?_
  rw [rounds_succ]; go_wp2; go_region; go_wp2
  rw [rounds_succ]; go_wp2; go_region; go_wp2
  rw [rounds_succ]; go_wp2; go_region; go_wp2
  rw [rounds_succ]; go_wp2; go_region; go_wp2
  rw [rounds_succ]; go_wp2
  exact bodyPost_ret (v := .agg #[.int .u64 (bits .and .u64 a0 b0), .int .u64 (bits .and .u64 a1 b1), .int .u64 (bits .and .u64 a2 b2), .int .u64 (bits .and .u64 a3 b3)]) (by simp [results, Try.results89, go_sem]) rfl ⟨rfl, by repeat (first | exact Below.refl _ _ | refine Below.drew ?_ | refine Below.alloc ?_ (by simp; try omega) _)⟩

theorem wd_not (p : Nat → Bool) (i : Nat) : bits .xor .u64 IntKind.u64.max (wd p i : Nat) = (wd (fun n => !p n) i : Nat) := by
  have e : IntKind.u64.max = ((18446744073709551615 : Nat) : Int) := by decide
  rw [e, u64_xor_nat _ _ (by omega) (wd_lt p i)]
  congr 1
  apply nat_eq_wd
  · exact Nat.xor_lt_two_pow (n := 64) (by omega) (wd_lt p i)
  · intro j hj
    rw [Nat.testBit_xor, wd_testBit p i j hj, show (18446744073709551615 : Nat) = 2 ^ 64 - 1 by decide, Nat.testBit_two_pow_sub_one]
    simp [hj]

theorem wd_or (p q : Nat → Bool) (i : Nat) : bits .or .u64 (wd p i : Nat) (wd q i : Nat) = (wd (fun n => p n || q n) i : Nat) := by
  rw [u64_or_nat _ _ (wd_lt p i) (wd_lt q i)]
  congr 1
  apply nat_eq_wd
  · exact Nat.or_lt_two_pow (n := 64) (wd_lt p i) (wd_lt q i)
  · intro j hj
    rw [Nat.testBit_or, wd_testBit p i j hj, wd_testBit q i j hj]

theorem wd_and (p q : Nat → Bool) (i : Nat) : bits .and .u64 (wd p i : Nat) (wd q i : Nat) = (wd (fun n => p n && q n) i : Nat) := by
  rw [u64_and_nat _ _ (wd_lt p i) (wd_lt q i)]
  congr 1
  apply nat_eq_wd
  · exact Nat.and_lt_two_pow (n := 64) _ (wd_lt q i)
  · intro j hj
    rw [Nat.testBit_and, wd_testBit p i j hj, wd_testBit q i j hj]

theorem not_any (p : Nat → Bool) (w : World) : Calls Try.prog 36 #[.agg #[.int .u64 (wd p 0 : Nat), .int .u64 (wd p 1 : Nat), .int .u64 (wd p 2 : Nat), .int .u64 (wd p 3 : Nat)]] w fun e w' => ∃ q, e = .returned (.agg #[.int .u64 (wd q 0 : Nat), .int .u64 (wd q 1 : Nat), .int .u64 (wd q 2 : Nat), .int .u64 (wd q 3 : Nat)]) ∧ Is q (fun n => !p n) ∧ Below w.heap.size w w' := by
  have h := not_words (wd p 0 : Nat) (wd p 1 : Nat) (wd p 2 : Nat) (wd p 3 : Nat) w
  rw [wd_not, wd_not, wd_not, wd_not] at h
  exact h.mono fun _ _ ⟨he, hb⟩ => ⟨_, he, Is.refl _, hb⟩

theorem or_any (p r : Nat → Bool) (w : World) : Calls Try.prog 62 #[.agg #[.int .u64 (wd p 0 : Nat), .int .u64 (wd p 1 : Nat), .int .u64 (wd p 2 : Nat), .int .u64 (wd p 3 : Nat)], .agg #[.int .u64 (wd r 0 : Nat), .int .u64 (wd r 1 : Nat), .int .u64 (wd r 2 : Nat), .int .u64 (wd r 3 : Nat)]] w fun e w' => ∃ q, e = .returned (.agg #[.int .u64 (wd q 0 : Nat), .int .u64 (wd q 1 : Nat), .int .u64 (wd q 2 : Nat), .int .u64 (wd q 3 : Nat)]) ∧ Is q (fun n => p n || r n) ∧ Below w.heap.size w w' := by
  have h := or_words (wd p 0 : Nat) (wd p 1 : Nat) (wd p 2 : Nat) (wd p 3 : Nat) (wd r 0 : Nat) (wd r 1 : Nat) (wd r 2 : Nat) (wd r 3 : Nat) w
  rw [wd_or, wd_or, wd_or, wd_or] at h
  exact h.mono fun _ _ ⟨he, hb⟩ => ⟨_, he, Is.refl _, hb⟩

theorem and_any (p r : Nat → Bool) (w : World) : Calls Try.prog 89 #[.agg #[.int .u64 (wd p 0 : Nat), .int .u64 (wd p 1 : Nat), .int .u64 (wd p 2 : Nat), .int .u64 (wd p 3 : Nat)], .agg #[.int .u64 (wd r 0 : Nat), .int .u64 (wd r 1 : Nat), .int .u64 (wd r 2 : Nat), .int .u64 (wd r 3 : Nat)]] w fun e w' => ∃ q, e = .returned (.agg #[.int .u64 (wd q 0 : Nat), .int .u64 (wd q 1 : Nat), .int .u64 (wd q 2 : Nat), .int .u64 (wd q 3 : Nat)]) ∧ Is q (fun n => p n && r n) ∧ Below w.heap.size w w' := by
  have h := and_words (wd p 0 : Nat) (wd p 1 : Nat) (wd p 2 : Nat) (wd p 3 : Nat) (wd r 0 : Nat) (wd r 1 : Nat) (wd r 2 : Nat) (wd r 3 : Nat) w
  rw [wd_and, wd_and, wd_and, wd_and] at h
  exact h.mono fun _ _ ⟨he, hb⟩ => ⟨_, he, Is.refl _, hb⟩

theorem withE (p : Nat → Bool) (x : Int) (h0 : 0 ≤ x) (h1 : x < 256) (w : World) : Calls Try.prog 63 #[.agg #[.int .u64 (wd p 0 : Nat), .int .u64 (wd p 1 : Nat), .int .u64 (wd p 2 : Nat), .int .u64 (wd p 3 : Nat)], .int .u8 x] w fun e w' => ∃ q, e = .returned (.agg #[.int .u64 (wd q 0 : Nat), .int .u64 (wd q 1 : Nat), .int .u64 (wd q 2 : Nat), .int .u64 (wd q 3 : Nat)]) ∧ Is q (ins p x.toNat) ∧ Below w.heap.size w w' :=
  (with_any p x h0 h1 w).mono fun _ _ ⟨he, hb⟩ => ⟨_, he, Is.refl _, hb⟩

theorem refWithE (p : Nat → Bool) (x : Int) (h0 : 0 ≤ x) (h1 : x < 256) (w : World) : Calls Try.prog 23 #[.agg #[.int .u64 (wd p 0 : Nat), .int .u64 (wd p 1 : Nat), .int .u64 (wd p 2 : Nat), .int .u64 (wd p 3 : Nat)], .int .i64 x] w fun e w' => ∃ q, e = .returned (.agg #[.int .u64 (wd q 0 : Nat), .int .u64 (wd q 1 : Nat), .int .u64 (wd q 2 : Nat), .int .u64 (wd q 3 : Nat)]) ∧ Is q (ins p x.toNat) ∧ Below w.heap.size w w' :=
  (refWith_any p x h0 h1 w).mono fun _ _ ⟨he, hb⟩ => ⟨_, he, Is.refl _, hb⟩
end Go.Proofs.Ytooanbbnjiogaaa
