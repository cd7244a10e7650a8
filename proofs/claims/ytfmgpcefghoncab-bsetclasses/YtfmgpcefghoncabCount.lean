/- Walks: Count: the number of a set's bytes, at every set. -/
import Derived.Test.YtfmgpcefghoncabDet
import Derived.Test.YtfmgpcefghoncabPop
namespace Go.Proofs.Ytfmgpcefghoncab
open Go.RowKit

set_option maxHeartbeats 400000 in
theorem ones_core (x y z u v t s r : Int)
    (e1 : IntKind.u64.wrap (bits .and .u64 (x / 2) 6148914691236517205 + bits .and .u64 x 6148914691236517205) = y)
    (e2 : IntKind.u64.wrap (bits .and .u64 (y / 4) 3689348814741910323 + bits .and .u64 y 3689348814741910323) = z)
    (e3 : bits .and .u64 (IntKind.u64.wrap (z / 16 + z)) 1085102592571150095 = u)
    (e4 : IntKind.u64.wrap (u + u / 256) = v) (e5 : IntKind.u64.wrap (v + v / 65536) = t) (e6 : IntKind.u64.wrap (t + t / 4294967296) = s)
    (e7 : bits .and .i64 (wrap64 s) 127 = r) (w : World) :
    Calls Try.prog 33 #[.int .u64 x] w fun e w' => e = .returned (.int .i64 r) ∧ w' = w := by
  go_enter Try.func33, Try.ntmps33
  go_wp2
  go_ret
  exact ⟨rfl, rfl⟩

theorem rep85 : rep 85 8 = 6148914691236517205 := by decide
theorem rep51 : rep 51 8 = 3689348814741910323 := by decide
theorem rep15 : rep 15 8 = 1085102592571150095 := by decide

theorem wrapu (n : Nat) (h : n < 18446744073709551616) : IntKind.u64.wrap (n : Int) = (n : Int) := by
  rw [IntKind.wrap_u64]; omega

theorem ones_any (x : Nat) (hx : x < 18446744073709551616) (w : World) :
    Calls Try.prog 33 #[.int .u64 (x : Nat)] w fun e w' => e = .returned (.int .i64 (pc 64 x : Nat)) ∧ w' = w := by
  obtain ⟨u, hu, hu1, hu2, hu3, hu4⟩ := halves x
  have l1 : ∀ a, a &&& 6148914691236517205 ≤ 6148914691236517205 := fun a => Nat.and_le_right
  have l2 : ∀ a, a &&& 3689348814741910323 ≤ 3689348814741910323 := fun a => Nat.and_le_right
  have y1 : s1 6148914691236517205 x < 18446744073709551616 := by
    have p := l1 (x / 2); have q := l1 x; unfold s1; omega
  have f1 : IntKind.u64.wrap (bits .and .u64 ((x : Int) / 2) 6148914691236517205 + bits .and .u64 (x : Int) 6148914691236517205) = (s1 6148914691236517205 x : Nat) := by
    have a := u64_and_nat (x / 2) 6148914691236517205 (by omega) (by omega)
    have b := u64_and_nat x 6148914691236517205 hx (by omega)
    rw [show ((x / 2 : Nat) : Int) = (x : Int) / 2 from by omega] at a
    rw [show ((6148914691236517205 : Nat) : Int) = 6148914691236517205 from rfl] at a b
    rw [a, b, ← Int.natCast_add]
    exact wrapu _ y1
  generalize hy : s1 6148914691236517205 x = y at *
  have z1 : s2 3689348814741910323 y < 8301034833169298228 := by
    have p := l2 (y / 4); have q := l2 y; unfold s2; omega
  have f2 : IntKind.u64.wrap (bits .and .u64 ((y : Int) / 4) 3689348814741910323 + bits .and .u64 (y : Int) 3689348814741910323) = (s2 3689348814741910323 y : Nat) := by
    have a := u64_and_nat (y / 4) 3689348814741910323 (by omega) (by omega)
    have b := u64_and_nat y 3689348814741910323 y1 (by omega)
    rw [show ((y / 4 : Nat) : Int) = (y : Int) / 4 from by omega] at a
    rw [show ((3689348814741910323 : Nat) : Int) = 3689348814741910323 from rfl] at a b
    rw [a, b, ← Int.natCast_add]
    exact wrapu _ (by unfold s2 at z1; omega)
  generalize hz : s2 3689348814741910323 y = z at *
  have f3 : bits .and .u64 (IntKind.u64.wrap ((z : Int) / 16 + (z : Int))) 1085102592571150095 = (u : Nat) := by
    have c := s123 8 x
    rw [rep85, rep51, rep15, hy, hz, hu] at c
    have b := u64_and_nat (z / 16 + z) 1085102592571150095 (by omega) (by omega)
    rw [show ((z / 16 + z : Nat) : Int) = (z : Int) / 16 + (z : Int) from by omega, show ((1085102592571150095 : Nat) : Int) = 1085102592571150095 from rfl] at b
    have d := wrapu (z / 16 + z) (by omega)
    rw [show ((z / 16 + z : Nat) : Int) = (z : Int) / 16 + (z : Int) from by omega] at d
    rw [d, b]
    unfold s3 at c
    rw [c]
  have f4 : IntKind.u64.wrap ((u : Int) + (u : Int) / 256) = (u + u / 256 : Nat) := by
    have d := wrapu (u + u / 256) (by omega)
    rw [← d]; congr 1
  generalize hv : u + u / 256 = v at *
  have f5 : IntKind.u64.wrap ((v : Int) + (v : Int) / 65536) = (v + v / 65536 : Nat) := by
    have d := wrapu (v + v / 65536) (by omega)
    rw [← d]; congr 1
  generalize ht : v + v / 65536 = t at *
  have f6 : IntKind.u64.wrap ((t : Int) + (t : Int) / 4294967296) = (t + t / 4294967296 : Nat) := by
    have d := wrapu (t + t / 4294967296) (by omega)
    rw [← d]; congr 1
  generalize hs : t + t / 4294967296 = s at *
  have f7 : bits .and .i64 (wrap64 (s : Int)) 127 = (pc 64 x : Nat) := by
    have d : wrap64 (s : Int) = (s : Int) := by unfold wrap64; omega
    rw [d, i64_and127, ← hu3]
    omega
  exact ones_core x y z u v t s _ f1 f2 f3 f4 f5 f6 f7 w

/-- How many bytes a set has. -/
def card (p : Nat → Bool) : Nat := ((List.range 256).filter p).length

theorem card_part (p : Nat → Bool) (k : Nat) : (((List.range 64).map (fun j => 64 * k + j)).filter p).length = pc 64 (wd p k) := by
  unfold pc
  rw [List.filter_map, List.length_map]
  congr 1
  apply List.filter_congr
  intro j hj
  rw [List.mem_range] at hj
  rw [wd_testBit p k j hj]; rfl

theorem card_words (p : Nat → Bool) : card p = pc 64 (wd p 0) + pc 64 (wd p 1) + pc 64 (wd p 2) + pc 64 (wd p 3) := by
  have h : List.range 256 = ((List.range 64).map (fun j => 64 * 0 + j)) ++ ((List.range 64).map (fun j => 64 * 1 + j)) ++ ((List.range 64).map (fun j => 64 * 2 + j)) ++ ((List.range 64).map (fun j => 64 * 3 + j)) := by decide +kernel
  unfold card
  rw [h, List.filter_append, List.filter_append, List.filter_append, List.length_append, List.length_append, List.length_append, card_part, card_part, card_part, card_part]

theorem pc_64_le (x : Nat) : pc 64 x ≤ 64 := by
  obtain ⟨_, _, _, _, _, h⟩ := halves x
  exact h

set_option maxRecDepth 100000 in
set_option maxHeartbeats 1000000 in
theorem count_words (a0 a1 a2 a3 : Nat) (h0 : a0 < 18446744073709551616) (h1 : a1 < 18446744073709551616) (h2 : a2 < 18446744073709551616) (h3 : a3 < 18446744073709551616) (w : World) :
    Calls Try.prog 25 #[.agg #[.int .u64 (a0 : Nat), .int .u64 (a1 : Nat), .int .u64 (a2 : Nat), .int .u64 (a3 : Nat)]] w fun e w' => e = .returned (.int .i64 ((pc 64 a0 + pc 64 a1 + pc 64 a2 + pc 64 a3 : Nat) : Int)) ∧ Below w.heap.size w w' := by
  have i0 : ∀ w : World, (Instr.index 24 (.agg #[.int .u64 ((a0 : Nat) : Int), .int .u64 ((a1 : Nat) : Int), .int .u64 ((a2 : Nat) : Int), .int .u64 ((a3 : Nat) : Int)]) (.int .i64 0)).run Try.prog w = .ok (.int .u64 ((a0 : Nat) : Int)) w := fun _ => by kernel_rfl
  have i1 : ∀ w : World, (Instr.index 24 (.agg #[.int .u64 ((a0 : Nat) : Int), .int .u64 ((a1 : Nat) : Int), .int .u64 ((a2 : Nat) : Int), .int .u64 ((a3 : Nat) : Int)]) (.int .i64 1)).run Try.prog w = .ok (.int .u64 ((a1 : Nat) : Int)) w := fun _ => by kernel_rfl
  have i2 : ∀ w : World, (Instr.index 24 (.agg #[.int .u64 ((a0 : Nat) : Int), .int .u64 ((a1 : Nat) : Int), .int .u64 ((a2 : Nat) : Int), .int .u64 ((a3 : Nat) : Int)]) (.int .i64 2)).run Try.prog w = .ok (.int .u64 ((a2 : Nat) : Int)) w := fun _ => by kernel_rfl
  have i3 : ∀ w : World, (Instr.index 24 (.agg #[.int .u64 ((a0 : Nat) : Int), .int .u64 ((a1 : Nat) : Int), .int .u64 ((a2 : Nat) : Int), .int .u64 ((a3 : Nat) : Int)]) (.int .i64 3)).run Try.prog w = .ok (.int .u64 ((a3 : Nat) : Int)) w := fun _ => by kernel_rfl
  have b0 := pc_64_le a0
  have b1 := pc_64_le a1
  have b2 := pc_64_le a2
  have b3 := pc_64_le a3
  have c0 := fun w => ones_any a0 h0 w
  have c1 := fun w => ones_any a1 h1 w
  have c2 := fun w => ones_any a2 h2 w
  have c3 := fun w => ones_any a3 h3 w
  generalize pc 64 a0 = n0 at *
  generalize pc 64 a1 = n1 at *
  generalize pc 64 a2 = n2 at *
  generalize pc 64 a3 = n3 at *
  have C0 : Hid _ := c0; have C1 : Hid _ := c1; have C2 : Hid _ := c2; have C3 : Hid _ := c3
  clear c0 c1 c2 c3
  go_enter Try.func25, Try.ntmps25
  go_wp2_with fail
  refine wp_loop_rounds 5 ?_
  rw [rounds_succ]; go_wp2_with fail
  refine (C0.out _).mono ?_; rintro e w1 ⟨rfl, rfl⟩
  go_wp2_with fail
  rw [rounds_succ]; go_wp2_with fail
  refine (C1.out _).mono ?_; rintro e w1 ⟨rfl, rfl⟩
  go_wp2_with fail
  rw [rounds_succ]; go_wp2_with fail
  refine (C2.out _).mono ?_; rintro e w1 ⟨rfl, rfl⟩
  go_wp2_with fail
  rw [rounds_succ]; go_wp2_with fail
  refine (C3.out _).mono ?_; rintro e w1 ⟨rfl, rfl⟩
  go_wp2_with fail
  rw [rounds_succ]; go_wp2
  go_ret
  exact ⟨by simp, (Below.refl _ _).alloc (Nat.le_refl _) _⟩

theorem countD (p : Nat → Bool) (w : World) : Calls Try.prog 25 #[.agg #[.int .u64 (wd p 0 : Nat), .int .u64 (wd p 1 : Nat), .int .u64 (wd p 2 : Nat), .int .u64 (wd p 3 : Nat)]] w fun e w' => e = .returned (.int .i64 (card p : Nat)) ∧ Below w.heap.size w w' := by
  rw [card_words]
  exact count_words _ _ _ _ (wd_lt p 0) (wd_lt p 1) (wd_lt p 2) (wd_lt p 3) w
end Go.Proofs.Ytfmgpcefghoncab
