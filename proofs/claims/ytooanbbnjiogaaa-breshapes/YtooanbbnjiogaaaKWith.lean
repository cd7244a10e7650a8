/- Walks: the two ways to put a byte into a set and the two ways to ask for one, each at every set and every byte. -/
import Derived.Test.YtooanbbnjiogaaaKPlain
import Derived.Test.YtooanbbnjiogaaaRows
import Derived.WalkKit
import Derived.WalkSpells
import Derived.WalkLawsBesides
namespace Go.Proofs.Ytooanbbnjiogaaa
open Go.RowKit

theorem or_bit (X : Nat) (hX : X < 18446744073709551616) (x : Int) (h0 : 0 ≤ x) :
    bits .or .u64 (X : Int) (IntKind.u64.wrap (2 ^ (x % 64).toNat)) = ((X ||| 2 ^ (x.toNat % 64) : Nat) : Int) := by
  obtain ⟨n, rfl⟩ := Int.eq_ofNat_of_zero_le h0
  have e : ((n : Int) % 64).toNat = n % 64 := by omega
  have hlt : 2 ^ (n % 64) < 2 ^ 64 := Nat.pow_lt_pow_right (by omega) (by omega)
  have e2 : IntKind.u64.wrap ((2 : Int) ^ (n % 64)) = ((2 ^ (n % 64) : Nat) : Int) := by
    rw [IntKind.wrap_u64]
    have : ((2 : Int) ^ (n % 64)) = ((2 ^ (n % 64) : Nat) : Int) := by simp
    rw [this]
    have h3 : ∀ y : Nat, y < 2 ^ 64 → ((y : Int) % 18446744073709551616 = y) := by intro y hy; omega
    exact h3 _ hlt
  rw [e, e2, Int.toNat_natCast]
  exact u64_or_nat X _ hX hlt

theorem and_bit (X : Nat) (hX : X < 18446744073709551616) (x : Int) (h0 : 0 ≤ x) :
    (bits .and .u64 ((X : Int) / 2 ^ (x % 64).toNat) 1 == 1) = X.testBit (x.toNat % 64) := by
  obtain ⟨n, rfl⟩ := Int.eq_ofNat_of_zero_le h0
  have e : ((n : Int) % 64).toNat = n % 64 := by omega
  have e1 : ((X : Int) / 2 ^ (n % 64)) = ((X / 2 ^ (n % 64) : Nat) : Int) := by simp
  have hle : X / 2 ^ (n % 64) ≤ X := Nat.div_le_self _ _
  have e2 := u64_and_nat (X / 2 ^ (n % 64)) 1 (by omega) (by omega)
  rw [e, e1, Int.toNat_natCast]
  rw [show ((1 : Int)) = ((1 : Nat) : Int) from rfl, e2, Nat.and_one_is_mod, Nat.testBit_eq_decide_div_mod_eq]
  rw [Bool.eq_iff_iff]
  simp only [beq_iff_eq, decide_eq_true_eq, Int.ofNat_inj]

set_option maxHeartbeats 400000 in
theorem with0 (a b c d x : Int) (h0 : 0 ≤ x) (h1 : x < 256) (hq : x / 64 = 0) (w : World) :
    Calls Try.prog 63 #[.agg #[.int .u64 a, .int .u64 b, .int .u64 c, .int .u64 d], .int .u8 x] w fun e w' => e = .returned (.agg #[.int .u64 (bits .or .u64 a (IntKind.u64.wrap (2 ^ (x % 64).toNat))), .int .u64 b, .int .u64 c, .int .u64 d]) ∧ Below w.heap.size w w' := by
  go_enter Try.func63, Try.ntmps63
  go_wp2
  exact bodyPost_ret (v := .agg #[.int .u64 (bits .or .u64 a (IntKind.u64.wrap (2 ^ (x % 64).toNat))), .int .u64 b, .int .u64 c, .int .u64 d]) (by simp [results, Try.results63, go_sem]) rfl ⟨rfl, ((Below.refl _ _).alloc (Nat.le_refl _) _).alloc (by simp) _⟩

set_option maxHeartbeats 400000 in
theorem with1 (a b c d x : Int) (h0 : 0 ≤ x) (h1 : x < 256) (hq : x / 64 = 1) (w : World) :
    Calls Try.prog 63 #[.agg #[.int .u64 a, .int .u64 b, .int .u64 c, .int .u64 d], .int .u8 x] w fun e w' => e = .returned (.agg #[.int .u64 a, .int .u64 (bits .or .u64 b (IntKind.u64.wrap (2 ^ (x % 64).toNat))), .int .u64 c, .int .u64 d]) ∧ Below w.heap.size w w' := by
  go_enter Try.func63, Try.ntmps63
  go_wp2
  exact bodyPost_ret (v := .agg #[.int .u64 a, .int .u64 (bits .or .u64 b (IntKind.u64.wrap (2 ^ (x % 64).toNat))), .int .u64 c, .int .u64 d]) (by simp [results, Try.results63, go_sem]) rfl ⟨rfl, ((Below.refl _ _).alloc (Nat.le_refl _) _).alloc (by simp) _⟩

set_option maxHeartbeats 400000 in
theorem with2 (a b c d x : Int) (h0 : 0 ≤ x) (h1 : x < 256) (hq : x / 64 = 2) (w : World) :
    Calls Try.prog 63 #[.agg #[.int .u64 a, .int .u64 b, .int .u64 c, .int .u64 d], .int .u8 x] w fun e w' => e = .returned (.agg #[.int .u64 a, .int .u64 b, .int .u64 (bits .or .u64 c (IntKind.u64.wrap (2 ^ (x % 64).toNat))), .int .u64 d]) ∧ Below w.heap.size w w' := by
  go_enter Try.func63, Try.ntmps63
  go_wp2
  exact bodyPost_ret (v := .agg #[.int .u64 a, .int .u64 b, .int .u64 (bits .or .u64 c (IntKind.u64.wrap (2 ^ (x % 64).toNat))), .int .u64 d]) (by simp [results, Try.results63, go_sem]) rfl ⟨rfl, ((Below.refl _ _).alloc (Nat.le_refl _) _).alloc (by simp) _⟩

set_option maxHeartbeats 400000 in
theorem with3 (a b c d x : Int) (h0 : 0 ≤ x) (h1 : x < 256) (hq : x / 64 = 3) (w : World) :
    Calls Try.prog 63 #[.agg #[.int .u64 a, .int .u64 b, .int .u64 c, .int .u64 d], .int .u8 x] w fun e w' => e = .returned (.agg #[.int .u64 a, .int .u64 b, .int .u64 c, .int .u64 (bits .or .u64 d (IntKind.u64.wrap (2 ^ (x % 64).toNat)))]) ∧ Below w.heap.size w w' := by
  go_enter Try.func63, Try.ntmps63
  go_wp2
  exact bodyPost_ret (v := .agg #[.int .u64 a, .int .u64 b, .int .u64 c, .int .u64 (bits .or .u64 d (IntKind.u64.wrap (2 ^ (x % 64).toNat)))]) (by simp [results, Try.results63, go_sem]) rfl ⟨rfl, ((Below.refl _ _).alloc (Nat.le_refl _) _).alloc (by simp) _⟩

theorem with_any (p : Nat → Bool) (x : Int) (h0 : 0 ≤ x) (h1 : x < 256) (w : World) :
    Calls Try.prog 63 #[.agg #[.int .u64 (wd p 0 : Nat), .int .u64 (wd p 1 : Nat), .int .u64 (wd p 2 : Nat), .int .u64 (wd p 3 : Nat)], .int .u8 x] w fun e w' => e = .returned (.agg #[.int .u64 (wd (ins p x.toNat) 0 : Nat), .int .u64 (wd (ins p x.toNat) 1 : Nat), .int .u64 (wd (ins p x.toNat) 2 : Nat), .int .u64 (wd (ins p x.toNat) 3 : Nat)]) ∧ Below w.heap.size w w' := by
  have hq : x / 64 = 0 ∨ x / 64 = 1 ∨ x / 64 = 2 ∨ x / 64 = 3 := by omega
  rcases hq with hq | hq | hq | hq
  · rw [wd_ins_same p x.toNat 0 (by omega), ← or_bit (wd p 0) (wd_lt p 0) x h0, wd_ins_other p x.toNat 1 (by omega), wd_ins_other p x.toNat 2 (by omega), wd_ins_other p x.toNat 3 (by omega)]
    exact with0 _ _ _ _ x h0 h1 hq w
  · rw [wd_ins_other p x.toNat 0 (by omega), wd_ins_same p x.toNat 1 (by omega), ← or_bit (wd p 1) (wd_lt p 1) x h0, wd_ins_other p x.toNat 2 (by omega), wd_ins_other p x.toNat 3 (by omega)]
    exact with1 _ _ _ _ x h0 h1 hq w
  · rw [wd_ins_other p x.toNat 0 (by omega), wd_ins_other p x.toNat 1 (by omega), wd_ins_same p x.toNat 2 (by omega), ← or_bit (wd p 2) (wd_lt p 2) x h0, wd_ins_other p x.toNat 3 (by omega)]
    exact with2 _ _ _ _ x h0 h1 hq w
  · rw [wd_ins_other p x.toNat 0 (by omega), wd_ins_other p x.toNat 1 (by omega), wd_ins_other p x.toNat 2 (by omega), wd_ins_same p x.toNat 3 (by omega), ← or_bit (wd p 3) (wd_lt p 3) x h0]
    exact with3 _ _ _ _ x h0 h1 hq w

set_option maxHeartbeats 400000 in
theorem refWith0 (a b c d x : Int) (h0 : 0 ≤ x) (h1 : x < 256) (hq : x / 64 = 0) (w : World) :
    Calls Try.prog 23 #[.agg #[.int .u64 a, .int .u64 b, .int .u64 c, .int .u64 d], .int .i64 x] w fun e w' => e = .returned (.agg #[.int .u64 (bits .or .u64 a (IntKind.u64.wrap (2 ^ (x % 64).toNat))), .int .u64 b, .int .u64 c, .int .u64 d]) ∧ Below w.heap.size w w' := by
  go_enter Try.func23, Try.ntmps23
  go_wp2
  exact bodyPost_ret (v := .agg #[.int .u64 (bits .or .u64 a (IntKind.u64.wrap (2 ^ (x % 64).toNat))), .int .u64 b, .int .u64 c, .int .u64 d]) (by simp [results, Try.results23, go_sem]) rfl ⟨rfl, ((Below.refl _ _).alloc (Nat.le_refl _) _).alloc (by simp) _⟩

set_option maxHeartbeats 400000 in
theorem refWith1 (a b c d x : Int) (h0 : 0 ≤ x) (h1 : x < 256) (hq : x / 64 = 1) (w : World) :
    Calls Try.prog 23 #[.agg #[.int .u64 a, .int .u64 b, .int .u64 c, .int .u64 d], .int .i64 x] w fun e w' => e = .returned (.agg #[.int .u64 a, .int .u64 (bits .or .u64 b (IntKind.u64.wrap (2 ^ (x % 64).toNat))), .int .u64 c, .int .u64 d]) ∧ Below w.heap.size w w' := by
  go_enter Try.func23, Try.ntmps23
  go_wp2
  exact bodyPost_ret (v := .agg #[.int .u64 a, .int .u64 (bits .or .u64 b (IntKind.u64.wrap (2 ^ (x % 64).toNat))), .int .u64 c, .int .u64 d]) (by simp [results, Try.results23, go_sem]) rfl ⟨rfl, ((Below.refl _ _).alloc (Nat.le_refl _) _).alloc (by simp) _⟩

set_option maxHeartbeats 400000 in
theorem refWith2 (a b c d x : Int) (h0 : 0 ≤ x) (h1 : x < 256) (hq : x / 64 = 2) (w : World) :
    Calls Try.prog 23 #[.agg #[.int .u64 a, .int .u64 b, .int .u64 c, .int .u64 d], .int .i64 x] w fun e w' => e = .returned (.agg #[.int .u64 a, .int .u64 b, .int .u64 (bits .or .u64 c (IntKind.u64.wrap (2 ^ (x % 64).toNat))), .int .u64 d]) ∧ Below w.heap.size w w' := by
  go_enter Try.func23, Try.ntmps23
  go_wp2
  exact bodyPost_ret (v := .agg #[.int .u64 a, .int .u64 b, .int .u64 (bits .or .u64 c (IntKind.u64.wrap (2 ^ (x % 64).toNat))), .int .u64 d]) (by simp [results, Try.results23, go_sem]) rfl ⟨rfl, ((Below.refl _ _).alloc (Nat.le_refl _) _).alloc (by simp) _⟩

set_option maxHeartbeats 400000 in
theorem refWith3 (a b c d x : Int) (h0 : 0 ≤ x) (h1 : x < 256) (hq : x / 64 = 3) (w : World) :
    Calls Try.prog 23 #[.agg #[.int .u64 a, .int .u64 b, .int .u64 c, .int .u64 d], .int .i64 x] w fun e w' => e = .returned (.agg #[.int .u64 a, .int .u64 b, .int .u64 c, .int .u64 (bits .or .u64 d (IntKind.u64.wrap (2 ^ (x % 64).toNat)))]) ∧ Below w.heap.size w w' := by
  go_enter Try.func23, Try.ntmps23
  go_wp2
  exact bodyPost_ret (v := .agg #[.int .u64 a, .int .u64 b, .int .u64 c, .int .u64 (bits .or .u64 d (IntKind.u64.wrap (2 ^ (x % 64).toNat)))]) (by simp [results, Try.results23, go_sem]) rfl ⟨rfl, ((Below.refl _ _).alloc (Nat.le_refl _) _).alloc (by simp) _⟩

theorem refWith_any (p : Nat → Bool) (x : Int) (h0 : 0 ≤ x) (h1 : x < 256) (w : World) :
    Calls Try.prog 23 #[.agg #[.int .u64 (wd p 0 : Nat), .int .u64 (wd p 1 : Nat), .int .u64 (wd p 2 : Nat), .int .u64 (wd p 3 : Nat)], .int .i64 x] w fun e w' => e = .returned (.agg #[.int .u64 (wd (ins p x.toNat) 0 : Nat), .int .u64 (wd (ins p x.toNat) 1 : Nat), .int .u64 (wd (ins p x.toNat) 2 : Nat), .int .u64 (wd (ins p x.toNat) 3 : Nat)]) ∧ Below w.heap.size w w' := by
  have hq : x / 64 = 0 ∨ x / 64 = 1 ∨ x / 64 = 2 ∨ x / 64 = 3 := by omega
  rcases hq with hq | hq | hq | hq
  · rw [wd_ins_same p x.toNat 0 (by omega), ← or_bit (wd p 0) (wd_lt p 0) x h0, wd_ins_other p x.toNat 1 (by omega), wd_ins_other p x.toNat 2 (by omega), wd_ins_other p x.toNat 3 (by omega)]
    exact refWith0 _ _ _ _ x h0 h1 hq w
  · rw [wd_ins_other p x.toNat 0 (by omega), wd_ins_same p x.toNat 1 (by omega), ← or_bit (wd p 1) (wd_lt p 1) x h0, wd_ins_other p x.toNat 2 (by omega), wd_ins_other p x.toNat 3 (by omega)]
    exact refWith1 _ _ _ _ x h0 h1 hq w
  · rw [wd_ins_other p x.toNat 0 (by omega), wd_ins_other p x.toNat 1 (by omega), wd_ins_same p x.toNat 2 (by omega), ← or_bit (wd p 2) (wd_lt p 2) x h0, wd_ins_other p x.toNat 3 (by omega)]
    exact refWith2 _ _ _ _ x h0 h1 hq w
  · rw [wd_ins_other p x.toNat 0 (by omega), wd_ins_other p x.toNat 1 (by omega), wd_ins_other p x.toNat 2 (by omega), wd_ins_same p x.toNat 3 (by omega), ← or_bit (wd p 3) (wd_lt p 3) x h0]
    exact refWith3 _ _ _ _ x h0 h1 hq w

set_option maxHeartbeats 400000 in
theorem refHas0 (a b c d x : Int) (h0 : 0 ≤ x) (h1 : x < 256) (hq : x / 64 = 0) (w : World) :
    Calls Try.prog 56 #[.agg #[.int .u64 a, .int .u64 b, .int .u64 c, .int .u64 d], .int .i64 x] w fun e w' => e = .returned (.bool (bits .and .u64 (a / 2 ^ (x % 64).toNat) 1 == 1)) ∧ Below w.heap.size w w' := by
  go_enter Try.func56, Try.ntmps56
  go_wp2
  go_ret
  exact ⟨rfl, (Below.refl _ _).alloc (Nat.le_refl _) _⟩

set_option maxHeartbeats 400000 in
theorem refHas1 (a b c d x : Int) (h0 : 0 ≤ x) (h1 : x < 256) (hq : x / 64 = 1) (w : World) :
    Calls Try.prog 56 #[.agg #[.int .u64 a, .int .u64 b, .int .u64 c, .int .u64 d], .int .i64 x] w fun e w' => e = .returned (.bool (bits .and .u64 (b / 2 ^ (x % 64).toNat) 1 == 1)) ∧ Below w.heap.size w w' := by
  go_enter Try.func56, Try.ntmps56
  go_wp2
  go_ret
  exact ⟨rfl, (Below.refl _ _).alloc (Nat.le_refl _) _⟩

set_option maxHeartbeats 400000 in
theorem refHas2 (a b c d x : Int) (h0 : 0 ≤ x) (h1 : x < 256) (hq : x / 64 = 2) (w : World) :
    Calls Try.prog 56 #[.agg #[.int .u64 a, .int .u64 b, .int .u64 c, .int .u64 d], .int .i64 x] w fun e w' => e = .returned (.bool (bits .and .u64 (c / 2 ^ (x % 64).toNat) 1 == 1)) ∧ Below w.heap.size w w' := by
  go_enter Try.func56, Try.ntmps56
  go_wp2
  go_ret
  exact ⟨rfl, (Below.refl _ _).alloc (Nat.le_refl _) _⟩

set_option maxHeartbeats 400000 in
theorem refHas3 (a b c d x : Int) (h0 : 0 ≤ x) (h1 : x < 256) (hq : x / 64 = 3) (w : World) :
    Calls Try.prog 56 #[.agg #[.int .u64 a, .int .u64 b, .int .u64 c, .int .u64 d], .int .i64 x] w fun e w' => e = .returned (.bool (bits .and .u64 (d / 2 ^ (x % 64).toNat) 1 == 1)) ∧ Below w.heap.size w w' := by
  go_enter Try.func56, Try.ntmps56
  go_wp2
  go_ret
  exact ⟨rfl, (Below.refl _ _).alloc (Nat.le_refl _) _⟩

theorem refHas_any (p : Nat → Bool) (x : Int) (h0 : 0 ≤ x) (h1 : x < 256) (w : World) :
    Calls Try.prog 56 #[.agg #[.int .u64 (wd p 0 : Nat), .int .u64 (wd p 1 : Nat), .int .u64 (wd p 2 : Nat), .int .u64 (wd p 3 : Nat)], .int .i64 x] w fun e w' => e = .returned (.bool (p x.toNat)) ∧ Below w.heap.size w w' := by
  have hq : x / 64 = 0 ∨ x / 64 = 1 ∨ x / 64 = 2 ∨ x / 64 = 3 := by omega
  rcases hq with hq | hq | hq | hq
  · have hb : p x.toNat = (wd p 0).testBit (x.toNat % 64) := by rw [wd_testBit p 0 _ (by omega), show 64 * 0 + x.toNat % 64 = x.toNat by omega]
    rw [hb, ← and_bit (wd p 0) (wd_lt p 0) x h0]
    exact refHas0 _ _ _ _ x h0 h1 hq w
  · have hb : p x.toNat = (wd p 1).testBit (x.toNat % 64) := by rw [wd_testBit p 1 _ (by omega), show 64 * 1 + x.toNat % 64 = x.toNat by omega]
    rw [hb, ← and_bit (wd p 1) (wd_lt p 1) x h0]
    exact refHas1 _ _ _ _ x h0 h1 hq w
  · have hb : p x.toNat = (wd p 2).testBit (x.toNat % 64) := by rw [wd_testBit p 2 _ (by omega), show 64 * 2 + x.toNat % 64 = x.toNat by omega]
    rw [hb, ← and_bit (wd p 2) (wd_lt p 2) x h0]
    exact refHas2 _ _ _ _ x h0 h1 hq w
  · have hb : p x.toNat = (wd p 3).testBit (x.toNat % 64) := by rw [wd_testBit p 3 _ (by omega), show 64 * 3 + x.toNat % 64 = x.toNat by omega]
    rw [hb, ← and_bit (wd p 3) (wd_lt p 3) x h0]
    exact refHas3 _ _ _ _ x h0 h1 hq w
end Go.Proofs.Ytooanbbnjiogaaa
