/- The plain mathematics of sets of bytes as four words: a set is told by a predicate on the numbers below 256; word i holds the bits 64 i to 64 i + 63. No Go in sight. -/
import Derived.WalkKit
import Derived.Test.YtolpakpdkheanaaRows
import Derived.WalkSpells
import Derived.WalkLawsBesides
import Derived.Handy
import Derived.RegionTactic
import Derived.ChangeAlike
import Derived.BigRegion
import Derived.Deep.RegionWith
set_option maxRecDepth 100000
set_option maxHeartbeats 400000
namespace Go.Proofs.Ytolpakpdkheanaa.br
def ofB (p : Nat → Bool) : Nat → Nat
 | 0 => 0
 | n + 1 => ofB p n + (if p n then 2 ^ n else 0)
theorem ofB_lt (p : Nat → Bool) (n : Nat) : ofB p n < 2 ^ n := by
 induction n with
 | zero => simp [ofB]
 | succ n ih =>
  unfold ofB
  rw [Nat.pow_succ]
  split <;> omega
theorem xce (p : Nat → Bool) (n j : Nat) : (ofB p n).testBit j = (decide (j < n) && p j) := by
 induction n with
 | zero => simp [ofB]
 | succ n ih =>
  unfold ofB
  have hlt := ofB_lt p n
  by_cases hp : p n = true
  ·rw [if_pos hp]
   have e : ofB p n + 2 ^ n = 2 ^ n ||| ofB p n := by
    have h1 := Nat.two_pow_add_eq_or_of_lt hlt 1
    rw [Nat.mul_one] at h1
    rw [Nat.add_comm, h1]
   rw [e, Nat.testBit_or, ih, Nat.testBit_two_pow]
   by_cases hj : j = n
   ·subst hj; simp [hp]
   ·have hj' : ¬ n = j := fun h => hj h.symm
    simp only [hj', decide_false, Bool.false_or]
    by_cases h1 : j < n
    ·simp [h1, Nat.lt_succ_of_lt h1]
    ·have h2 : ¬ j < n + 1 := by omega
     simp [h1, h2]
  ·rw [if_neg hp, Nat.add_zero, ih]
   by_cases hj : j = n
   ·subst hj; simp [hp]
   ·by_cases h1 : j < n
    ·simp [h1, Nat.lt_succ_of_lt h1]
    ·have h2 : ¬ j < n + 1 := by omega
     simp [h1, h2]
theorem xo2 (p q : Nat → Bool) (n : Nat) (h : ∀ j, j < n → p j = q j) : ofB p n = ofB q n := by
 apply Nat.eq_of_testBit_eq
 intro j
 rw [xce, xce]
 by_cases hj : j < n
 ·simp [hj, h j hj]
 ·simp [hj]
def wd (p : Nat → Bool) (i : Nat) : Nat := ofB (fun j => p (64 * i + j)) 64
theorem xea (p : Nat → Bool) (i : Nat) : wd p i < 18446744073709551616 := ofB_lt _ 64
theorem xca (p : Nat → Bool) (i j : Nat) (h : j < 64) : (wd p i).testBit j = p (64 * i + j) := by
 unfold wd; rw [xce]; simp [h]
theorem xeb (p q : Nat → Bool) (i : Nat) (h : ∀ j, j < 64 → p (64 * i + j) = q (64 * i + j)) : wd p i = wd q i := xo2 _ _ _ h
theorem xec (x : Nat) (i : Nat) (p : Nat → Bool) (hx : x < 18446744073709551616) (h : ∀ j, j < 64 → x.testBit j = p (64 * i + j)) : x = wd p i := by
 apply Nat.eq_of_testBit_eq
 intro j
 unfold wd; rw [xce]
 by_cases hj : j < 64
 ·simp [hj, h j hj]
 ·have : x.testBit j = false := Nat.testBit_lt_two_pow (Nat.lt_of_lt_of_le (show x < 2 ^ 64 from hx) (Nat.pow_le_pow_right (by omega) (by omega)))
  simp [hj, this]
def ins (p : Nat → Bool) (b : Nat) : Nat → Bool := fun n => p n || n == b
theorem xat (p : Nat → Bool) (b i : Nat) (h : b / 64 ≠ i) : wd (ins p b) i = wd p i := by
 apply xeb
 intro j hj
 unfold ins
 have : (64 * i + j == b) = false := by simp; omega
 simp [this]
theorem xc5 (p : Nat → Bool) (b i : Nat) (h : b / 64 = i) : wd (ins p b) i = wd p i ||| 2 ^ (b % 64) := by
 symm
 apply xec
 ·exact Nat.or_lt_two_pow (n := 64) (xea p i) (Nat.pow_lt_pow_right (by omega) (by omega))
 ·intro j hj
  rw [Nat.testBit_or, xca p i j hj, Nat.testBit_two_pow]
  unfold ins
  congr 1
  rw [Bool.eq_iff_iff]; simp; omega
def Is (q p : Nat → Bool) : Prop := ∀ n, n < 256 → q n = p n
theorem Is.refl (p : Nat → Bool) : Is p p := fun _ _ => rfl
theorem Is.trans {p q r : Nat → Bool} (h : Is p q) (k : Is q r) : Is p r := fun n hn => (h n hn).trans (k n hn)
theorem Is.symm {p q : Nat → Bool} (h : Is p q) : Is q p := fun n hn => (h n hn).symm
theorem xaa (i : Nat) : wd (fun _ => false) i = 0 := by
 apply Nat.eq_of_testBit_eq
 intro j
 unfold wd; rw [xce]; simp
theorem wd_Is {q p : Nat → Bool} (h : Is q p) : wd q 0 = wd p 0 ∧ wd q 1 = wd p 1 ∧ wd q 2 = wd p 2 ∧ wd q 3 = wd p 3 :=
 ⟨xeb _ _ _ fun j _ => h _ (by omega), xeb _ _ _ fun j _ => h _ (by omega), xeb _ _ _ fun j _ => h _ (by omega), xeb _ _ _ fun j _ => h _ (by omega)⟩
def upTo (k : Nat) (c : Nat → Bool) : Nat → Bool := fun n => decide (n < k) && c n
end Go.Proofs.Ytolpakpdkheanaa.br
namespace Go.Proofs.Ytolpakpdkheanaa.br
open Go.RowKit
theorem xma (X : Nat) (hX : X < 18446744073709551616) (x : Int) (h0 : 0 ≤ x) :
  bits .or .u64 (X : Int) (IntKind.u64.wrap (2 ^ (x % 64).toNat)) = ((X ||| 2 ^ (x.toNat % 64) : Nat) : Int) := by
 obtain ⟨n, rfl⟩ := Int.eq_ofNat_of_zero_le h0
 have e : ((n : Int) % 64).toNat = n % 64 := by omega
 have hlt : 2 ^ (n % 64) < 2 ^ 64 := Nat.pow_lt_pow_right (by omega) (by omega)
 have e2 : IntKind.u64.wrap ((2 : Int) ^ (n % 64)) = ((2 ^ (n % 64) : Nat) : Int) := by
  rw [IntKind.wrap_u64]
  have : ((2 : Int) ^ (n % 64)) = ((2 ^ (n % 64) : Nat) : Int) := by simp
  rw [this]
  have h3 : ∀ y : Nat, y < 2 ^ 64 → ((y : Int) % 18446744073709551616 = y) := by intro y hy; omega
  exact h3 _ hlt
 rw [e, e2, Int.toNat_natCast]
 exact u64_or_nat X _ hX hlt
theorem with0 (a b c d x : Int) (h0 : 0 ≤ x) (h1 : x < 256) (hq : x / 64 = 0) (w : World) :
  Calls Try.prog 88 #[.agg #[.int .u64 a, .int .u64 b, .int .u64 c, .int .u64 d], .int .u8 x] w fun e w' => e = .returned (.agg #[.int .u64 (bits .or .u64 a (IntKind.u64.wrap (2 ^ (x % 64).toNat))), .int .u64 b, .int .u64 c, .int .u64 d]) ∧ Below w.heap.size w w' := by
 go_enter Try.func88, Try.ntmps88
 go_wp2
 exact bodyPost_ret (v := .agg #[.int .u64 (bits .or .u64 a (IntKind.u64.wrap (2 ^ (x % 64).toNat))), .int .u64 b, .int .u64 c, .int .u64 d]) (by simp [results, Try.results88, go_sem]) rfl ⟨rfl, ((Below.refl _ _).alloc (Nat.le_refl _) _).alloc (by simp) _⟩
theorem with1 (a b c d x : Int) (h0 : 0 ≤ x) (h1 : x < 256) (hq : x / 64 = 1) (w : World) :
  Calls Try.prog 88 #[.agg #[.int .u64 a, .int .u64 b, .int .u64 c, .int .u64 d], .int .u8 x] w fun e w' => e = .returned (.agg #[.int .u64 a, .int .u64 (bits .or .u64 b (IntKind.u64.wrap (2 ^ (x % 64).toNat))), .int .u64 c, .int .u64 d]) ∧ Below w.heap.size w w' := by
 go_enter Try.func88, Try.ntmps88
 go_wp2
 exact bodyPost_ret (v := .agg #[.int .u64 a, .int .u64 (bits .or .u64 b (IntKind.u64.wrap (2 ^ (x % 64).toNat))), .int .u64 c, .int .u64 d]) (by simp [results, Try.results88, go_sem]) rfl ⟨rfl, ((Below.refl _ _).alloc (Nat.le_refl _) _).alloc (by simp) _⟩
theorem with2 (a b c d x : Int) (h0 : 0 ≤ x) (h1 : x < 256) (hq : x / 64 = 2) (w : World) :
  Calls Try.prog 88 #[.agg #[.int .u64 a, .int .u64 b, .int .u64 c, .int .u64 d], .int .u8 x] w fun e w' => e = .returned (.agg #[.int .u64 a, .int .u64 b, .int .u64 (bits .or .u64 c (IntKind.u64.wrap (2 ^ (x % 64).toNat))), .int .u64 d]) ∧ Below w.heap.size w w' := by
 go_enter Try.func88, Try.ntmps88
 go_wp2
 exact bodyPost_ret (v := .agg #[.int .u64 a, .int .u64 b, .int .u64 (bits .or .u64 c (IntKind.u64.wrap (2 ^ (x % 64).toNat))), .int .u64 d]) (by simp [results, Try.results88, go_sem]) rfl ⟨rfl, ((Below.refl _ _).alloc (Nat.le_refl _) _).alloc (by simp) _⟩
theorem with3 (a b c d x : Int) (h0 : 0 ≤ x) (h1 : x < 256) (hq : x / 64 = 3) (w : World) :
  Calls Try.prog 88 #[.agg #[.int .u64 a, .int .u64 b, .int .u64 c, .int .u64 d], .int .u8 x] w fun e w' => e = .returned (.agg #[.int .u64 a, .int .u64 b, .int .u64 c, .int .u64 (bits .or .u64 d (IntKind.u64.wrap (2 ^ (x % 64).toNat)))]) ∧ Below w.heap.size w w' := by
 go_enter Try.func88, Try.ntmps88
 go_wp2
 exact bodyPost_ret (v := .agg #[.int .u64 a, .int .u64 b, .int .u64 c, .int .u64 (bits .or .u64 d (IntKind.u64.wrap (2 ^ (x % 64).toNat)))]) (by simp [results, Try.results88, go_sem]) rfl ⟨rfl, ((Below.refl _ _).alloc (Nat.le_refl _) _).alloc (by simp) _⟩
theorem xfo (p : Nat → Bool) (x : Int) (h0 : 0 ≤ x) (h1 : x < 256) (w : World) :
  Calls Try.prog 88 #[.agg #[.int .u64 (wd p 0), .int .u64 (wd p 1), .int .u64 (wd p 2), .int .u64 (wd p 3)], .int .u8 x] w fun e w' => e = .returned (.agg #[.int .u64 (wd (ins p x.toNat) 0), .int .u64 (wd (ins p x.toNat) 1), .int .u64 (wd (ins p x.toNat) 2), .int .u64 (wd (ins p x.toNat) 3)]) ∧ Below w.heap.size w w' := by
 have hq : x / 64 = 0 ∨ x / 64 = 1 ∨ x / 64 = 2 ∨ x / 64 = 3 := by omega
 rcases hq with hq | hq | hq | hq
 ·rw [xc5 p x.toNat 0 (by omega), ← xma (wd p 0) (xea p 0) x h0, xat p x.toNat 1 (by omega), xat p x.toNat 2 (by omega), xat p x.toNat 3 (by omega)]
  exact with0 _ _ _ _ x h0 h1 hq w
 ·rw [xat p x.toNat 0 (by omega), xc5 p x.toNat 1 (by omega), ← xma (wd p 1) (xea p 1) x h0, xat p x.toNat 2 (by omega), xat p x.toNat 3 (by omega)]
  exact with1 _ _ _ _ x h0 h1 hq w
 ·rw [xat p x.toNat 0 (by omega), xat p x.toNat 1 (by omega), xc5 p x.toNat 2 (by omega), ← xma (wd p 2) (xea p 2) x h0, xat p x.toNat 3 (by omega)]
  exact with2 _ _ _ _ x h0 h1 hq w
 ·rw [xat p x.toNat 0 (by omega), xat p x.toNat 1 (by omega), xat p x.toNat 2 (by omega), xc5 p x.toNat 3 (by omega), ← xma (wd p 3) (xea p 3) x h0]
  exact with3 _ _ _ _ x h0 h1 hq w
theorem xi0 : ¬ IntKind.u64.signed = true := by decide
theorem xo3 (a0 a1 a2 a3 : Int) (w : World) :
  Calls Try.prog 41 #[.agg #[.int .u64 a0, .int .u64 a1, .int .u64 a2, .int .u64 a3]] w fun e w' => e = .returned (.agg #[.int .u64 (bits .xor .u64 IntKind.u64.max a0), .int .u64 (bits .xor .u64 IntKind.u64.max a1), .int .u64 (bits .xor .u64 IntKind.u64.max a2), .int .u64 (bits .xor .u64 IntKind.u64.max a3)]) ∧ Below w.heap.size w w' := by
 have i0 : ∀ w : World, (Instr.index 38 (.agg #[.int .u64 a0, .int .u64 a1, .int .u64 a2, .int .u64 a3]) (.int .i64 0)).run Try.prog w = .ok (.int .u64 a0) w := fun _ => by kernel_rfl
 have i1 : ∀ w : World, (Instr.index 38 (.agg #[.int .u64 a0, .int .u64 a1, .int .u64 a2, .int .u64 a3]) (.int .i64 1)).run Try.prog w = .ok (.int .u64 a1) w := fun _ => by kernel_rfl
 have i2 : ∀ w : World, (Instr.index 38 (.agg #[.int .u64 a0, .int .u64 a1, .int .u64 a2, .int .u64 a3]) (.int .i64 2)).run Try.prog w = .ok (.int .u64 a2) w := fun _ => by kernel_rfl
 have i3 : ∀ w : World, (Instr.index 38 (.agg #[.int .u64 a0, .int .u64 a1, .int .u64 a2, .int .u64 a3]) (.int .i64 3)).run Try.prog w = .ok (.int .u64 a3) w := fun _ => by kernel_rfl
 have hns := xi0
 go_enter Try.func41, Try.ntmps41
 go_wp2
 go_rounds 5
 exact bodyPost_ret (v := .agg #[.int .u64 (bits .xor .u64 IntKind.u64.max a0), .int .u64 (bits .xor .u64 IntKind.u64.max a1), .int .u64 (bits .xor .u64 IntKind.u64.max a2), .int .u64 (bits .xor .u64 IntKind.u64.max a3)]) (by simp [results, Try.results41, go_sem]) rfl ⟨rfl, (((Below.refl _ _).alloc (Nat.le_refl _) _).alloc (by simp) _).alloc (by simp; omega) _⟩
theorem or_words (a0 a1 a2 a3 b0 b1 b2 b3 : Int) (w : World) :
  Calls Try.prog 87 #[.agg #[.int .u64 a0, .int .u64 a1, .int .u64 a2, .int .u64 a3], .agg #[.int .u64 b0, .int .u64 b1, .int .u64 b2, .int .u64 b3]] w fun e w' => e = .returned (.agg #[.int .u64 (bits .or .u64 a0 b0), .int .u64 (bits .or .u64 a1 b1), .int .u64 (bits .or .u64 a2 b2), .int .u64 (bits .or .u64 a3 b3)]) ∧ Below w.heap.size w w' := by
 go_enter Try.func87, Try.ntmps87
 go_wp2
 refine wp_loop_rounds 5 ?_
 rw [rounds_succ]; go_wp2; go_region; go_wp2
 rw [rounds_succ]; go_wp2; go_region; go_wp2
 rw [rounds_succ]; go_wp2; go_region; go_wp2
 rw [rounds_succ]; go_wp2; go_region; go_wp2
 rw [rounds_succ]; go_wp2
 exact bodyPost_ret (v := .agg #[.int .u64 (bits .or .u64 a0 b0), .int .u64 (bits .or .u64 a1 b1), .int .u64 (bits .or .u64 a2 b2), .int .u64 (bits .or .u64 a3 b3)]) (by simp [results, Try.results87, go_sem]) rfl ⟨rfl, by repeat (first | exact Below.refl _ _ | refine Below.drew ?_ | refine Below.alloc ?_ (by simp; try omega) _)⟩
theorem xo4 (a0 a1 a2 a3 b0 b1 b2 b3 : Int) (w : World) :
  Calls Try.prog 108 #[.agg #[.int .u64 a0, .int .u64 a1, .int .u64 a2, .int .u64 a3], .agg #[.int .u64 b0, .int .u64 b1, .int .u64 b2, .int .u64 b3]] w fun e w' => e = .returned (.agg #[.int .u64 (bits .and .u64 a0 b0), .int .u64 (bits .and .u64 a1 b1), .int .u64 (bits .and .u64 a2 b2), .int .u64 (bits .and .u64 a3 b3)]) ∧ Below w.heap.size w w' := by
 go_enter Try.func108, Try.ntmps108
 go_wp2
 refine wp_loop_rounds 5 ?_
 rw [rounds_succ]; go_wp2; go_region; go_wp2
 rw [rounds_succ]; go_wp2; go_region; go_wp2
 rw [rounds_succ]; go_wp2; go_region; go_wp2
 rw [rounds_succ]; go_wp2; go_region; go_wp2
 rw [rounds_succ]; go_wp2
 exact bodyPost_ret (v := .agg #[.int .u64 (bits .and .u64 a0 b0), .int .u64 (bits .and .u64 a1 b1), .int .u64 (bits .and .u64 a2 b2), .int .u64 (bits .and .u64 a3 b3)]) (by simp [results, Try.results108, go_sem]) rfl ⟨rfl, by repeat (first | exact Below.refl _ _ | refine Below.drew ?_ | refine Below.alloc ?_ (by simp; try omega) _)⟩
theorem xmb (p : Nat → Bool) (i : Nat) : bits .xor .u64 IntKind.u64.max (wd p i : Nat) = (wd (fun n => !p n) i : Nat) := by
 have e : IntKind.u64.max = ((18446744073709551615 : Nat) : Int) := by decide
 rw [e, u64_xor_nat _ _ (by omega) (xea p i)]
 congr 1
 apply xec
 ·exact Nat.xor_lt_two_pow (n := 64) (by omega) (xea p i)
 ·intro j hj
  rw [Nat.testBit_xor, xca p i j hj, show (18446744073709551615 : Nat) = 2 ^ 64 - 1 by decide, Nat.testBit_two_pow_sub_one]
  simp [hj]
theorem wd_or (p q : Nat → Bool) (i : Nat) : bits .or .u64 (wd p i) (wd q i : Nat) = (wd (fun n => p n || q n) i : Nat) := by
 rw [u64_or_nat _ _ (xea p i) (xea q i)]
 congr 1
 apply xec
 ·exact Nat.or_lt_two_pow (n := 64) (xea p i) (xea q i)
 ·intro j hj
  rw [Nat.testBit_or, xca p i j hj, xca q i j hj]
theorem xmc (p q : Nat → Bool) (i : Nat) : bits .and .u64 (wd p i) (wd q i : Nat) = (wd (fun n => p n && q n) i : Nat) := by
 rw [u64_and_nat _ _ (xea p i) (xea q i)]
 congr 1
 apply xec
 ·exact Nat.and_lt_two_pow (n := 64) _ (xea q i)
 ·intro j hj
  rw [Nat.testBit_and, xca p i j hj, xca q i j hj]
theorem not_any (p : Nat → Bool) (w : World) : Calls Try.prog 41 #[.agg #[.int .u64 (wd p 0), .int .u64 (wd p 1), .int .u64 (wd p 2), .int .u64 (wd p 3)]] w fun e w' => ∃ q, e = .returned (.agg #[.int .u64 (wd q 0), .int .u64 (wd q 1), .int .u64 (wd q 2), .int .u64 (wd q 3)]) ∧ Is q (fun n => !p n) ∧ Below w.heap.size w w' := by
 have h := xo3 (wd p 0 : Nat) (wd p 1 : Nat) (wd p 2 : Nat) (wd p 3 : Nat) w
 rw [xmb, xmb, xmb, xmb] at h
 exact h.mono fun _ _ ⟨he, hb⟩ => ⟨_, he, Is.refl _, hb⟩
theorem or_any (p r : Nat → Bool) (w : World) : Calls Try.prog 87 #[.agg #[.int .u64 (wd p 0), .int .u64 (wd p 1), .int .u64 (wd p 2), .int .u64 (wd p 3)], .agg #[.int .u64 (wd r 0), .int .u64 (wd r 1), .int .u64 (wd r 2), .int .u64 (wd r 3)]] w fun e w' => ∃ q, e = .returned (.agg #[.int .u64 (wd q 0), .int .u64 (wd q 1), .int .u64 (wd q 2), .int .u64 (wd q 3)]) ∧ Is q (fun n => p n || r n) ∧ Below w.heap.size w w' := by
 have h := or_words (wd p 0 : Nat) (wd p 1 : Nat) (wd p 2 : Nat) (wd p 3 : Nat) (wd r 0 : Nat) (wd r 1 : Nat) (wd r 2 : Nat) (wd r 3 : Nat) w
 rw [wd_or, wd_or, wd_or, wd_or] at h
 exact h.mono fun _ _ ⟨he, hb⟩ => ⟨_, he, Is.refl _, hb⟩
theorem and_any (p r : Nat → Bool) (w : World) : Calls Try.prog 108 #[.agg #[.int .u64 (wd p 0), .int .u64 (wd p 1), .int .u64 (wd p 2), .int .u64 (wd p 3)], .agg #[.int .u64 (wd r 0), .int .u64 (wd r 1), .int .u64 (wd r 2), .int .u64 (wd r 3)]] w fun e w' => ∃ q, e = .returned (.agg #[.int .u64 (wd q 0), .int .u64 (wd q 1), .int .u64 (wd q 2), .int .u64 (wd q 3)]) ∧ Is q (fun n => p n && r n) ∧ Below w.heap.size w w' := by
 have h := xo4 (wd p 0 : Nat) (wd p 1 : Nat) (wd p 2 : Nat) (wd p 3 : Nat) (wd r 0 : Nat) (wd r 1 : Nat) (wd r 2 : Nat) (wd r 3 : Nat) w
 rw [xmc, xmc, xmc, xmc] at h
 exact h.mono fun _ _ ⟨he, hb⟩ => ⟨_, he, Is.refl _, hb⟩
theorem withE (p : Nat → Bool) (x : Int) (h0 : 0 ≤ x) (h1 : x < 256) (w : World) : Calls Try.prog 88 #[.agg #[.int .u64 (wd p 0), .int .u64 (wd p 1), .int .u64 (wd p 2), .int .u64 (wd p 3)], .int .u8 x] w fun e w' => ∃ q, e = .returned (.agg #[.int .u64 (wd q 0), .int .u64 (wd q 1), .int .u64 (wd q 2), .int .u64 (wd q 3)]) ∧ Is q (ins p x.toNat) ∧ Below w.heap.size w w' :=
 (xfo p x h0 h1 w).mono fun _ _ ⟨he, hb⟩ => ⟨_, he, Is.refl _, hb⟩
def Holds4 (w : World) (b : Nat) (p : Nat → Bool) : Prop :=
 (w.cell? ⟨b, 0, none⟩ = some (.int .u64 (wd p 0)) ∧ w.cell? ⟨b, 1, none⟩ = some (.int .u64 (wd p 1)) ∧ w.cell? ⟨b, 2, none⟩ = some (.int .u64 (wd p 2)) ∧ w.cell? ⟨b, 3, none⟩ = some (.int .u64 (wd p 3))) ∧
 (w.frozen? ⟨b, 0, none⟩ = false ∧ w.frozen? ⟨b, 1, none⟩ = false ∧ w.frozen? ⟨b, 2, none⟩ = false ∧ w.frozen? ⟨b, 3, none⟩ = false)
theorem Holds4.below {w w' : World} {b : Nat} {p : Nat → Bool} (h : Holds4 w b p) {B : Nat} (hb : Below B w w') (hlt : b < B) : Holds4 w' b p := by
 obtain ⟨⟨c0, c1, c2, c3⟩, f0, f1, f2, f3⟩ := h
 exact ⟨⟨(hb.cell (p := ⟨b, 0, none⟩) hlt).trans c0, (hb.cell (p := ⟨b, 1, none⟩) hlt).trans c1, (hb.cell (p := ⟨b, 2, none⟩) hlt).trans c2, (hb.cell (p := ⟨b, 3, none⟩) hlt).trans c3⟩,
  (hb.frozen (p := ⟨b, 0, none⟩) hlt).trans f0, (hb.frozen (p := ⟨b, 1, none⟩) hlt).trans f1, (hb.frozen (p := ⟨b, 2, none⟩) hlt).trans f2, (hb.frozen (p := ⟨b, 3, none⟩) hlt).trans f3⟩
theorem Holds4.lt {w : World} {b : Nat} {p : Nat → Bool} (h : Holds4 w b p) : b < w.heap.size := World.block_lt_of_cell? w _ h.1.1
theorem Holds4.alloc {w : World} {b : Nat} {p : Nat → Bool} (h : Holds4 w b p) (o : Obj) : Holds4 (w.alloc o) b p := h.below ((Below.refl _ _).alloc (Nat.le_refl _) o) h.lt
theorem xac (w : World) (p : Nat → Bool) (t : TypeId) : Holds4 (w.alloc (.cells #[.int .u64 (wd p 0), .int .u64 (wd p 1), .int .u64 (wd p 2), .int .u64 (wd p 3)] t)) w.heap.size p := by
 simp [Holds4, go_sem]
theorem xal (w : World) (t : TypeId) : Holds4 (w.alloc (.cells #[.int .u64 0, .int .u64 0, .int .u64 0, .int .u64 0] t)) w.heap.size (fun _ => false) := by
 have h := xac w (fun _ => false) t
 rw [xaa, xaa, xaa, xaa] at h
 exact h
abbrev put4 (w : World) (b : Nat) (q : Nat → Bool) : World :=
 (((w.setCell ⟨b, 0, none⟩ (.int .u64 (wd q 0))).setCell ⟨b, 1, none⟩ (.int .u64 (wd q 1))).setCell ⟨b, 2, none⟩ (.int .u64 (wd q 2))).setCell ⟨b, 3, none⟩ (.int .u64 (wd q 3))
theorem Holds4.put {w : World} {b : Nat} {p : Nat → Bool} (h : Holds4 w b p) (q : Nat → Bool) : Holds4 (put4 w b q) b q := by
 obtain ⟨⟨c0, c1, c2, c3⟩, f0, f1, f2, f3⟩ := h
 simp [Holds4, put4, go_sem, *]
theorem Holds4.other {w : World} {b b' : Nat} {p : Nat → Bool} (h : Holds4 w b p) (q : Nat → Bool) (hne : b ≠ b') : Holds4 (put4 w b' q) b p := by
 obtain ⟨⟨c0, c1, c2, c3⟩, f0, f1, f2, f3⟩ := h
 simp [Holds4, put4, go_sem, *]
theorem xak {B : Nat} {a w : World} (h : Below B a w) {b : Nat} (hb : B ≤ b) (q : Nat → Bool) : Below B a (put4 w b q) :=
 (((h.setCell (p := ⟨b, 0, none⟩) hb _).setCell (p := ⟨b, 1, none⟩) hb _).setCell (p := ⟨b, 2, none⟩) hb _).setCell (p := ⟨b, 3, none⟩) hb _
theorem Holds4.drew {w : World} {b : Nat} {p : Nat → Bool} (h : Holds4 w b p) : Holds4 w.drew b p := h
theorem xkf (lo hi : Int) (h0 : 0 ≤ lo) (h1 : lo ≤ hi) (h2 : hi < 256) (w : World) :
  Calls Try.prog 105 #[.int .u8 lo, .int .u8 hi] w fun e w' => ∃ q, e = .returned (.agg #[.int .u64 (wd q 0), .int .u64 (wd q 1), .int .u64 (wd q 2), .int .u64 (wd q 3)]) ∧ Is q (fun n => decide (lo ≤ (n : Int) ∧ (n : Int) ≤ hi)) ∧ Below w.heap.size w w' := by
 go_enter Try.func105, Try.ntmps105
 go_wp2_with fail
 go_loopw [6] (fun i wr => ∃ (k : Int) (p : Nat → Bool), lo ≤ k ∧ k ≤ hi + 1 ∧ i = .int .i64 k ∧ Is p (fun n => decide (lo ≤ (n : Int) ∧ (n : Int) < k)) ∧ Holds4 wr (w.heap.size + 1) p ∧ (∃ q, Holds4 wr w.heap.size q) ∧ Below w.heap.size w wr) (fun i _ => (256 - intOf i).toNat)
 case atStart =>
  have e := xal (w.alloc (.cells #[.int .u64 0, .int .u64 0, .int .u64 0, .int .u64 0] 38)) 38
  rw [World.size_alloc] at e
  refine ⟨lo, fun _ => false, by omega, by omega, rfl, fun n _ => ?_, e, ⟨_, (xal w 38).alloc _⟩, ((Below.refl _ _).alloc (Nat.le_refl _) _).alloc (by simp) _⟩
  symm; simp
 case round =>
  obtain ⟨k, p, hk0, hk1, rfl, hp, hs, ⟨q, hr⟩, hB⟩ := hrel
  have hsz := hs.lt
  by_cases hlt : k ≤ hi
  ·have hs' := hs
   obtain ⟨⟨c0, c1, c2, c3⟩, f0, f1, f2, f3⟩ := hs
   go_wp2_with fail
   refine (withE p k (by omega) (by omega) _).mono ?_
   rintro e w1 ⟨p1, rfl, hp1, hb1⟩
   clear c0 c1 c2 c3 f0 f1 f2 f3
   have hs1 := hs'.below hb1 hsz
   have hr1 := hr.below hb1 hr.lt
   have hs2 := hs1
   obtain ⟨⟨c0, c1, c2, c3⟩, f0, f1, f2, f3⟩ := hs2
   go_wp2
   go_roundw
   case rel =>
    refine ⟨k + 1, p1, by omega, by omega, rfl, fun n hn => ?_, hs1.put p1, ⟨_, hr1.other p1 (by omega)⟩, xak (hB.trans (hb1.mono hB.size)) (by omega) p1⟩
    rw [hp1 n hn]
    show (p n || n == k.toNat) = _
    rw [hp n hn, Bool.eq_iff_iff]
    simp
    omega
   case measure => simp [intOf]; omega
  ·obtain ⟨⟨c0, c1, c2, c3⟩, f0, f1, f2, f3⟩ := hs
   obtain ⟨⟨d0, d1, d2, d3⟩, g0, g1, g2, g3⟩ := hr
   go_wp2
   refine bodyPost_ret (v := .agg #[.int .u64 (wd p 0), .int .u64 (wd p 1), .int .u64 (wd p 2), .int .u64 (wd p 3)]) (by simp [results, Try.results105, go_sem, *]) rfl ⟨p, rfl, fun n hn => ?_, xak hB (Nat.le_refl _) _⟩
   rw [hp n hn, Bool.eq_iff_iff]
   simp
   omega
def xds (s : ByteArray) (k : Nat) (n : Nat) : Bool := (s.data.toList.take k).any fun b => b.toNat == n
theorem xkg (s : ByteArray) : Is (fun _ => false) (xds s 0) := fun n _ => by simp [xds]
theorem xkh (s : ByteArray) (k : Nat) (h : k < s.size) (n : Nat) : xds s (k + 1) n = (xds s k n || n == s[k].toNat) := by
 unfold xds
 rw [List.take_succ_eq_append_getElem (by simpa using h), List.any_append]
 congr 1
 simp only [List.any_cons, List.any_nil, Bool.or_false]
 show (s[k].toNat == n) = _
 rw [Bool.eq_iff_iff]; simp only [beq_iff_eq]; exact eq_comm
theorem xki {s : ByteArray} {k : Nat} (h : k < s.size) {t t1 : Nat → Bool} (ht : Is t (xds s k)) {x : Int} (hx : x = (s[k].toNat : Int)) (h1 : Is t1 (ins t x.toNat)) : Is t1 (xds s (k + 1)) := fun n hn => by
 rw [h1 n hn, xkh s k h n]
 unfold ins
 rw [ht n hn, hx, Int.toNat_natCast]
theorem byte_lt (b : UInt8) : ((b.toNat : Nat) : Int) < 256 := by have := b.toNat_lt; omega
theorem of_any (s : ByteArray) (hs : s.size ≤ maxLen) (w : World) :
  Calls Try.prog 79 #[.string s] w fun e w' => ∃ q, e = .returned (.agg #[.int .u64 (wd q 0), .int .u64 (wd q 1), .int .u64 (wd q 2), .int .u64 (wd q 3)]) ∧ Is q (xds s s.size) ∧ Below w.heap.size w w' := by
 unfold maxLen at hs
 go_enter Try.func79, Try.ntmps79
 go_wp2_with fail
 go_loopw [4, 7] (fun _ i wr => ∃ (k : Nat) (t : Nat → Bool), k ≤ s.size ∧ i = .int .i64 k ∧ Is t (xds s k) ∧ (∃ q, Holds4 wr w.heap.size q) ∧ Holds4 wr (w.heap.size + 1) t ∧ Below w.heap.size w wr) (fun _ i _ => (s.size - (intOf i).toNat))
 case atStart =>
  have e := xal (w.alloc (.cells #[.int .u64 0, .int .u64 0, .int .u64 0, .int .u64 0] 38)) 38
  rw [World.size_alloc] at e
  exact ⟨0, fun _ => false, by omega, rfl, xkg s, ⟨_, (xal w 38).alloc _⟩, e, ((Below.refl _ _).alloc (Nat.le_refl _) _).alloc (by simp) _⟩
 case round =>
  obtain ⟨k, t, hk1, rfl, ht, ⟨q, hr⟩, hs, hB⟩ := hrel
  have hsz := hs.lt
  by_cases hlt : k < s.size
  ·have hs' := hs
   obtain ⟨⟨c0, c1, c2, c3⟩, f0, f1, f2, f3⟩ := hs
   go_wp2_with fail
   go_region_with (go_at_call 88; go_must (refine (withE t _ (Int.natCast_nonneg _) (byte_lt _) _).mono ?_; rintro e w1 ⟨t1, rfl, ht1, hb0⟩; have hb1 := ((Below.refl wr.heap.size wr).drew).trans hb0; have hs1 := hs'.below hb1 hsz; have hr1 := hr.below hb1 hr.lt; have hs2 := hs1; obtain ⟨⟨d0, d1, d2, d3⟩, g0, g1, g2, g3⟩ := hs2))
   all_goals
    go_wp2
    exact ⟨⟨k + 1, t1, by omega, by go_num, xki hlt ht rfl ht1, ⟨_, hr1.other t1 (by omega)⟩, hs1.put t1, xak (hB.trans (hb1.mono hB.size)) (by omega) t1⟩, by simp [intOf]; omega⟩
  ·obtain ⟨⟨c0, c1, c2, c3⟩, f0, f1, f2, f3⟩ := hs
   obtain ⟨⟨d0, d1, d2, d3⟩, g0, g1, g2, g3⟩ := hr
   obtain rfl : k = s.size := by omega
   go_wp2
   exact bodyPost_ret (v := .agg #[.int .u64 (wd t 0), .int .u64 (wd t 1), .int .u64 (wd t 2), .int .u64 (wd t 3)]) (by simp [results, Try.results79, go_sem, *]) rfl ⟨t, rfl, ht, xak hB (by omega) _⟩
end Go.Proofs.Ytolpakpdkheanaa.br
