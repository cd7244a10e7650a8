/- The plain mathematics of sets of bytes as four words: a set is told by a predicate on the numbers below 256; word i holds the bits 64 i to 64 i + 63. No Go in sight. -/
import Derived.WalkKit
namespace Go.Proofs.Ytooanbbnjiogaaa

/-- The number whose bit j, j below n, is p j. -/
def ofB (p : Nat → Bool) : Nat → Nat
  | 0 => 0
  | n + 1 => ofB p n + (if p n then 2 ^ n else 0)

theorem ofB_lt (p : Nat → Bool) (n : Nat) : ofB p n < 2 ^ n := by
  induction n with
  | zero => simp [ofB]
  | succ n ih =>
    unfold ofB
    rw [Nat.pow_succ]
    split <;> omega

theorem ofB_testBit (p : Nat → Bool) (n j : Nat) : (ofB p n).testBit j = (decide (j < n) && p j) := by
  induction n with
  | zero => simp [ofB]
  | succ n ih =>
    unfold ofB
    have hlt := ofB_lt p n
    by_cases hp : p n = true
    · rw [if_pos hp]
      have e : ofB p n + 2 ^ n = 2 ^ n ||| ofB p n := by
        have h1 := Nat.two_pow_add_eq_or_of_lt hlt 1
        rw [Nat.mul_one] at h1
        rw [Nat.add_comm, h1]
      rw [e, Nat.testBit_or, ih, Nat.testBit_two_pow]
      by_cases hj : j = n
      · subst hj; simp [hp]
      · have hj' : ¬ n = j := fun h => hj h.symm
        simp only [hj', decide_false, Bool.false_or]
        by_cases h1 : j < n
        · simp [h1, Nat.lt_succ_of_lt h1]
        · have h2 : ¬ j < n + 1 := by omega
          simp [h1, h2]
    · rw [if_neg hp, Nat.add_zero, ih]
      by_cases hj : j = n
      · subst hj; simp [hp]
      · by_cases h1 : j < n
        · simp [h1, Nat.lt_succ_of_lt h1]
        · have h2 : ¬ j < n + 1 := by omega
          simp [h1, h2]

theorem ofB_self (x n : Nat) (h : x < 2 ^ n) : ofB x.testBit n = x := by
  apply Nat.eq_of_testBit_eq
  intro j
  rw [ofB_testBit]
  by_cases hj : j < n
  · simp [hj]
  · have : x.testBit j = false := Nat.testBit_lt_two_pow (Nat.lt_of_lt_of_le h (Nat.pow_le_pow_right (by omega) (by omega)))
    simp [hj, this]

theorem ofB_congr (p q : Nat → Bool) (n : Nat) (h : ∀ j, j < n → p j = q j) : ofB p n = ofB q n := by
  apply Nat.eq_of_testBit_eq
  intro j
  rw [ofB_testBit, ofB_testBit]
  by_cases hj : j < n
  · simp [hj, h j hj]
  · simp [hj]

/-- Word i of the set that p tells. -/
def wd (p : Nat → Bool) (i : Nat) : Nat := ofB (fun j => p (64 * i + j)) 64

theorem wd_lt (p : Nat → Bool) (i : Nat) : wd p i < 18446744073709551616 := ofB_lt _ 64

theorem wd_testBit (p : Nat → Bool) (i j : Nat) (h : j < 64) : (wd p i).testBit j = p (64 * i + j) := by
  unfold wd; rw [ofB_testBit]; simp [h]

theorem wd_congr (p q : Nat → Bool) (i : Nat) (h : ∀ j, j < 64 → p (64 * i + j) = q (64 * i + j)) : wd p i = wd q i := ofB_congr _ _ _ h

theorem wd_ext_iff (p q : Nat → Bool) (i : Nat) : wd p i = wd q i ↔ ∀ j, j < 64 → p (64 * i + j) = q (64 * i + j) := by
  constructor
  · intro h j hj
    rw [← wd_testBit p i j hj, ← wd_testBit q i j hj, h]
  · exact wd_congr p q i

theorem nat_eq_wd (x : Nat) (i : Nat) (p : Nat → Bool) (hx : x < 18446744073709551616) (h : ∀ j, j < 64 → x.testBit j = p (64 * i + j)) : x = wd p i := by
  apply Nat.eq_of_testBit_eq
  intro j
  unfold wd; rw [ofB_testBit]
  by_cases hj : j < 64
  · simp [hj, h j hj]
  · have : x.testBit j = false := Nat.testBit_lt_two_pow (Nat.lt_of_lt_of_le (show x < 2 ^ 64 from hx) (Nat.pow_le_pow_right (by omega) (by omega)))
    simp [hj, this]

/-- The predicate of four words. -/
def ofW (a b c d : Nat) (n : Nat) : Bool :=
  if n < 64 then a.testBit n else if n < 128 then b.testBit (n - 64) else if n < 192 then c.testBit (n - 128) else d.testBit (n - 192)

theorem wd_ofW (a b c d : Nat) (ha : a < 18446744073709551616) (hb : b < 18446744073709551616) (hc : c < 18446744073709551616) (hd : d < 18446744073709551616) :
    wd (ofW a b c d) 0 = a ∧ wd (ofW a b c d) 1 = b ∧ wd (ofW a b c d) 2 = c ∧ wd (ofW a b c d) 3 = d := by
  refine ⟨?_, ?_, ?_, ?_⟩
  · refine (nat_eq_wd a 0 _ ha fun j hj => ?_).symm
    unfold ofW; rw [if_pos (by omega), show 64 * 0 + j = j by omega]
  · refine (nat_eq_wd b 1 _ hb fun j hj => ?_).symm
    unfold ofW; rw [if_neg (by omega), if_pos (by omega), show 64 * 1 + j - 64 = j by omega]
  · refine (nat_eq_wd c 2 _ hc fun j hj => ?_).symm
    unfold ofW; rw [if_neg (by omega), if_neg (by omega), if_pos (by omega), show 64 * 2 + j - 128 = j by omega]
  · refine (nat_eq_wd d 3 _ hd fun j hj => ?_).symm
    unfold ofW; rw [if_neg (by omega), if_neg (by omega), if_neg (by omega), show 64 * 3 + j - 192 = j by omega]

/-- The set with one byte more. -/
def ins (p : Nat → Bool) (b : Nat) : Nat → Bool := fun n => p n || n == b

theorem wd_ins_other (p : Nat → Bool) (b i : Nat) (h : b / 64 ≠ i) : wd (ins p b) i = wd p i := by
  apply wd_congr
  intro j hj
  unfold ins
  have : (64 * i + j == b) = false := by simp; omega
  simp [this]

theorem wd_ins_same (p : Nat → Bool) (b i : Nat) (h : b / 64 = i) : wd (ins p b) i = wd p i ||| 2 ^ (b % 64) := by
  symm
  apply nat_eq_wd
  · exact Nat.or_lt_two_pow (n := 64) (wd_lt p i) (Nat.pow_lt_pow_right (by omega) (by omega))
  · intro j hj
    rw [Nat.testBit_or, wd_testBit p i j hj, Nat.testBit_two_pow]
    unfold ins
    congr 1
    rw [Bool.eq_iff_iff]; simp; omega

/-- A set as Go holds it. -/
def setV (p : Nat → Bool) : Value := .agg #[.int .u64 (wd p 0), .int .u64 (wd p 1), .int .u64 (wd p 2), .int .u64 (wd p 3)]

/-- Two sets are one where they have the same members below 256. -/
def eqB (p q : Nat → Bool) : Bool := (List.range 256).all fun n => p n == q n

theorem eqB_iff (p q : Nat → Bool) : eqB p q = true ↔ ∀ n, n < 256 → p n = q n := by
  unfold eqB; simp

theorem eqB_words (p q : Nat → Bool) : eqB p q = (((wd p 0 : Int) == wd q 0) && ((wd p 1 : Int) == wd q 1) && ((wd p 2 : Int) == wd q 2) && ((wd p 3 : Int) == wd q 3)) := by
  rw [Bool.eq_iff_iff, eqB_iff]
  simp only [Bool.and_eq_true, beq_iff_eq, Int.ofNat_inj, wd_ext_iff]
  constructor
  · intro h
    exact ⟨⟨⟨fun j _ => h _ (by omega), fun j _ => h _ (by omega)⟩, fun j _ => h _ (by omega)⟩, fun j _ => h _ (by omega)⟩
  · rintro ⟨⟨⟨h0, h1⟩, h2⟩, h3⟩ n hn
    by_cases c0 : n < 64
    · have := h0 n c0; rwa [show 64 * 0 + n = n by omega] at this
    · by_cases c1 : n < 128
      · have := h1 (n - 64) (by omega); rwa [show 64 * 1 + (n - 64) = n by omega] at this
      · by_cases c2 : n < 192
        · have := h2 (n - 128) (by omega); rwa [show 64 * 2 + (n - 128) = n by omega] at this
        · have := h3 (n - 192) (by omega); rwa [show 64 * 3 + (n - 192) = n by omega] at this

theorem setV_congr (p q : Nat → Bool) (h : ∀ n, n < 256 → p n = q n) : setV p = setV q := by
  unfold setV
  rw [wd_congr p q 0 fun j _ => h _ (by omega), wd_congr p q 1 fun j _ => h _ (by omega), wd_congr p q 2 fun j _ => h _ (by omega), wd_congr p q 3 fun j _ => h _ (by omega)]

/-- Two predicates agree on all bytes. -/
def Is (q p : Nat → Bool) : Prop := ∀ n, n < 256 → q n = p n

theorem Is.refl (p : Nat → Bool) : Is p p := fun _ _ => rfl
theorem Is.trans {p q r : Nat → Bool} (h : Is p q) (k : Is q r) : Is p r := fun n hn => (h n hn).trans (k n hn)
theorem Is.symm {p q : Nat → Bool} (h : Is p q) : Is q p := fun n hn => (h n hn).symm

theorem wd_none (i : Nat) : wd (fun _ => false) i = 0 := by
  apply Nat.eq_of_testBit_eq
  intro j
  unfold wd; rw [ofB_testBit]; simp

theorem wd_Is {q p : Nat → Bool} (h : Is q p) : wd q 0 = wd p 0 ∧ wd q 1 = wd p 1 ∧ wd q 2 = wd p 2 ∧ wd q 3 = wd p 3 :=
  ⟨wd_congr _ _ _ fun j _ => h _ (by omega), wd_congr _ _ _ fun j _ => h _ (by omega), wd_congr _ _ _ fun j _ => h _ (by omega), wd_congr _ _ _ fun j _ => h _ (by omega)⟩

/-- Of c what lies below k. -/
def upTo (k : Nat) (c : Nat → Bool) : Nat → Bool := fun n => decide (n < k) && c n

theorem upTo_zero (c : Nat → Bool) : Is (fun _ => false) (upTo 0 c) := fun n _ => by simp [upTo]

theorem upTo_yes {t t1 c : Nat → Bool} {k : Nat} (h : Is t (upTo k c)) (h1 : Is t1 (ins t k)) (hc : c k = true) : Is t1 (upTo (k + 1) c) := fun n hn => by
  rw [h1 n hn]
  unfold ins
  rw [h n hn]
  unfold upTo
  by_cases e : n = k
  · subst e; simp [hc]
  · have e1 : (n == k) = false := by simpa using e
    have e2 : decide (n < k + 1) = decide (n < k) := by rw [Bool.eq_iff_iff]; simp; omega
    rw [e1, e2, Bool.or_false]

theorem upTo_no {t c : Nat → Bool} {k : Nat} (h : Is t (upTo k c)) (hc : c k = false) : Is t (upTo (k + 1) c) := fun n hn => by
  rw [h n hn]
  unfold upTo
  by_cases e : n = k
  · subst e; simp [hc]
  · have e2 : decide (n < k + 1) = decide (n < k) := by rw [Bool.eq_iff_iff]; simp; omega
    rw [e2]

theorem upTo_full {t c : Nat → Bool} {k : Nat} (h : Is t (upTo k c)) (hk : 256 ≤ k) : Is t c := fun n hn => by
  rw [h n hn]
  unfold upTo
  have e : decide (n < k) = true := by simp; omega
  rw [e, Bool.true_and]

end Go.Proofs.Ytooanbbnjiogaaa
