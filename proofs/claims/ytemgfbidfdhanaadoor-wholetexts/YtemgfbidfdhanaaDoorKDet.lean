/- Walks: the sets' calls with the one value that each answers; '==' of two sets; Span. -/
import Derived.Test.YtemgfbidfdhanaaDoorKPlain
import Derived.ChangeKeysEq
namespace Go.Proofs.YtemgfbidfdhanaaDoor
open Go.RowKit

def notP (p : Nat → Bool) : Nat → Bool := fun n => !p n
def orP (p r : Nat → Bool) : Nat → Bool := fun n => p n || r n
def andP (p r : Nat → Bool) : Nat → Bool := fun n => p n && r n
def ofP (s : ByteArray) : Nat → Bool := inText s s.size
def spanP (lo hi : Nat) : Nat → Bool := fun n => decide (lo ≤ n ∧ n ≤ hi)
def noneP : Nat → Bool := fun _ => false

theorem det {f : FuncId} {args : Array Value} {w : World} {spec : Nat → Bool} (h : Calls Tryd.prog f args w fun e w' => ∃ q, e = .returned (.agg #[.int .u64 (wd q 0 : Nat), .int .u64 (wd q 1 : Nat), .int .u64 (wd q 2 : Nat), .int .u64 (wd q 3 : Nat)]) ∧ Is q (spec) ∧ Below w.heap.size w w') :
    Calls Tryd.prog f args w fun e w' => e = .returned (.agg #[.int .u64 (wd spec 0 : Nat), .int .u64 (wd spec 1 : Nat), .int .u64 (wd spec 2 : Nat), .int .u64 (wd spec 3 : Nat)]) ∧ Below w.heap.size w w' :=
  h.mono fun _ _ ⟨_, he, hq, hb⟩ => by
    obtain ⟨e0, e1, e2, e3⟩ := wd_Is hq
    rw [e0, e1, e2, e3] at he
    exact ⟨he, hb⟩

theorem notD (p : Nat → Bool) (w : World) : Calls Tryd.prog 27 #[.agg #[.int .u64 (wd p 0 : Nat), .int .u64 (wd p 1 : Nat), .int .u64 (wd p 2 : Nat), .int .u64 (wd p 3 : Nat)]] w fun e w' => e = .returned (.agg #[.int .u64 (wd (notP p) 0 : Nat), .int .u64 (wd (notP p) 1 : Nat), .int .u64 (wd (notP p) 2 : Nat), .int .u64 (wd (notP p) 3 : Nat)]) ∧ Below w.heap.size w w' := det (not_any p w)
theorem orD (p r : Nat → Bool) (w : World) : Calls Tryd.prog 56 #[.agg #[.int .u64 (wd p 0 : Nat), .int .u64 (wd p 1 : Nat), .int .u64 (wd p 2 : Nat), .int .u64 (wd p 3 : Nat)], .agg #[.int .u64 (wd r 0 : Nat), .int .u64 (wd r 1 : Nat), .int .u64 (wd r 2 : Nat), .int .u64 (wd r 3 : Nat)]] w fun e w' => e = .returned (.agg #[.int .u64 (wd (orP p r) 0 : Nat), .int .u64 (wd (orP p r) 1 : Nat), .int .u64 (wd (orP p r) 2 : Nat), .int .u64 (wd (orP p r) 3 : Nat)]) ∧ Below w.heap.size w w' := det (or_any p r w)
theorem andD (p r : Nat → Bool) (w : World) : Calls Tryd.prog 85 #[.agg #[.int .u64 (wd p 0 : Nat), .int .u64 (wd p 1 : Nat), .int .u64 (wd p 2 : Nat), .int .u64 (wd p 3 : Nat)], .agg #[.int .u64 (wd r 0 : Nat), .int .u64 (wd r 1 : Nat), .int .u64 (wd r 2 : Nat), .int .u64 (wd r 3 : Nat)]] w fun e w' => e = .returned (.agg #[.int .u64 (wd (andP p r) 0 : Nat), .int .u64 (wd (andP p r) 1 : Nat), .int .u64 (wd (andP p r) 2 : Nat), .int .u64 (wd (andP p r) 3 : Nat)]) ∧ Below w.heap.size w w' := det (and_any p r w)
theorem ofD (s : ByteArray) (hs : s.size ≤ maxLen) (w : World) : Calls Tryd.prog 44 #[.string s] w fun e w' => e = .returned (.agg #[.int .u64 (wd (ofP s) 0 : Nat), .int .u64 (wd (ofP s) 1 : Nat), .int .u64 (wd (ofP s) 2 : Nat), .int .u64 (wd (ofP s) 3 : Nat)]) ∧ Below w.heap.size w w' := det (of_any s hs w)
theorem stretchD (lo hi : Int) (h0 : 0 ≤ lo) (h1 : lo ≤ hi) (h2 : hi < 256) (w : World) : Calls Tryd.prog 83 #[.int .u8 lo, .int .u8 hi] w fun e w' => e = .returned (.agg #[.int .u64 (wd (spanP lo.toNat hi.toNat) 0 : Nat), .int .u64 (wd (spanP lo.toNat hi.toNat) 1 : Nat), .int .u64 (wd (spanP lo.toNat hi.toNat) 2 : Nat), .int .u64 (wd (spanP lo.toNat hi.toNat) 3 : Nat)]) ∧ Below w.heap.size w w' :=
  det ((stretch_any lo hi h0 h1 h2 w).mono fun _ _ ⟨q, he, hq, hb⟩ => ⟨q, he, fun n hn => by rw [hq n hn]; unfold spanP; rw [Bool.eq_iff_iff]; simp only [decide_eq_true_eq]; omega, hb⟩)

theorem info22 : ∃ i, Tryd.prog.info? 22 = some i := by
  have h : (Tryd.prog.info? 22).isSome = true := by kernel_rfl
  exact Option.isSome_iff_exists.1 h
theorem cells22 : Tryd.prog.cellsOf 22 = 1 := by kernel_rfl

theorem run_eql_words (a0 a1 a2 a3 b0 b1 b2 b3 : Int) (w : World) :
    (binOp .eql 24 (.agg #[.int .u64 a0, .int .u64 a1, .int .u64 a2, .int .u64 a3]) (.agg #[.int .u64 b0, .int .u64 b1, .int .u64 b2, .int .u64 b3])).run Tryd.prog w = .ok (.bool ((a0 == b0) && (a1 == b1) && (a2 == b2) && (a3 == b3))) w := by
  obtain ⟨i, hi⟩ := info22
  rw [run_eql_struct, run_equalIn_array w 9999 _ _ Tryd.underlying24 hi, cells22]
  simp [Op.eqItems, List.range_succ, go_sem]
  by_cases h0 : a0 = b0 <;> by_cases h1 : a1 = b1 <;> by_cases h2 : a2 = b2 <;> by_cases h3 : a3 = b3 <;> simp [h0, h1, h2, h3]

theorem run_neq_words (a0 a1 a2 a3 b0 b1 b2 b3 : Int) (w : World) :
    (binOp .neq 24 (.agg #[.int .u64 a0, .int .u64 a1, .int .u64 a2, .int .u64 a3]) (.agg #[.int .u64 b0, .int .u64 b1, .int .u64 b2, .int .u64 b3])).run Tryd.prog w = .ok (.bool (!((a0 == b0) && (a1 == b1) && (a2 == b2) && (a3 == b3)))) w := by
  obtain ⟨i, hi⟩ := info22
  rw [run_neq_struct, run_equalIn_array w 9999 _ _ Tryd.underlying24 hi, cells22]
  simp [Op.eqItems, List.range_succ, go_sem]
  by_cases h0 : a0 = b0 <;> by_cases h1 : a1 = b1 <;> by_cases h2 : a2 = b2 <;> by_cases h3 : a3 = b3 <;> simp [h0, h1, h2, h3]

/-- '==' of two sets. -/
theorem run_eql_set (p q : Nat → Bool) (w : World) : (binOp .eql 24 (.agg #[.int .u64 (wd p 0 : Nat), .int .u64 (wd p 1 : Nat), .int .u64 (wd p 2 : Nat), .int .u64 (wd p 3 : Nat)]) (.agg #[.int .u64 (wd q 0 : Nat), .int .u64 (wd q 1 : Nat), .int .u64 (wd q 2 : Nat), .int .u64 (wd q 3 : Nat)])).run Tryd.prog w = .ok (.bool (eqB p q)) w := by
  rw [run_eql_words, eqB_words]

theorem run_neq_set (p q : Nat → Bool) (w : World) : (binOp .neq 24 (.agg #[.int .u64 (wd p 0 : Nat), .int .u64 (wd p 1 : Nat), .int .u64 (wd p 2 : Nat), .int .u64 (wd p 3 : Nat)]) (.agg #[.int .u64 (wd q 0 : Nat), .int .u64 (wd q 1 : Nat), .int .u64 (wd q 2 : Nat), .int .u64 (wd q 3 : Nat)])).run Tryd.prog w = .ok (.bool (!eqB p q)) w := by
  rw [run_neq_words, eqB_words]

theorem eqB_of {p q : Nat → Bool} (h : Is p q) : eqB p q = true := (eqB_iff p q).2 h

set_option maxHeartbeats 400000 in
theorem spanD (lo hi : Int) (h0 : 0 ≤ lo) (h1 : lo ≤ hi) (h2 : hi < 256) (w : World) :
    Calls Tryd.prog 76 #[.int .u8 lo, .int .u8 hi] w fun e w' => e = .returned (.tuple #[.agg #[.int .u64 (wd (spanP lo.toNat hi.toNat) 0 : Nat), .int .u64 (wd (spanP lo.toNat hi.toNat) 1 : Nat), .int .u64 (wd (spanP lo.toNat hi.toNat) 2 : Nat), .int .u64 (wd (spanP lo.toNat hi.toNat) 3 : Nat)], .int .i64 0]) ∧ Below w.heap.size w w' := by
  have hlt : ¬ hi < lo := by omega
  go_enter Tryd.func76, Tryd.ntmps76
  go_wp2_with fail
  refine (stretchD lo hi h0 h1 h2 _).mono ?_
  rintro e w1 ⟨rfl, hb1⟩
  have hr1 := (holds4_zero w 24).below hb1 (by simp)
  have hr2 := hr1
  obtain ⟨⟨c0, c1, c2, c3⟩, f0, f1, f2, f3⟩ := hr2
  go_wp2
  exact bodyPost_ret (v := .tuple #[.agg #[.int .u64 (wd (spanP lo.toNat hi.toNat) 0 : Nat), .int .u64 (wd (spanP lo.toNat hi.toNat) 1 : Nat), .int .u64 (wd (spanP lo.toNat hi.toNat) 2 : Nat), .int .u64 (wd (spanP lo.toNat hi.toNat) 3 : Nat)], .int .i64 0]) (by simp [results, Tryd.results76, go_sem, *]) rfl ⟨rfl, below_put4 (((Below.refl _ _).alloc (Nat.le_refl _) _).trans (hb1.mono (by simp))) (Nat.le_refl _) _⟩

set_option maxHeartbeats 400000 in
theorem spanBad (lo hi : Int) (hlt : hi < lo) (w : World) :
    Calls Tryd.prog 76 #[.int .u8 lo, .int .u8 hi] w fun e w' => e = .returned (.tuple #[.agg #[.int .u64 (wd noneP 0 : Nat), .int .u64 (wd noneP 1 : Nat), .int .u64 (wd noneP 2 : Nat), .int .u64 (wd noneP 3 : Nat)], .int .i64 7]) ∧ Below w.heap.size w w' := by
  unfold noneP
  rw [wd_none, wd_none, wd_none, wd_none]
  go_enter Tryd.func76, Tryd.ntmps76
  go_wp2
  exact bodyPost_ret (v := .tuple #[.agg #[.int .u64 0, .int .u64 0, .int .u64 0, .int .u64 0], .int .i64 7]) (by simp [results, Tryd.results76, go_sem]) rfl ⟨rfl, (Below.refl _ _).alloc (Nat.le_refl _) _⟩

theorem demorgan (p r : Nat → Bool) : notP (orP (notP p) (notP r)) = andP p r := by
  funext n; simp [notP, orP, andP]

end Go.Proofs.YtemgfbidfdhanaaDoor

/- The plain mathematics of counting a word's bits by halves: the sum of the bits of each byte, byte by byte, is the number of bits. No Go in sight. -/
set_option linter.unusedVariables false
namespace Go.Proofs.YtemgfbidfdhanaaDoor

/-- How many of the lowest n bits are set. -/
def pc (n x : Nat) : Nat := ((List.range n).filter fun j => x.testBit j).length

theorem and_mod (a b : Nat) : (a &&& b) % 256 = (a % 256) &&& (b % 256) := Nat.and_mod_two_pow (n := 8)
theorem and_div (a b : Nat) : (a &&& b) / 256 = (a / 256) &&& (b / 256) := Nat.and_div_two_pow (n := 8)

def s1 (m x : Nat) : Nat := (x / 2 &&& m) + (x &&& m)
def s2 (m x : Nat) : Nat := (x / 4 &&& m) + (x &&& m)
def s3 (m x : Nat) : Nat := (x / 16 + x) &&& m

theorem low1 : ∀ x : Fin 256, ∀ b : Fin 2, ((x.val / 2 + 128 * b.val) &&& 85) + (x.val &&& 85) = s1 85 x.val ∧ s1 85 x.val < 256 := by decide +kernel
theorem low2 : ∀ x : Fin 256, ∀ b : Fin 4, ((x.val / 4 + 64 * b.val) &&& 51) + (x.val &&& 51) = s2 51 x.val ∧ s2 51 x.val < 256 := by decide +kernel
theorem low3 : ∀ x : Fin 256, ∀ b : Fin 5, ((s2 51 (s1 85 x.val) / 16 + 16 * b.val + s2 51 (s1 85 x.val)) &&& 15) = pc 8 x.val ∧ s2 51 (s1 85 x.val) / 16 + 16 * b.val + s2 51 (s1 85 x.val) < 256 ∧ s2 51 (s1 85 x.val) % 16 < 5 ∧ pc 8 x.val ≤ 8 := by decide +kernel

theorem s1_split (x m : Nat) (hm : m % 256 = 85) : s1 m x = s1 85 (x % 256) + 256 * s1 (m / 256) (x / 256) := by
  obtain ⟨e, -⟩ := low1 ⟨x % 256, by omega⟩ ⟨x / 256 % 2, by omega⟩
  dsimp only at e
  have a1 := and_mod (x / 2) m
  have a2 := and_div (x / 2) m
  have b1 := and_mod x m
  have b2 := and_div x m
  rw [hm] at a1 b1
  have c1 : x / 2 % 256 = x % 256 / 2 + 128 * (x / 256 % 2) := by omega
  have c2 : x / 2 / 256 = x / 256 / 2 := by omega
  rw [c1] at a1
  rw [c2] at a2
  rw [← e]
  unfold s1
  rw [← a1, ← a2, ← b1, ← b2]
  omega

theorem s2_split (x m : Nat) (hm : m % 256 = 51) : s2 m x = s2 51 (x % 256) + 256 * s2 (m / 256) (x / 256) := by
  obtain ⟨e, -⟩ := low2 ⟨x % 256, by omega⟩ ⟨x / 256 % 4, by omega⟩
  dsimp only at e
  have a1 := and_mod (x / 4) m
  have a2 := and_div (x / 4) m
  have b1 := and_mod x m
  have b2 := and_div x m
  rw [hm] at a1 b1
  have c1 : x / 4 % 256 = x % 256 / 4 + 64 * (x / 256 % 4) := by omega
  have c2 : x / 4 / 256 = x / 256 / 4 := by omega
  rw [c1] at a1
  rw [c2] at a2
  rw [← e]
  unfold s2
  rw [← a1, ← a2, ← b1, ← b2]
  omega

/-- A byte k times. -/
def rep (b : Nat) : Nat → Nat
  | 0 => 0
  | k + 1 => b + 256 * rep b k

theorem rep_mod (b k : Nat) (h : b < 256) : rep b (k + 1) % 256 = b := by show (b + 256 * rep b k) % 256 = b; omega
theorem rep_div (b k : Nat) (h : b < 256) : rep b (k + 1) / 256 = rep b k := by show (b + 256 * rep b k) / 256 = rep b k; omega

/-- Each byte's count, at its place. -/
def byteCounts : Nat → Nat → Nat
  | 0, _ => 0
  | k + 1, x => pc 8 (x % 256) + 256 * byteCounts k (x / 256)

theorem s12_split (k x : Nat) : s2 (rep 51 (k + 1)) (s1 (rep 85 (k + 1)) x) = s2 51 (s1 85 (x % 256)) + 256 * s2 (rep 51 k) (s1 (rep 85 k) (x / 256)) ∧ s2 51 (s1 85 (x % 256)) < 256 := by
  have h1 := s1_split x (rep 85 (k + 1)) (rep_mod _ _ (by omega))
  rw [rep_div _ _ (by omega)] at h1
  obtain ⟨-, l1⟩ := low1 ⟨x % 256, by omega⟩ 0
  dsimp only at l1
  obtain ⟨-, l2⟩ := low2 ⟨s1 85 (x % 256), l1⟩ 0
  dsimp only at l2
  have h2 := s2_split (s1 (rep 85 (k + 1)) x) (rep 51 (k + 1)) (rep_mod _ _ (by omega))
  rw [rep_div _ _ (by omega)] at h2
  have e1 : s1 (rep 85 (k + 1)) x % 256 = s1 85 (x % 256) := by rw [h1]; omega
  have e2 : s1 (rep 85 (k + 1)) x / 256 = s1 (rep 85 k) (x / 256) := by rw [h1]; omega
  rw [e1, e2] at h2
  exact ⟨h2, l2⟩

theorem s12_low (k x : Nat) : s2 (rep 51 k) (s1 (rep 85 k) x) % 16 < 5 := by
  cases k with
  | zero => simp [rep, s2, s1]
  | succ k =>
    obtain ⟨h, -⟩ := s12_split k x
    obtain ⟨-, -, l, -⟩ := low3 ⟨x % 256, by omega⟩ 0
    dsimp only at l
    rw [h]; omega

theorem s123 (k x : Nat) : s3 (rep 15 k) (s2 (rep 51 k) (s1 (rep 85 k) x)) = byteCounts k x := by
  induction k generalizing x with
  | zero => simp [rep, s3, byteCounts]
  | succ k ih =>
    obtain ⟨h, hl⟩ := s12_split k x
    have hlow := s12_low k (x / 256)
    have ih' := ih (x / 256)
    unfold byteCounts
    rw [← ih']
    rw [h]
    generalize s2 (rep 51 k) (s1 (rep 85 k) (x / 256)) = Z at *
    obtain ⟨e, lt, -, -⟩ := low3 ⟨x % 256, by omega⟩ ⟨Z % 16, hlow⟩
    dsimp only at e lt
    generalize s2 51 (s1 85 (x % 256)) = z at *
    unfold s3
    have a1 := and_mod ((z + 256 * Z) / 16 + (z + 256 * Z)) (rep 15 (k + 1))
    have a2 := and_div ((z + 256 * Z) / 16 + (z + 256 * Z)) (rep 15 (k + 1))
    rw [rep_mod _ _ (by omega)] at a1
    rw [rep_div _ _ (by omega)] at a2
    have c1 : ((z + 256 * Z) / 16 + (z + 256 * Z)) % 256 = z / 16 + 16 * (Z % 16) + z := by omega
    have c2 : ((z + 256 * Z) / 16 + (z + 256 * Z)) / 256 = Z / 16 + Z := by omega
    rw [c1, e] at a1
    rw [c2] at a2
    rw [← a1, ← a2]
    omega

theorem pc_le (x : Nat) : pc 8 (x % 256) ≤ 8 := (low3 ⟨x % 256, by omega⟩ 0).2.2.2

theorem pc_split (n x : Nat) : pc (8 + n) x = pc 8 (x % 256) + pc n (x / 256) := by
  unfold pc
  rw [List.range_add, List.filter_append, List.length_append]
  congr 1
  · congr 1
    apply List.filter_congr
    intro j hj
    rw [show (256 : Nat) = 2 ^ 8 from rfl, Nat.testBit_mod_two_pow]
    simp at hj
    simp [hj]
  · rw [List.filter_map, List.length_map]
    congr 1
    apply List.filter_congr
    intro j _
    rw [show (256 : Nat) = 2 ^ 8 from rfl, Nat.testBit_div_two_pow]
    simp [Nat.add_comm]

theorem pc64 (x : Nat) : pc 64 x = pc 8 (x % 256) + (pc 8 (x / 256 % 256) + (pc 8 (x / 256 / 256 % 256) + (pc 8 (x / 256 / 256 / 256 % 256) + (pc 8 (x / 256 / 256 / 256 / 256 % 256) + (pc 8 (x / 256 / 256 / 256 / 256 / 256 % 256) + (pc 8 (x / 256 / 256 / 256 / 256 / 256 / 256 % 256) + pc 8 (x / 256 / 256 / 256 / 256 / 256 / 256 / 256 % 256))))))) := by
  have h0 := pc_split 56 x
  have h1 := pc_split 48 (x / 256)
  have h2 := pc_split 40 (x / 256 / 256)
  have h3 := pc_split 32 (x / 256 / 256 / 256)
  have h4 := pc_split 24 (x / 256 / 256 / 256 / 256)
  have h5 := pc_split 16 (x / 256 / 256 / 256 / 256 / 256)
  have h6 := pc_split 8 (x / 256 / 256 / 256 / 256 / 256 / 256)
  have h7 := pc_split 0 (x / 256 / 256 / 256 / 256 / 256 / 256 / 256)
  have z : pc 0 (x / 256 / 256 / 256 / 256 / 256 / 256 / 256 / 256) = 0 := rfl
  simp only [Nat.reduceAdd] at h0 h1 h2 h3 h4 h5 h6 h7
  rw [h0, h1, h2, h3, h4, h5, h6, h7, z, Nat.add_zero]

theorem dv (M a b : Nat) (h : a < M) : (a + M * b) / M = b := by
  rw [Nat.add_mul_div_left _ _ (by omega), Nat.div_eq_of_lt h, Nat.zero_add]

theorem q1 (c0 c1 c2 c3 c4 c5 c6 c7 : Nat) (b0 : c0 ≤ 8) : (c0 + 256 * (c1 + 256 * (c2 + 256 * (c3 + 256 * (c4 + 256 * (c5 + 256 * (c6 + 256 * (c7 + 256 * 0)))))))) / 256 = (c1) + 256 * ((c2) + 256 * ((c3) + 256 * ((c4) + 256 * ((c5) + 256 * ((c6) + 256 * (c7)))))) := by rw [Nat.mul_zero, Nat.add_zero]; exact dv 256 _ _ (by omega)
theorem q2 (c0 c1 c2 c3 c4 c5 c6 c7 : Nat) : c0 + 256 * (c1 + 256 * (c2 + 256 * (c3 + 256 * (c4 + 256 * (c5 + 256 * (c6 + 256 * (c7 + 256 * 0))))))) + ((c1) + 256 * ((c2) + 256 * ((c3) + 256 * ((c4) + 256 * ((c5) + 256 * ((c6) + 256 * (c7))))))) = ((c0 + c1) + 256 * (c1 + c2)) + 65536 * ((c2 + c3) + 256 * ((c3 + c4) + 256 * ((c4 + c5) + 256 * ((c5 + c6) + 256 * ((c6 + c7) + 256 * (c7)))))) := by omega
theorem q3 (c0 c1 c2 c3 c4 c5 c6 c7 : Nat) (b0 : c0 ≤ 8) (b1 : c1 ≤ 8) (b2 : c2 ≤ 8) (b3 : c3 ≤ 8) (b4 : c4 ≤ 8) (b5 : c5 ≤ 8) (b6 : c6 ≤ 8) (b7 : c7 ≤ 8) : (((c0 + c1) + 256 * (c1 + c2)) + 65536 * ((c2 + c3) + 256 * ((c3 + c4) + 256 * ((c4 + c5) + 256 * ((c5 + c6) + 256 * ((c6 + c7) + 256 * (c7))))))) / 65536 = (c2 + c3) + 256 * ((c3 + c4) + 256 * ((c4 + c5) + 256 * ((c5 + c6) + 256 * ((c6 + c7) + 256 * (c7))))) := dv 65536 _ _ (by clear b3 b4 b5 b6 b7; omega)
theorem q4 (c0 c1 c2 c3 c4 c5 c6 c7 : Nat) : ((c0 + c1) + 256 * (c1 + c2)) + 65536 * ((c2 + c3) + 256 * ((c3 + c4) + 256 * ((c4 + c5) + 256 * ((c5 + c6) + 256 * ((c6 + c7) + 256 * (c7)))))) + ((c2 + c3) + 256 * ((c3 + c4) + 256 * ((c4 + c5) + 256 * ((c5 + c6) + 256 * ((c6 + c7) + 256 * (c7)))))) = ((c0 + c1 + c2 + c3) + 256 * ((c1 + c2 + c3 + c4) + 256 * ((c2 + c3 + c4 + c5) + 256 * (c3 + c4 + c5 + c6)))) + 4294967296 * ((c4 + c5 + c6 + c7) + 256 * ((c5 + c6 + c7) + 256 * ((c6 + c7) + 256 * (c7)))) := by omega
theorem q5 (c0 c1 c2 c3 c4 c5 c6 c7 : Nat) (b0 : c0 ≤ 8) (b1 : c1 ≤ 8) (b2 : c2 ≤ 8) (b3 : c3 ≤ 8) (b4 : c4 ≤ 8) (b5 : c5 ≤ 8) (b6 : c6 ≤ 8) (b7 : c7 ≤ 8) : (((c0 + c1 + c2 + c3) + 256 * ((c1 + c2 + c3 + c4) + 256 * ((c2 + c3 + c4 + c5) + 256 * (c3 + c4 + c5 + c6)))) + 4294967296 * ((c4 + c5 + c6 + c7) + 256 * ((c5 + c6 + c7) + 256 * ((c6 + c7) + 256 * (c7))))) / 4294967296 = (c4 + c5 + c6 + c7) + 256 * ((c5 + c6 + c7) + 256 * ((c6 + c7) + 256 * (c7))) := dv 4294967296 _ _ (by omega)
theorem q6 (c0 c1 c2 c3 c4 c5 c6 c7 : Nat) : ((c0 + c1 + c2 + c3) + 256 * ((c1 + c2 + c3 + c4) + 256 * ((c2 + c3 + c4 + c5) + 256 * (c3 + c4 + c5 + c6)))) + 4294967296 * ((c4 + c5 + c6 + c7) + 256 * ((c5 + c6 + c7) + 256 * ((c6 + c7) + 256 * (c7)))) + ((c4 + c5 + c6 + c7) + 256 * ((c5 + c6 + c7) + 256 * ((c6 + c7) + 256 * (c7)))) = (c0 + c1 + c2 + c3 + c4 + c5 + c6 + c7) + 128 * (2 * ((c1 + c2 + c3 + c4 + c5 + c6 + c7) + 256 * ((c2 + c3 + c4 + c5 + c6 + c7) + 256 * ((c3 + c4 + c5 + c6 + c7) + 256 * ((c4 + c5 + c6 + c7) + 256 * ((c5 + c6 + c7) + 256 * ((c6 + c7) + 256 * (c7)))))))) := by omega
theorem q7 (c0 c1 c2 c3 c4 c5 c6 c7 : Nat) (b0 : c0 ≤ 8) (b1 : c1 ≤ 8) (b2 : c2 ≤ 8) (b3 : c3 ≤ 8) (b4 : c4 ≤ 8) (b5 : c5 ≤ 8) (b6 : c6 ≤ 8) (b7 : c7 ≤ 8) : c0 + 256 * (c1 + 256 * (c2 + 256 * (c3 + 256 * (c4 + 256 * (c5 + 256 * (c6 + 256 * (c7 + 256 * 0))))))) < 1152921504606846976 := by omega
theorem q8 (c0 c1 c2 c3 c4 c5 c6 c7 : Nat) (b0 : c0 ≤ 8) (b1 : c1 ≤ 8) (b2 : c2 ≤ 8) (b3 : c3 ≤ 8) (b4 : c4 ≤ 8) (b5 : c5 ≤ 8) (b6 : c6 ≤ 8) (b7 : c7 ≤ 8) : (c0 + c1 + c2 + c3 + c4 + c5 + c6 + c7) + 128 * (2 * ((c1 + c2 + c3 + c4 + c5 + c6 + c7) + 256 * ((c2 + c3 + c4 + c5 + c6 + c7) + 256 * ((c3 + c4 + c5 + c6 + c7) + 256 * ((c4 + c5 + c6 + c7) + 256 * ((c5 + c6 + c7) + 256 * ((c6 + c7) + 256 * (c7)))))))) < 9223372036854775808 := by omega
theorem q9 (a b : Nat) (h : a ≤ 64) : (a + 128 * b) % 128 = a := by omega

/-- What the sums by halves come to. -/
theorem halves (x : Nat) : ∃ u, byteCounts 8 x = u ∧ u < 1152921504606846976 ∧ u + u / 256 + (u + u / 256) / 65536 + (u + u / 256 + (u + u / 256) / 65536) / 4294967296 < 9223372036854775808 ∧
    (u + u / 256 + (u + u / 256) / 65536 + (u + u / 256 + (u + u / 256) / 65536) / 4294967296) % 128 = pc 64 x ∧ pc 64 x ≤ 64 := by
  refine ⟨_, rfl, ?_⟩
  rw [pc64]
  unfold byteCounts byteCounts byteCounts byteCounts byteCounts byteCounts byteCounts byteCounts byteCounts
  have b0 := pc_le x
  have b1 := pc_le (x / 256)
  have b2 := pc_le (x / 256 / 256)
  have b3 := pc_le (x / 256 / 256 / 256)
  have b4 := pc_le (x / 256 / 256 / 256 / 256)
  have b5 := pc_le (x / 256 / 256 / 256 / 256 / 256)
  have b6 := pc_le (x / 256 / 256 / 256 / 256 / 256 / 256)
  have b7 := pc_le (x / 256 / 256 / 256 / 256 / 256 / 256 / 256)
  generalize pc 8 (x % 256) = c0 at *
  generalize pc 8 (x / 256 % 256) = c1 at *
  generalize pc 8 (x / 256 / 256 % 256) = c2 at *
  generalize pc 8 (x / 256 / 256 / 256 % 256) = c3 at *
  generalize pc 8 (x / 256 / 256 / 256 / 256 % 256) = c4 at *
  generalize pc 8 (x / 256 / 256 / 256 / 256 / 256 % 256) = c5 at *
  generalize pc 8 (x / 256 / 256 / 256 / 256 / 256 / 256 % 256) = c6 at *
  generalize pc 8 (x / 256 / 256 / 256 / 256 / 256 / 256 / 256 % 256) = c7 at *
  clear x
  rw [q1 c0 c1 c2 c3 c4 c5 c6 c7 b0, q2, q3 c0 c1 c2 c3 c4 c5 c6 c7 b0 b1 b2 b3 b4 b5 b6 b7, q4, q5 c0 c1 c2 c3 c4 c5 c6 c7 b0 b1 b2 b3 b4 b5 b6 b7, q6]
  have e : c0 + (c1 + (c2 + (c3 + (c4 + (c5 + (c6 + c7)))))) = c0 + c1 + c2 + c3 + c4 + c5 + c6 + c7 := by omega
  rw [e]
  exact ⟨q7 c0 c1 c2 c3 c4 c5 c6 c7 b0 b1 b2 b3 b4 b5 b6 b7, q8 c0 c1 c2 c3 c4 c5 c6 c7 b0 b1 b2 b3 b4 b5 b6 b7, q9 _ _ (by omega), by omega⟩
end Go.Proofs.YtemgfbidfdhanaaDoor

/- Walks: Count: the number of a set's bytes, at every set. -/
namespace Go.Proofs.YtemgfbidfdhanaaDoor
open Go.RowKit

theorem rep85 : rep 85 8 = 6148914691236517205 := by decide
theorem rep51 : rep 51 8 = 3689348814741910323 := by decide
theorem rep15 : rep 15 8 = 1085102592571150095 := by decide

theorem wrapu (n : Nat) (h : n < 18446744073709551616) : IntKind.u64.wrap (n : Int) = (n : Int) := by
  rw [IntKind.wrap_u64]; omega

/-- How many bytes a set has. -/
def card (p : Nat → Bool) : Nat := ((List.range 256).filter p).length

theorem card_part (p : Nat → Bool) (k : Nat) : (((List.range 64).map (fun j => 64 * k + j)).filter p).length = pc 64 (wd p k) := by
  unfold pc
  rw [List.filter_map, List.length_map]
  congr 1
  apply List.filter_congr
  intro j hj
  rw [List.mem_range] at hj
  rw [wd_testBit p k j hj]; rfl

theorem card_words (p : Nat → Bool) : card p = pc 64 (wd p 0) + pc 64 (wd p 1) + pc 64 (wd p 2) + pc 64 (wd p 3) := by
  have h : List.range 256 = ((List.range 64).map (fun j => 64 * 0 + j)) ++ ((List.range 64).map (fun j => 64 * 1 + j)) ++ ((List.range 64).map (fun j => 64 * 2 + j)) ++ ((List.range 64).map (fun j => 64 * 3 + j)) := by decide +kernel
  unfold card
  rw [h, List.filter_append, List.filter_append, List.filter_append, List.length_append, List.length_append, List.length_append, card_part, card_part, card_part, card_part]

theorem pc_64_le (x : Nat) : pc 64 x ≤ 64 := by
  obtain ⟨_, _, _, _, _, h⟩ := halves x
  exact h

end Go.Proofs.YtemgfbidfdhanaaDoor

/- Walks: the document's Members and Count: the bytes of a set, rising, in a new list. -/
namespace Go.Proofs.YtemgfbidfdhanaaDoor
open Go.RowKit

/-- The members below k, rising. -/
def mem (p : Nat → Bool) (k : Nat) : List Nat := (List.range k).filter p

/-- Bytes as Go holds them. -/
def byteVals (l : List Nat) : List Value := l.map fun n => Value.int .u8 (n : Nat)

theorem mem_succ (p : Nat → Bool) (k : Nat) : mem p (k + 1) = if p k then mem p k ++ [k] else mem p k := by
  unfold mem
  rw [List.range_succ, List.filter_append]
  by_cases h : p k = true <;> simp [h]

theorem mem_le (p : Nat → Bool) (k : Nat) : (mem p k).length ≤ k := by
  have := List.length_filter_le p (List.range k)
  simpa [mem] using this

theorem byteVals_snoc (l : List Nat) (k : Nat) : byteVals (l ++ [k]) = byteVals l ++ [.int .u8 (k : Nat)] := by simp [byteVals]

theorem owns_below {w w' : World} {base : Nat} {e : TypeId} {size : Nat} {v : Value} {n : Nat} {xs : List Value} (h : w.ownsRow base e size v n xs) (hb : Below w.heap.size w w') : w'.ownsRow base e size v n xs := by
  obtain ⟨hl, h⟩ := h
  refine ⟨hl, ?_⟩
  rcases h with h | ⟨g, cap, cur, hv, hg, hh, rest⟩
  · exact .inl h
  · have hlt : g < w.heap.size := (Array.getElem?_eq_some_iff.1 hh).1
    exact .inr ⟨g, cap, cur, hv, hg, (hb.block g hlt).trans hh, rest⟩

theorem owns_block {w : World} {base : Nat} {e : TypeId} {size : Nat} {v : Value} {n : Nat} {xs : List Value} (h : w.ownsRow base e size v n xs) : ∀ k, v.ownBlock = some k → base ≤ k := by
  rcases h.2 with ⟨rfl, -⟩ | ⟨g, cap, cur, rfl, hg, -⟩
  · intro k hk; cases hk
  · intro k hk; cases hk; exact hg

theorem info5 : (Tryd.prog.info? 5).map (fun i => (i.zero, i.size, i.bytes)) = some (some (.int .u8 0), 1, 1) := by kernel_rfl

end Go.Proofs.YtemgfbidfdhanaaDoor
