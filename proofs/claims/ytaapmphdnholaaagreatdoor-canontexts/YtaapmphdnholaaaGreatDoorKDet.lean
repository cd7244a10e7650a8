/- Walks: the sets' calls with the one value that each answers; '==' of two sets; Span. -/
import Derived.Test.YtaapmphdnholaaaGreatDoorKPlain
import Derived.ChangeKeysEq
set_option maxRecDepth 100000
set_option maxHeartbeats 1000000
namespace Go.Proofs.YtaapmphdnholaaaGreatDoor
open Go.RowKit
def notP (p : Nat → Bool) : Nat → Bool := fun n => !p n
def orP (p r : Nat → Bool) : Nat → Bool := fun n => p n || r n
def andP (p r : Nat → Bool) : Nat → Bool := fun n => p n && r n
def ofP (s : ByteArray) : Nat → Bool := xd7 s s.size
def sP (lo hi : Nat) : Nat → Bool := fun n => decide (lo ≤ n ∧ n ≤ hi)
def xad : Nat → Bool := fun _ => false
theorem det {f : FuncId} {args : Array Value} {w : World} {spec : Nat → Bool} (h : Calls Tryz.prog f args w fun e w' => ∃ q, e = .returned (.agg #[.int .u64 (wd q 0), .int .u64 (wd q 1), .int .u64 (wd q 2), .int .u64 (wd q 3)]) ∧ Is q (spec) ∧ Below w.heap.size w w') :
  Calls Tryz.prog f args w fun e w' => e = .returned (.agg #[.int .u64 (wd spec 0), .int .u64 (wd spec 1), .int .u64 (wd spec 2), .int .u64 (wd spec 3)]) ∧ Below w.heap.size w w' :=
 h.mono fun _ _ ⟨_, he, hq, hb⟩ => by
  obtain ⟨e0, e1, e2, e3⟩ := wd_Is hq
  rw [e0, e1, e2, e3] at he
  exact ⟨he, hb⟩
theorem notD (p : Nat → Bool) (w : World) : Calls Tryz.prog 50 #[.agg #[.int .u64 (wd p 0), .int .u64 (wd p 1), .int .u64 (wd p 2), .int .u64 (wd p 3)]] w fun e w' => e = .returned (.agg #[.int .u64 (wd (notP p) 0), .int .u64 (wd (notP p) 1), .int .u64 (wd (notP p) 2), .int .u64 (wd (notP p) 3)]) ∧ Below w.heap.size w w' := det (not_any p w)
theorem xq0 (p : Nat → Bool) (w : World) : Calls Tryz.prog 44 #[.agg #[.int .u64 (wd p 0), .int .u64 (wd p 1), .int .u64 (wd p 2), .int .u64 (wd p 3)]] w fun e w' => e = .returned (.agg #[.int .u64 (wd (notP p) 0), .int .u64 (wd (notP p) 1), .int .u64 (wd (notP p) 2), .int .u64 (wd (notP p) 3)]) ∧ Below w.heap.size w w' := det (xo8 p w)
theorem orD (p r : Nat → Bool) (w : World) : Calls Tryz.prog 88 #[.agg #[.int .u64 (wd p 0), .int .u64 (wd p 1), .int .u64 (wd p 2), .int .u64 (wd p 3)], .agg #[.int .u64 (wd r 0), .int .u64 (wd r 1), .int .u64 (wd r 2), .int .u64 (wd r 3)]] w fun e w' => e = .returned (.agg #[.int .u64 (wd (orP p r) 0), .int .u64 (wd (orP p r) 1), .int .u64 (wd (orP p r) 2), .int .u64 (wd (orP p r) 3)]) ∧ Below w.heap.size w w' := det (or_any p r w)
theorem xi1 (p r : Nat → Bool) (w : World) : Calls Tryz.prog 64 #[.agg #[.int .u64 (wd p 0), .int .u64 (wd p 1), .int .u64 (wd p 2), .int .u64 (wd p 3)], .agg #[.int .u64 (wd r 0), .int .u64 (wd r 1), .int .u64 (wd r 2), .int .u64 (wd r 3)]] w fun e w' => e = .returned (.agg #[.int .u64 (wd (orP p r) 0), .int .u64 (wd (orP p r) 1), .int .u64 (wd (orP p r) 2), .int .u64 (wd (orP p r) 3)]) ∧ Below w.heap.size w w' := det (xqw p r w)
theorem andD (p r : Nat → Bool) (w : World) : Calls Tryz.prog 115 #[.agg #[.int .u64 (wd p 0), .int .u64 (wd p 1), .int .u64 (wd p 2), .int .u64 (wd p 3)], .agg #[.int .u64 (wd r 0), .int .u64 (wd r 1), .int .u64 (wd r 2), .int .u64 (wd r 3)]] w fun e w' => e = .returned (.agg #[.int .u64 (wd (andP p r) 0), .int .u64 (wd (andP p r) 1), .int .u64 (wd (andP p r) 2), .int .u64 (wd (andP p r) 3)]) ∧ Below w.heap.size w w' := det (and_any p r w)
theorem ofD (s : ByteArray) (hs : s.size ≤ maxLen) (w : World) : Calls Tryz.prog 74 #[.string s] w fun e w' => e = .returned (.agg #[.int .u64 (wd (ofP s) 0), .int .u64 (wd (ofP s) 1), .int .u64 (wd (ofP s) 2), .int .u64 (wd (ofP s) 3)]) ∧ Below w.heap.size w w' := det (of_any s hs w)
theorem xcw (s : ByteArray) (hs : s.size ≤ maxLen) (w : World) : Calls Tryz.prog 66 #[.string s] w fun e w' => e = .returned (.agg #[.int .u64 (wd (ofP s) 0), .int .u64 (wd (ofP s) 1), .int .u64 (wd (ofP s) 2), .int .u64 (wd (ofP s) 3)]) ∧ Below w.heap.size w w' := det (xqz s hs w)
theorem xak (lo hi : Int) (h0 : 0 ≤ lo) (h1 : lo ≤ hi) (h2 : hi < 256) (w : World) : Calls Tryz.prog 114 #[.int .u8 lo, .int .u8 hi] w fun e w' => e = .returned (.agg #[.int .u64 (wd (sP lo.toNat hi.toNat) 0), .int .u64 (wd (sP lo.toNat hi.toNat) 1), .int .u64 (wd (sP lo.toNat hi.toNat) 2), .int .u64 (wd (sP lo.toNat hi.toNat) 3)]) ∧ Below w.heap.size w w' :=
 det ((xmb lo hi h0 h1 h2 w).mono fun _ _ ⟨q, he, hq, hb⟩ => ⟨q, he, fun n hn => by rw [hq n hn]; unfold sP; rw [Bool.eq_iff_iff]; simp only [decide_eq_true_eq]; omega, hb⟩)
theorem info22 : ∃ i, Tryz.prog.info? 31 = some i := by
 have h : (Tryz.prog.info? 31).isSome = true := by kernel_rfl
 exact Option.isSome_iff_exists.1 h
theorem xq1 : Tryz.prog.cellsOf 31 = 1 := by kernel_rfl
theorem xjm (a0 a1 a2 a3 b0 b1 b2 b3 : Int) (w : World) :
  (binOp .eql 33 (.agg #[.int .u64 a0, .int .u64 a1, .int .u64 a2, .int .u64 a3]) (.agg #[.int .u64 b0, .int .u64 b1, .int .u64 b2, .int .u64 b3])).run Tryz.prog w = .ok (.bool ((a0 == b0) && (a1 == b1) && (a2 == b2) && (a3 == b3))) w := by
 obtain ⟨i, hi⟩ := info22
 rw [run_eql_struct, run_equalIn_array w 9999 _ _ Tryz.underlying33 hi, xq1]
 simp [Op.eqItems, List.range_succ, go_sem]
 by_cases h0 : a0 = b0 <;> by_cases h1 : a1 = b1 <;> by_cases h2 : a2 = b2 <;> by_cases h3 : a3 = b3 <;> simp [h0, h1, h2, h3]
theorem xjn (a0 a1 a2 a3 b0 b1 b2 b3 : Int) (w : World) :
  (binOp .neq 33 (.agg #[.int .u64 a0, .int .u64 a1, .int .u64 a2, .int .u64 a3]) (.agg #[.int .u64 b0, .int .u64 b1, .int .u64 b2, .int .u64 b3])).run Tryz.prog w = .ok (.bool (!((a0 == b0) && (a1 == b1) && (a2 == b2) && (a3 == b3)))) w := by
 obtain ⟨i, hi⟩ := info22
 rw [run_neq_struct, run_equalIn_array w 9999 _ _ Tryz.underlying33 hi, xq1]
 simp [Op.eqItems, List.range_succ, go_sem]
 by_cases h0 : a0 = b0 <;> by_cases h1 : a1 = b1 <;> by_cases h2 : a2 = b2 <;> by_cases h3 : a3 = b3 <;> simp [h0, h1, h2, h3]
theorem xhb (p q : Nat → Bool) (w : World) : (binOp .eql 33 (.agg #[.int .u64 (wd p 0), .int .u64 (wd p 1), .int .u64 (wd p 2), .int .u64 (wd p 3)]) (.agg #[.int .u64 (wd q 0), .int .u64 (wd q 1), .int .u64 (wd q 2), .int .u64 (wd q 3)])).run Tryz.prog w = .ok (.bool (eqB p q)) w := by
 rw [xjm, xks]
theorem xcx (p q : Nat → Bool) (w : World) : (binOp .neq 33 (.agg #[.int .u64 (wd p 0), .int .u64 (wd p 1), .int .u64 (wd p 2), .int .u64 (wd p 3)]) (.agg #[.int .u64 (wd q 0), .int .u64 (wd q 1), .int .u64 (wd q 2), .int .u64 (wd q 3)])).run Tryz.prog w = .ok (.bool (!eqB p q)) w := by
 rw [xjn, xks]
theorem xku {p q : Nat → Bool} (h : Is p q) : eqB p q = true := (xff p q).2 h
theorem spanD (lo hi : Int) (h0 : 0 ≤ lo) (h1 : lo ≤ hi) (h2 : hi < 256) (w : World) :
  Calls Tryz.prog 111 #[.int .u8 lo, .int .u8 hi] w fun e w' => e = .returned (.tuple #[.agg #[.int .u64 (wd (sP lo.toNat hi.toNat) 0), .int .u64 (wd (sP lo.toNat hi.toNat) 1), .int .u64 (wd (sP lo.toNat hi.toNat) 2), .int .u64 (wd (sP lo.toNat hi.toNat) 3)], .int .i64 0]) ∧ Below w.heap.size w w' := by
 have hlt : ¬ hi < lo := by omega
 go_enter Tryz.func111, Tryz.ntmps111
 go_wp2_with fail
 refine (xak lo hi h0 h1 h2 _).mono ?_
 rintro e w1 ⟨rfl, hb1⟩
 have hr1 := (xaj w 33).below hb1 (by simp)
 have hr2 := hr1
 obtain ⟨⟨c0, c1, c2, c3⟩, f0, f1, f2, f3⟩ := hr2
 go_wp2
 exact bodyPost_ret (v := .tuple #[.agg #[.int .u64 (wd (sP lo.toNat hi.toNat) 0), .int .u64 (wd (sP lo.toNat hi.toNat) 1), .int .u64 (wd (sP lo.toNat hi.toNat) 2), .int .u64 (wd (sP lo.toNat hi.toNat) 3)], .int .i64 0]) (by simp [results, Tryz.results111, go_sem, *]) rfl ⟨rfl, xai (((Below.refl _ _).alloc (Nat.le_refl _) _).trans (hb1.mono (by simp))) (Nat.le_refl _) _⟩
theorem spanBad (lo hi : Int) (hlt : hi < lo) (w : World) :
  Calls Tryz.prog 111 #[.int .u8 lo, .int .u8 hi] w fun e w' => e = .returned (.tuple #[.agg #[.int .u64 (wd xad 0), .int .u64 (wd xad 1), .int .u64 (wd xad 2), .int .u64 (wd xad 3)], .int .i64 7]) ∧ Below w.heap.size w w' := by
 unfold xad
 rw [xaa, xaa, xaa, xaa]
 go_enter Tryz.func111, Tryz.ntmps111
 go_wp2
 exact bodyPost_ret (v := .tuple #[.agg #[.int .u64 0, .int .u64 0, .int .u64 0, .int .u64 0], .int .i64 7]) (by simp [results, Tryz.results111, go_sem]) rfl ⟨rfl, (Below.refl _ _).alloc (Nat.le_refl _) _⟩
end Go.Proofs.YtaapmphdnholaaaGreatDoor
set_option linter.unusedVariables false
namespace Go.Proofs.YtaapmphdnholaaaGreatDoor
def pc (n x : Nat) : Nat := ((List.range n).filter fun j => x.testBit j).length
theorem xhc (a b : Nat) : (a &&& b) % 256 = (a % 256) &&& (b % 256) := Nat.and_mod_two_pow (n := 8)
theorem xhd (a b : Nat) : (a &&& b) / 256 = (a / 256) &&& (b / 256) := Nat.and_div_two_pow (n := 8)
def s1 (m x : Nat) : Nat := (x / 2 &&& m) + (x &&& m)
def s2 (m x : Nat) : Nat := (x / 4 &&& m) + (x &&& m)
def s3 (m x : Nat) : Nat := (x / 16 + x) &&& m
theorem low1 : ∀ x : Fin 256, ∀ b : Fin 2, ((x.val / 2 + 128 * b.val) &&& 85) + (x.val &&& 85) = s1 85 x.val ∧ s1 85 x.val < 256 := by decide +kernel
theorem low2 : ∀ x : Fin 256, ∀ b : Fin 4, ((x.val / 4 + 64 * b.val) &&& 51) + (x.val &&& 51) = s2 51 x.val ∧ s2 51 x.val < 256 := by decide +kernel
theorem low3 : ∀ x : Fin 256, ∀ b : Fin 5, ((s2 51 (s1 85 x.val) / 16 + 16 * b.val + s2 51 (s1 85 x.val)) &&& 15) = pc 8 x.val ∧ s2 51 (s1 85 x.val) / 16 + 16 * b.val + s2 51 (s1 85 x.val) < 256 ∧ s2 51 (s1 85 x.val) % 16 < 5 ∧ pc 8 x.val ≤ 8 := by decide +kernel
theorem s1_split (x m : Nat) (hm : m % 256 = 85) : s1 m x = s1 85 (x % 256) + 256 * s1 (m / 256) (x / 256) := by
 obtain ⟨e, -⟩ := low1 ⟨x % 256, by omega⟩ ⟨x / 256 % 2, by omega⟩
 dsimp only at e
 have a1 := xhc (x / 2) m
 have a2 := xhd (x / 2) m
 have b1 := xhc x m
 have b2 := xhd x m
 rw [hm] at a1 b1
 have c1 : x / 2 % 256 = x % 256 / 2 + 128 * (x / 256 % 2) := by omega
 have c2 : x / 2 / 256 = x / 256 / 2 := by omega
 rw [c1] at a1
 rw [c2] at a2
 rw [← e]
 unfold s1
 rw [← a1, ← a2, ← b1, ← b2]
 omega
theorem s2_split (x m : Nat) (hm : m % 256 = 51) : s2 m x = s2 51 (x % 256) + 256 * s2 (m / 256) (x / 256) := by
 obtain ⟨e, -⟩ := low2 ⟨x % 256, by omega⟩ ⟨x / 256 % 4, by omega⟩
 dsimp only at e
 have a1 := xhc (x / 4) m
 have a2 := xhd (x / 4) m
 have b1 := xhc x m
 have b2 := xhd x m
 rw [hm] at a1 b1
 have c1 : x / 4 % 256 = x % 256 / 4 + 64 * (x / 256 % 4) := by omega
 have c2 : x / 4 / 256 = x / 256 / 4 := by omega
 rw [c1] at a1
 rw [c2] at a2
 rw [← e]
 unfold s2
 rw [← a1, ← a2, ← b1, ← b2]
 omega
def rep (b : Nat) : Nat → Nat
 | 0 => 0
 | k + 1 => b + 256 * rep b k
theorem xmd (b k : Nat) (h : b < 256) : rep b (k + 1) % 256 = b := by show (b + 256 * rep b k) % 256 = b; omega
theorem xme (b k : Nat) (h : b < 256) : rep b (k + 1) / 256 = rep b k := by show (b + 256 * rep b k) / 256 = rep b k; omega
def xbg : Nat → Nat → Nat
 | 0, _ => 0
 | k + 1, x => pc 8 (x % 256) + 256 * xbg k (x / 256)
theorem xkv (k x : Nat) : s2 (rep 51 (k + 1)) (s1 (rep 85 (k + 1)) x) = s2 51 (s1 85 (x % 256)) + 256 * s2 (rep 51 k) (s1 (rep 85 k) (x / 256)) ∧ s2 51 (s1 85 (x % 256)) < 256 := by
 have h1 := s1_split x (rep 85 (k + 1)) (xmd _ _ (by omega))
 rw [xme _ _ (by omega)] at h1
 obtain ⟨-, l1⟩ := low1 ⟨x % 256, by omega⟩ 0
 dsimp only at l1
 obtain ⟨-, l2⟩ := low2 ⟨s1 85 (x % 256), l1⟩ 0
 dsimp only at l2
 have h2 := s2_split (s1 (rep 85 (k + 1)) x) (rep 51 (k + 1)) (xmd _ _ (by omega))
 rw [xme _ _ (by omega)] at h2
 have e1 : s1 (rep 85 (k + 1)) x % 256 = s1 85 (x % 256) := by rw [h1]; omega
 have e2 : s1 (rep 85 (k + 1)) x / 256 = s1 (rep 85 k) (x / 256) := by rw [h1]; omega
 rw [e1, e2] at h2
 exact ⟨h2, l2⟩
theorem s12_low (k x : Nat) : s2 (rep 51 k) (s1 (rep 85 k) x) % 16 < 5 := by
 cases k with
 | zero => simp [rep, s2, s1]
 | succ k =>
  obtain ⟨h, -⟩ := xkv k x
  obtain ⟨-, -, l, -⟩ := low3 ⟨x % 256, by omega⟩ 0
  dsimp only at l
  rw [h]; omega
theorem s123 (k x : Nat) : s3 (rep 15 k) (s2 (rep 51 k) (s1 (rep 85 k) x)) = xbg k x := by
 induction k generalizing x with
 | zero => simp [rep, s3, xbg]
 | succ k ih =>
  obtain ⟨h, hl⟩ := xkv k x
  have hlow := s12_low k (x / 256)
  have ih' := ih (x / 256)
  unfold xbg
  rw [← ih']
  rw [h]
  generalize s2 (rep 51 k) (s1 (rep 85 k) (x / 256)) = Z at *
  obtain ⟨e, lt, -, -⟩ := low3 ⟨x % 256, by omega⟩ ⟨Z % 16, hlow⟩
  dsimp only at e lt
  generalize s2 51 (s1 85 (x % 256)) = z at *
  unfold s3
  have a1 := xhc ((z + 256 * Z) / 16 + (z + 256 * Z)) (rep 15 (k + 1))
  have a2 := xhd ((z + 256 * Z) / 16 + (z + 256 * Z)) (rep 15 (k + 1))
  rw [xmd _ _ (by omega)] at a1
  rw [xme _ _ (by omega)] at a2
  have c1 : ((z + 256 * Z) / 16 + (z + 256 * Z)) % 256 = z / 16 + 16 * (Z % 16) + z := by omega
  have c2 : ((z + 256 * Z) / 16 + (z + 256 * Z)) / 256 = Z / 16 + Z := by omega
  rw [c1, e] at a1
  rw [c2] at a2
  rw [← a1, ← a2]
  omega
theorem xkw (x : Nat) : pc 8 (x % 256) ≤ 8 := (low3 ⟨x % 256, by omega⟩ 0).2.2.2
theorem xdz (n x : Nat) : pc (8 + n) x = pc 8 (x % 256) + pc n (x / 256) := by
 unfold pc
 rw [List.range_add, List.filter_append, List.length_append]
 congr 1
 ·congr 1
  apply List.filter_congr
  intro j hj
  rw [show (256 : Nat) = 2 ^ 8 from rfl, Nat.testBit_mod_two_pow]
  simp at hj
  simp [hj]
 ·rw [List.filter_map, List.length_map]
  congr 1
  apply List.filter_congr
  intro j _
  rw [show (256 : Nat) = 2 ^ 8 from rfl, Nat.testBit_div_two_pow]
  simp [Nat.add_comm]
theorem pc64 (x : Nat) : pc 64 x = pc 8 (x % 256) + (pc 8 (x / 256 % 256) + (pc 8 (x / 256 / 256 % 256) + (pc 8 (x / 256 / 256 / 256 % 256) + (pc 8 (x / 256 / 256 / 256 / 256 % 256) + (pc 8 (x / 256 / 256 / 256 / 256 / 256 % 256) + (pc 8 (x / 256 / 256 / 256 / 256 / 256 / 256 % 256) + pc 8 (x / 256 / 256 / 256 / 256 / 256 / 256 / 256 % 256))))))) := by
 have h0 := xdz 56 x
 have h1 := xdz 48 (x / 256)
 have h2 := xdz 40 (x / 256 / 256)
 have h3 := xdz 32 (x / 256 / 256 / 256)
 have h4 := xdz 24 (x / 256 / 256 / 256 / 256)
 have h5 := xdz 16 (x / 256 / 256 / 256 / 256 / 256)
 have h6 := xdz 8 (x / 256 / 256 / 256 / 256 / 256 / 256)
 have h7 := xdz 0 (x / 256 / 256 / 256 / 256 / 256 / 256 / 256)
 have z : pc 0 (x / 256 / 256 / 256 / 256 / 256 / 256 / 256 / 256) = 0 := rfl
 simp only [Nat.reduceAdd] at h0 h1 h2 h3 h4 h5 h6 h7
 rw [h0, h1, h2, h3, h4, h5, h6, h7, z, Nat.add_zero]
theorem dv (M a b : Nat) (h : a < M) : (a + M * b) / M = b := by
 rw [Nat.add_mul_div_left _ _ (by omega), Nat.div_eq_of_lt h, Nat.zero_add]
theorem q1 (c0 c1 c2 c3 c4 c5 c6 c7 : Nat) (b0 : c0 ≤ 8) : (c0 + 256 * (c1 + 256 * (c2 + 256 * (c3 + 256 * (c4 + 256 * (c5 + 256 * (c6 + 256 * (c7 + 256 * 0)))))))) / 256 = (c1) + 256 * ((c2) + 256 * ((c3) + 256 * ((c4) + 256 * ((c5) + 256 * ((c6) + 256 * (c7)))))) := by rw [Nat.mul_zero, Nat.add_zero]; exact dv 256 _ _ (by omega)
theorem q2 (c0 c1 c2 c3 c4 c5 c6 c7 : Nat) : c0 + 256 * (c1 + 256 * (c2 + 256 * (c3 + 256 * (c4 + 256 * (c5 + 256 * (c6 + 256 * (c7 + 256 * 0))))))) + ((c1) + 256 * ((c2) + 256 * ((c3) + 256 * ((c4) + 256 * ((c5) + 256 * ((c6) + 256 * (c7))))))) = ((c0 + c1) + 256 * (c1 + c2)) + 65536 * ((c2 + c3) + 256 * ((c3 + c4) + 256 * ((c4 + c5) + 256 * ((c5 + c6) + 256 * ((c6 + c7) + 256 * (c7)))))) := by omega
theorem q3 (c0 c1 c2 c3 c4 c5 c6 c7 : Nat) (b0 : c0 ≤ 8) (b1 : c1 ≤ 8) (b2 : c2 ≤ 8) (b3 : c3 ≤ 8) (b4 : c4 ≤ 8) (b5 : c5 ≤ 8) (b6 : c6 ≤ 8) (b7 : c7 ≤ 8) : (((c0 + c1) + 256 * (c1 + c2)) + 65536 * ((c2 + c3) + 256 * ((c3 + c4) + 256 * ((c4 + c5) + 256 * ((c5 + c6) + 256 * ((c6 + c7) + 256 * (c7))))))) / 65536 = (c2 + c3) + 256 * ((c3 + c4) + 256 * ((c4 + c5) + 256 * ((c5 + c6) + 256 * ((c6 + c7) + 256 * (c7))))) := dv 65536 _ _ (by clear b3 b4 b5 b6 b7; omega)
theorem q4 (c0 c1 c2 c3 c4 c5 c6 c7 : Nat) : ((c0 + c1) + 256 * (c1 + c2)) + 65536 * ((c2 + c3) + 256 * ((c3 + c4) + 256 * ((c4 + c5) + 256 * ((c5 + c6) + 256 * ((c6 + c7) + 256 * (c7)))))) + ((c2 + c3) + 256 * ((c3 + c4) + 256 * ((c4 + c5) + 256 * ((c5 + c6) + 256 * ((c6 + c7) + 256 * (c7)))))) = ((c0 + c1 + c2 + c3) + 256 * ((c1 + c2 + c3 + c4) + 256 * ((c2 + c3 + c4 + c5) + 256 * (c3 + c4 + c5 + c6)))) + 4294967296 * ((c4 + c5 + c6 + c7) + 256 * ((c5 + c6 + c7) + 256 * ((c6 + c7) + 256 * (c7)))) := by omega
theorem q5 (c0 c1 c2 c3 c4 c5 c6 c7 : Nat) (b0 : c0 ≤ 8) (b1 : c1 ≤ 8) (b2 : c2 ≤ 8) (b3 : c3 ≤ 8) (b4 : c4 ≤ 8) (b5 : c5 ≤ 8) (b6 : c6 ≤ 8) (b7 : c7 ≤ 8) : (((c0 + c1 + c2 + c3) + 256 * ((c1 + c2 + c3 + c4) + 256 * ((c2 + c3 + c4 + c5) + 256 * (c3 + c4 + c5 + c6)))) + 4294967296 * ((c4 + c5 + c6 + c7) + 256 * ((c5 + c6 + c7) + 256 * ((c6 + c7) + 256 * (c7))))) / 4294967296 = (c4 + c5 + c6 + c7) + 256 * ((c5 + c6 + c7) + 256 * ((c6 + c7) + 256 * (c7))) := dv 4294967296 _ _ (by omega)
theorem q6 (c0 c1 c2 c3 c4 c5 c6 c7 : Nat) : ((c0 + c1 + c2 + c3) + 256 * ((c1 + c2 + c3 + c4) + 256 * ((c2 + c3 + c4 + c5) + 256 * (c3 + c4 + c5 + c6)))) + 4294967296 * ((c4 + c5 + c6 + c7) + 256 * ((c5 + c6 + c7) + 256 * ((c6 + c7) + 256 * (c7)))) + ((c4 + c5 + c6 + c7) + 256 * ((c5 + c6 + c7) + 256 * ((c6 + c7) + 256 * (c7)))) = (c0 + c1 + c2 + c3 + c4 + c5 + c6 + c7) + 128 * (2 * ((c1 + c2 + c3 + c4 + c5 + c6 + c7) + 256 * ((c2 + c3 + c4 + c5 + c6 + c7) + 256 * ((c3 + c4 + c5 + c6 + c7) + 256 * ((c4 + c5 + c6 + c7) + 256 * ((c5 + c6 + c7) + 256 * ((c6 + c7) + 256 * (c7)))))))) := by omega
theorem q7 (c0 c1 c2 c3 c4 c5 c6 c7 : Nat) (b0 : c0 ≤ 8) (b1 : c1 ≤ 8) (b2 : c2 ≤ 8) (b3 : c3 ≤ 8) (b4 : c4 ≤ 8) (b5 : c5 ≤ 8) (b6 : c6 ≤ 8) (b7 : c7 ≤ 8) : c0 + 256 * (c1 + 256 * (c2 + 256 * (c3 + 256 * (c4 + 256 * (c5 + 256 * (c6 + 256 * (c7 + 256 * 0))))))) < 1152921504606846976 := by omega
theorem q8 (c0 c1 c2 c3 c4 c5 c6 c7 : Nat) (b0 : c0 ≤ 8) (b1 : c1 ≤ 8) (b2 : c2 ≤ 8) (b3 : c3 ≤ 8) (b4 : c4 ≤ 8) (b5 : c5 ≤ 8) (b6 : c6 ≤ 8) (b7 : c7 ≤ 8) : (c0 + c1 + c2 + c3 + c4 + c5 + c6 + c7) + 128 * (2 * ((c1 + c2 + c3 + c4 + c5 + c6 + c7) + 256 * ((c2 + c3 + c4 + c5 + c6 + c7) + 256 * ((c3 + c4 + c5 + c6 + c7) + 256 * ((c4 + c5 + c6 + c7) + 256 * ((c5 + c6 + c7) + 256 * ((c6 + c7) + 256 * (c7)))))))) < 9223372036854775808 := by omega
theorem q9 (a b : Nat) (h : a ≤ 64) : (a + 128 * b) % 128 = a := by omega
theorem halves (x : Nat) : ∃ u, xbg 8 x = u ∧ u < 1152921504606846976 ∧ u + u / 256 + (u + u / 256) / 65536 + (u + u / 256 + (u + u / 256) / 65536) / 4294967296 < 9223372036854775808 ∧
  (u + u / 256 + (u + u / 256) / 65536 + (u + u / 256 + (u + u / 256) / 65536) / 4294967296) % 128 = pc 64 x ∧ pc 64 x ≤ 64 := by
 refine ⟨_, rfl, ?_⟩
 rw [pc64]
 unfold xbg xbg xbg xbg xbg xbg xbg xbg xbg
 have b0 := xkw x
 have b1 := xkw (x / 256)
 have b2 := xkw (x / 256 / 256)
 have b3 := xkw (x / 256 / 256 / 256)
 have b4 := xkw (x / 256 / 256 / 256 / 256)
 have b5 := xkw (x / 256 / 256 / 256 / 256 / 256)
 have b6 := xkw (x / 256 / 256 / 256 / 256 / 256 / 256)
 have b7 := xkw (x / 256 / 256 / 256 / 256 / 256 / 256 / 256)
 generalize pc 8 (x % 256) = c0 at *
 generalize pc 8 (x / 256 % 256) = c1 at *
 generalize pc 8 (x / 256 / 256 % 256) = c2 at *
 generalize pc 8 (x / 256 / 256 / 256 % 256) = c3 at *
 generalize pc 8 (x / 256 / 256 / 256 / 256 % 256) = c4 at *
 generalize pc 8 (x / 256 / 256 / 256 / 256 / 256 % 256) = c5 at *
 generalize pc 8 (x / 256 / 256 / 256 / 256 / 256 / 256 % 256) = c6 at *
 generalize pc 8 (x / 256 / 256 / 256 / 256 / 256 / 256 / 256 % 256) = c7 at *
 clear x
 rw [q1 c0 c1 c2 c3 c4 c5 c6 c7 b0, q2, q3 c0 c1 c2 c3 c4 c5 c6 c7 b0 b1 b2 b3 b4 b5 b6 b7, q4, q5 c0 c1 c2 c3 c4 c5 c6 c7 b0 b1 b2 b3 b4 b5 b6 b7, q6]
 have e : c0 + (c1 + (c2 + (c3 + (c4 + (c5 + (c6 + c7)))))) = c0 + c1 + c2 + c3 + c4 + c5 + c6 + c7 := by omega
 rw [e]
 exact ⟨q7 c0 c1 c2 c3 c4 c5 c6 c7 b0 b1 b2 b3 b4 b5 b6 b7, q8 c0 c1 c2 c3 c4 c5 c6 c7 b0 b1 b2 b3 b4 b5 b6 b7, q9 _ _ (by omega), by omega⟩
open Go.RowKit
theorem rep85 : rep 85 8 = 6148914691236517205 := by decide
theorem rep51 : rep 51 8 = 3689348814741910323 := by decide
theorem rep15 : rep 15 8 = 1085102592571150095 := by decide
theorem wrapu (n : Nat) (h : n < 18446744073709551616) : IntKind.u64.wrap (n : Int) = (n : Int) := by
 rw [IntKind.wrap_u64]; omega
def card (p : Nat → Bool) : Nat := ((List.range 256).filter p).length
theorem xfq (p : Nat → Bool) (k : Nat) : (((List.range 64).map (fun j => 64 * k + j)).filter p).length = pc 64 (wd p k) := by
 unfold pc
 rw [List.filter_map, List.length_map]
 congr 1
 apply List.filter_congr
 intro j hj
 rw [List.mem_range] at hj
 rw [xa5 p k j hj]; rfl
theorem xo9 (p : Nat → Bool) : card p = pc 64 (wd p 0) + pc 64 (wd p 1) + pc 64 (wd p 2) + pc 64 (wd p 3) := by
 have h : List.range 256 = ((List.range 64).map (fun j => 64 * 0 + j)) ++ ((List.range 64).map (fun j => 64 * 1 + j)) ++ ((List.range 64).map (fun j => 64 * 2 + j)) ++ ((List.range 64).map (fun j => 64 * 3 + j)) := by decide +kernel
 unfold card
 rw [h, List.filter_append, List.filter_append, List.filter_append, List.length_append, List.length_append, List.length_append, xfq, xfq, xfq, xfq]
theorem xgy (x : Nat) : pc 64 x ≤ 64 := by
 obtain ⟨_, _, _, _, _, h⟩ := halves x
 exact h
open Go.RowKit
def mem (p : Nat → Bool) (k : Nat) : List Nat := (List.range k).filter p
def xam (l : List Nat) : List Value := l.map fun n => Value.int .u8 (n : Nat)
theorem xob (p : Nat → Bool) (k : Nat) : mem p (k + 1) = if p k then mem p k ++ [k] else mem p k := by
 unfold mem
 rw [List.range_succ, List.filter_append]
 by_cases h : p k = true <;> simp [h]
theorem xoc (p : Nat → Bool) (k : Nat) : (mem p k).length ≤ k := by
 have := List.length_filter_le p (List.range k)
 simpa [mem] using this
theorem xfr (l : List Nat) (k : Nat) : xam (l ++ [k]) = xam l ++ [.int .u8 k] := by simp [xam]
theorem xd8 {w w' : World} {base : Nat} {e : TypeId} {size : Nat} {v : Value} {n : Nat} {xs : List Value} (h : w.ownsRow base e size v n xs) (hb : Below w.heap.size w w') : w'.ownsRow base e size v n xs := by
 obtain ⟨hl, h⟩ := h
 refine ⟨hl, ?_⟩
 rcases h with h | ⟨g, cap, cur, hv, hg, hh, rest⟩
 ·exact .inl h
 ·have hlt : g < w.heap.size := (Array.getElem?_eq_some_iff.1 hh).1
  exact .inr ⟨g, cap, cur, hv, hg, (hb.block g hlt).trans hh, rest⟩
theorem xi2 {w : World} {base : Nat} {e : TypeId} {size : Nat} {v : Value} {n : Nat} {xs : List Value} (h : w.ownsRow base e size v n xs) : ∀ k, v.ownBlock = some k → base ≤ k := by
 rcases h.2 with ⟨rfl, -⟩ | ⟨g, cap, cur, rfl, hg, -⟩
 ·intro k hk; cases hk
 ·intro k hk; cases hk; exact hg
theorem xid : (Tryz.prog.info? 5).map (fun i => (i.zero, i.size, i.bytes)) = some (some (.int .u8 0), 1, 1) := by kernel_rfl
theorem xie (p : Nat → Bool) (w : World) :
  Calls Tryz.prog 38 #[.agg #[.int .u64 (wd p 0), .int .u64 (wd p 1), .int .u64 (wd p 2), .int .u64 (wd p 3)]] w fun e w' => ∃ v, e = .returned v ∧ w'.ownsRow w.heap.size 5 1 v (card p) (xam (mem p 256)) ∧ Below w.heap.size w w' := by
 obtain ⟨i0, hi, hz0, hz1, hz2⟩ := info_parts xid
 go_enter Tryz.func38, Tryz.ntmps38
 go_wp2_with fail
 have h0 := xae w p 33
 generalize hW : w.alloc (.cells #[.int .u64 (wd p 0), .int .u64 (wd p 1), .int .u64 (wd p 2), .int .u64 (wd p 3)] 33) = W0 at *
 have hs0 : W0.heap.size = w.heap.size + 1 := by rw [← hW]; simp
 have hB0 : Below w.heap.size w W0 := by rw [← hW]; exact (Below.refl _ _).alloc (Nat.le_refl _) _
 clear hW
 go_loopw [3, 4] (fun v i wr => ∃ k : Nat, k ≤ 256 ∧ i = .int .i64 k ∧ wr.ownsRow (w.heap.size + 1) 5 1 v (mem p k).length (xam (mem p k)) ∧ Below (w.heap.size + 1) W0 wr) (fun _ i _ => (256 - intOf i).toNat)
 case atStart => exact ⟨0, by omega, rfl, World.ownsRow_nil _ _ _ _, Below.refl _ _⟩
 case round =>
  obtain ⟨k, hk1, rfl, hown, hB⟩ := hrel
  have hp0 := h0.below hB (by omega)
  have hsz := hB.size
  by_cases hlt : k < 256
  ·obtain ⟨⟨c0, c1, c2, c3⟩, -⟩ := id hp0
   go_wp2_with fail
   refine (xez p k (by omega) (by omega) _).mono ?_
   rintro e w1 ⟨rfl, hb1⟩
   clear c0 c1 c2 c3
   rw [Int.toNat_natCast]
   have hown1 := xd8 hown hb1
   have hB1 := hB.trans (hb1.mono (by omega))
   have hsz1 := hB1.size
   obtain ⟨b, hb⟩ : ∃ b, p k = b := ⟨_, rfl⟩
   rw [hb]
   have hms := xob p k
   have hle := xoc p k
   rw [hb] at hms
   have HM : Hid _ := hms
   clear hb hms
   cases b
   ·go_wp2
    go_roundw
    case rel => exact ⟨k + 1, by omega, by go_num, by rw [HM.out]; exact hown1, hB1⟩
    case measure => simp [intOf]; omega
   ·have hLen : Hid ((mem p k).length ≤ k) := hle
    clear hle
    go_wp2_with (first | (at_builtin; refine wpList_append_own _ rfl _ _ 43 rfl (w.heap.size + 1) 5 i0 (.int .u8 0) 1 1 Tryz.underlying43 hi hz0 hz1 hz2 rfl (by decide) _ _ _ rfl (hown1.alloc _) ⟨w1.heap.size, 0, none⟩ 1 1 [.int .u8 k] rfl rfl ?c1 ?c2 ?c3 ?c4 ?c5 ?_))
    case c1 => exact cell_one_new _ _ _
    case c2 => intro u hu; simp at hu; subst hu; rfl
    case c3 => have := hLen.out; unfold maxLen; omega
    case c4 => have := hLen.out; omega
    case c5 => simp; omega
    ·intro v' w2 hown2 hgrow _
     have hB2 := (hB1.alloc (by omega) _).grown hgrow (by simp; omega) (xi2 hown1)
     rw [← xfr] at hown2
     clear hgrow hown1 hB1 hown hB
     go_wp2
     go_roundw
     case rel => exact ⟨k + 1, by omega, by go_num, by rw [HM.out]; simpa using hown2, hB2⟩
     case measure => simp [intOf]; omega
  ·obtain rfl : k = 256 := by omega
   go_wp2
   go_ret
   refine ⟨_, rfl, ?_, hB0.trans (hB.mono (by omega))⟩
   obtain ⟨hl, h⟩ := hown
   refine ⟨hl, ?_⟩
   rcases h with h | ⟨g, cap, cur, hv, hg, rest⟩
   ·exact .inl h
   ·exact .inr ⟨g, cap, cur, hv, by omega, rest⟩
theorem xbv (p : Nat → Bool) (w : World) :
  Calls Tryz.prog 109 #[.agg #[.int .u64 (wd p 0), .int .u64 (wd p 1), .int .u64 (wd p 2), .int .u64 (wd p 3)]] w fun e w' => e = .returned (.int .i64 (card p : Nat)) ∧ Below w.heap.size w w' := by
 go_enter Tryz.func109, Tryz.ntmps109
 go_wp2_with fail
 refine (xie p _).mono ?_
 rintro e w1 ⟨v, rfl, hown, hb1⟩
 have hv : ∃ a c, v = .slice a (card p) c := by
  rcases hown.2 with ⟨rfl, h0⟩ | ⟨g, cap, cur, rfl, -⟩
  ·exact ⟨none, 0, by rw [h0]⟩
  ·exact ⟨_, _, rfl⟩
 obtain ⟨a, c, hv⟩ := hv
 rw [hv]
 clear hown hv
 go_wp2
 go_ret
 exact ⟨rfl, ((Below.refl _ _).alloc (Nat.le_refl _) _).trans (hb1.mono (by simp))⟩
end Go.Proofs.YtaapmphdnholaaaGreatDoor
