/- Walks: the sets' calls with the one value that each answers; '==' of two sets; Span. -/
import Derived.Test.YtolpakpdkheanaaKPlain
import Derived.ChangeKeysEq
import Derived.RangeFuncNested
import Derived.RangeFuncBound
import Derived.RangeFuncCalls
import Derived.RangeFuncLeaves
import Derived.RangeFuncBox
import Derived.Shelf.Abstract
import Derived.WalkKit
import Derived.OwnWalkIn
import Derived.TacticsInMore
import Derived.LoopNIn
import Derived.LoopIn
import Derived.Maps.AppendAt
set_option maxHeartbeats 400000
namespace Go.Proofs.Ytolpakpdkheanaa.br
open Go.RowKit
def notP (p : Nat → Bool) : Nat → Bool := fun n => !p n
def orP (p r : Nat → Bool) : Nat → Bool := fun n => p n || r n
def andP (p r : Nat → Bool) : Nat → Bool := fun n => p n && r n
def ofP (s : ByteArray) : Nat → Bool := xds s s.size
def sP (lo hi : Nat) : Nat → Bool := fun n => decide (lo ≤ n ∧ n ≤ hi)
def xad : Nat → Bool := fun _ => false
theorem det {f : FuncId} {args : Array Value} {w : World} {spec : Nat → Bool} (h : Calls Try.prog f args w fun e w' => ∃ q, e = .returned (.agg #[.int .u64 (wd q 0), .int .u64 (wd q 1), .int .u64 (wd q 2), .int .u64 (wd q 3)]) ∧ Is q (spec) ∧ Below w.heap.size w w') :
  Calls Try.prog f args w fun e w' => e = .returned (.agg #[.int .u64 (wd spec 0), .int .u64 (wd spec 1), .int .u64 (wd spec 2), .int .u64 (wd spec 3)]) ∧ Below w.heap.size w w' :=
 h.mono fun _ _ ⟨_, he, hq, hb⟩ => by
  obtain ⟨e0, e1, e2, e3⟩ := wd_Is hq
  rw [e0, e1, e2, e3] at he
  exact ⟨he, hb⟩
theorem notD (p : Nat → Bool) (w : World) : Calls Try.prog 41 #[.agg #[.int .u64 (wd p 0), .int .u64 (wd p 1), .int .u64 (wd p 2), .int .u64 (wd p 3)]] w fun e w' => e = .returned (.agg #[.int .u64 (wd (notP p) 0), .int .u64 (wd (notP p) 1), .int .u64 (wd (notP p) 2), .int .u64 (wd (notP p) 3)]) ∧ Below w.heap.size w w' := det (not_any p w)
theorem orD (p r : Nat → Bool) (w : World) : Calls Try.prog 87 #[.agg #[.int .u64 (wd p 0), .int .u64 (wd p 1), .int .u64 (wd p 2), .int .u64 (wd p 3)], .agg #[.int .u64 (wd r 0), .int .u64 (wd r 1), .int .u64 (wd r 2), .int .u64 (wd r 3)]] w fun e w' => e = .returned (.agg #[.int .u64 (wd (orP p r) 0), .int .u64 (wd (orP p r) 1), .int .u64 (wd (orP p r) 2), .int .u64 (wd (orP p r) 3)]) ∧ Below w.heap.size w w' := det (or_any p r w)
theorem andD (p r : Nat → Bool) (w : World) : Calls Try.prog 108 #[.agg #[.int .u64 (wd p 0), .int .u64 (wd p 1), .int .u64 (wd p 2), .int .u64 (wd p 3)], .agg #[.int .u64 (wd r 0), .int .u64 (wd r 1), .int .u64 (wd r 2), .int .u64 (wd r 3)]] w fun e w' => e = .returned (.agg #[.int .u64 (wd (andP p r) 0), .int .u64 (wd (andP p r) 1), .int .u64 (wd (andP p r) 2), .int .u64 (wd (andP p r) 3)]) ∧ Below w.heap.size w w' := det (and_any p r w)
theorem ofD (s : ByteArray) (hs : s.size ≤ maxLen) (w : World) : Calls Try.prog 79 #[.string s] w fun e w' => e = .returned (.agg #[.int .u64 (wd (ofP s) 0), .int .u64 (wd (ofP s) 1), .int .u64 (wd (ofP s) 2), .int .u64 (wd (ofP s) 3)]) ∧ Below w.heap.size w w' := det (of_any s hs w)
theorem xaf (lo hi : Int) (h0 : 0 ≤ lo) (h1 : lo ≤ hi) (h2 : hi < 256) (w : World) : Calls Try.prog 105 #[.int .u8 lo, .int .u8 hi] w fun e w' => e = .returned (.agg #[.int .u64 (wd (sP lo.toNat hi.toNat) 0), .int .u64 (wd (sP lo.toNat hi.toNat) 1), .int .u64 (wd (sP lo.toNat hi.toNat) 2), .int .u64 (wd (sP lo.toNat hi.toNat) 3)]) ∧ Below w.heap.size w w' :=
 det ((xkf lo hi h0 h1 h2 w).mono fun _ _ ⟨q, he, hq, hb⟩ => ⟨q, he, fun n hn => by rw [hq n hn]; unfold sP; rw [Bool.eq_iff_iff]; simp only [decide_eq_true_eq]; omega, hb⟩)
theorem spanD (lo hi : Int) (h0 : 0 ≤ lo) (h1 : lo ≤ hi) (h2 : hi < 256) (w : World) :
  Calls Try.prog 98 #[.int .u8 lo, .int .u8 hi] w fun e w' => e = .returned (.tuple #[.agg #[.int .u64 (wd (sP lo.toNat hi.toNat) 0), .int .u64 (wd (sP lo.toNat hi.toNat) 1), .int .u64 (wd (sP lo.toNat hi.toNat) 2), .int .u64 (wd (sP lo.toNat hi.toNat) 3)], .int .i64 0]) ∧ Below w.heap.size w w' := by
 have hlt : ¬ hi < lo := by omega
 go_enter Try.func98, Try.ntmps98
 go_wp2_with fail
 refine (xaf lo hi h0 h1 h2 _).mono ?_
 rintro e w1 ⟨rfl, hb1⟩
 have hr1 := (xal w 38).below hb1 (by simp)
 have hr2 := hr1
 obtain ⟨⟨c0, c1, c2, c3⟩, f0, f1, f2, f3⟩ := hr2
 go_wp2
 exact bodyPost_ret (v := .tuple #[.agg #[.int .u64 (wd (sP lo.toNat hi.toNat) 0), .int .u64 (wd (sP lo.toNat hi.toNat) 1), .int .u64 (wd (sP lo.toNat hi.toNat) 2), .int .u64 (wd (sP lo.toNat hi.toNat) 3)], .int .i64 0]) (by simp [results, Try.results98, go_sem, *]) rfl ⟨rfl, xak (((Below.refl _ _).alloc (Nat.le_refl _) _).trans (hb1.mono (by simp))) (Nat.le_refl _) _⟩
theorem spanBad (lo hi : Int) (hlt : hi < lo) (w : World) :
  Calls Try.prog 98 #[.int .u8 lo, .int .u8 hi] w fun e w' => e = .returned (.tuple #[.agg #[.int .u64 (wd xad 0), .int .u64 (wd xad 1), .int .u64 (wd xad 2), .int .u64 (wd xad 3)], .int .i64 7]) ∧ Below w.heap.size w w' := by
 unfold xad
 rw [xaa, xaa, xaa, xaa]
 go_enter Try.func98, Try.ntmps98
 go_wp2
 exact bodyPost_ret (v := .tuple #[.agg #[.int .u64 0, .int .u64 0, .int .u64 0, .int .u64 0], .int .i64 7]) (by simp [results, Try.results98, go_sem]) rfl ⟨rfl, (Below.refl _ _).alloc (Nat.le_refl _) _⟩
end Go.Proofs.Ytolpakpdkheanaa.br
set_option linter.unusedVariables false
namespace Go.Proofs.Ytolpakpdkheanaa.br
def pc (n x : Nat) : Nat := ((List.range n).filter fun j => x.testBit j).length
def s1 (m x : Nat) : Nat := (x / 2 &&& m) + (x &&& m)
def s2 (m x : Nat) : Nat := (x / 4 &&& m) + (x &&& m)
def s3 (m x : Nat) : Nat := (x / 16 + x) &&& m
theorem low3 : ∀ x : Fin 256, ∀ b : Fin 5, ((s2 51 (s1 85 x.val) / 16 + 16 * b.val + s2 51 (s1 85 x.val)) &&& 15) = pc 8 x.val ∧ s2 51 (s1 85 x.val) / 16 + 16 * b.val + s2 51 (s1 85 x.val) < 256 ∧ s2 51 (s1 85 x.val) % 16 < 5 ∧ pc 8 x.val ≤ 8 := by decide +kernel
def rep (b : Nat) : Nat → Nat
 | 0 => 0
 | k + 1 => b + 256 * rep b k
def xa3 : Nat → Nat → Nat
 | 0, _ => 0
 | k + 1, x => pc 8 (x % 256) + 256 * xa3 k (x / 256)
theorem xi1 (x : Nat) : pc 8 (x % 256) ≤ 8 := (low3 ⟨x % 256, by omega⟩ 0).2.2.2
theorem xcn (n x : Nat) : pc (8 + n) x = pc 8 (x % 256) + pc n (x / 256) := by
 unfold pc
 rw [List.range_add, List.filter_append, List.length_append]
 congr 1
 ·congr 1
  apply List.filter_congr
  intro j hj
  rw [show (256 : Nat) = 2 ^ 8 from rfl, Nat.testBit_mod_two_pow]
  simp at hj
  simp [hj]
 ·rw [List.filter_map, List.length_map]
  congr 1
  apply List.filter_congr
  intro j _
  rw [show (256 : Nat) = 2 ^ 8 from rfl, Nat.testBit_div_two_pow]
  simp [Nat.add_comm]
theorem pc64 (x : Nat) : pc 64 x = pc 8 (x % 256) + (pc 8 (x / 256 % 256) + (pc 8 (x / 256 / 256 % 256) + (pc 8 (x / 256 / 256 / 256 % 256) + (pc 8 (x / 256 / 256 / 256 / 256 % 256) + (pc 8 (x / 256 / 256 / 256 / 256 / 256 % 256) + (pc 8 (x / 256 / 256 / 256 / 256 / 256 / 256 % 256) + pc 8 (x / 256 / 256 / 256 / 256 / 256 / 256 / 256 % 256))))))) := by
 have h0 := xcn 56 x
 have h1 := xcn 48 (x / 256)
 have h2 := xcn 40 (x / 256 / 256)
 have h3 := xcn 32 (x / 256 / 256 / 256)
 have h4 := xcn 24 (x / 256 / 256 / 256 / 256)
 have h5 := xcn 16 (x / 256 / 256 / 256 / 256 / 256)
 have h6 := xcn 8 (x / 256 / 256 / 256 / 256 / 256 / 256)
 have h7 := xcn 0 (x / 256 / 256 / 256 / 256 / 256 / 256 / 256)
 have z : pc 0 (x / 256 / 256 / 256 / 256 / 256 / 256 / 256 / 256) = 0 := rfl
 simp only [Nat.reduceAdd] at h0 h1 h2 h3 h4 h5 h6 h7
 rw [h0, h1, h2, h3, h4, h5, h6, h7, z, Nat.add_zero]
theorem dv (M a b : Nat) (h : a < M) : (a + M * b) / M = b := by
 rw [Nat.add_mul_div_left _ _ (by omega), Nat.div_eq_of_lt h, Nat.zero_add]
theorem q1 (c0 c1 c2 c3 c4 c5 c6 c7 : Nat) (b0 : c0 ≤ 8) : (c0 + 256 * (c1 + 256 * (c2 + 256 * (c3 + 256 * (c4 + 256 * (c5 + 256 * (c6 + 256 * (c7 + 256 * 0)))))))) / 256 = (c1) + 256 * ((c2) + 256 * ((c3) + 256 * ((c4) + 256 * ((c5) + 256 * ((c6) + 256 * (c7)))))) := by rw [Nat.mul_zero, Nat.add_zero]; exact dv 256 _ _ (by omega)
theorem q2 (c0 c1 c2 c3 c4 c5 c6 c7 : Nat) : c0 + 256 * (c1 + 256 * (c2 + 256 * (c3 + 256 * (c4 + 256 * (c5 + 256 * (c6 + 256 * (c7 + 256 * 0))))))) + ((c1) + 256 * ((c2) + 256 * ((c3) + 256 * ((c4) + 256 * ((c5) + 256 * ((c6) + 256 * (c7))))))) = ((c0 + c1) + 256 * (c1 + c2)) + 65536 * ((c2 + c3) + 256 * ((c3 + c4) + 256 * ((c4 + c5) + 256 * ((c5 + c6) + 256 * ((c6 + c7) + 256 * (c7)))))) := by omega
theorem q3 (c0 c1 c2 c3 c4 c5 c6 c7 : Nat) (b0 : c0 ≤ 8) (b1 : c1 ≤ 8) (b2 : c2 ≤ 8) (b3 : c3 ≤ 8) (b4 : c4 ≤ 8) (b5 : c5 ≤ 8) (b6 : c6 ≤ 8) (b7 : c7 ≤ 8) : (((c0 + c1) + 256 * (c1 + c2)) + 65536 * ((c2 + c3) + 256 * ((c3 + c4) + 256 * ((c4 + c5) + 256 * ((c5 + c6) + 256 * ((c6 + c7) + 256 * (c7))))))) / 65536 = (c2 + c3) + 256 * ((c3 + c4) + 256 * ((c4 + c5) + 256 * ((c5 + c6) + 256 * ((c6 + c7) + 256 * (c7))))) := dv 65536 _ _ (by clear b3 b4 b5 b6 b7; omega)
theorem q4 (c0 c1 c2 c3 c4 c5 c6 c7 : Nat) : ((c0 + c1) + 256 * (c1 + c2)) + 65536 * ((c2 + c3) + 256 * ((c3 + c4) + 256 * ((c4 + c5) + 256 * ((c5 + c6) + 256 * ((c6 + c7) + 256 * (c7)))))) + ((c2 + c3) + 256 * ((c3 + c4) + 256 * ((c4 + c5) + 256 * ((c5 + c6) + 256 * ((c6 + c7) + 256 * (c7)))))) = ((c0 + c1 + c2 + c3) + 256 * ((c1 + c2 + c3 + c4) + 256 * ((c2 + c3 + c4 + c5) + 256 * (c3 + c4 + c5 + c6)))) + 4294967296 * ((c4 + c5 + c6 + c7) + 256 * ((c5 + c6 + c7) + 256 * ((c6 + c7) + 256 * (c7)))) := by omega
theorem q5 (c0 c1 c2 c3 c4 c5 c6 c7 : Nat) (b0 : c0 ≤ 8) (b1 : c1 ≤ 8) (b2 : c2 ≤ 8) (b3 : c3 ≤ 8) (b4 : c4 ≤ 8) (b5 : c5 ≤ 8) (b6 : c6 ≤ 8) (b7 : c7 ≤ 8) : (((c0 + c1 + c2 + c3) + 256 * ((c1 + c2 + c3 + c4) + 256 * ((c2 + c3 + c4 + c5) + 256 * (c3 + c4 + c5 + c6)))) + 4294967296 * ((c4 + c5 + c6 + c7) + 256 * ((c5 + c6 + c7) + 256 * ((c6 + c7) + 256 * (c7))))) / 4294967296 = (c4 + c5 + c6 + c7) + 256 * ((c5 + c6 + c7) + 256 * ((c6 + c7) + 256 * (c7))) := dv 4294967296 _ _ (by omega)
theorem q6 (c0 c1 c2 c3 c4 c5 c6 c7 : Nat) : ((c0 + c1 + c2 + c3) + 256 * ((c1 + c2 + c3 + c4) + 256 * ((c2 + c3 + c4 + c5) + 256 * (c3 + c4 + c5 + c6)))) + 4294967296 * ((c4 + c5 + c6 + c7) + 256 * ((c5 + c6 + c7) + 256 * ((c6 + c7) + 256 * (c7)))) + ((c4 + c5 + c6 + c7) + 256 * ((c5 + c6 + c7) + 256 * ((c6 + c7) + 256 * (c7)))) = (c0 + c1 + c2 + c3 + c4 + c5 + c6 + c7) + 128 * (2 * ((c1 + c2 + c3 + c4 + c5 + c6 + c7) + 256 * ((c2 + c3 + c4 + c5 + c6 + c7) + 256 * ((c3 + c4 + c5 + c6 + c7) + 256 * ((c4 + c5 + c6 + c7) + 256 * ((c5 + c6 + c7) + 256 * ((c6 + c7) + 256 * (c7)))))))) := by omega
theorem q7 (c0 c1 c2 c3 c4 c5 c6 c7 : Nat) (b0 : c0 ≤ 8) (b1 : c1 ≤ 8) (b2 : c2 ≤ 8) (b3 : c3 ≤ 8) (b4 : c4 ≤ 8) (b5 : c5 ≤ 8) (b6 : c6 ≤ 8) (b7 : c7 ≤ 8) : c0 + 256 * (c1 + 256 * (c2 + 256 * (c3 + 256 * (c4 + 256 * (c5 + 256 * (c6 + 256 * (c7 + 256 * 0))))))) < 1152921504606846976 := by omega
theorem q8 (c0 c1 c2 c3 c4 c5 c6 c7 : Nat) (b0 : c0 ≤ 8) (b1 : c1 ≤ 8) (b2 : c2 ≤ 8) (b3 : c3 ≤ 8) (b4 : c4 ≤ 8) (b5 : c5 ≤ 8) (b6 : c6 ≤ 8) (b7 : c7 ≤ 8) : (c0 + c1 + c2 + c3 + c4 + c5 + c6 + c7) + 128 * (2 * ((c1 + c2 + c3 + c4 + c5 + c6 + c7) + 256 * ((c2 + c3 + c4 + c5 + c6 + c7) + 256 * ((c3 + c4 + c5 + c6 + c7) + 256 * ((c4 + c5 + c6 + c7) + 256 * ((c5 + c6 + c7) + 256 * ((c6 + c7) + 256 * (c7)))))))) < 9223372036854775808 := by omega
theorem q9 (a b : Nat) (h : a ≤ 64) : (a + 128 * b) % 128 = a := by omega
theorem halves (x : Nat) : ∃ u, xa3 8 x = u ∧ u < 1152921504606846976 ∧ u + u / 256 + (u + u / 256) / 65536 + (u + u / 256 + (u + u / 256) / 65536) / 4294967296 < 9223372036854775808 ∧
  (u + u / 256 + (u + u / 256) / 65536 + (u + u / 256 + (u + u / 256) / 65536) / 4294967296) % 128 = pc 64 x ∧ pc 64 x ≤ 64 := by
 refine ⟨_, rfl, ?_⟩
 rw [pc64]
 unfold xa3 xa3 xa3 xa3 xa3 xa3 xa3 xa3 xa3
 have b0 := xi1 x
 have b1 := xi1 (x / 256)
 have b2 := xi1 (x / 256 / 256)
 have b3 := xi1 (x / 256 / 256 / 256)
 have b4 := xi1 (x / 256 / 256 / 256 / 256)
 have b5 := xi1 (x / 256 / 256 / 256 / 256 / 256)
 have b6 := xi1 (x / 256 / 256 / 256 / 256 / 256 / 256)
 have b7 := xi1 (x / 256 / 256 / 256 / 256 / 256 / 256 / 256)
 generalize pc 8 (x % 256) = c0 at *
 generalize pc 8 (x / 256 % 256) = c1 at *
 generalize pc 8 (x / 256 / 256 % 256) = c2 at *
 generalize pc 8 (x / 256 / 256 / 256 % 256) = c3 at *
 generalize pc 8 (x / 256 / 256 / 256 / 256 % 256) = c4 at *
 generalize pc 8 (x / 256 / 256 / 256 / 256 / 256 % 256) = c5 at *
 generalize pc 8 (x / 256 / 256 / 256 / 256 / 256 / 256 % 256) = c6 at *
 generalize pc 8 (x / 256 / 256 / 256 / 256 / 256 / 256 / 256 % 256) = c7 at *
 clear x
 rw [q1 c0 c1 c2 c3 c4 c5 c6 c7 b0, q2, q3 c0 c1 c2 c3 c4 c5 c6 c7 b0 b1 b2 b3 b4 b5 b6 b7, q4, q5 c0 c1 c2 c3 c4 c5 c6 c7 b0 b1 b2 b3 b4 b5 b6 b7, q6]
 have e : c0 + (c1 + (c2 + (c3 + (c4 + (c5 + (c6 + c7)))))) = c0 + c1 + c2 + c3 + c4 + c5 + c6 + c7 := by omega
 rw [e]
 exact ⟨q7 c0 c1 c2 c3 c4 c5 c6 c7 b0 b1 b2 b3 b4 b5 b6 b7, q8 c0 c1 c2 c3 c4 c5 c6 c7 b0 b1 b2 b3 b4 b5 b6 b7, q9 _ _ (by omega), by omega⟩
end Go.Proofs.Ytolpakpdkheanaa.br
namespace Go.Proofs.Ytolpakpdkheanaa.br
open Go.RowKit
def card (p : Nat → Bool) : Nat := ((List.range 256).filter p).length
def xmd (l : List Nat) : List Value := l.map fun n => Value.int .u8 (n : Nat)
theorem owns_below {w w' : World} {base : Nat} {e : TypeId} {size : Nat} {v : Value} {n : Nat} {xs : List Value} (h : w.ownsRow base e size v n xs) (hb : Below w.heap.size w w') : w'.ownsRow base e size v n xs := by
 obtain ⟨hl, h⟩ := h
 refine ⟨hl, ?_⟩
 rcases h with h | ⟨g, cap, cur, hv, hg, hh, rest⟩
 ·exact .inl h
 ·have hlt : g < w.heap.size := (Array.getElem?_eq_some_iff.1 hh).1
  exact .inr ⟨g, cap, cur, hv, hg, (hb.block g hlt).trans hh, rest⟩
theorem info5 : (Try.prog.info? 5).map (fun i => (i.zero, i.size, i.bytes)) = some (some (.int .u8 0), 1, 1) := by kernel_rfl
end Go.Proofs.Ytolpakpdkheanaa.br
namespace Go.Proofs.Ytolpakpdkheanaa.br
open Go.RowKit Go.Shelf
attribute [local go_sem] Oper.semAt_some
def Set4 (W : World) (b : Nat) (p : Nat → Bool) : Prop := W.heap[b]? = some (.cells #[.int .u64 (wd p 0), .int .u64 (wd p 1), .int .u64 (wd p 2), .int .u64 (wd p 3)] 38)
theorem Set4.lt {W : World} {b : Nat} {p : Nat → Bool} (h : Set4 W b p) : b < W.heap.size := (Array.getElem?_eq_some_iff.1 h).1
theorem Set4.holds {W : World} {b : Nat} {p : Nat → Bool} (h : Set4 W b p) : Holds4 W b p := by
 have h' : W.heap[b]? = _ := h
 simp [Holds4, World.cell?, World.frozen?, h']
theorem Set4.new (w : World) (p : Nat → Bool) : Set4 (w.alloc (.cells #[.int .u64 (wd p 0), .int .u64 (wd p 1), .int .u64 (wd p 2), .int .u64 (wd p 3)] 38)) w.heap.size p := World.alloc_heap_new w _
theorem Set4.below {W W' : World} {b : Nat} {p : Nat → Bool} (h : Set4 W b p) {B : Nat} (hb : Below B W W') (hlt : b < B) : Set4 W' b p := (hb.block b hlt).trans h
def KeepAt (b : Nat) (W W' : World) : Prop := W.heap.size ≤ W'.heap.size ∧ W'.heap[b]? = W.heap[b]?
theorem KeepAt.refl (b : Nat) (W : World) : KeepAt b W W := ⟨Nat.le_refl _, rfl⟩
theorem Set4.keep {W W' : World} {b : Nat} {p : Nat → Bool} (h : Set4 W b p) (hk : KeepAt b W W') : Set4 W' b p := hk.2.trans h
end Go.Proofs.Ytolpakpdkheanaa.br
