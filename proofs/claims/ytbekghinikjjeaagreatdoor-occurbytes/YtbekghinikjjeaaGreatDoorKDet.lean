/- KDet -/
import Derived.Test.YtbekghinikjjeaaGreatDoorKPlain
import Derived.ChangeKeysEq
import Derived.RangeFuncNested
import Derived.RangeFuncBound
import Derived.RangeFuncCalls
import Derived.RangeFuncLeaves
import Derived.RangeFuncBox
import Derived.Shelf.Abstract
import Derived.WalkKit
import Derived.OwnWalkIn
import Derived.TacticsInMore
import Derived.LoopNIn
import Derived.LoopIn
import Derived.Maps.AppendAt
set_option maxHeartbeats 400000
namespace Go.Proofs.YtbekghinikjjeaaGreatDoor.br
open Go.RowKit
def notP (p : Nat → Bool) : Nat → Bool := fun n => !p n
def orP (p r : Nat → Bool) : Nat → Bool := fun n => p n || r n
def andP (p r : Nat → Bool) : Nat → Bool := fun n => p n && r n
def ofP (s : ByteArray) : Nat → Bool := xds s s.size
def sP (lo hi : Nat) : Nat → Bool := fun n => decide (lo ≤ n ∧ n ≤ hi)
def xad : Nat → Bool := fun _ => false
theorem det {f : FuncId} {args : Array Value} {w : World} {spec : Nat → Bool} (h : Calls Tryz.prog f args w fun e w' => ∃ q, e = .returned (.agg #[.int .u64 (wd q 0), .int .u64 (wd q 1), .int .u64 (wd q 2), .int .u64 (wd q 3)]) ∧ Is q (spec) ∧ Below w.heap.size w w') :
 Calls Tryz.prog f args w fun e w' => e = .returned (.agg #[.int .u64 (wd spec 0), .int .u64 (wd spec 1), .int .u64 (wd spec 2), .int .u64 (wd spec 3)]) ∧ Below w.heap.size w w' :=
 h.mono fun _ _ ⟨_, he, hq, hb⟩ => by
  obtain ⟨e0, e1, e2, e3⟩ := wd_Is hq
  rw [e0, e1, e2, e3] at he
  exact ⟨he, hb⟩
theorem notD (p : Nat → Bool) (w : World) : Calls Tryz.prog 85 #[.agg #[.int .u64 (wd p 0), .int .u64 (wd p 1), .int .u64 (wd p 2), .int .u64 (wd p 3)]] w fun e w' => e = .returned (.agg #[.int .u64 (wd (notP p) 0), .int .u64 (wd (notP p) 1), .int .u64 (wd (notP p) 2), .int .u64 (wd (notP p) 3)]) ∧ Below w.heap.size w w' := det (not_any p w)
theorem orD (p r : Nat → Bool) (w : World) : Calls Tryz.prog 139 #[.agg #[.int .u64 (wd p 0), .int .u64 (wd p 1), .int .u64 (wd p 2), .int .u64 (wd p 3)], .agg #[.int .u64 (wd r 0), .int .u64 (wd r 1), .int .u64 (wd r 2), .int .u64 (wd r 3)]] w fun e w' => e = .returned (.agg #[.int .u64 (wd (orP p r) 0), .int .u64 (wd (orP p r) 1), .int .u64 (wd (orP p r) 2), .int .u64 (wd (orP p r) 3)]) ∧ Below w.heap.size w w' := det (or_any p r w)
theorem andD (p r : Nat → Bool) (w : World) : Calls Tryz.prog 163 #[.agg #[.int .u64 (wd p 0), .int .u64 (wd p 1), .int .u64 (wd p 2), .int .u64 (wd p 3)], .agg #[.int .u64 (wd r 0), .int .u64 (wd r 1), .int .u64 (wd r 2), .int .u64 (wd r 3)]] w fun e w' => e = .returned (.agg #[.int .u64 (wd (andP p r) 0), .int .u64 (wd (andP p r) 1), .int .u64 (wd (andP p r) 2), .int .u64 (wd (andP p r) 3)]) ∧ Below w.heap.size w w' := det (and_any p r w)
theorem ofD (s : ByteArray) (hs : s.size ≤ maxLen) (w : World) : Calls Tryz.prog 120 #[.string s] w fun e w' => e = .returned (.agg #[.int .u64 (wd (ofP s) 0), .int .u64 (wd (ofP s) 1), .int .u64 (wd (ofP s) 2), .int .u64 (wd (ofP s) 3)]) ∧ Below w.heap.size w w' := det (of_any s hs w)
theorem xaf (lo hi : Int) (h0 : 0 ≤ lo) (h1 : lo ≤ hi) (h2 : hi < 256) (w : World) : Calls Tryz.prog 160 #[.int .u8 lo, .int .u8 hi] w fun e w' => e = .returned (.agg #[.int .u64 (wd (sP lo.toNat hi.toNat) 0), .int .u64 (wd (sP lo.toNat hi.toNat) 1), .int .u64 (wd (sP lo.toNat hi.toNat) 2), .int .u64 (wd (sP lo.toNat hi.toNat) 3)]) ∧ Below w.heap.size w w' :=
 det ((xkf lo hi h0 h1 h2 w).mono fun _ _ ⟨q, he, hq, hb⟩ => ⟨q, he, fun n hn => by rw [hq n hn]; unfold sP; rw [Bool.eq_iff_iff]; simp only [decide_eq_true_eq]; omega, hb⟩)
theorem spanD (lo hi : Int) (h0 : 0 ≤ lo) (h1 : lo ≤ hi) (h2 : hi < 256) (w : World) :
 Calls Tryz.prog 153 #[.int .u8 lo, .int .u8 hi] w fun e w' => e = .returned (.tuple #[.agg #[.int .u64 (wd (sP lo.toNat hi.toNat) 0), .int .u64 (wd (sP lo.toNat hi.toNat) 1), .int .u64 (wd (sP lo.toNat hi.toNat) 2), .int .u64 (wd (sP lo.toNat hi.toNat) 3)], .int .i64 0]) ∧ Below w.heap.size w w' := by
 have hlt : ¬ hi < lo := by omega
 go_enter Tryz.func153, Tryz.ntmps153
 go_wp2_with fail
 refine (xaf lo hi h0 h1 h2 _).mono ?_
 rintro e w1 ⟨rfl, hb1⟩
 have hr1 := (xal w 95).below hb1 (by simp)
 have hr2 := hr1
 obtain ⟨⟨c0, c1, c2, c3⟩, f0, f1, f2, f3⟩ := hr2
 go_wp2
 exact bodyPost_ret (v := .tuple #[.agg #[.int .u64 (wd (sP lo.toNat hi.toNat) 0), .int .u64 (wd (sP lo.toNat hi.toNat) 1), .int .u64 (wd (sP lo.toNat hi.toNat) 2), .int .u64 (wd (sP lo.toNat hi.toNat) 3)], .int .i64 0]) (by simp [results, Tryz.results153, go_sem, *]) rfl ⟨rfl, xak (((Below.refl _ _).alloc (Nat.le_refl _) _).trans (hb1.mono (by simp))) (Nat.le_refl _) _⟩
theorem spanBad (lo hi : Int) (hlt : hi < lo) (w : World) :
 Calls Tryz.prog 153 #[.int .u8 lo, .int .u8 hi] w fun e w' => e = .returned (.tuple #[.agg #[.int .u64 (wd xad 0), .int .u64 (wd xad 1), .int .u64 (wd xad 2), .int .u64 (wd xad 3)], .int .i64 7]) ∧ Below w.heap.size w w' := by
 unfold xad
 rw [xaa, xaa, xaa, xaa]
 go_enter Tryz.func153, Tryz.ntmps153
 go_wp2
 exact bodyPost_ret (v := .tuple #[.agg #[.int .u64 0, .int .u64 0, .int .u64 0, .int .u64 0], .int .i64 7]) (by simp [results, Tryz.results153, go_sem]) rfl ⟨rfl, (Below.refl _ _).alloc (Nat.le_refl _) _⟩
end Go.Proofs.YtbekghinikjjeaaGreatDoor.br
set_option linter.unusedVariables false
namespace Go.Proofs.YtbekghinikjjeaaGreatDoor.br
def pc (n x : Nat) : Nat := ((List.range n).filter fun j => x.testBit j).length
def s1 (m x : Nat) : Nat := (x / 2 &&& m) + (x &&& m)
def s2 (m x : Nat) : Nat := (x / 4 &&& m) + (x &&& m)
def s3 (m x : Nat) : Nat := (x / 16 + x) &&& m
def rep (b : Nat) : Nat → Nat
 | 0 => 0
 | k + 1 => b + 256 * rep b k
theorem dv (M a b : Nat) (h : a < M) : (a + M * b) / M = b := by
 rw [Nat.add_mul_div_left _ _ (by omega), Nat.div_eq_of_lt h, Nat.zero_add]
theorem q1 (c0 c1 c2 c3 c4 c5 c6 c7 : Nat) (b0 : c0 ≤ 8) : (c0 + 256 * (c1 + 256 * (c2 + 256 * (c3 + 256 * (c4 + 256 * (c5 + 256 * (c6 + 256 * (c7 + 256 * 0)))))))) / 256 = (c1) + 256 * ((c2) + 256 * ((c3) + 256 * ((c4) + 256 * ((c5) + 256 * ((c6) + 256 * (c7)))))) := by rw [Nat.mul_zero, Nat.add_zero]; exact dv 256 _ _ (by omega)
theorem q2 (c0 c1 c2 c3 c4 c5 c6 c7 : Nat) : c0 + 256 * (c1 + 256 * (c2 + 256 * (c3 + 256 * (c4 + 256 * (c5 + 256 * (c6 + 256 * (c7 + 256 * 0))))))) + ((c1) + 256 * ((c2) + 256 * ((c3) + 256 * ((c4) + 256 * ((c5) + 256 * ((c6) + 256 * (c7))))))) = ((c0 + c1) + 256 * (c1 + c2)) + 65536 * ((c2 + c3) + 256 * ((c3 + c4) + 256 * ((c4 + c5) + 256 * ((c5 + c6) + 256 * ((c6 + c7) + 256 * (c7)))))) := by omega
theorem q3 (c0 c1 c2 c3 c4 c5 c6 c7 : Nat) (b0 : c0 ≤ 8) (b1 : c1 ≤ 8) (b2 : c2 ≤ 8) (b3 : c3 ≤ 8) (b4 : c4 ≤ 8) (b5 : c5 ≤ 8) (b6 : c6 ≤ 8) (b7 : c7 ≤ 8) : (((c0 + c1) + 256 * (c1 + c2)) + 65536 * ((c2 + c3) + 256 * ((c3 + c4) + 256 * ((c4 + c5) + 256 * ((c5 + c6) + 256 * ((c6 + c7) + 256 * (c7))))))) / 65536 = (c2 + c3) + 256 * ((c3 + c4) + 256 * ((c4 + c5) + 256 * ((c5 + c6) + 256 * ((c6 + c7) + 256 * (c7))))) := dv 65536 _ _ (by clear b3 b4 b5 b6 b7; omega)
theorem q4 (c0 c1 c2 c3 c4 c5 c6 c7 : Nat) : ((c0 + c1) + 256 * (c1 + c2)) + 65536 * ((c2 + c3) + 256 * ((c3 + c4) + 256 * ((c4 + c5) + 256 * ((c5 + c6) + 256 * ((c6 + c7) + 256 * (c7)))))) + ((c2 + c3) + 256 * ((c3 + c4) + 256 * ((c4 + c5) + 256 * ((c5 + c6) + 256 * ((c6 + c7) + 256 * (c7)))))) = ((c0 + c1 + c2 + c3) + 256 * ((c1 + c2 + c3 + c4) + 256 * ((c2 + c3 + c4 + c5) + 256 * (c3 + c4 + c5 + c6)))) + 4294967296 * ((c4 + c5 + c6 + c7) + 256 * ((c5 + c6 + c7) + 256 * ((c6 + c7) + 256 * (c7)))) := by omega
theorem q5 (c0 c1 c2 c3 c4 c5 c6 c7 : Nat) (b0 : c0 ≤ 8) (b1 : c1 ≤ 8) (b2 : c2 ≤ 8) (b3 : c3 ≤ 8) (b4 : c4 ≤ 8) (b5 : c5 ≤ 8) (b6 : c6 ≤ 8) (b7 : c7 ≤ 8) : (((c0 + c1 + c2 + c3) + 256 * ((c1 + c2 + c3 + c4) + 256 * ((c2 + c3 + c4 + c5) + 256 * (c3 + c4 + c5 + c6)))) + 4294967296 * ((c4 + c5 + c6 + c7) + 256 * ((c5 + c6 + c7) + 256 * ((c6 + c7) + 256 * (c7))))) / 4294967296 = (c4 + c5 + c6 + c7) + 256 * ((c5 + c6 + c7) + 256 * ((c6 + c7) + 256 * (c7))) := dv 4294967296 _ _ (by omega)
theorem q6 (c0 c1 c2 c3 c4 c5 c6 c7 : Nat) : ((c0 + c1 + c2 + c3) + 256 * ((c1 + c2 + c3 + c4) + 256 * ((c2 + c3 + c4 + c5) + 256 * (c3 + c4 + c5 + c6)))) + 4294967296 * ((c4 + c5 + c6 + c7) + 256 * ((c5 + c6 + c7) + 256 * ((c6 + c7) + 256 * (c7)))) + ((c4 + c5 + c6 + c7) + 256 * ((c5 + c6 + c7) + 256 * ((c6 + c7) + 256 * (c7)))) = (c0 + c1 + c2 + c3 + c4 + c5 + c6 + c7) + 128 * (2 * ((c1 + c2 + c3 + c4 + c5 + c6 + c7) + 256 * ((c2 + c3 + c4 + c5 + c6 + c7) + 256 * ((c3 + c4 + c5 + c6 + c7) + 256 * ((c4 + c5 + c6 + c7) + 256 * ((c5 + c6 + c7) + 256 * ((c6 + c7) + 256 * (c7)))))))) := by omega
theorem q7 (c0 c1 c2 c3 c4 c5 c6 c7 : Nat) (b0 : c0 ≤ 8) (b1 : c1 ≤ 8) (b2 : c2 ≤ 8) (b3 : c3 ≤ 8) (b4 : c4 ≤ 8) (b5 : c5 ≤ 8) (b6 : c6 ≤ 8) (b7 : c7 ≤ 8) : c0 + 256 * (c1 + 256 * (c2 + 256 * (c3 + 256 * (c4 + 256 * (c5 + 256 * (c6 + 256 * (c7 + 256 * 0))))))) < 1152921504606846976 := by omega
theorem q8 (c0 c1 c2 c3 c4 c5 c6 c7 : Nat) (b0 : c0 ≤ 8) (b1 : c1 ≤ 8) (b2 : c2 ≤ 8) (b3 : c3 ≤ 8) (b4 : c4 ≤ 8) (b5 : c5 ≤ 8) (b6 : c6 ≤ 8) (b7 : c7 ≤ 8) : (c0 + c1 + c2 + c3 + c4 + c5 + c6 + c7) + 128 * (2 * ((c1 + c2 + c3 + c4 + c5 + c6 + c7) + 256 * ((c2 + c3 + c4 + c5 + c6 + c7) + 256 * ((c3 + c4 + c5 + c6 + c7) + 256 * ((c4 + c5 + c6 + c7) + 256 * ((c5 + c6 + c7) + 256 * ((c6 + c7) + 256 * (c7)))))))) < 9223372036854775808 := by omega
theorem q9 (a b : Nat) (h : a ≤ 64) : (a + 128 * b) % 128 = a := by omega
end Go.Proofs.YtbekghinikjjeaaGreatDoor.br
namespace Go.Proofs.YtbekghinikjjeaaGreatDoor.br
open Go.RowKit
def card (p : Nat → Bool) : Nat := ((List.range 256).filter p).length
def xmd (l : List Nat) : List Value := l.map fun n => Value.int .u8 (n : Nat)
end Go.Proofs.YtbekghinikjjeaaGreatDoor.br
namespace Go.Proofs.YtbekghinikjjeaaGreatDoor.br
open Go.RowKit Go.Shelf
attribute [local go_sem] Oper.semAt_some
def Set4 (W : World) (b : Nat) (p : Nat → Bool) : Prop := W.heap[b]? = some (.cells #[.int .u64 (wd p 0), .int .u64 (wd p 1), .int .u64 (wd p 2), .int .u64 (wd p 3)] 95)
theorem Set4.lt {W : World} {b : Nat} {p : Nat → Bool} (h : Set4 W b p) : b < W.heap.size := (Array.getElem?_eq_some_iff.1 h).1
theorem Set4.holds {W : World} {b : Nat} {p : Nat → Bool} (h : Set4 W b p) : Holds4 W b p := by
 have h' : W.heap[b]? = _ := h
 simp [Holds4, World.cell?, World.frozen?, h']
theorem Set4.new (w : World) (p : Nat → Bool) : Set4 (w.alloc (.cells #[.int .u64 (wd p 0), .int .u64 (wd p 1), .int .u64 (wd p 2), .int .u64 (wd p 3)] 95)) w.heap.size p := World.alloc_heap_new w _
theorem Set4.below {W W' : World} {b : Nat} {p : Nat → Bool} (h : Set4 W b p) {B : Nat} (hb : Below B W W') (hlt : b < B) : Set4 W' b p := (hb.block b hlt).trans h
def KeepAt (b : Nat) (W W' : World) : Prop := W.heap.size ≤ W'.heap.size ∧ W'.heap[b]? = W.heap[b]?
theorem KeepAt.refl (b : Nat) (W : World) : KeepAt b W W := ⟨Nat.le_refl _, rfl⟩
theorem Set4.keep {W W' : World} {b : Nat} {p : Nat → Bool} (h : Set4 W b p) (hk : KeepAt b W W') : Set4 W' b p := hk.2.trans h
end Go.Proofs.YtbekghinikjjeaaGreatDoor.br
