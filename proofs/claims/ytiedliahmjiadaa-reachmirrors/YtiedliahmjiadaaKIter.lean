/- Walks: Has. -/
import Derived.Test.YtiedliahmjiadaaKPlain
import Derived.Test.YtiedliahmjiadaaKDet
import Derived.RangeFuncNested
import Derived.RangeFuncBound
import Derived.RangeFuncCalls
import Derived.RangeFuncLeaves
import Derived.RangeFuncBox
import Derived.Shelf.Abstract
import Derived.WalkKit
import Derived.OwnWalkIn
import Derived.TacticsInMore
import Derived.LoopNIn
import Derived.LoopIn
import Derived.Maps.AppendAt
set_option maxHeartbeats 1000000
namespace Go.Proofs.Ytiedliahmjiadaa
open Go.RowKit
theorem has0 (a b c d x : Int) (h0 : 0 ≤ x) (h1 : x < 256) (hq : x / 64 = 0) (w : World) :
  Calls Try.prog 46 #[.agg #[.int .u64 a, .int .u64 b, .int .u64 c, .int .u64 d], .int .u8 x] w fun e w' => e = .returned (.bool (bits .and .u64 (a / 2 ^ (x % 64).toNat) 1 == 1)) ∧ Below w.heap.size w w' := by
 go_enter Try.func46, Try.ntmps46
 go_wp2
 go_ret
 exact ⟨rfl, (Below.refl _ _).alloc (Nat.le_refl _) _⟩
theorem has1 (a b c d x : Int) (h0 : 0 ≤ x) (h1 : x < 256) (hq : x / 64 = 1) (w : World) :
  Calls Try.prog 46 #[.agg #[.int .u64 a, .int .u64 b, .int .u64 c, .int .u64 d], .int .u8 x] w fun e w' => e = .returned (.bool (bits .and .u64 (b / 2 ^ (x % 64).toNat) 1 == 1)) ∧ Below w.heap.size w w' := by
 go_enter Try.func46, Try.ntmps46
 go_wp2
 go_ret
 exact ⟨rfl, (Below.refl _ _).alloc (Nat.le_refl _) _⟩
theorem has2 (a b c d x : Int) (h0 : 0 ≤ x) (h1 : x < 256) (hq : x / 64 = 2) (w : World) :
  Calls Try.prog 46 #[.agg #[.int .u64 a, .int .u64 b, .int .u64 c, .int .u64 d], .int .u8 x] w fun e w' => e = .returned (.bool (bits .and .u64 (c / 2 ^ (x % 64).toNat) 1 == 1)) ∧ Below w.heap.size w w' := by
 go_enter Try.func46, Try.ntmps46
 go_wp2
 go_ret
 exact ⟨rfl, (Below.refl _ _).alloc (Nat.le_refl _) _⟩
theorem has3 (a b c d x : Int) (h0 : 0 ≤ x) (h1 : x < 256) (hq : x / 64 = 3) (w : World) :
  Calls Try.prog 46 #[.agg #[.int .u64 a, .int .u64 b, .int .u64 c, .int .u64 d], .int .u8 x] w fun e w' => e = .returned (.bool (bits .and .u64 (d / 2 ^ (x % 64).toNat) 1 == 1)) ∧ Below w.heap.size w w' := by
 go_enter Try.func46, Try.ntmps46
 go_wp2
 go_ret
 exact ⟨rfl, (Below.refl _ _).alloc (Nat.le_refl _) _⟩
theorem has_any (p : Nat → Bool) (x : Int) (h0 : 0 ≤ x) (h1 : x < 256) (w : World) :
  Calls Try.prog 46 #[.agg #[.int .u64 (wd p 0 : Nat), .int .u64 (wd p 1 : Nat), .int .u64 (wd p 2 : Nat), .int .u64 (wd p 3 : Nat)], .int .u8 x] w fun e w' => e = .returned (.bool (p x.toNat)) ∧ Below w.heap.size w w' := by
 have hq : x / 64 = 0 ∨ x / 64 = 1 ∨ x / 64 = 2 ∨ x / 64 = 3 := by omega
 rcases hq with hq | hq | hq | hq
 ·have hb : p x.toNat = (wd p 0).testBit (x.toNat % 64) := by rw [wd_testBit p 0 _ (by omega), show 64 * 0 + x.toNat % 64 = x.toNat by omega]
  rw [hb, ← and_bit (wd p 0) (wd_lt p 0) x h0]
  exact has0 _ _ _ _ x h0 h1 hq w
 ·have hb : p x.toNat = (wd p 1).testBit (x.toNat % 64) := by rw [wd_testBit p 1 _ (by omega), show 64 * 1 + x.toNat % 64 = x.toNat by omega]
  rw [hb, ← and_bit (wd p 1) (wd_lt p 1) x h0]
  exact has1 _ _ _ _ x h0 h1 hq w
 ·have hb : p x.toNat = (wd p 2).testBit (x.toNat % 64) := by rw [wd_testBit p 2 _ (by omega), show 64 * 2 + x.toNat % 64 = x.toNat by omega]
  rw [hb, ← and_bit (wd p 2) (wd_lt p 2) x h0]
  exact has2 _ _ _ _ x h0 h1 hq w
 ·have hb : p x.toNat = (wd p 3).testBit (x.toNat % 64) := by rw [wd_testBit p 3 _ (by omega), show 64 * 3 + x.toNat % 64 = x.toNat by omega]
  rw [hb, ← and_bit (wd p 3) (wd_lt p 3) x h0]
  exact has3 _ _ _ _ x h0 h1 hq w
end Go.Proofs.Ytiedliahmjiadaa
namespace Go.Proofs.Ytiedliahmjiadaa
open Go.RowKit Go.Shelf
attribute [local go_sem] Oper.semAt_some
def Set4 (W : World) (b : Nat) (p : Nat → Bool) : Prop := W.heap[b]? = some (.cells #[.int .u64 (wd p 0 : Nat), .int .u64 (wd p 1 : Nat), .int .u64 (wd p 2 : Nat), .int .u64 (wd p 3 : Nat)] 45 (0, 0))
theorem Set4.lt {W : World} {b : Nat} {p : Nat → Bool} (h : Set4 W b p) : b < W.heap.size := (Array.getElem?_eq_some_iff.1 h).1
theorem Set4.holds {W : World} {b : Nat} {p : Nat → Bool} (h : Set4 W b p) : Holds4 W b p := by
 have h' : W.heap[b]? = _ := h
 simp [Holds4, World.cell?, World.frozen?, h']
theorem Set4.new (w : World) (p : Nat → Bool) : Set4 (w.alloc (.cells #[.int .u64 (wd p 0 : Nat), .int .u64 (wd p 1 : Nat), .int .u64 (wd p 2 : Nat), .int .u64 (wd p 3 : Nat)] 45)) w.heap.size p := World.alloc_heap_new w _
theorem Set4.below {W W' : World} {b : Nat} {p : Nat → Bool} (h : Set4 W b p) {B : Nat} (hb : Below B W W') (hlt : b < B) : Set4 W' b p := (hb.block b hlt).trans h
def KeepAt (b : Nat) (W W' : World) : Prop := W.heap.size ≤ W'.heap.size ∧ W'.heap[b]? = W.heap[b]?
theorem KeepAt.refl (b : Nat) (W : World) : KeepAt b W W := ⟨Nat.le_refl _, rfl⟩
theorem keepAt_t {b : Nat} {A B C : World} (h : KeepAt b A B) (k : KeepAt b B C) : KeepAt b A C := ⟨Nat.le_trans h.1 k.1, k.2.trans h.2⟩
theorem Set4.keep {W W' : World} {b : Nat} {p : Nat → Bool} (h : Set4 W b p) (hk : KeepAt b W W') : Set4 W' b p := hk.2.trans h
theorem members_in (n : Nat) (p : Nat → Bool) (w : World) :
  CallsIn Fence.wide n Try.prog 45 #[.agg #[.int .u64 (wd p 0 : Nat), .int .u64 (wd p 1 : Nat), .int .u64 (wd p 2 : Nat), .int .u64 (wd p 3 : Nat)]] w fun e w' => e = .returned (.func (.func 60) #[] #[.pointer (some ⟨w.heap.size, 0, none⟩)]) ∧ w' = w.alloc (.cells #[.int .u64 (wd p 0 : Nat), .int .u64 (wd p 1 : Nat), .int .u64 (wd p 2 : Nat), .int .u64 (wd p 3 : Nat)] 45) := by
 refine callsIn_of_wp Try.func45 rfl trivial ?_ rfl
 simp only [Try.ntmps45, List.size_toArray, List.length_cons, List.length_nil, Nat.reduceAdd, Nat.reduceSub, Array.replicate_succ, Array.replicate_zero, List.push_toArray, List.append_toArray, List.nil_append, List.cons_append]
 gi_wp2
 go_ret
 exact ⟨rfl, rfl⟩
end Go.Proofs.Ytiedliahmjiadaa
