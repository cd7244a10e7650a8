/- Walks: Members: the bytes of a set given one at a time, for every loop body that keeps what lay. -/
import Derived.Test.YtgpciekpmdihnaaKDet
import Derived.RangeFuncNested
import Derived.RangeFuncBound
import Derived.RangeFuncCalls
import Derived.RangeFuncLeaves
import Derived.RangeFuncBox
import Derived.Shelf.Abstract
import Derived.WalkKit
import Derived.OwnWalkIn
import Derived.TacticsInMore
import Derived.LoopNIn
import Derived.LoopIn
import Derived.Maps.AppendAt
namespace Go.Proofs.Ytgpciekpmdihnaa
open Go.RowKit Go.Shelf
attribute [local go_sem] Oper.semAt_some
def Set4 (W : World) (b : Nat) (p : Nat → Bool) : Prop := W.heap[b]? = some (.cells #[.int .u64 (wd p 0 : Nat), .int .u64 (wd p 1 : Nat), .int .u64 (wd p 2 : Nat), .int .u64 (wd p 3 : Nat)] 24 (0, 0))
theorem Set4.lt {W : World} {b : Nat} {p : Nat → Bool} (h : Set4 W b p) : b < W.heap.size := (Array.getElem?_eq_some_iff.1 h).1
theorem Set4.holds {W : World} {b : Nat} {p : Nat → Bool} (h : Set4 W b p) : Holds4 W b p := by
  have h' : W.heap[b]? = _ := h
  simp [Holds4, World.cell?, World.frozen?, h']
theorem Set4.new (w : World) (p : Nat → Bool) : Set4 (w.alloc (.cells #[.int .u64 (wd p 0 : Nat), .int .u64 (wd p 1 : Nat), .int .u64 (wd p 2 : Nat), .int .u64 (wd p 3 : Nat)] 24)) w.heap.size p := World.alloc_heap_new w _
theorem Set4.below {W W' : World} {b : Nat} {p : Nat → Bool} (h : Set4 W b p) {B : Nat} (hb : Below B W W') (hlt : b < B) : Set4 W' b p := (hb.block b hlt).trans h
def KeepAt (b : Nat) (W W' : World) : Prop := W.heap.size ≤ W'.heap.size ∧ W'.heap[b]? = W.heap[b]?
theorem KeepAt.refl (b : Nat) (W : World) : KeepAt b W W := ⟨Nat.le_refl _, rfl⟩
theorem Set4.keep {W W' : World} {b : Nat} {p : Nat → Bool} (h : Set4 W b p) (hk : KeepAt b W W') : Set4 W' b p := hk.2.trans h
end Go.Proofs.Ytgpciekpmdihnaa
