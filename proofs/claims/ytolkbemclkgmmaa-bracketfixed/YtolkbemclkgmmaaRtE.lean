/- The document's Text at every set. -/
import Derived.Test.YtolkbemclkgmmaaRt
namespace Go.Proofs.Ytolkbemclkgmmaa
open Go.RowKit

set_option maxRecDepth 100000 in
set_option maxHeartbeats 1000000 in
theorem refText_none (p : Nat → Bool) (hp : eqB p noneP = true) (w : World) :
    Calls Try.prog 13 #[.agg #[.int .u64 (wd p 0 : Nat), .int .u64 (wd p 1 : Nat), .int .u64 (wd p 2 : Nat), .int .u64 (wd p 3 : Nat)]] w fun e w' => e = .returned (.string (bstr [91, 94, 0, 45, 255, 93])) ∧ Below w.heap.size w w' := by
  have hne := mem_none hp
  go_enter Try.func13, Try.ntmps13
  go_wp2_with fail
  refine (refMembers_any p _).mono ?_
  rintro e w1 ⟨lv, rfl, hrow, hb1⟩
  have hcard : card p = 0 := by have := hrow.1; simp [byteVals, hne] at this; omega
  rw [hcard] at hrow
  have hbw : Below w.heap.size w w1 := ((Below.refl _ w).alloc (Nat.le_refl _) _).trans (hb1.mono (by simp))
  have hown : (w1.alloc (.cells #[.int .u8 91, .int .u8 94, .int .u8 0, .int .u8 45, .int .u8 255, .int .u8 93] 5)).ownsRow w1.heap.size 5 1 (.slice (some ⟨w1.heap.size, 0, none⟩) 6 6) ([91, 94, 0, 45, 255, 93] : List Nat).length (byteVals [91, 94, 0, 45, 255, 93]) :=
    ⟨rfl, .inr ⟨w1.heap.size, 6, _, rfl, Nat.le_refl _, World.alloc_heap_new w1 _, Nat.le_refl _, by unfold maxLen; omega, rfl, rfl⟩⟩
  have hconv := conv_owned hown
  clear hown
  rcases hrow.2 with ⟨rfl, -⟩ | ⟨g, cap, cur, rfl, -⟩
  · go_wp2
    go_ret
    exact ⟨rfl, hbw.alloc hbw.size _⟩
  · go_wp2
    go_ret
    exact ⟨rfl, hbw.alloc hbw.size _⟩

theorem refText_any (p : Nat → Bool) (w : World) :
    Calls Try.prog 13 #[.agg #[.int .u64 (wd p 0 : Nat), .int .u64 (wd p 1 : Nat), .int .u64 (wd p 2 : Nat), .int .u64 (wd p 3 : Nat)]] w fun e w' => e = .returned (.string (bstr (textL (mem p 256)))) ∧ Below w.heap.size w w' := by
  cases hp : eqB p noneP
  · rw [textL, if_neg (mem_some hp)]
    exact refText_some p hp w
  · rw [textL, if_pos (mem_none hp)]
    exact refText_none p hp w
end Go.Proofs.Ytolkbemclkgmmaa
