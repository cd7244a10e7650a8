/- Walks: Count: the number of a set's bytes, at every set. -/
import Derived.Test.YtooanbbnjiogaaaKDet
import Derived.Test.YtooanbbnjiogaaaKPop
namespace Go.Proofs.Ytooanbbnjiogaaa
open Go.RowKit

theorem rep85 : rep 85 8 = 6148914691236517205 := by decide
theorem rep51 : rep 51 8 = 3689348814741910323 := by decide
theorem rep15 : rep 15 8 = 1085102592571150095 := by decide

theorem wrapu (n : Nat) (h : n < 18446744073709551616) : IntKind.u64.wrap (n : Int) = (n : Int) := by
  rw [IntKind.wrap_u64]; omega

/-- How many bytes a set has. -/
def card (p : Nat → Bool) : Nat := ((List.range 256).filter p).length

theorem card_part (p : Nat → Bool) (k : Nat) : (((List.range 64).map (fun j => 64 * k + j)).filter p).length = pc 64 (wd p k) := by
  unfold pc
  rw [List.filter_map, List.length_map]
  congr 1
  apply List.filter_congr
  intro j hj
  rw [List.mem_range] at hj
  rw [wd_testBit p k j hj]; rfl

theorem card_words (p : Nat → Bool) : card p = pc 64 (wd p 0) + pc 64 (wd p 1) + pc 64 (wd p 2) + pc 64 (wd p 3) := by
  have h : List.range 256 = ((List.range 64).map (fun j => 64 * 0 + j)) ++ ((List.range 64).map (fun j => 64 * 1 + j)) ++ ((List.range 64).map (fun j => 64 * 2 + j)) ++ ((List.range 64).map (fun j => 64 * 3 + j)) := by decide +kernel
  unfold card
  rw [h, List.filter_append, List.filter_append, List.filter_append, List.length_append, List.length_append, List.length_append, card_part, card_part, card_part, card_part]

theorem pc_64_le (x : Nat) : pc 64 x ≤ 64 := by
  obtain ⟨_, _, _, _, _, h⟩ := halves x
  exact h

end Go.Proofs.Ytooanbbnjiogaaa
