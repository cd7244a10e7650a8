/- bracket: the four bytes: the document's special, and IndexByte over them. -/
import Derived.Test.YtolkbemclkgmmaaTextM
import Derived.Test.YtolkbemclkgmmaaShelf
import Derived.WalkKit
import Derived.WalkSpells
import Derived.WalkLawsBesides
namespace Go.Proofs.Ytolkbemclkgmmaa
open Go.RowKit

set_option maxRecDepth 100000 in
set_option maxHeartbeats 400000 in
theorem special_any (n : Nat) (w : World) :
    Calls Try.prog 26 #[.int .u8 (n : Int)] w fun e w' => e = .returned (.bool (spec4 n)) ∧ w' = w := by
  have e : spec4 n = ((n : Int) == 93 || (n : Int) == 94 || (n : Int) == 45 || (n : Int) == 91) := by
    unfold spec4
    have h : ∀ k : Nat, ((n : Int) == (k : Int)) = (n == k) := fun k => by rw [Bool.eq_iff_iff, beq_iff_eq, beq_iff_eq]; omega
    exact (by rw [h 93, h 94, h 45, h 91] : (((n : Int) == ((93 : Nat) : Int)) || ((n : Int) == ((94 : Nat) : Int)) || ((n : Int) == ((45 : Nat) : Int)) || ((n : Int) == ((91 : Nat) : Int))) = _).symm
  rw [e]
  by_cases h1 : (n : Int) = 93
  · rw [h1]
    go_enter Try.func26, Try.ntmps26
    go_wp2
    go_ret
    exact ⟨by simp, rfl⟩
  · by_cases h2 : (n : Int) = 94
    · rw [h2]
      go_enter Try.func26, Try.ntmps26
      go_wp2
      go_ret
      exact ⟨by simp, rfl⟩
    · by_cases h3 : (n : Int) = 45
      · rw [h3]
        go_enter Try.func26, Try.ntmps26
        go_wp2
        go_ret
        exact ⟨by simp, rfl⟩
      · have b1 : ((n : Int) == 93) = false := by simp [h1]
        have b2 : ((n : Int) == 94) = false := by simp [h2]
        have b3 : ((n : Int) == 45) = false := by simp [h3]
        clear h1 h2 h3
        go_enter Try.func26, Try.ntmps26
        go_wp2
        go_ret
        exact ⟨by simp [b1, b2, b3], rfl⟩

theorem idx4_all : ∀ c : Fin 256, decide (0 ≤ Lib.indexByte [93, 94, 45, 91] (c.val.toUInt8)) = spec4 c.val := by decide +kernel

/-- IndexByte finds just the four bytes. -/
theorem idx4 (n : Nat) (h : n < 256) : decide (0 ≤ Lib.indexByte [93, 94, 45, 91] n.toUInt8) = spec4 n := idx4_all ⟨n, h⟩

theorem index4_call (n : Nat) (h : n < 256) (w : World) : ∃ x : Int, decide (0 ≤ x) = spec4 n ∧ Calls Try.prog 24 #[.string ⟨#[93, 94, 45, 91]⟩, .int .u8 (n : Int)] w fun e w' => e = .returned (.int .i64 x) ∧ w' = w := by
  have hI := Try.strings_IndexByte ⟨#[93, 94, 45, 91]⟩ (n : Int) w
  rw [Int.toNat_natCast] at hI
  exact ⟨_, idx4 n h, hI⟩
end Go.Proofs.Ytolkbemclkgmmaa
