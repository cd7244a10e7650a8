/- bracket: the four bytes: the document's special, and IndexByte over them. -/
import Derived.Test.YtolkbemclkgmmabTextM
import Derived.Test.YtolkbemclkgmmabShelf
import Derived.WalkKit
import Derived.WalkSpells
import Derived.WalkLawsBesides
namespace Go.Proofs.Ytolkbemclkgmmab
open Go.RowKit

theorem idx4_all : ∀ c : Fin 256, decide (0 ≤ Lib.indexByte [93, 94, 45, 91] (c.val.toUInt8)) = spec4 c.val := by decide +kernel

/-- IndexByte finds just the four bytes. -/
theorem idx4 (n : Nat) (h : n < 256) : decide (0 ≤ Lib.indexByte [93, 94, 45, 91] n.toUInt8) = spec4 n := idx4_all ⟨n, h⟩

theorem index4_call (n : Nat) (h : n < 256) (w : World) : ∃ x : Int, decide (0 ≤ x) = spec4 n ∧ Calls Try.prog 14 #[.string ⟨#[93, 94, 45, 91]⟩, .int .u8 (n : Int)] w fun e w' => e = .returned (.int .i64 x) ∧ w' = w := by
  have hI := Try.strings_IndexByte ⟨#[93, 94, 45, 91]⟩ (n : Int) w
  rw [Int.toNat_natCast] at hI
  exact ⟨_, idx4 n h, hI⟩
end Go.Proofs.Ytolkbemclkgmmab
