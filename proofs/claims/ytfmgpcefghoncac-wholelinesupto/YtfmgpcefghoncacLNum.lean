/- Walks: Number, and the document's DocNumber: in which line a place lies, at every text of at most 2^30 bytes and every place. -/
import Derived.Test.YtfmgpcefghoncacRows
import Derived.WalkKit
import Derived.WalkSpells
import Derived.WalkLawsBesides
import Derived.Test.YtfmgpcefghoncacLPlain
import Derived.Test.YtfmgpcefghoncacLShelf
import Derived.Test.YtfmgpcefghoncacLRefCut
namespace Go.Proofs.Ytfmgpcefghoncac
open Go.RowKit

/-- In which line the place at lies. -/
def numL (l : List UInt8) (at_ : Nat) : Nat := 1 + (l.take at_).count 10

set_option maxRecDepth 100000 in
set_option maxHeartbeats 1000000 in
theorem number_in (s : ByteArray) (hs : s.size ≤ 1073741824) (k : Nat) (hk : k ≤ s.size) (w : World) :
    Calls Try.prog 5 #[.string s, .int .i64 k] w fun e w' => e = .returned (.tuple #[.int .i64 (numL s.data.toList k : Nat), .int .i64 0]) ∧ w' = w := by
  have h1 : ((k : Int) < 0) = False := by simp only [eq_iff_iff, iff_false]; omega
  have h2 : ((s.size : Int) < (k : Int)) = False := by simp only [eq_iff_iff, iff_false]; omega
  have e1 : s.extract 0 k = str (s.data.toList.take k) := by rw [extract_str]; simp
  have hc : (s.data.toList.take k).count 10 ≤ k := by
    have := List.count_le_length (a := (10 : UInt8)) (l := s.data.toList.take k)
    simp at this
    omega
  go_enter Try.func5, Try.ntmps5
  go_wp2_with (first | (go_at_call 16; refine (Try.strings_Count_one _ _ _).mono ?_; rintro e w' ⟨rfl, rfl⟩))
  go_ret2
  have hw : wrap64 (1 + ((Lib.countByte (str (s.data.toList.take k)).data.toList 10 : Nat) : Int)) = ((numL s.data.toList k : Nat) : Int) := by
    have e : Lib.countByte (str (s.data.toList.take k)).data.toList 10 = (s.data.toList.take k).count 10 := rfl
    rw [e]
    unfold wrap64 numL
    omega
  refine ⟨?_, rfl⟩
  rw [← hw]
  rfl

set_option maxRecDepth 100000 in
set_option maxHeartbeats 1000000 in
theorem number_out (s : ByteArray) (x : Int) (hx : x < 0 ∨ (s.size : Int) < x) (w : World) :
    Calls Try.prog 5 #[.string s, .int .i64 x] w fun e w' => e = .returned (.tuple #[.int .i64 0, .int .i64 1]) ∧ w' = w := by
  go_enter Try.func5, Try.ntmps5
  go_wp2_with fail
  all_goals (go_ret2; exact ⟨rfl, rfl⟩)

end Go.Proofs.Ytfmgpcefghoncac
