/- Walks: Number, and the document's DocNumber: in which line a place lies, at every text of at most 2^30 bytes and every place. -/
import Derived.Test.YtfmgpcefghoncaaRows
import Derived.WalkKit
import Derived.WalkSpells
import Derived.WalkLawsBesides
import Derived.Test.YtfmgpcefghoncaaPlain
import Derived.Test.YtfmgpcefghoncaaShelf
import Derived.Test.YtfmgpcefghoncaaRefCut
namespace Go.Proofs.Ytfmgpcefghoncaa
open Go.RowKit

/-- In which line the place at lies. -/
def numL (l : List UInt8) (at_ : Nat) : Nat := 1 + (l.take at_).count 10

set_option maxRecDepth 100000 in
set_option maxHeartbeats 1000000 in
theorem number_in (s : ByteArray) (hs : s.size ≤ 1073741824) (k : Nat) (hk : k ≤ s.size) (w : World) :
    Calls Try.prog 14 #[.string s, .int .i64 k] w fun e w' => e = .returned (.tuple #[.int .i64 (numL s.data.toList k : Nat), .int .i64 0]) ∧ w' = w := by
  have h1 : ((k : Int) < 0) = False := by simp only [eq_iff_iff, iff_false]; omega
  have h2 : ((s.size : Int) < (k : Int)) = False := by simp only [eq_iff_iff, iff_false]; omega
  have e1 : s.extract 0 k = str (s.data.toList.take k) := by rw [extract_str]; simp
  have hc : (s.data.toList.take k).count 10 ≤ k := by
    have := List.count_le_length (a := (10 : UInt8)) (l := s.data.toList.take k)
    simp at this
    omega
  go_enter Try.func14, Try.ntmps14
  go_wp2_with (first | (go_at_call 21; refine (Try.strings_Count_one _ _ _).mono ?_; rintro e w' ⟨rfl, rfl⟩))
  go_ret2
  have hw : wrap64 (1 + ((Lib.countByte (str (s.data.toList.take k)).data.toList 10 : Nat) : Int)) = ((numL s.data.toList k : Nat) : Int) := by
    have e : Lib.countByte (str (s.data.toList.take k)).data.toList 10 = (s.data.toList.take k).count 10 := rfl
    rw [e]
    unfold wrap64 numL
    omega
  refine ⟨?_, rfl⟩
  rw [← hw]
  rfl

set_option maxRecDepth 100000 in
set_option maxHeartbeats 1000000 in
theorem docNumber_in (s : ByteArray) (hs : s.size ≤ 1073741824) (k : Nat) (hk : k ≤ s.size) (w : World) :
    Calls Try.prog 15 #[.string s, .int .i64 k] w fun e w' => e = .returned (.tuple #[.int .i64 (numL s.data.toList k : Nat), .int .i64 0]) ∧ w' = w := by
  have h1 : ((k : Int) < 0) = False := by simp only [eq_iff_iff, iff_false]; omega
  have h2 : ((s.size : Int) < (k : Int)) = False := by simp only [eq_iff_iff, iff_false]; omega
  go_enter Try.func15, Try.ntmps15
  go_wp2_with fail
  go_loopw [6, 7] (fun n i wr => ∃ j : Nat, j ≤ k ∧ n = .int .i64 (numL s.data.toList j : Nat) ∧ i = .int .i64 j ∧ wr = w) (fun _ i _ => k - (intOf i).toNat)
  case atStart => exact ⟨0, by omega, by simp [numL], rfl, rfl⟩
  case round =>
    obtain ⟨j, hj, rfl, rfl, rfl⟩ := hrel
    by_cases hlt : j < k
    · have hjs : j < s.size := by omega
      have hn : numL s.data.toList j ≤ 1 + j := by
        have := List.count_le_length (a := (10 : UInt8)) (l := s.data.toList.take j)
        simp at this
        unfold numL
        omega
      have hsu : numL s.data.toList (j + 1) = numL s.data.toList j + (if s.data.toList[j]'(by simpa using hjs) = 10 then 1 else 0) := by
        unfold numL
        rw [List.take_succ_eq_append_getElem (by simpa using hjs), List.count_append, List.count_singleton]
        simp only [beq_iff_eq]
        omega
      have HS : Hid _ := hsu
      clear hsu
      go_wp2
      · have hq : ((s[j].toNat : Int) == 10) = true := by assumption
        have e := HS.out
        rw [byte_ten s j hjs hq] at e
        refine ⟨⟨j + 1, by omega, ?_, by go_num, trivial⟩, by simp [intOf]; omega⟩
        rw [e]
        simp
      · have hq : ((s[j].toNat : Int) == 10) = false := by assumption
        have e := HS.out
        rw [if_neg (byte_not s j hjs hq)] at e
        refine ⟨⟨j + 1, by omega, ?_, by go_num, trivial⟩, by simp [intOf]; omega⟩
        rw [e]
        simp
    · obtain rfl : j = k := by omega
      go_wp2
      go_ret2
      exact ⟨rfl, rfl⟩

set_option maxRecDepth 100000 in
set_option maxHeartbeats 1000000 in
theorem number_out (s : ByteArray) (x : Int) (hx : x < 0 ∨ (s.size : Int) < x) (w : World) :
    Calls Try.prog 14 #[.string s, .int .i64 x] w fun e w' => e = .returned (.tuple #[.int .i64 0, .int .i64 1]) ∧ w' = w := by
  go_enter Try.func14, Try.ntmps14
  go_wp2_with fail
  all_goals (go_ret2; exact ⟨rfl, rfl⟩)

set_option maxRecDepth 100000 in
set_option maxHeartbeats 1000000 in
theorem docNumber_out (s : ByteArray) (x : Int) (hx : x < 0 ∨ (s.size : Int) < x) (w : World) :
    Calls Try.prog 15 #[.string s, .int .i64 x] w fun e w' => e = .returned (.tuple #[.int .i64 0, .int .i64 1]) ∧ w' = w := by
  go_enter Try.func15, Try.ntmps15
  go_wp2_with fail
  all_goals (go_ret2; exact ⟨rfl, rfl⟩)
end Go.Proofs.Ytfmgpcefghoncaa
