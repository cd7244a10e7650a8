/- Class and the document's Class answer alike, at every name. -/
import Derived.Test.YtiedliahmjiadaaKClassA
import Derived.Test.YtiedliahmjiadaaKClassC
import Derived.Test.YtiedliahmjiadaaKClassD
namespace Go.Proofs.Ytiedliahmjiadaa
open Go.RowKit
theorem bytes_eq {s : ByteArray} {l : List UInt8} (h : (s.toList == l) = true) : s = ⟨l.toArray⟩ := by
 have h1 : s.toList = l := by simpa using h
 rw [ByteArray.toList_eq] at h1
 obtain ⟨⟨x⟩⟩ := s
 simp only at h1
 rw [h1]
def ccF (s : ByteArray) : Int := if (s.toList == [117, 112, 112, 101, 114] || s.toList == [108, 111, 119, 101, 114] || s.toList == [100, 105, 103, 105, 116] || s.toList == [97, 108, 112, 104, 97] || s.toList == [97, 108, 110, 117, 109] || s.toList == [120, 100, 105, 103, 105, 116] || s.toList == [98, 108, 97, 110, 107] || s.toList == [115, 112, 97, 99, 101] || s.toList == [103, 114, 97, 112, 104] || s.toList == [112, 114, 105, 110, 116] || s.toList == [112, 117, 110, 99, 116] || s.toList == [99, 110, 116, 114, 108]) = true then 0 else 8
theorem class_one (s : ByteArray) : ∃ (q : Nat → Bool) (c : Int), (∀ w : World, Calls Try.prog 88 #[.string s] w fun e w' => e = .returned (.tuple #[.agg #[.int .u64 (wd q 0 : Nat), .int .u64 (wd q 1 : Nat), .int .u64 (wd q 2 : Nat), .int .u64 (wd q 3 : Nat)], .int .i64 c]) ∧ Below w.heap.size w w') ∧ c = ccF s := by
 by_cases n0 : (s.toList == [117, 112, 112, 101, 114]) = true
 ·obtain rfl := bytes_eq n0
  exact ⟨_, _, class_upper, by decide +kernel⟩
 by_cases n1 : (s.toList == [108, 111, 119, 101, 114]) = true
 ·obtain rfl := bytes_eq n1
  exact ⟨_, _, class_lower, by decide +kernel⟩
 by_cases n2 : (s.toList == [100, 105, 103, 105, 116]) = true
 ·obtain rfl := bytes_eq n2
  exact ⟨_, _, class_digit, by decide +kernel⟩
 by_cases n3 : (s.toList == [97, 108, 112, 104, 97]) = true
 ·obtain rfl := bytes_eq n3
  exact ⟨_, _, class_alpha, by decide +kernel⟩
 by_cases n4 : (s.toList == [97, 108, 110, 117, 109]) = true
 ·obtain rfl := bytes_eq n4
  exact ⟨_, _, class_alnum, by decide +kernel⟩
 by_cases n5 : (s.toList == [120, 100, 105, 103, 105, 116]) = true
 ·obtain rfl := bytes_eq n5
  exact ⟨_, _, class_xdigit, by decide +kernel⟩
 by_cases n6 : (s.toList == [98, 108, 97, 110, 107]) = true
 ·obtain rfl := bytes_eq n6
  exact ⟨_, _, class_blank, by decide +kernel⟩
 by_cases n7 : (s.toList == [115, 112, 97, 99, 101]) = true
 ·obtain rfl := bytes_eq n7
  exact ⟨_, _, class_space, by decide +kernel⟩
 by_cases n8 : (s.toList == [103, 114, 97, 112, 104]) = true
 ·obtain rfl := bytes_eq n8
  exact ⟨_, _, class_graph, by decide +kernel⟩
 by_cases n9 : (s.toList == [112, 114, 105, 110, 116]) = true
 ·obtain rfl := bytes_eq n9
  exact ⟨_, _, class_print, by decide +kernel⟩
 by_cases n10 : (s.toList == [112, 117, 110, 99, 116]) = true
 ·obtain rfl := bytes_eq n10
  exact ⟨_, _, class_punct, by decide +kernel⟩
 by_cases n11 : (s.toList == [99, 110, 116, 114, 108]) = true
 ·obtain rfl := bytes_eq n11
  exact ⟨_, _, class_cntrl, by decide +kernel⟩
 rw [Bool.not_eq_true] at n0
 rw [Bool.not_eq_true] at n1
 rw [Bool.not_eq_true] at n2
 rw [Bool.not_eq_true] at n3
 rw [Bool.not_eq_true] at n4
 rw [Bool.not_eq_true] at n5
 rw [Bool.not_eq_true] at n6
 rw [Bool.not_eq_true] at n7
 rw [Bool.not_eq_true] at n8
 rw [Bool.not_eq_true] at n9
 rw [Bool.not_eq_true] at n10
 rw [Bool.not_eq_true] at n11
 exact ⟨_, _, class_other s n0 n1 n2 n3 n4 n5 n6 n7 n8 n9 n10 n11, by simp [ccF, n0, n1, n2, n3, n4, n5, n6, n7, n8, n9, n10, n11]⟩
end Go.Proofs.Ytiedliahmjiadaa
