/- Walks: strings.Cut at the newline: what stands ahead of the first newline, and what behind it, at every text of at most 2^30 bytes. -/
import Derived.Test.YtfmgpcefghoncaaRows
import Derived.WalkKit
import Derived.WalkSpells
import Derived.WalkLawsBesides
import Derived.Test.YtfmgpcefghoncaaPlain
import Derived.Test.YtfmgpcefghoncaaShelf
namespace Go.Proofs.Ytfmgpcefghoncaa
open Go.RowKit

theorem index_cases (l : List UInt8) : (Lib.indexByte l 10 = -1 ∧ headL l = l ∧ restL l = []) ∨ (∃ k : Nat, k < l.length ∧ Lib.indexByte l 10 = (k : Int) ∧ headL l = l.take k ∧ restL l = l.drop (k + 1)) := by
  induction l with
  | nil => exact .inl ⟨rfl, rfl, rfl⟩
  | cons b r ih =>
    by_cases hb : b = 10
    · subst hb
      exact .inr ⟨0, by simp, by simp [Lib.indexByte], by simp [headL], by simp [restL]⟩
    · have hb' : (b != 10) = true := by simpa using hb
      have hb2 : (b == 10) = false := by simpa using hb
      rcases ih with ⟨h1, h2, h3⟩ | ⟨k, hk, h1, h2, h3⟩
      · refine .inl ⟨by simp [Lib.indexByte, hb2, h1], ?_, ?_⟩
        · simp only [headL, List.takeWhile_cons, hb', if_true] at h2 ⊢; rw [h2]
        · simp only [restL, List.dropWhile_cons, hb', if_true] at h3 ⊢; exact h3
      · refine .inr ⟨k + 1, by simp; omega, ?_, ?_, ?_⟩
        · have hne : ((k : Int) == -1) = false := by rw [beq_eq_false_iff_ne]; omega
          simp [Lib.indexByte, hb2, h1, hne]
        · simp only [headL, List.takeWhile_cons, hb', if_true] at h2 ⊢; rw [h2]; rfl
        · simp only [restL, List.dropWhile_cons, hb', if_true] at h3 ⊢; rw [h3]; rfl

theorem restL_lt (l : List UInt8) (h : l ≠ []) : (restL l).length < l.length := by
  have hp : 0 < l.length := List.length_pos_iff.2 h
  rcases index_cases l with ⟨-, -, h3⟩ | ⟨k, hk, -, -, h3⟩
  · rw [h3]; simpa using hp
  · rw [h3, List.length_drop]; omega

theorem str_self (s : ByteArray) : str s.data.toList = s := rfl

set_option maxRecDepth 100000 in
set_option maxHeartbeats 1000000 in
theorem sliteCut_one (s : ByteArray) (hs : s.size ≤ 1073741824) (w : World) :
    Calls Try.prog 32 #[.string s, .string ⟨#[10]⟩] w fun e w' => (∃ ok, e = .returned (.tuple #[.string (str (headL s.data.toList)), .string (str (restL s.data.toList)), .bool ok])) ∧ Below w.heap.size w w' := by
  rcases index_cases s.data.toList with ⟨h1, h2, h3⟩ | ⟨k, hk, h1, h2, h3⟩
  · rw [h2, h3]
    go_enter Try.func32, Try.ntmps32
    go_wp2_with (go_at_call 33; refine (Try.stringslite_Index_one _ _ _).mono ?_; rintro e w' ⟨rfl, rfl⟩; rw [h1])
    go_ret3
    exact ⟨⟨_, rfl⟩, Below.refl _ _⟩
  · have hk' : k < s.size := by simpa using hk
    have e1 : s.extract 0 k = str (headL s.data.toList) := by rw [extract_str, h2]; simp
    have e2 : s.extract (k + 1) s.size = str (restL s.data.toList) := by
      rw [extract_str, h3, List.take_of_length_le (by simp)]
    have c1 : (0 : Int) ≤ (k : Int) := by omega
    have c2 : (k : Int) ≤ (s.size : Int) := by omega
    have c3 : (0 : Int) ≤ (k : Int) + 1 := by omega
    have c4 : (k : Int) + 1 ≤ (s.size : Int) := by omega
    have c5 : IntKind.i64.wrap ((k : Int) + 1) = (k : Int) + 1 := by rw [IntKind.wrap_i64]; omega
    have c6 : wrap64 ((k : Int) + 1) = (k : Int) + 1 := by unfold wrap64; omega
    go_enter Try.func32, Try.ntmps32
    go_wp2_with (go_at_call 33; refine (Try.stringslite_Index_one _ _ _).mono ?_; rintro e w' ⟨rfl, rfl⟩; rw [h1])
    go_region
    go_wp2
    go_ret3
    refine ⟨⟨true, ?_⟩, (Below.refl _ _).drew⟩
    rw [h2, h3]
    rfl

set_option maxHeartbeats 1000000 in
theorem cut_one (s : ByteArray) (hs : s.size ≤ 1073741824) (w : World) :
    Calls Try.prog 26 #[.string s, .string ⟨#[10]⟩] w fun e w' => (∃ ok, e = .returned (.tuple #[.string (str (headL s.data.toList)), .string (str (restL s.data.toList)), .bool ok])) ∧ Below w.heap.size w w' := by
  go_enter Try.func26, Try.ntmps26
  go_wp2_with (go_at_call 32; refine (sliteCut_one _ hs _).mono ?_; rintro e w' ⟨⟨ok, rfl⟩, hb⟩)
  go_ret3
  exact ⟨⟨_, rfl⟩, hb⟩
end Go.Proofs.Ytfmgpcefghoncaa
