/- bracket: classes as one answer, the end of a marked item, items: what they are, and closes. -/
import Derived.Test.YtgpciekpmdihnaaKBytes
namespace Go.Proofs.Ytgpciekpmdihnaa
open Go.RowKit
theorem class_spec (s : ByteArray) : ∃ q : Nat → Bool, (∀ w : World, Calls Try.prog 95 #[.string s] w fun e w' => e = .returned (.tuple #[.agg #[.int .u64 (wd q 0 : Nat), .int .u64 (wd q 1 : Nat), .int .u64 (wd q 2 : Nat), .int .u64 (wd q 3 : Nat)], .int .i64 (ccF s)]) ∧ Below w.heap.size w w') ∧
    (∀ w : World, Calls Try.prog 83 #[.string s] w fun e w' => e = .returned (.tuple #[.agg #[.int .u64 (wd q 0 : Nat), .int .u64 (wd q 1 : Nat), .int .u64 (wd q 2 : Nat), .int .u64 (wd q 3 : Nat)], .int .i64 (ccF s)]) ∧ Below w.heap.size w w') := by
  obtain ⟨q, r, c, h1, h2, h3, rfl⟩ := class_both s
  obtain ⟨e0, e1, e2, e3⟩ := wd_Is ((eqB_iff q r).1 h3)
  refine ⟨q, h1, fun w => ?_⟩
  rw [e0, e1, e2, e3]
  exact h2 w
noncomputable def classQ (s : ByteArray) : Nat → Bool := (class_spec s).choose
def classC (s : ByteArray) : Int := ccF s
theorem classD (s : ByteArray) (w : World) : Calls Try.prog 95 #[.string s] w fun e w' => e = .returned (.tuple #[.agg #[.int .u64 (wd (classQ s) 0 : Nat), .int .u64 (wd (classQ s) 1 : Nat), .int .u64 (wd (classQ s) 2 : Nat), .int .u64 (wd (classQ s) 3 : Nat)], .int .i64 (classC s)]) ∧ Below w.heap.size w w' := (class_spec s).choose_spec.1 w
theorem list_at (s : ByteArray) (i : Nat) (h : i < s.size) : s.data.toList[i]'(by simpa using h) = s[i] := rfl
theorem occ_iff (s : ByteArray) (a t : Nat) (m : UInt8) : Lib.occAt (s.data.toList.drop a) [m, 93] t = (byteAt s (a + t) == (m.toNat : Int) && byteAt s (a + t + 1) == 93) := by
  have hm := m.toNat_lt
  rw [Lib.occAt, List.drop_drop]
  by_cases h : a + t < s.size
  · have h' : a + t < s.data.toList.length := by simpa using h
    rw [List.drop_eq_getElem_cons h', List.isPrefixOf_cons_cons, byteAt_in h]
    have e1 : (m == s.data.toList[a + t]) = ((s[a + t].toNat : Int) == (m.toNat : Int)) := by
      rw [list_at s _ h, Bool.eq_iff_iff, beq_iff_eq, beq_iff_eq]
      constructor
      · intro e; rw [e]
      · intro e; exact (UInt8.toNat_inj.1 (by omega)).symm
    rw [e1]
    congr 1
    by_cases h1 : a + t + 1 < s.size
    · have h1' : a + t + 1 < s.data.toList.length := by simpa using h1
      rw [List.drop_eq_getElem_cons h1', List.isPrefixOf_cons_cons, byteAt_in h1, List.isPrefixOf_nil_left, Bool.and_true, list_at s _ h1, Bool.eq_iff_iff, beq_iff_eq, beq_iff_eq]
      constructor
      · intro e; rw [← e]; rfl
      · intro e; exact (UInt8.toNat_inj.1 (by show s[a + t + 1].toNat = 93; omega)).symm
    · rw [List.drop_eq_nil_of_le (by simp; omega), byteAt_out (by omega)]
      rfl
  · rw [List.drop_eq_nil_of_le (by simp; omega), byteAt_out (by omega)]
    have : ((-1 : Int) == (m.toNat : Int)) = false := by rw [beq_eq_false_iff_ne]; omega
    rw [this]
    rfl
def closeI (s : ByteArray) (a : Nat) (m : UInt8) : Int := if Lib.index (s.data.toList.drop a) [m, 93] = -1 then -1 else (a : Int) + Lib.index (s.data.toList.drop a) [m, 93]
theorem closeI_some (s : ByteArray) (a j : Nat) (m : UInt8) (hj : a ≤ j) (h1 : (byteAt s j == (m.toNat : Int) && byteAt s (j + 1) == 93) = true) (h0 : ∀ t, a ≤ t → t < j → (byteAt s t == (m.toNat : Int) && byteAt s (t + 1) == 93) = false) : closeI s a m = j := by
  have hlt : j < s.size := by
    rw [Bool.and_eq_true, beq_iff_eq, beq_iff_eq] at h1
    exact byteAt_lt h1.1 (by omega)
  have : Lib.index (s.data.toList.drop a) [m, 93] = ((j - a : Nat) : Int) := Lib.index_first (by simp; omega) (by rw [occ_iff, show a + (j - a) = j by omega]; exact h1) (fun t ht => by rw [occ_iff]; exact h0 _ (by omega) (by omega))
  rw [closeI, this, if_neg (by omega)]
  omega
end Go.Proofs.Ytgpciekpmdihnaa
