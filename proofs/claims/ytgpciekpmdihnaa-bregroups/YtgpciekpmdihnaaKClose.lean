/- bracket: classes as one answer, the end of a marked item, items: what they are, and closes. -/
import Derived.Test.YtgpciekpmdihnaaKBytes
namespace Go.Proofs.Ytgpciekpmdihnaa
open Go.RowKit
theorem class_spec (s : ByteArray) : ∃ q : Nat → Bool, (∀ w : World, Calls Try.prog 95 #[.string s] w fun e w' => e = .returned (.tuple #[.agg #[.int .u64 (wd q 0 : Nat), .int .u64 (wd q 1 : Nat), .int .u64 (wd q 2 : Nat), .int .u64 (wd q 3 : Nat)], .int .i64 (ccF s)]) ∧ Below w.heap.size w w') ∧
    (∀ w : World, Calls Try.prog 83 #[.string s] w fun e w' => e = .returned (.tuple #[.agg #[.int .u64 (wd q 0 : Nat), .int .u64 (wd q 1 : Nat), .int .u64 (wd q 2 : Nat), .int .u64 (wd q 3 : Nat)], .int .i64 (ccF s)]) ∧ Below w.heap.size w w') := by
  obtain ⟨q, r, c, h1, h2, h3, rfl⟩ := class_both s
  obtain ⟨e0, e1, e2, e3⟩ := wd_Is ((eqB_iff q r).1 h3)
  refine ⟨q, h1, fun w => ?_⟩
  rw [e0, e1, e2, e3]
  exact h2 w
noncomputable def classQ (s : ByteArray) : Nat → Bool := (class_spec s).choose
def classC (s : ByteArray) : Int := ccF s
theorem classD (s : ByteArray) (w : World) : Calls Try.prog 95 #[.string s] w fun e w' => e = .returned (.tuple #[.agg #[.int .u64 (wd (classQ s) 0 : Nat), .int .u64 (wd (classQ s) 1 : Nat), .int .u64 (wd (classQ s) 2 : Nat), .int .u64 (wd (classQ s) 3 : Nat)], .int .i64 (classC s)]) ∧ Below w.heap.size w w' := (class_spec s).choose_spec.1 w
theorem docClassD (s : ByteArray) (w : World) : Calls Try.prog 83 #[.string s] w fun e w' => e = .returned (.tuple #[.agg #[.int .u64 (wd (classQ s) 0 : Nat), .int .u64 (wd (classQ s) 1 : Nat), .int .u64 (wd (classQ s) 2 : Nat), .int .u64 (wd (classQ s) 3 : Nat)], .int .i64 (classC s)]) ∧ Below w.heap.size w w' := (class_spec s).choose_spec.2 w
theorem list_at (s : ByteArray) (i : Nat) (h : i < s.size) : s.data.toList[i]'(by simpa using h) = s[i] := rfl
theorem occ_iff (s : ByteArray) (a t : Nat) (m : UInt8) : Lib.occAt (s.data.toList.drop a) [m, 93] t = (byteAt s (a + t) == (m.toNat : Int) && byteAt s (a + t + 1) == 93) := by
  have hm := m.toNat_lt
  rw [Lib.occAt, List.drop_drop]
  by_cases h : a + t < s.size
  · have h' : a + t < s.data.toList.length := by simpa using h
    rw [List.drop_eq_getElem_cons h', List.isPrefixOf_cons_cons, byteAt_in h]
    have e1 : (m == s.data.toList[a + t]) = ((s[a + t].toNat : Int) == (m.toNat : Int)) := by
      rw [list_at s _ h, Bool.eq_iff_iff, beq_iff_eq, beq_iff_eq]
      constructor
      · intro e; rw [e]
      · intro e; exact (UInt8.toNat_inj.1 (by omega)).symm
    rw [e1]
    congr 1
    by_cases h1 : a + t + 1 < s.size
    · have h1' : a + t + 1 < s.data.toList.length := by simpa using h1
      rw [List.drop_eq_getElem_cons h1', List.isPrefixOf_cons_cons, byteAt_in h1, List.isPrefixOf_nil_left, Bool.and_true, list_at s _ h1, Bool.eq_iff_iff, beq_iff_eq, beq_iff_eq]
      constructor
      · intro e; rw [← e]; rfl
      · intro e; exact (UInt8.toNat_inj.1 (by show s[a + t + 1].toNat = 93; omega)).symm
    · rw [List.drop_eq_nil_of_le (by simp; omega), byteAt_out (by omega)]
      rfl
  · rw [List.drop_eq_nil_of_le (by simp; omega), byteAt_out (by omega)]
    have : ((-1 : Int) == (m.toNat : Int)) = false := by rw [beq_eq_false_iff_ne]; omega
    rw [this]
    rfl
def closeI (s : ByteArray) (a : Nat) (m : UInt8) : Int := if Lib.index (s.data.toList.drop a) [m, 93] = -1 then -1 else (a : Int) + Lib.index (s.data.toList.drop a) [m, 93]
theorem closeI_none (s : ByteArray) (a : Nat) (m : UInt8) (h : ∀ j, a ≤ j → (byteAt s j == (m.toNat : Int) && byteAt s (j + 1) == 93) = false) : closeI s a m = -1 := by
  have : Lib.index (s.data.toList.drop a) [m, 93] = -1 := Lib.index_none fun j _ => by rw [occ_iff]; exact h _ (by omega)
  simp [closeI, this]
theorem closeI_some (s : ByteArray) (a j : Nat) (m : UInt8) (hj : a ≤ j) (h1 : (byteAt s j == (m.toNat : Int) && byteAt s (j + 1) == 93) = true) (h0 : ∀ t, a ≤ t → t < j → (byteAt s t == (m.toNat : Int) && byteAt s (t + 1) == 93) = false) : closeI s a m = j := by
  have hlt : j < s.size := by
    rw [Bool.and_eq_true, beq_iff_eq, beq_iff_eq] at h1
    exact byteAt_lt h1.1 (by omega)
  have : Lib.index (s.data.toList.drop a) [m, 93] = ((j - a : Nat) : Int) := Lib.index_first (by simp; omega) (by rw [occ_iff, show a + (j - a) = j by omega]; exact h1) (fun t ht => by rw [occ_iff]; exact h0 _ (by omega) (by omega))
  rw [closeI, this, if_neg (by omega)]
  omega
set_option maxRecDepth 100000 in
set_option maxHeartbeats 400000 in
theorem closes_any (s : ByteArray) (hs : s.size ≤ 1073741824) (a : Nat) (ha : a ≤ 1073741900) (m : UInt8) (w : World) :
    Calls Try.prog 82 #[.string s, .int .i64 a, .int .u8 (m.toNat : Int)] w fun e w' => e = .returned (.int .i64 (closeI s a m)) ∧ w' = w := by
  have hm := m.toNat_lt
  go_enter Try.func82, Try.ntmps82
  go_wp2_with fail
  go_loopw [7] (fun i wr => ∃ j : Nat, a ≤ j ∧ j ≤ 1073741900 ∧ i = .int .i64 j ∧ Hid (∀ t, a ≤ t → t < j → (byteAt s t == (m.toNat : Int) && byteAt s (t + 1) == 93) = false) ∧ wr = w) (fun i _ => s.size - (intOf i).toNat)
  case atStart => exact ⟨a, by omega, by omega, rfl, fun t h1 h2 => by omega, rfl⟩
  case round =>
    obtain ⟨j, h1, h2, rfl, H0, rfl⟩ := hrel
    by_cases hlt : j + 1 < s.size
    · have hlt0 : j < s.size := by omega
      have hnext : (byteAt s j == (m.toNat : Int) && byteAt s (j + 1) == 93) = false → Hid (∀ t, a ≤ t → t < j + 1 → (byteAt s t == (m.toNat : Int) && byteAt s (t + 1) == 93) = false) := by
        intro hn t h3 h4
        by_cases e : t = j
        · subst e; exact hn
        · exact H0.out t h3 (by omega)
      have hdone : (byteAt s j == (m.toNat : Int) && byteAt s (j + 1) == 93) = true → closeI s a m = j := fun h => closeI_some s a j m h1 h H0.out
      rw [byteAt_in hlt0, byteAt_in hlt] at hnext hdone
      clear H0
      by_cases e1 : (s[j].toNat : Int) = (m.toNat : Int)
      · by_cases e2 : (s[j + 1].toNat : Int) = 93
        · have HD := hide (hdone (by simp [e1, e2]))
          clear hnext hdone
          go_wp2
          go_ret
          exact ⟨by rw [HD.out]; rfl, rfl⟩
        · have HN := hnext (by simp [e2])
          clear hnext hdone
          have b2 : ((s[j + 1].toNat : Int) == 93) = false := by simp [e2]
          go_wp2
          go_roundw
          case rel => exact ⟨j + 1, by omega, by omega, by go_num, HN, trivial⟩
          case measure => simp [intOf]; omega
      · have HN := hnext (by simp [e1])
        clear hnext hdone
        have b1 : ((s[j].toNat : Int) == (m.toNat : Int)) = false := by simp [e1]
        go_wp2
        go_roundw
        case rel => exact ⟨j + 1, by omega, by omega, by go_num, HN, trivial⟩
        case measure => simp [intOf]; omega
    · have hN : closeI s a m = -1 := closeI_none s a m (fun t h3 => by
        by_cases e : t < j
        · exact H0.out t h3 e
        · rw [byteAt_out (i := t + 1) (by omega)]
          simp)
      have HN := hide hN
      clear hN
      go_wp2
      go_ret
      exact ⟨by rw [HN.out]; rfl, rfl⟩
end Go.Proofs.Ytgpciekpmdihnaa
