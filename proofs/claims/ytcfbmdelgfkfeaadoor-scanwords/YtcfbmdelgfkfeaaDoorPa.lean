/- scan, the program's: within, isBlank, isDigit. -/
import Derived.Test.YtcfbmdelgfkfeaaDoorSd
namespace Go.Proofs.YtcfbmdelgfkfeaaDoor
open Go.RowKit
open scanP
namespace prg

set_option maxRecDepth 100000 in
set_option maxHeartbeats 1000000 in
theorem within_any (s : ByteArray) (i : Int) (hs : s.size ≤ 140737488355000) (w : World) : Calls Tryd.prog 22 #[.string s, .int .i64 i] w fun e w' => e = .returned (.int .i64 (insN s.size i : Nat)) ∧ w' = w := by
  go_enter Tryd.func22, Tryd.ntmps22
  go_wp2
  all_goals (go_ret; exact ⟨congrArg (fun z : Int => Ending.returned (.int .i64 z)) (by unfold insN; omega), rfl⟩)

theorem isBlank_any (c : UInt8) (w : World) : Calls Tryd.prog 23 #[.int .u8 (c.toNat : Nat)] w fun e w' => e = .returned (.bool (decide (c = 32 ∨ c = 9))) ∧ w' = w := by
  by_cases h1 : c = 32
  · have c1 := beq_val (z := 32) rfl h1
    rw [decide_eq_true (show c = 32 ∨ c = 9 from .inl h1)]
    clear h1
    go_enter Tryd.func23, Tryd.ntmps23
    go_wp2
    go_ret
    exact ⟨rfl, rfl⟩
  · have c1 := bne_val (z := 32) rfl h1
    by_cases h2 : c = 9
    · have c2 := beq_val (z := 9) rfl h2
      rw [decide_eq_true (show c = 32 ∨ c = 9 from .inr h2)]
      clear h1 h2
      go_enter Tryd.func23, Tryd.ntmps23
      go_wp2
      go_ret
      exact ⟨rfl, rfl⟩
    · have c2 := bne_val (z := 9) rfl h2
      rw [decide_eq_false (show ¬ (c = 32 ∨ c = 9) from fun h => h.elim h1 h2)]
      clear h1 h2
      go_enter Tryd.func23, Tryd.ntmps23
      go_wp2
      go_ret
      exact ⟨rfl, rfl⟩

set_option maxRecDepth 100000 in
set_option maxHeartbeats 1000000 in
theorem blanks_doc (s : ByteArray) (i : Int) (hs : s.size ≤ 140737488355000) (w : World) : Calls Tryd.prog 13 #[.string s, .int .i64 i] w fun e w' => e = .returned (.int .i64 (blanksN s.data.toList (insN s.size i) : Nat)) ∧ w' = w := by
  have HI := hideT (within_any s i hs)
  have HB := hideT isBlank_any
  have hk0 := ins_le s.size i
  generalize insN s.size i = k0 at *
  go_enter Tryd.func13, Tryd.ntmps13
  go_wp2_with fail
  refine (HI.out _).mono ?_
  rintro e w1 ⟨rfl, rfl⟩
  go_wp2_with fail
  go_loopw [1] (fun v wr => ∃ k : Nat, k ≤ s.size ∧ v = .int .i64 k ∧ Hid (k + blkN (s.data.toList.drop k) = blanksN s.data.toList k0) ∧ wr = w1) (fun v _ => s.size - (intOf v).toNat)
  case atStart => exact ⟨k0, hk0, rfl, hideT rfl, rfl⟩
  case round =>
    obtain ⟨k, hk, rfl, HE, rfl⟩ := hrel
    by_cases hlt : k < s.size
    · have i1 : (k : Int) < (s.size : Int) := by omega
      have i2 : (0 : Int) ≤ (k : Int) := by omega
      have hst := blk_step (l := s.data.toList) (k := k) hlt
      rw [dat_at s k hlt] at hst
      have HS := hideT hst
      clear hst
      by_cases hc : s[k]'hlt = 32 ∨ s[k]'hlt = 9
      · have HR := hideT (show k + 1 + blkN (s.data.toList.drop (k + 1)) = blanksN s.data.toList k0 by
          have h := HE.out
          rw [HS.out, if_pos hc] at h
          omega)
        have HC := hideT (decide_eq_true hc)
        clear hc
        go_wp2_with fail
        refine (HB.out _ _).mono ?_
        rintro e w2 ⟨rfl, rfl⟩
        rw [HC.out]
        go_wp2
        exact ⟨⟨k + 1, by omega, by go_num, HR, by simp⟩, by simp [intOf]; omega⟩
      · have HR := hideT (show k = blanksN s.data.toList k0 by
          have h := HE.out
          rw [HS.out, if_neg hc] at h
          omega)
        have HC := hideT (decide_eq_false hc)
        clear hc
        go_wp2_with fail
        refine (HB.out _ _).mono ?_
        rintro e w2 ⟨rfl, rfl⟩
        rw [HC.out]
        go_wp2
        go_ret
        exact ⟨congrArg (fun n : Nat => Ending.returned (.int .i64 (n : Int))) HR.out, rfl⟩
    · have i1 : ((k : Int) < (s.size : Int)) = False := by rw [eq_iff_iff, iff_false]; omega
      have HR := hideT (show k = blanksN s.data.toList k0 by
        have h := HE.out
        rw [blk_end (by show s.size ≤ k; omega)] at h
        omega)
      go_wp2
      go_ret
      exact ⟨congrArg (fun n : Nat => Ending.returned (.int .i64 (n : Int))) HR.out, rfl⟩

end prg
end Go.Proofs.YtcfbmdelgfkfeaaDoor
