/- scan: the document's Line. -/
import Derived.Test.YtcfbmdelgfkfeaaDoorSd
namespace Go.Proofs.YtcfbmdelgfkfeaaDoor
open Go.RowKit
open scanP

set_option maxRecDepth 100000 in
set_option maxHeartbeats 1000000 in
theorem line_doc (s : ByteArray) (i : Int) (hs : s.size ≤ 140737488355000) (w : World) : Calls Tryd.prog 6 #[.string s, .int .i64 i] w fun e w' => e = .returned (.tuple #[.string (bst (lineR s.data.toList (insN s.size i)).1), .int .i64 ((lineR s.data.toList (insN s.size i)).2 : Nat)]) ∧ w' = w := by
  unfold lineR
  simp only
  have hsz : s.data.toList.length = s.size := rfl
  have HI := hideT (blanks_doc s i hs)
  have hf0 := blanks_le s.data.toList (insN s.size i) (ins_le s.size i)
  rw [hsz] at hf0
  generalize blanksN s.data.toList (insN s.size i) = f0 at *
  go_enter Tryd.func6, Tryd.ntmps6
  go_wp2_with fail
  refine (HI.out _).mono ?_
  rintro e w1 ⟨rfl, rfl⟩
  go_wp2_with fail
  go_loopw [7] (fun v wr => ∃ k : Nat, f0 ≤ k ∧ k ≤ s.size ∧ v = .int .i64 k ∧ Hid (k + lnN (s.data.toList.drop k) = f0 + lnN (s.data.toList.drop f0)) ∧ wr = w1) (fun v _ => s.size - (intOf v).toNat)
  case atStart => exact ⟨f0, Nat.le_refl _, hf0, rfl, hideT rfl, rfl⟩
  case round =>
    obtain ⟨k, hf, hk, rfl, HE, rfl⟩ := hrel
    by_cases hlt : k < s.size
    · have i1 : (k : Int) < (s.size : Int) := by omega
      have i2 : (0 : Int) ≤ (k : Int) := by omega
      have hst := ln_step (l := s.data.toList) (k := k) hlt
      rw [dat_at s k hlt] at hst
      have HS := hideT hst
      clear hst
      by_cases h10 : s[k]'hlt = 10
      · have c1 := eq_val (z := 10) rfl h10
        have HR := hideT (show k = f0 + lnN (s.data.toList.drop f0) by
          have h := HE.out
          rw [HS.out, if_pos h10] at h
          omega)
        have s1 : (f0 : Int) ≤ (k : Int) := by omega
        have s2 : (k : Int) ≤ (s.size : Int) := by omega
        have s3 : (0 : Int) ≤ (f0 : Int) := by omega
        clear h10
        go_wp2
        go_ret2
        refine ⟨?_, rfl⟩
        have hx := ext_bst s f0 (lnN (s.data.toList.drop f0))
        rw [← HR.out] at hx
        simp [hx, ← HR.out]
      · have c1 := ne_val (z := 10) rfl h10
        have HR := hideT (show k + 1 + lnN (s.data.toList.drop (k + 1)) = f0 + lnN (s.data.toList.drop f0) by
          have h := HE.out
          rw [HS.out, if_neg h10] at h
          omega)
        clear h10
        go_wp2
        exact ⟨⟨k + 1, by omega, by omega, by go_num, HR, by simp⟩, by simp [intOf]; omega⟩
    · have i1 : ((k : Int) < (s.size : Int)) = False := by rw [eq_iff_iff, iff_false]; omega
      obtain rfl : k = s.size := by omega
      have HR := hideT (show s.size = f0 + lnN (s.data.toList.drop f0) by
        have h := HE.out
        rw [ln_end (by show s.size ≤ s.size; omega)] at h
        omega)
      have s1 : (f0 : Int) ≤ (s.size : Int) := by omega
      have s2 : (s.size : Int) ≤ (s.size : Int) := by omega
      have s3 : (0 : Int) ≤ (f0 : Int) := by omega
      go_wp2
      go_ret2
      refine ⟨?_, rfl⟩
      have hx := ext_bst s f0 (lnN (s.data.toList.drop f0))
      rw [← HR.out] at hx
      simp [hx, ← HR.out]

end Go.Proofs.YtcfbmdelgfkfeaaDoor
