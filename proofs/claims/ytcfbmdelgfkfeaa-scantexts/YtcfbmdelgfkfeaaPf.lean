/- scan, the program's: Number. -/
import Derived.Test.YtcfbmdelgfkfeaaPa
import Derived.Test.YtcfbmdelgfkfeaaSf
namespace Go.Proofs.Ytcfbmdelgfkfeaa
open Go.RowKit
open scanP
namespace prg

theorem dg_stop : ∀ (l : List UInt8) (h : dgN l < l.length), isDg (l[dgN l]'h) = false
  | [], h => by simp [dgN] at h
  | b :: r, h => by
    by_cases hb : isDg b = true
    · have e : dgN (b :: r) = dgN r + 1 := by rw [dgN, if_pos hb]
      have h2 : dgN r < r.length := by rw [e, List.length_cons] at h; omega
      have := dg_stop r h2
      simp only [e, List.getElem_cons_succ]
      exact this
    · have e : dgN (b :: r) = 0 := by rw [dgN, if_neg hb]
      simp only [e, List.getElem_cons_zero]
      simpa using hb

theorem isDigit_any (c : UInt8) (w : World) : Calls Try.prog 17 #[.int .u8 (c.toNat : Nat)] w fun e w' => e = .returned (.bool (isDg c)) ∧ w' = w := by
  by_cases h1 : 48 ≤ c.toNat
  · have c1 : (48 : Int) ≤ (c.toNat : Int) := by omega
    by_cases h2 : c.toNat ≤ 57
    · have c2 : (c.toNat : Int) ≤ 57 := by omega
      have e : isDg c = true := by unfold isDg; simp [h1, h2]
      rw [e]
      go_enter Try.func17, Try.ntmps17
      go_wp2
      go_ret
      exact ⟨rfl, rfl⟩
    · have c2 : ((c.toNat : Int) ≤ 57) = False := by rw [eq_iff_iff, iff_false]; omega
      have e : isDg c = false := by unfold isDg; simp [h2]
      rw [e]
      go_enter Try.func17, Try.ntmps17
      go_wp2
      go_ret
      exact ⟨rfl, rfl⟩
  · have c1 : ((48 : Int) ≤ (c.toNat : Int)) = False := by rw [eq_iff_iff, iff_false]; omega
    have e : isDg c = false := by unfold isDg; simp [h1]
    rw [e]
    go_enter Try.func17, Try.ntmps17
    go_wp2
    go_ret
    exact ⟨rfl, rfl⟩

set_option maxRecDepth 100000 in
set_option maxHeartbeats 2000000 in
theorem number_doc (s : ByteArray) (i : Int) (hs : s.size ≤ 140737488355000) (w : World) : Calls Try.prog 7 #[.string s, .int .i64 i] w fun e w' => e = .returned (.tuple #[.int .i64 ((numR s.data.toList (insN s.size i)).1 : Nat), .int .i64 ((numR s.data.toList (insN s.size i)).2.1 : Nat), .int .i64 ((numR s.data.toList (insN s.size i)).2.2 : Nat)]) ∧ w' = w := by
  have HI := hideT (within_any s i hs)
  have HB := hideT isDigit_any
  have hk0 := ins_le s.size i
  generalize insN s.size i = k0 at *
  obtain ⟨D, hD⟩ : ∃ D, D = dgN (s.data.toList.drop k0) := ⟨_, rfl⟩
  have hDs : k0 + D ≤ s.size := by
    have h := dg_le (s.data.toList.drop k0)
    rw [← hD, List.length_drop] at h
    have : s.data.toList.length = s.size := rfl
    omega
  have HD := hideT hD
  clear hD
  have HLT := hideT (dgV_lt (s.data.toList.drop k0) D (by rw [HD.out]; exact Nat.le_refl _))
  have HDG := hideT (fun j (h : j < D) => dg_at (s.data.toList.drop k0) j (by rw [← HD.out]; exact h))
  have HST := hideT (show ∀ h : k0 + D < s.size, isDg (s[k0 + D]'h) = false from fun h => by
    have hsz : s.data.toList.length = s.size := rfl
    have hl : dgN (s.data.toList.drop k0) < (s.data.toList.drop k0).length := by rw [← HD.out, List.length_drop]; omega
    have := dg_stop _ hl
    rw [List.getElem_drop] at this
    have e2 : s.data.toList[k0 + dgN (s.data.toList.drop k0)]'(by rw [← HD.out]; exact h) = s[k0 + D]'h := by
      simp only [← HD.out]; rfl
    rw [← e2]; exact this)
  go_enter Try.func7, Try.ntmps7
  go_wp2_with fail
  refine (HI.out _).mono ?_
  rintro e w1 ⟨rfl, rfl⟩
  go_wp2_with fail
  go_loopw [8, 9] (fun n v wr => ∃ j : Nat, j ≤ D ∧ j ≤ 9 ∧ n = .int .i64 ((dgV ((s.data.toList.drop k0).take j) : Nat) : Int) ∧ v = .int .i64 ((k0 : Int) + (j : Int)) ∧ wr = w1) (fun _ v _ => k0 + D - (intOf v).toNat)
  case atStart => exact ⟨0, by omega, by omega, rfl, by simp, rfl⟩
  case round =>
    obtain ⟨j, hj, hj9, rfl, rfl, rfl⟩ := hrel
    clear HI
    by_cases hjl : j < D
    · obtain ⟨c, hc1, hc2⟩ := HDG.out j hjl
      have hml : k0 + j < s.size := by omega
      have hcc : c = s[k0 + j]'hml := by
        rw [List.getElem?_drop, List.getElem?_eq_getElem (show k0 + j < s.data.toList.length from hml)] at hc1
        exact (Option.some.inj hc1).symm
      have hsn : dgV ((s.data.toList.drop k0).take (j + 1)) = 10 * dgV ((s.data.toList.drop k0).take j) + ((s[k0 + j]'hml).toNat - 48) := by
        obtain ⟨hl, e⟩ := List.getElem?_eq_some_iff.1 hc1
        rw [List.take_succ_eq_append_getElem hl, dgV_snoc, e, hcc]
      have hlt := HLT.out j hj
      have hp := pow_nine j (by omega)
      have HQ := hideT (hcc ▸ hc2)
      unfold isDg at hc2
      rw [Bool.and_eq_true, decide_eq_true_iff, decide_eq_true_iff, hcc] at hc2
      have HSN := hideT hsn
      have HC := hideT hc2
      generalize dgV ((s.data.toList.drop k0).take j) = n at *
      have b1 : (n : Int) ≤ 1000000000 := by omega
      have b2 : (0 : Int) ≤ (n : Int) := by omega
      have g1 : (k0 : Int) + (j : Int) < (s.size : Int) := by omega
      have g3 : (0 : Int) ≤ (k0 : Int) + (j : Int) := by omega
      clear hsn hlt hp hc1 hc2 hcc
      go_wp2_with fail
      refine (HB.out _ _).mono ?_
      rintro e w2 ⟨rfl, rfl⟩
      rw [HQ.out]
      by_cases h9 : j = 9
      · have t9 : ((k0 : Int) + (j : Int) - (k0 : Int) == 9) = true := by rw [beq_iff_eq]; omega
        have HN := hideT (show numR s.data.toList k0 = (0, 0, 1) by unfold numR; simp only; rw [← HD.out, if_neg (by omega), if_pos (by omega)])
        clear h9
        go_wp2
        go_ret3
        exact ⟨by rw [HN.out]; rfl, rfl⟩
      · have t9 : ((k0 : Int) + (j : Int) - (k0 : Int) == 9) = false := by rw [beq_eq_false_iff_ne]; omega
        have hc := HC.out
        have q1 : (48 : Int) ≤ ((s[k0 + j]'hml).toNat : Int) := by omega
        have q2 : ((s[k0 + j]'hml).toNat : Int) ≤ 57 := by omega
        go_wp2_with fail
        exact ⟨⟨j + 1, by omega, by omega, by rw [HSN.out]; congr 1; omega, by congr 1, trivial⟩, by simp [intOf]; omega⟩
    · obtain rfl : j = D := by omega
      have HR := 0
      by_cases hml : k0 + j < s.size
      · have g1 : (k0 : Int) + (j : Int) < (s.size : Int) := by omega
        have g3 : (0 : Int) ≤ (k0 : Int) + (j : Int) := by omega
        have HQ := hideT (HST.out hml)
        go_wp2_with fail
        refine (HB.out _ _).mono ?_
        rintro e w2 ⟨rfl, rfl⟩
        rw [HQ.out]
        by_cases hD0 : j = 0
        · have t1 : ((k0 : Int) + (j : Int) == (k0 : Int)) = true := by rw [beq_iff_eq]; omega
          have e : numR s.data.toList k0 = (0, 0, 5) := by unfold numR; simp only; rw [if_pos (HD.out ▸ hD0)]
          have HN := hideT e
          clear e hD0
          go_wp2
          go_ret3
          exact ⟨by rw [HN.out]; rfl, rfl⟩
        · have t1 : ((k0 : Int) + (j : Int) == (k0 : Int)) = false := by rw [beq_eq_false_iff_ne]; omega
          have e : numR s.data.toList k0 = (dgV ((s.data.toList.drop k0).take j), k0 + j, 0) := by unfold numR; simp only; rw [← HD.out, if_neg hD0, if_neg (by omega)]
          have HN := hideT e
          clear e hD0
          go_wp2
          go_ret3
          exact ⟨by rw [HN.out]; show _ = Ending.returned (.tuple #[_, .int .i64 ((k0 + j : Nat) : Int), _]); rw [Int.natCast_add]; rfl, rfl⟩
      · have g1 : ((k0 : Int) + (j : Int) < (s.size : Int)) = False := by rw [eq_iff_iff, iff_false]; omega
        by_cases hD0 : j = 0
        · have t1 : ((k0 : Int) + (j : Int) == (k0 : Int)) = true := by rw [beq_iff_eq]; omega
          have e : numR s.data.toList k0 = (0, 0, 5) := by unfold numR; simp only; rw [if_pos (HD.out ▸ hD0)]
          have HN := hideT e
          clear e hD0
          go_wp2
          go_ret3
          exact ⟨by rw [HN.out]; rfl, rfl⟩
        · have t1 : ((k0 : Int) + (j : Int) == (k0 : Int)) = false := by rw [beq_eq_false_iff_ne]; omega
          have e : numR s.data.toList k0 = (dgV ((s.data.toList.drop k0).take j), k0 + j, 0) := by unfold numR; simp only; rw [← HD.out, if_neg hD0, if_neg (by omega)]
          have HN := hideT e
          clear e hD0
          go_wp2
          go_ret3
          exact ⟨by rw [HN.out]; show _ = Ending.returned (.tuple #[_, .int .i64 ((k0 + j : Nat) : Int), _]); rw [Int.natCast_add]; rfl, rfl⟩

end prg
end Go.Proofs.Ytcfbmdelgfkfeaa
