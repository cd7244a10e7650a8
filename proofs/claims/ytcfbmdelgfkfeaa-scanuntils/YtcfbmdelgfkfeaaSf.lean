/- scan: the document's Number. -/
import Derived.Test.YtcfbmdelgfkfeaaSd
namespace Go.Proofs.Ytcfbmdelgfkfeaa
open Go.RowKit
open scanP

theorem dg_at : ∀ (l : List UInt8) (j : Nat), j < dgN l → ∃ c, l[j]? = some c ∧ isDg c = true
  | [], j, h => by simp [dgN] at h
  | b :: r, j, h => by
    unfold dgN at h
    by_cases hb : isDg b = true
    · rw [if_pos hb] at h
      cases j with
      | zero => exact ⟨b, rfl, hb⟩
      | succ j => exact dg_at r j (by omega)
    · rw [if_neg hb] at h
      omega
theorem dgV_snoc (l : List UInt8) (c : UInt8) : dgV (l ++ [c]) = 10 * dgV l + (c.toNat - 48) := by simp [dgV]
theorem dgV_lt (l : List UInt8) (D : Nat) (hD : D ≤ dgN l) : ∀ j, j ≤ D → dgV (l.take j) < 10 ^ j
  | 0, _ => by simp [dgV]
  | j + 1, h => by
    have ih := dgV_lt l D hD j (by omega)
    obtain ⟨c, h1, h2⟩ := dg_at l j (by omega)
    have hl : j < l.length := (List.getElem?_eq_some_iff.1 h1).1
    have e : l[j] = c := (List.getElem?_eq_some_iff.1 h1).2
    rw [List.take_succ_eq_append_getElem hl, dgV_snoc, e, Nat.pow_succ]
    have h3 : c.toNat ≤ 57 := by
      unfold isDg at h2
      rw [Bool.and_eq_true, decide_eq_true_iff, decide_eq_true_iff] at h2
      exact h2.2
    omega
theorem wrap_in (x : Int) (h1 : -9223372036854775808 ≤ x) (h2 : x ≤ 9223372036854775807) : wrap64 x = x := by
  unfold wrap64
  omega
theorem pow_nine (j : Nat) (h : j ≤ 9) : 10 ^ j ≤ 1000000000 := Nat.pow_le_pow_right (by omega) h

set_option maxRecDepth 100000 in
set_option maxHeartbeats 2000000 in
theorem number_doc (s : ByteArray) (i : Int) (hs : s.size ≤ 140737488355000) (w : World) : Calls Try.prog 8 #[.string s, .int .i64 i] w fun e w' => e = .returned (.tuple #[.int .i64 ((numR s.data.toList (insN s.size i)).1 : Nat), .int .i64 ((numR s.data.toList (insN s.size i)).2.1 : Nat), .int .i64 ((numR s.data.toList (insN s.size i)).2.2 : Nat)]) ∧ w' = w := by
  have HI := hideT (inside_doc s i hs)
  have hk0 := ins_le s.size i
  generalize insN s.size i = k0 at *
  obtain ⟨D, hD⟩ : ∃ D, D = dgN (s.data.toList.drop k0) := ⟨_, rfl⟩
  have HD := hideT hD
  clear hD
  go_enter Try.func8, Try.ntmps8
  go_wp2_with fail
  refine (HI.out _).mono ?_
  rintro e w1 ⟨rfl, rfl⟩
  go_wp2_with fail
  go_loopw [8] (fun v wr => ∃ k : Nat, k0 ≤ k ∧ k ≤ s.size ∧ v = .int .i64 k ∧ Hid (k + dgN (s.data.toList.drop k) = k0 + D) ∧ wr = w1) (fun v _ => s.size - (intOf v).toNat)
  case atStart => exact ⟨k0, Nat.le_refl _, hk0, rfl, hideT (by rw [HD.out]), rfl⟩
  case round =>
    obtain ⟨k, hf, hk, rfl, HE, rfl⟩ := hrel
    by_cases hlt : k < s.size
    · have i1 : (k : Int) < (s.size : Int) := by omega
      have i2 : (0 : Int) ≤ (k : Int) := by omega
      have hst := dg_step (l := s.data.toList) (k := k) hlt
      rw [dat_at s k hlt] at hst
      have HS := hideT hst
      clear hst
      by_cases h48 : 48 ≤ (s[k]'hlt).toNat
      · have c1 : (48 : Int) ≤ ((s[k]'hlt).toNat : Int) := by omega
        by_cases h57 : (s[k]'hlt).toNat ≤ 57
        · have c2 : ((s[k]'hlt).toNat : Int) ≤ 57 := by omega
          have HR := hideT (show k + 1 + dgN (s.data.toList.drop (k + 1)) = k0 + D by
            have h := HE.out
            rw [HS.out, if_pos (by unfold isDg; simp [h48, h57])] at h
            omega)
          go_wp2
          exact ⟨⟨k + 1, by omega, by omega, by go_num, HR, by simp⟩, by simp [intOf]; omega⟩
        · have c2 : (((s[k]'hlt).toNat : Int) ≤ 57) = False := by rw [eq_iff_iff, iff_false]; omega
          have HR := hideT (show k = k0 + D by
            have h := HE.out
            rw [HS.out, if_neg (by unfold isDg; simp [h57])] at h
            omega)
          by_cases hD0 : D = 0
          · have t1 : ((k : Int) == (k0 : Int)) = true := by rw [beq_iff_eq]; have := HR.out; omega
            have e : numR s.data.toList k0 = (0, 0, 5) := by unfold numR; simp only; rw [if_pos (HD.out ▸ hD0)]
            have HN := hideT e
            clear e hD0
            go_wp2
            go_ret3
            exact ⟨by rw [HN.out]; rfl, rfl⟩
          · have t1 : ((k : Int) == (k0 : Int)) = false := by rw [beq_eq_false_iff_ne]; have := HR.out; omega
            by_cases hD9 : 9 < D
            · have t2 : (9 : Int) < (k : Int) - (k0 : Int) := by have := HR.out; omega
              have e : numR s.data.toList k0 = (0, 0, 1) := by unfold numR; simp only; rw [← HD.out, if_neg hD0, if_pos hD9]
              have HN := hideT e
              clear e hD0
              go_wp2
              go_ret3
              exact ⟨by rw [HN.out]; rfl, rfl⟩
            · have t2 : ((9 : Int) < (k : Int) - (k0 : Int)) = False := by rw [eq_iff_iff, iff_false]; have := HR.out; omega
              have e : numR s.data.toList k0 = (dgV ((s.data.toList.drop k0).take D), k0 + D, 0) := by unfold numR; simp only; rw [← HD.out, if_neg hD0, if_neg hD9]
              have HN := hideT e
              clear e hD0
              have HLT := hideT (dgV_lt (s.data.toList.drop k0) D (by rw [HD.out]; exact Nat.le_refl _))
              have HDG := hideT (fun j (h : j < D) => dg_at (s.data.toList.drop k0) j (by rw [← HD.out]; exact h))
              go_wp2_with fail
              clear t1 t2
              go_loopw [9, 10] (fun n v wr2 => ∃ j : Nat, j ≤ D ∧ n = .int .i64 ((dgV ((s.data.toList.drop k0).take j) : Nat) : Int) ∧ v = .int .i64 ((k0 : Int) + (j : Int)) ∧ wr2 = wr) (fun _ v _ => k0 + D - (intOf v).toNat)
              case atStart => exact ⟨0, by omega, rfl, by simp, rfl⟩
              case round =>
                obtain ⟨j, hj, rfl, rfl, rfl⟩ := hrel
                clear HI
                by_cases hjl : j < D
                · obtain ⟨c, hc1, hc2⟩ := HDG.out j hjl
                  have hml : k0 + j < s.size := by have := HR.out; omega
                  have hcc : c = s[k0 + j]'hml := by
                    rw [List.getElem?_drop, List.getElem?_eq_getElem (show k0 + j < s.data.toList.length from hml)] at hc1
                    exact (Option.some.inj hc1).symm
                  have hsn : dgV ((s.data.toList.drop k0).take (j + 1)) = 10 * dgV ((s.data.toList.drop k0).take j) + ((s[k0 + j]'hml).toNat - 48) := by
                    obtain ⟨hl, e⟩ := List.getElem?_eq_some_iff.1 hc1
                    rw [List.take_succ_eq_append_getElem hl, dgV_snoc, e, hcc]
                  have hlt := HLT.out j hj
                  have hp := pow_nine j (by omega)
                  unfold isDg at hc2
                  rw [Bool.and_eq_true, decide_eq_true_iff, decide_eq_true_iff, hcc] at hc2
                  have HSN := hideT hsn
                  have HC := hideT hc2
                  generalize dgV ((s.data.toList.drop k0).take j) = n at *
                  have b1 : (n : Int) ≤ 1000000000 := by omega
                  have b2 : (0 : Int) ≤ (n : Int) := by omega
                  have g1 : (k0 : Int) + (j : Int) < (k : Int) := by have := HR.out; omega
                  have g3 : (0 : Int) ≤ (k0 : Int) + (j : Int) := by omega
                  have g4 : (k0 : Int) + (j : Int) < (s.size : Int) := by omega
                  clear hsn hlt hp hc1 hc2 hcc
                  go_wp2_with fail
                  have hc := HC.out
                  have e1 : wrap64 ((s[k0 + j]'hml).toNat : Int) = ((s[k0 + j]'hml).toNat : Int) := wrap_in _ (by omega) (by omega)
                  have e2 : wrap64 (10 * (n : Int) + ((s[k0 + j]'hml).toNat : Int)) = 10 * (n : Int) + ((s[k0 + j]'hml).toNat : Int) := wrap_in _ (by omega) (by omega)
                  have e3 : wrap64 (10 * (n : Int) + ((s[k0 + j]'hml).toNat : Int) - 48) = 10 * (n : Int) + ((s[k0 + j]'hml).toNat : Int) - 48 := wrap_in _ (by omega) (by omega)
                  rw [e1, e2, e3]
                  exact ⟨⟨j + 1, by omega, by rw [HSN.out]; congr 1; omega, by congr 1, by simp⟩, by simp [intOf]; omega⟩
                · obtain rfl : j = D := by omega
                  have g1 : ((k0 : Int) + (j : Int) < (k : Int)) = False := by rw [eq_iff_iff, iff_false]; have := HR.out; omega
                  go_wp2
                  go_ret3
                  refine ⟨?_, rfl⟩
                  rw [HN.out]
                  have e2 := HR.out
                  simp
                  omega
      · have c1 : ((48 : Int) ≤ ((s[k]'hlt).toNat : Int)) = False := by rw [eq_iff_iff, iff_false]; omega
        have HR := hideT (show k = k0 + D by
          have h := HE.out
          rw [HS.out, if_neg (by unfold isDg; simp [h48])] at h
          omega)
        by_cases hD0 : D = 0
        · have t1 : ((k : Int) == (k0 : Int)) = true := by rw [beq_iff_eq]; have := HR.out; omega
          have e : numR s.data.toList k0 = (0, 0, 5) := by unfold numR; simp only; rw [if_pos (HD.out ▸ hD0)]
          have HN := hideT e
          clear e hD0
          go_wp2
          go_ret3
          exact ⟨by rw [HN.out]; rfl, rfl⟩
        · have t1 : ((k : Int) == (k0 : Int)) = false := by rw [beq_eq_false_iff_ne]; have := HR.out; omega
          by_cases hD9 : 9 < D
          · have t2 : (9 : Int) < (k : Int) - (k0 : Int) := by have := HR.out; omega
            have e : numR s.data.toList k0 = (0, 0, 1) := by unfold numR; simp only; rw [← HD.out, if_neg hD0, if_pos hD9]
            have HN := hideT e
            clear e hD0
            go_wp2
            go_ret3
            exact ⟨by rw [HN.out]; rfl, rfl⟩
          · have t2 : ((9 : Int) < (k : Int) - (k0 : Int)) = False := by rw [eq_iff_iff, iff_false]; have := HR.out; omega
            have e : numR s.data.toList k0 = (dgV ((s.data.toList.drop k0).take D), k0 + D, 0) := by unfold numR; simp only; rw [← HD.out, if_neg hD0, if_neg hD9]
            have HN := hideT e
            clear e hD0
            have HLT := hideT (dgV_lt (s.data.toList.drop k0) D (by rw [HD.out]; exact Nat.le_refl _))
            have HDG := hideT (fun j (h : j < D) => dg_at (s.data.toList.drop k0) j (by rw [← HD.out]; exact h))
            go_wp2_with fail
            clear t1 t2
            go_loopw [9, 10] (fun n v wr2 => ∃ j : Nat, j ≤ D ∧ n = .int .i64 ((dgV ((s.data.toList.drop k0).take j) : Nat) : Int) ∧ v = .int .i64 ((k0 : Int) + (j : Int)) ∧ wr2 = wr) (fun _ v _ => k0 + D - (intOf v).toNat)
            case atStart => exact ⟨0, by omega, rfl, by simp, rfl⟩
            case round =>
              obtain ⟨j, hj, rfl, rfl, rfl⟩ := hrel
              clear HI
              by_cases hjl : j < D
              · obtain ⟨c, hc1, hc2⟩ := HDG.out j hjl
                have hml : k0 + j < s.size := by have := HR.out; omega
                have hcc : c = s[k0 + j]'hml := by
                  rw [List.getElem?_drop, List.getElem?_eq_getElem (show k0 + j < s.data.toList.length from hml)] at hc1
                  exact (Option.some.inj hc1).symm
                have hsn : dgV ((s.data.toList.drop k0).take (j + 1)) = 10 * dgV ((s.data.toList.drop k0).take j) + ((s[k0 + j]'hml).toNat - 48) := by
                  obtain ⟨hl, e⟩ := List.getElem?_eq_some_iff.1 hc1
                  rw [List.take_succ_eq_append_getElem hl, dgV_snoc, e, hcc]
                have hlt := HLT.out j hj
                have hp := pow_nine j (by omega)
                unfold isDg at hc2
                rw [Bool.and_eq_true, decide_eq_true_iff, decide_eq_true_iff, hcc] at hc2
                have HSN := hideT hsn
                have HC := hideT hc2
                generalize dgV ((s.data.toList.drop k0).take j) = n at *
                have b1 : (n : Int) ≤ 1000000000 := by omega
                have b2 : (0 : Int) ≤ (n : Int) := by omega
                have g1 : (k0 : Int) + (j : Int) < (k : Int) := by have := HR.out; omega
                have g3 : (0 : Int) ≤ (k0 : Int) + (j : Int) := by omega
                have g4 : (k0 : Int) + (j : Int) < (s.size : Int) := by omega
                clear hsn hlt hp hc1 hc2 hcc
                go_wp2_with fail
                have hc := HC.out
                have e1 : wrap64 ((s[k0 + j]'hml).toNat : Int) = ((s[k0 + j]'hml).toNat : Int) := wrap_in _ (by omega) (by omega)
                have e2 : wrap64 (10 * (n : Int) + ((s[k0 + j]'hml).toNat : Int)) = 10 * (n : Int) + ((s[k0 + j]'hml).toNat : Int) := wrap_in _ (by omega) (by omega)
                have e3 : wrap64 (10 * (n : Int) + ((s[k0 + j]'hml).toNat : Int) - 48) = 10 * (n : Int) + ((s[k0 + j]'hml).toNat : Int) - 48 := wrap_in _ (by omega) (by omega)
                rw [e1, e2, e3]
                exact ⟨⟨j + 1, by omega, by rw [HSN.out]; congr 1; omega, by congr 1, by simp⟩, by simp [intOf]; omega⟩
              · obtain rfl : j = D := by omega
                have g1 : ((k0 : Int) + (j : Int) < (k : Int)) = False := by rw [eq_iff_iff, iff_false]; have := HR.out; omega
                go_wp2
                go_ret3
                refine ⟨?_, rfl⟩
                rw [HN.out]
                have e2 := HR.out
                simp
                omega
    · have i1 : ((k : Int) < (s.size : Int)) = False := by rw [eq_iff_iff, iff_false]; omega
      have HR := hideT (show k = k0 + D by
        have h := HE.out
        rw [dg_end (by show s.size ≤ k; omega)] at h
        omega)
      by_cases hD0 : D = 0
      · have t1 : ((k : Int) == (k0 : Int)) = true := by rw [beq_iff_eq]; have := HR.out; omega
        have e : numR s.data.toList k0 = (0, 0, 5) := by unfold numR; simp only; rw [if_pos (HD.out ▸ hD0)]
        have HN := hideT e
        clear e hD0
        go_wp2
        go_ret3
        exact ⟨by rw [HN.out]; rfl, rfl⟩
      · have t1 : ((k : Int) == (k0 : Int)) = false := by rw [beq_eq_false_iff_ne]; have := HR.out; omega
        by_cases hD9 : 9 < D
        · have t2 : (9 : Int) < (k : Int) - (k0 : Int) := by have := HR.out; omega
          have e : numR s.data.toList k0 = (0, 0, 1) := by unfold numR; simp only; rw [← HD.out, if_neg hD0, if_pos hD9]
          have HN := hideT e
          clear e hD0
          go_wp2
          go_ret3
          exact ⟨by rw [HN.out]; rfl, rfl⟩
        · have t2 : ((9 : Int) < (k : Int) - (k0 : Int)) = False := by rw [eq_iff_iff, iff_false]; have := HR.out; omega
          have e : numR s.data.toList k0 = (dgV ((s.data.toList.drop k0).take D), k0 + D, 0) := by unfold numR; simp only; rw [← HD.out, if_neg hD0, if_neg hD9]
          have HN := hideT e
          clear e hD0
          have HLT := hideT (dgV_lt (s.data.toList.drop k0) D (by rw [HD.out]; exact Nat.le_refl _))
          have HDG := hideT (fun j (h : j < D) => dg_at (s.data.toList.drop k0) j (by rw [← HD.out]; exact h))
          go_wp2_with fail
          clear t1 t2
          go_loopw [9, 10] (fun n v wr2 => ∃ j : Nat, j ≤ D ∧ n = .int .i64 ((dgV ((s.data.toList.drop k0).take j) : Nat) : Int) ∧ v = .int .i64 ((k0 : Int) + (j : Int)) ∧ wr2 = wr) (fun _ v _ => k0 + D - (intOf v).toNat)
          case atStart => exact ⟨0, by omega, rfl, by simp, rfl⟩
          case round =>
            obtain ⟨j, hj, rfl, rfl, rfl⟩ := hrel
            clear HI
            by_cases hjl : j < D
            · obtain ⟨c, hc1, hc2⟩ := HDG.out j hjl
              have hml : k0 + j < s.size := by have := HR.out; omega
              have hcc : c = s[k0 + j]'hml := by
                rw [List.getElem?_drop, List.getElem?_eq_getElem (show k0 + j < s.data.toList.length from hml)] at hc1
                exact (Option.some.inj hc1).symm
              have hsn : dgV ((s.data.toList.drop k0).take (j + 1)) = 10 * dgV ((s.data.toList.drop k0).take j) + ((s[k0 + j]'hml).toNat - 48) := by
                obtain ⟨hl, e⟩ := List.getElem?_eq_some_iff.1 hc1
                rw [List.take_succ_eq_append_getElem hl, dgV_snoc, e, hcc]
              have hlt := HLT.out j hj
              have hp := pow_nine j (by omega)
              unfold isDg at hc2
              rw [Bool.and_eq_true, decide_eq_true_iff, decide_eq_true_iff, hcc] at hc2
              have HSN := hideT hsn
              have HC := hideT hc2
              generalize dgV ((s.data.toList.drop k0).take j) = n at *
              have b1 : (n : Int) ≤ 1000000000 := by omega
              have b2 : (0 : Int) ≤ (n : Int) := by omega
              have g1 : (k0 : Int) + (j : Int) < (k : Int) := by have := HR.out; omega
              have g3 : (0 : Int) ≤ (k0 : Int) + (j : Int) := by omega
              have g4 : (k0 : Int) + (j : Int) < (s.size : Int) := by omega
              clear hsn hlt hp hc1 hc2 hcc
              go_wp2_with fail
              have hc := HC.out
              have e1 : wrap64 ((s[k0 + j]'hml).toNat : Int) = ((s[k0 + j]'hml).toNat : Int) := wrap_in _ (by omega) (by omega)
              have e2 : wrap64 (10 * (n : Int) + ((s[k0 + j]'hml).toNat : Int)) = 10 * (n : Int) + ((s[k0 + j]'hml).toNat : Int) := wrap_in _ (by omega) (by omega)
              have e3 : wrap64 (10 * (n : Int) + ((s[k0 + j]'hml).toNat : Int) - 48) = 10 * (n : Int) + ((s[k0 + j]'hml).toNat : Int) - 48 := wrap_in _ (by omega) (by omega)
              rw [e1, e2, e3]
              exact ⟨⟨j + 1, by omega, by rw [HSN.out]; congr 1; omega, by congr 1, by simp⟩, by simp [intOf]; omega⟩
            · obtain rfl : j = D := by omega
              have g1 : ((k0 : Int) + (j : Int) < (k : Int)) = False := by rw [eq_iff_iff, iff_false]; have := HR.out; omega
              go_wp2
              go_ret3
              refine ⟨?_, rfl⟩
              rw [HN.out]
              have e2 := HR.out
              simp
              omega

end Go.Proofs.Ytcfbmdelgfkfeaa
