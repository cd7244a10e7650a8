/- scan: the document's Word. -/
import Derived.Test.YtcfbmdelgfkfeaaDoorSd
namespace Go.Proofs.YtcfbmdelgfkfeaaDoor
open Go.RowKit
open scanP


set_option maxRecDepth 100000 in
set_option maxHeartbeats 1000000 in
theorem word_doc (s : ByteArray) (i : Int) (hs : s.size ≤ 140737488355000) (w : World) : Calls Tryd.prog 8 #[.string s, .int .i64 i] w fun e w' => e = .returned (.tuple #[.string (bst (wordR s.data.toList (insN s.size i)).1), .int .i64 ((wordR s.data.toList (insN s.size i)).2 : Nat)]) ∧ w' = w := by
  unfold wordR
  simp only
  have hsz : s.data.toList.length = s.size := rfl
  have HI := hideT (blanks_doc s i hs)
  have hf0 := blanks_le s.data.toList (insN s.size i) (ins_le s.size i)
  rw [hsz] at hf0
  generalize blanksN s.data.toList (insN s.size i) = f0 at *
  obtain ⟨W, hW⟩ : ∃ W, W = wdN (s.data.toList.drop f0) := ⟨_, rfl⟩
  rw [← hW]
  have HW := hideT hW
  clear hW
  go_enter Tryd.func8, Tryd.ntmps8
  go_wp2_with fail
  refine (HI.out _).mono ?_
  rintro e w1 ⟨rfl, rfl⟩
  go_wp2_with fail
  go_loopw [7] (fun v wr => ∃ k : Nat, f0 ≤ k ∧ k ≤ s.size ∧ v = .int .i64 k ∧ Hid (k + wdN (s.data.toList.drop k) = f0 + W) ∧ wr = w1) (fun v _ => s.size - (intOf v).toNat)
  case atStart => exact ⟨f0, Nat.le_refl _, hf0, rfl, hideT (by rw [HW.out]), rfl⟩
  case round =>
    obtain ⟨k, hf, hk, rfl, HE, rfl⟩ := hrel
    by_cases hlt : k < s.size
    · have i1 : (k : Int) < (s.size : Int) := by omega
      have i2 : (0 : Int) ≤ (k : Int) := by omega
      have hst := wd_step (l := s.data.toList) (k := k) hlt
      rw [dat_at s k hlt] at hst
      have HS := hideT hst
      clear hst
      by_cases h10 : s[k]'hlt = 10
      · have c1 := eq_val (z := 10) rfl h10
        have HR := hideT (show k = f0 + W by
          have h := HE.out
          rw [HS.out, if_pos (.inl h10)] at h
          omega)
        have s1 : (f0 : Int) ≤ (k : Int) := by omega
        have s2 : (k : Int) ≤ (s.size : Int) := by omega
        have s3 : (0 : Int) ≤ (f0 : Int) := by omega
        clear h10
        go_wp2_with fail
        clear s1 s2
        go_loopw [8] (fun v wr2 => ∃ j : Nat, j ≤ W ∧ v = .int .i64 ((f0 : Int) + (j : Int)) ∧ Hid (rtN j (s.data.toList.drop f0) = rtN W (s.data.toList.drop f0)) ∧ wr2 = wr) (fun v _ => (intOf v).toNat - f0)
        case atStart => exact ⟨W, Nat.le_refl _, by congr 1; have h1 := HR.out; omega, hideT rfl, rfl⟩
        case round =>
          obtain ⟨j, hj, rfl, HE2, rfl⟩ := hrel
          clear HI
          by_cases hj0 : j = 0
          · have HJ := hideT (show rtN W (s.data.toList.drop f0) = j by
              have h := HE2.out
              rw [hj0] at h
              rw [← h, hj0]
              rfl)
            have g1 : ((f0 : Int) < (f0 : Int) + (j : Int)) = False := by rw [eq_iff_iff, iff_false]; omega
            clear hj0
            have q2 : (f0 : Int) ≤ (f0 : Int) + (j : Int) := by omega
            have q3 : (f0 : Int) + (j : Int) ≤ (s.size : Int) := by have := HR.out; omega
            go_wp2
            go_ret2
            refine ⟨?_, rfl⟩
            have hx := ext_bst s f0 j
            have e2 := HR.out
            simp [hx, HJ.out]
            omega
          · obtain ⟨m, hm⟩ : ∃ m, j = m + 1 := ⟨j - 1, by omega⟩
            have hml : f0 + m < s.size := by have := HR.out; omega
            have g1 : (f0 : Int) < (f0 : Int) + (j : Int) := by omega
            have g2 : (f0 : Int) + (j : Int) - 1 = ((f0 + m : Nat) : Int) := by omega
            have g3 : (0 : Int) ≤ ((f0 + m : Nat) : Int) := by omega
            have g4 : ((f0 + m : Nat) : Int) < (s.size : Int) := by omega
            have hat : (s.data.toList.drop f0)[m]? = some (s[f0 + m]'hml) := by
              rw [List.getElem?_drop, List.getElem?_eq_getElem (show f0 + m < s.data.toList.length from hml)]
              rfl
            have hrt : rtN j (s.data.toList.drop f0) = if s[f0 + m]'hml = 32 ∨ s[f0 + m]'hml = 9 then rtN m (s.data.toList.drop f0) else j := by
              rw [hm]
              show (if _ then _ else _) = _
              rw [hat]
              simp only [Option.some.injEq]
            have HRT := hideT hrt
            have HM := hideT hm
            clear hrt hm hat
            generalize hx0 : f0 + m = x at *
            have HX := hideT hx0
            clear hx0
            by_cases h32 : s[x]'hml = 32
            · have c1 := beq_val (z := 32) rfl h32
              have HJ := hideT (show rtN m (s.data.toList.drop f0) = rtN W (s.data.toList.drop f0) by
                rw [← HE2.out, HRT.out, if_pos (.inl h32)])
              clear h32
              go_wp2
              exact ⟨⟨m, by have := HM.out; omega, by congr 1; have h1 := HM.out; have h2 := HX.out; omega, HJ, by simp⟩, by simp [intOf]; have := HM.out; have := HX.out; omega⟩
            · have c1 := bne_val (z := 32) rfl h32
              by_cases h9 : s[x]'hml = 9
              · have c2 := beq_val (z := 9) rfl h9
                have HJ := hideT (show rtN m (s.data.toList.drop f0) = rtN W (s.data.toList.drop f0) by
                  rw [← HE2.out, HRT.out, if_pos (.inr h9)])
                clear h32 h9
                go_wp2
                exact ⟨⟨m, by have := HM.out; omega, by congr 1; have h1 := HM.out; have h2 := HX.out; omega, HJ, by simp⟩, by simp [intOf]; have := HM.out; have := HX.out; omega⟩
              · have c2 := bne_val (z := 9) rfl h9
                have HJ := hideT (show rtN W (s.data.toList.drop f0) = j by
                  rw [← HE2.out, HRT.out, if_neg (by rintro (h | h); exact h32 h; exact h9 h)])
                clear h32 h9
                have q2 : (f0 : Int) ≤ (f0 : Int) + (j : Int) := by omega
                have q3 : (f0 : Int) + (j : Int) ≤ (s.size : Int) := by have := HR.out; omega
                go_wp2
                go_ret2
                refine ⟨?_, rfl⟩
                have hx := ext_bst s f0 j
                have e2 := HR.out
                simp [hx, HJ.out]
                omega
      · have c1 := ne_val (z := 10) rfl h10
        by_cases h59 : s[k]'hlt = 59
        · have c2 := eq_val (z := 59) rfl h59
          have HR := hideT (show k = f0 + W by
            have h := HE.out
            rw [HS.out, if_pos (.inr h59)] at h
            omega)
          have s1 : (f0 : Int) ≤ (k : Int) := by omega
          have s2 : (k : Int) ≤ (s.size : Int) := by omega
          have s3 : (0 : Int) ≤ (f0 : Int) := by omega
          clear h10 h59
          go_wp2_with fail
          clear s1 s2
          go_loopw [8] (fun v wr2 => ∃ j : Nat, j ≤ W ∧ v = .int .i64 ((f0 : Int) + (j : Int)) ∧ Hid (rtN j (s.data.toList.drop f0) = rtN W (s.data.toList.drop f0)) ∧ wr2 = wr) (fun v _ => (intOf v).toNat - f0)
          case atStart => exact ⟨W, Nat.le_refl _, by congr 1; have h1 := HR.out; omega, hideT rfl, rfl⟩
          case round =>
            obtain ⟨j, hj, rfl, HE2, rfl⟩ := hrel
            clear HI
            by_cases hj0 : j = 0
            · have HJ := hideT (show rtN W (s.data.toList.drop f0) = j by
                have h := HE2.out
                rw [hj0] at h
                rw [← h, hj0]
                rfl)
              have g1 : ((f0 : Int) < (f0 : Int) + (j : Int)) = False := by rw [eq_iff_iff, iff_false]; omega
              clear hj0
              have q2 : (f0 : Int) ≤ (f0 : Int) + (j : Int) := by omega
              have q3 : (f0 : Int) + (j : Int) ≤ (s.size : Int) := by have := HR.out; omega
              go_wp2
              go_ret2
              refine ⟨?_, rfl⟩
              have hx := ext_bst s f0 j
              have e2 := HR.out
              simp [hx, HJ.out]
              omega
            · obtain ⟨m, hm⟩ : ∃ m, j = m + 1 := ⟨j - 1, by omega⟩
              have hml : f0 + m < s.size := by have := HR.out; omega
              have g1 : (f0 : Int) < (f0 : Int) + (j : Int) := by omega
              have g2 : (f0 : Int) + (j : Int) - 1 = ((f0 + m : Nat) : Int) := by omega
              have g3 : (0 : Int) ≤ ((f0 + m : Nat) : Int) := by omega
              have g4 : ((f0 + m : Nat) : Int) < (s.size : Int) := by omega
              have hat : (s.data.toList.drop f0)[m]? = some (s[f0 + m]'hml) := by
                rw [List.getElem?_drop, List.getElem?_eq_getElem (show f0 + m < s.data.toList.length from hml)]
                rfl
              have hrt : rtN j (s.data.toList.drop f0) = if s[f0 + m]'hml = 32 ∨ s[f0 + m]'hml = 9 then rtN m (s.data.toList.drop f0) else j := by
                rw [hm]
                show (if _ then _ else _) = _
                rw [hat]
                simp only [Option.some.injEq]
              have HRT := hideT hrt
              have HM := hideT hm
              clear hrt hm hat
              generalize hx0 : f0 + m = x at *
              have HX := hideT hx0
              clear hx0
              by_cases h32 : s[x]'hml = 32
              · have c1 := beq_val (z := 32) rfl h32
                have HJ := hideT (show rtN m (s.data.toList.drop f0) = rtN W (s.data.toList.drop f0) by
                  rw [← HE2.out, HRT.out, if_pos (.inl h32)])
                clear h32
                go_wp2
                exact ⟨⟨m, by have := HM.out; omega, by congr 1; have h1 := HM.out; have h2 := HX.out; omega, HJ, by simp⟩, by simp [intOf]; have := HM.out; have := HX.out; omega⟩
              · have c1 := bne_val (z := 32) rfl h32
                by_cases h9 : s[x]'hml = 9
                · have c2 := beq_val (z := 9) rfl h9
                  have HJ := hideT (show rtN m (s.data.toList.drop f0) = rtN W (s.data.toList.drop f0) by
                    rw [← HE2.out, HRT.out, if_pos (.inr h9)])
                  clear h32 h9
                  go_wp2
                  exact ⟨⟨m, by have := HM.out; omega, by congr 1; have h1 := HM.out; have h2 := HX.out; omega, HJ, by simp⟩, by simp [intOf]; have := HM.out; have := HX.out; omega⟩
                · have c2 := bne_val (z := 9) rfl h9
                  have HJ := hideT (show rtN W (s.data.toList.drop f0) = j by
                    rw [← HE2.out, HRT.out, if_neg (by rintro (h | h); exact h32 h; exact h9 h)])
                  clear h32 h9
                  have q2 : (f0 : Int) ≤ (f0 : Int) + (j : Int) := by omega
                  have q3 : (f0 : Int) + (j : Int) ≤ (s.size : Int) := by have := HR.out; omega
                  go_wp2
                  go_ret2
                  refine ⟨?_, rfl⟩
                  have hx := ext_bst s f0 j
                  have e2 := HR.out
                  simp [hx, HJ.out]
                  omega
        · have c2 := ne_val (z := 59) rfl h59
          have HR := hideT (show k + 1 + wdN (s.data.toList.drop (k + 1)) = f0 + W by
            have h := HE.out
            rw [HS.out, if_neg (by rintro (h | h); exact h10 h; exact h59 h)] at h
            omega)
          clear h10 h59
          go_wp2
          exact ⟨⟨k + 1, by omega, by omega, by go_num, HR, by simp⟩, by simp [intOf]; omega⟩
    · have i1 : ((k : Int) < (s.size : Int)) = False := by rw [eq_iff_iff, iff_false]; omega
      obtain rfl : k = s.size := by omega
      have HR := hideT (show s.size = f0 + W by
        have h := HE.out
        rw [wd_end (by show s.size ≤ s.size; omega)] at h
        omega)
      have s1 : (f0 : Int) ≤ (s.size : Int) := by omega
      have s2 : (s.size : Int) ≤ (s.size : Int) := by omega
      have s3 : (0 : Int) ≤ (f0 : Int) := by omega
      go_wp2_with fail
      clear s1 s2
      go_loopw [8] (fun v wr2 => ∃ j : Nat, j ≤ W ∧ v = .int .i64 ((f0 : Int) + (j : Int)) ∧ Hid (rtN j (s.data.toList.drop f0) = rtN W (s.data.toList.drop f0)) ∧ wr2 = wr) (fun v _ => (intOf v).toNat - f0)
      case atStart => exact ⟨W, Nat.le_refl _, by congr 1; have h1 := HR.out; omega, hideT rfl, rfl⟩
      case round =>
        obtain ⟨j, hj, rfl, HE2, rfl⟩ := hrel
        clear HI
        by_cases hj0 : j = 0
        · have HJ := hideT (show rtN W (s.data.toList.drop f0) = j by
            have h := HE2.out
            rw [hj0] at h
            rw [← h, hj0]
            rfl)
          have g1 : ((f0 : Int) < (f0 : Int) + (j : Int)) = False := by rw [eq_iff_iff, iff_false]; omega
          clear hj0
          have q2 : (f0 : Int) ≤ (f0 : Int) + (j : Int) := by omega
          have q3 : (f0 : Int) + (j : Int) ≤ (s.size : Int) := by have := HR.out; omega
          go_wp2
          go_ret2
          refine ⟨?_, rfl⟩
          have hx := ext_bst s f0 j
          have e2 := HR.out
          simp [hx, HJ.out]
          omega
        · obtain ⟨m, hm⟩ : ∃ m, j = m + 1 := ⟨j - 1, by omega⟩
          have hml : f0 + m < s.size := by have := HR.out; omega
          have g1 : (f0 : Int) < (f0 : Int) + (j : Int) := by omega
          have g2 : (f0 : Int) + (j : Int) - 1 = ((f0 + m : Nat) : Int) := by omega
          have g3 : (0 : Int) ≤ ((f0 + m : Nat) : Int) := by omega
          have g4 : ((f0 + m : Nat) : Int) < (s.size : Int) := by omega
          have hat : (s.data.toList.drop f0)[m]? = some (s[f0 + m]'hml) := by
            rw [List.getElem?_drop, List.getElem?_eq_getElem (show f0 + m < s.data.toList.length from hml)]
            rfl
          have hrt : rtN j (s.data.toList.drop f0) = if s[f0 + m]'hml = 32 ∨ s[f0 + m]'hml = 9 then rtN m (s.data.toList.drop f0) else j := by
            rw [hm]
            show (if _ then _ else _) = _
            rw [hat]
            simp only [Option.some.injEq]
          have HRT := hideT hrt
          have HM := hideT hm
          clear hrt hm hat
          generalize hx0 : f0 + m = x at *
          have HX := hideT hx0
          clear hx0
          by_cases h32 : s[x]'hml = 32
          · have c1 := beq_val (z := 32) rfl h32
            have HJ := hideT (show rtN m (s.data.toList.drop f0) = rtN W (s.data.toList.drop f0) by
              rw [← HE2.out, HRT.out, if_pos (.inl h32)])
            clear h32
            go_wp2
            exact ⟨⟨m, by have := HM.out; omega, by congr 1; have h1 := HM.out; have h2 := HX.out; omega, HJ, by simp⟩, by simp [intOf]; have := HM.out; have := HX.out; omega⟩
          · have c1 := bne_val (z := 32) rfl h32
            by_cases h9 : s[x]'hml = 9
            · have c2 := beq_val (z := 9) rfl h9
              have HJ := hideT (show rtN m (s.data.toList.drop f0) = rtN W (s.data.toList.drop f0) by
                rw [← HE2.out, HRT.out, if_pos (.inr h9)])
              clear h32 h9
              go_wp2
              exact ⟨⟨m, by have := HM.out; omega, by congr 1; have h1 := HM.out; have h2 := HX.out; omega, HJ, by simp⟩, by simp [intOf]; have := HM.out; have := HX.out; omega⟩
            · have c2 := bne_val (z := 9) rfl h9
              have HJ := hideT (show rtN W (s.data.toList.drop f0) = j by
                rw [← HE2.out, HRT.out, if_neg (by rintro (h | h); exact h32 h; exact h9 h)])
              clear h32 h9
              have q2 : (f0 : Int) ≤ (f0 : Int) + (j : Int) := by omega
              have q3 : (f0 : Int) + (j : Int) ≤ (s.size : Int) := by have := HR.out; omega
              go_wp2
              go_ret2
              refine ⟨?_, rfl⟩
              have hx := ext_bst s f0 j
              have e2 := HR.out
              simp [hx, HJ.out]
              omega

end Go.Proofs.YtcfbmdelgfkfeaaDoor
