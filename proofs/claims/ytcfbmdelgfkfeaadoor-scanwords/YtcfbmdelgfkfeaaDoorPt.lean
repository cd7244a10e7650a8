/- scan, the program's: Text. -/
import Derived.Test.YtcfbmdelgfkfeaaDoorPu
import Derived.Test.YtcfbmdelgfkfeaaDoorSt
namespace Go.Proofs.YtcfbmdelgfkfeaaDoor
open Go.RowKit
open scanP
namespace prg

theorem pre_two (l : List UInt8) : Lib.hasPrefix l [92, 10] = (match l with | b :: c :: _ => decide (b = 92 ∧ c = 10) | _ => false) := by
  unfold Lib.hasPrefix
  match l with
  | [] => rfl
  | [b] => simp [List.isPrefixOf]
  | b :: c :: r =>
    simp only [List.isPrefixOf, Bool.and_true]
    by_cases h1 : b = 92
    · by_cases h2 : c = 10
      · simp [h1, h2]
      · have : ((10 : UInt8) == c) = false := by rw [beq_eq_false_iff_ne]; exact fun h => h2 h.symm
        simp [h1, h2, this]
    · have : ((92 : UInt8) == b) = false := by rw [beq_eq_false_iff_ne]; exact fun h => h1 h.symm
      simp [h1, this]

set_option maxRecDepth 100000 in
set_option maxHeartbeats 8000000 in
theorem text_doc (s : ByteArray) (i : Int) (hs : s.size ≤ 140737488355000) (w : World) : Calls Tryd.prog 12 #[.string s, .int .i64 i] w fun e w' => e = .returned (.tuple #[.string (bst (textR s.data.toList (insN s.size i)).1), .int .i64 ((textR s.data.toList (insN s.size i)).2.1 : Nat), .int .i64 ((textR s.data.toList (insN s.size i)).2.2 : Nat)]) ∧ Below w.heap.size w w' := by
  have hsz : s.data.toList.length = s.size := rfl
  have HI := hideT (blanks_doc s i (by omega))
  have HW := hideT (fun i => within_any s i (by omega))
  have hf0 := blanks_le s.data.toList (insN s.size i) (ins_le s.size i)
  rw [hsz] at hf0
  have hT : textR s.data.toList (insN s.size i) = (match s.data.toList.drop (blanksN s.data.toList (insN s.size i)) with
    | b :: c :: r => if b = 92 ∧ c = 10 then (if r = [] then ([], 0, 6) else txR r (blanksN s.data.toList (insN s.size i) + 2) []) else ([], 0, 19)
    | _ => ([], 0, 19)) := rfl
  have HT := hideT hT
  clear hT
  generalize blanksN s.data.toList (insN s.size i) = f0 at *
  generalize textR s.data.toList (insN s.size i) = RR at *
  have HP := hideT (Tryd.strings_HasPrefix (s.extract f0 s.size) ⟨#[92, 10]⟩)
  have ep : Lib.hasPrefix (s.extract f0 s.size).data.toList (⟨#[92, 10]⟩ : ByteArray).data.toList = (match s.data.toList.drop f0 with | b :: c :: _ => decide (b = 92 ∧ c = 10) | _ => false) := by
    rw [Lib.extract_to_end]
    exact pre_two _
  rw [ep] at HP
  clear ep
  have HN0 := hideT (fun w => un_new w)
  have b0 : (0 : Int) ≤ (f0 : Int) := by omega
  have b1 : (f0 : Int) ≤ (s.size : Int) := by omega
  by_cases hpre : ∃ r, s.data.toList.drop f0 = 92 :: 10 :: r
  · obtain ⟨r, hr⟩ := hpre
    have hrl : f0 + 2 + r.length = s.size := by
      have := congrArg List.length hr
      rw [List.length_drop, hsz] at this
      simp at this
      omega
    have hr2 : s.data.toList.drop (f0 + 2) = r := by rw [← List.drop_drop, hr]; rfl
    have HT2 := hideT (show RR = (if r = [] then ([], 0, 6) else txR r (f0 + 2) []) by rw [HT.out, hr]; simp)
    have HQ := hideT (show (match s.data.toList.drop f0 with | b :: c :: _ => decide (b = 92 ∧ c = 10) | _ => false) = true by rw [hr]; simp)
    rw [HQ.out] at HP
    clear HT HQ
    by_cases h2 : f0 + 2 = s.size
    · have HN := hideT (show RR = ([], 0, 6) by rw [HT2.out, if_pos (List.eq_nil_of_length_eq_zero (by omega))])
      have a2 : ((f0 : Int) + 2 == (s.size : Int)) = true := by rw [beq_iff_eq]; omega
      clear hr hr2
      go_enter Tryd.func12, Tryd.ntmps12
      go_wp2_with fail
      refine (HI.out _).mono ?_
      rintro e w1 ⟨rfl, rfl⟩
      go_wp2_with fail
      refine (HP.out _).mono ?_
      rintro e w2 ⟨rfl, rfl⟩
      go_wp2
      go_ret3
      exact ⟨by rw [HN.out]; rfl, Below.refl _ _⟩
    · have HX := hideT (show txR (s.data.toList.drop (f0 + 2)) (f0 + 2) [] = RR by rw [HT2.out, if_neg (by intro h; rw [h] at hrl; simp at hrl; omega), hr2])
      have a2 : ((f0 : Int) + 2 == (s.size : Int)) = false := by rw [beq_eq_false_iff_ne]; omega
      clear hr hr2 HT2
      go_enter Tryd.func12, Tryd.ntmps12
      go_wp2_with fail
      refine (HI.out _).mono ?_
      rintro e w1 ⟨rfl, rfl⟩
      go_wp2_with fail
      refine (HP.out _).mono ?_
      rintro e w2 ⟨rfl, rfl⟩
      clear HP HI
      go_wp2_with fail
      go_loopw [1] (fun v wr => ∃ (k : Nat) (t : List UInt8), k ≤ s.size ∧ v = .int .i64 k ∧ UnB w2 wr t ∧ t.length ≤ k ∧ Hid (txR (s.data.toList.drop k) k t = RR)) (fun v _ => s.size - (intOf v).toNat)
      case atStart => exact ⟨f0 + 2, [], by omega, rfl, HN0.out _, by simp, HX⟩
      case round =>
        obtain ⟨k, t, hk, rfl, hB, htk, HE⟩ := hrel
        clear HX HN0 a2 b0 b1
        have R0 := hideT hB
        clear hB
        by_cases hlt : k < s.size
        · have i1 : (k : Int) < (s.size : Int) := by omega
          have i2 : (0 : Int) ≤ (k : Int) := by omega
          by_cases h10 : s[k]'hlt = 10
          · have c1 := eq_val (z := 10) rfl h10
            have HN := hideT (show RR = (t ++ [10], k + 1, 0) by rw [← HE.out, tx_line (l := s.data.toList) (k := k) hlt h10])
            have HY := hideT (show insN s.size ((k : Int) + 1) = k + 1 by unfold insN; omega)
            clear h10 HE
            go_wp2_with fail
            refine (put_any R0.out (by omega) 10 _ rfl).mono ?_
            rintro e w3 ⟨rfl, hb2⟩
            have B2 := hideT hb2
            clear hb2
            go_wp2_with fail
            refine (str_any B2.out).mono ?_
            rintro e w4 ⟨rfl, hb3⟩
            have B3 := hideT hb3
            clear hb3
            go_wp2_with fail
            refine (HW.out _ _).mono ?_
            rintro e w5 ⟨rfl, rfl⟩
            rw [HY.out]
            go_wp2
            go_ret3
            exact ⟨by rw [HN.out]; rfl, B3.out⟩
          · have c1 := ne_val (z := 10) rfl h10
            by_cases h92 : s[k]'hlt = 92
            · have c2 := beq_val (z := 92) rfl h92
              by_cases hlt2 : k + 1 < s.size
              · have j1 : (0 : Int) ≤ (k : Int) + 1 := by omega
                have j2 : (k : Int) + 1 < (s.size : Int) := by omega
                have j3 : ((k : Int) + 1 == (s.size : Int)) = false := by rw [beq_eq_false_iff_ne]; omega
                have HN := hideT (show txR (s.data.toList.drop (k + 2)) (k + 2) (t ++ [s[k + 1]'hlt2]) = RR by rw [← HE.out, tx_pair (l := s.data.toList) (k := k) hlt2 h92]; rfl)
                clear h10 h92 HE
                go_wp2_with fail
                refine (put_any R0.out (by omega) (s[k + 1]'hlt2) _ rfl).mono ?_
                rintro e w3 ⟨rfl, hb2⟩
                have B2 := hideT hb2
                clear hb2
                go_wp2
                exact ⟨⟨k + 2, t ++ [s[k + 1]'hlt2], by omega, by go_num, B2.out, by simp; omega, HN⟩, by simp [intOf]; omega⟩
              · have j3 : ((k : Int) + 1 == (s.size : Int)) = true := by rw [beq_iff_eq]; omega
                have HN := hideT (show RR = ([], 0, 6) by rw [← HE.out, tx_last (l := s.data.toList) (k := k) (by show k + 1 = s.size; omega) h92])
                clear h10 h92 HE
                go_wp2
                go_ret3
                exact ⟨by rw [HN.out]; rfl, R0.out.2⟩
            · have c2 := bne_val (z := 92) rfl h92
              have HN := hideT (show txR (s.data.toList.drop (k + 1)) (k + 1) (t ++ [s[k]'hlt]) = RR by rw [← HE.out, tx_step (l := s.data.toList) (k := k) hlt h10 h92]; rfl)
              clear h10 h92 HE
              go_wp2_with fail
              refine (put_any R0.out (by omega) (s[k]'hlt) _ rfl).mono ?_
              rintro e w3 ⟨rfl, hb2⟩
              have B2 := hideT hb2
              clear hb2
              go_wp2
              exact ⟨⟨k + 1, t ++ [s[k]'hlt], by omega, by go_num, B2.out, by simp; omega, HN⟩, by simp [intOf]; omega⟩
        · have i1 : ((k : Int) < (s.size : Int)) = False := by rw [eq_iff_iff, iff_false]; omega
          have HN := hideT (show RR = (t ++ [10], k, 0) by rw [← HE.out, tx_end (by show s.size ≤ k; omega)])
          have HY := hideT (show insN s.size ((k : Int) + 1) = k by unfold insN; omega)
          clear HE
          go_wp2_with fail
          refine (put_any R0.out (by omega) 10 _ rfl).mono ?_
          rintro e w3 ⟨rfl, hb2⟩
          have B2 := hideT hb2
          clear hb2
          go_wp2_with fail
          refine (str_any B2.out).mono ?_
          rintro e w4 ⟨rfl, hb3⟩
          have B3 := hideT hb3
          clear hb3
          go_wp2_with fail
          refine (HW.out _ _).mono ?_
          rintro e w5 ⟨rfl, rfl⟩
          rw [HY.out]
          go_wp2
          go_ret3
          exact ⟨by rw [HN.out]; rfl, B3.out⟩
  · have hq : (match s.data.toList.drop f0 with | b :: c :: _ => decide (b = 92 ∧ c = 10) | _ => false) = false ∧ RR = ([], 0, 19) := by
      rw [HT.out]
      match hl : s.data.toList.drop f0 with
      | [] => exact ⟨rfl, rfl⟩
      | [b] => exact ⟨rfl, rfl⟩
      | b :: c :: r =>
        have hn : ¬ (b = 92 ∧ c = 10) := by
          rintro ⟨rfl, rfl⟩
          exact hpre ⟨r, hl⟩
        exact ⟨decide_eq_false hn, if_neg hn⟩
    rw [hq.1] at HP
    have HN := hideT hq.2
    clear hq hpre
    go_enter Tryd.func12, Tryd.ntmps12
    go_wp2_with fail
    refine (HI.out _).mono ?_
    rintro e w1 ⟨rfl, rfl⟩
    go_wp2_with fail
    refine (HP.out _).mono ?_
    rintro e w2 ⟨rfl, rfl⟩
    go_wp2
    go_ret3
    exact ⟨by rw [HN.out]; rfl, Below.refl _ _⟩

end prg
end Go.Proofs.YtcfbmdelgfkfeaaDoor
