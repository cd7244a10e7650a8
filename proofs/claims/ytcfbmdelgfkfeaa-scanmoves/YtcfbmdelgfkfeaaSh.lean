/- scan: the document's Text. -/
import Derived.Test.YtcfbmdelgfkfeaaSg
import Derived.Test.YtcfbmdelgfkfeaaSt
namespace Go.Proofs.Ytcfbmdelgfkfeaa
open Go.RowKit
open scanP

set_option maxRecDepth 100000 in
set_option maxHeartbeats 8000000 in
theorem text_doc (s : ByteArray) (i : Int) (hs : s.size ≤ 140737488355000) (w : World) : Calls Try.prog 15 #[.string s, .int .i64 i] w fun e w' => e = .returned (.tuple #[.string (bst (textR s.data.toList (insN s.size i)).1), .int .i64 ((textR s.data.toList (insN s.size i)).2.1 : Nat), .int .i64 ((textR s.data.toList (insN s.size i)).2.2 : Nat)]) ∧ Below w.heap.size w w' := by
  obtain ⟨i0, hi0, hz0, hz1, hz2⟩ := info_parts info5
  have hsz : s.data.toList.length = s.size := rfl
  have HI := hideT (blanks_doc s i (by omega))
  have hf0 := blanks_le s.data.toList (insN s.size i) (ins_le s.size i)
  rw [hsz] at hf0
  have hT : textR s.data.toList (insN s.size i) = (match s.data.toList.drop (blanksN s.data.toList (insN s.size i)) with
    | b :: c :: r => if b = 92 ∧ c = 10 then (if r = [] then ([], 0, 6) else txR r (blanksN s.data.toList (insN s.size i) + 2) []) else ([], 0, 19)
    | _ => ([], 0, 19)) := rfl
  have HT := hideT hT
  clear hT
  generalize blanksN s.data.toList (insN s.size i) = f0 at *
  generalize textR s.data.toList (insN s.size i) = RR at *
  by_cases h1 : f0 + 1 < s.size
  · have hl0 : f0 < s.size := by omega
    have a1 : ((s.size : Int) ≤ (f0 : Int) + 1) = False := by rw [eq_iff_iff, iff_false]; omega
    have b0 : (0 : Int) ≤ (f0 : Int) := by omega
    have b1 : (f0 : Int) < (s.size : Int) := by omega
    have b2 : (0 : Int) ≤ (f0 : Int) + 1 := by omega
    have b3 : (f0 : Int) + 1 < (s.size : Int) := by omega
    have hT := HT.out
    rw [List.drop_eq_getElem_cons (show f0 < s.data.toList.length from hl0), List.drop_eq_getElem_cons (show f0 + 1 < s.data.toList.length from h1), dat_at s f0 hl0, dat_at s (f0 + 1) h1] at hT
    simp only at hT
    by_cases h92 : s[f0]'hl0 = 92
    · have c1 := eq_val (z := 92) rfl h92
      by_cases h10 : s[f0 + 1]'h1 = 10
      · have c2 := eq_val (z := 10) rfl h10
        rw [if_pos ⟨h92, h10⟩] at hT
        clear h92 h10
        by_cases h2 : f0 + 2 = s.size
        · have HN := hideT (show RR = ([], 0, 6) by rw [hT, if_pos (by rw [List.drop_of_length_le (by show s.size ≤ f0 + 1 + 1; omega)])])
          have a2 : ((f0 : Int) + 2 == (s.size : Int)) = true := by rw [beq_iff_eq]; omega
          clear hT
          go_enter Try.func15, Try.ntmps15
          go_wp2_with fail
          refine (HI.out _).mono ?_
          rintro e w1 ⟨rfl, rfl⟩
          go_wp2
          go_ret3
          exact ⟨by rw [HN.out]; rfl, Below.refl _ _⟩
        · have HX := hideT (show RR = txR (s.data.toList.drop (f0 + 2)) (f0 + 2) [] by
            rw [hT, if_neg (by intro h; have := congrArg List.length h; rw [List.length_drop, hsz] at this; simp at this; omega)])
          have a2 : ((f0 : Int) + 2 == (s.size : Int)) = false := by rw [beq_eq_false_iff_ne]; omega
          clear hT HT
          go_enter Try.func15, Try.ntmps15
          go_wp2_with fail
          refine (HI.out _).mono ?_
          rintro e w1 ⟨rfl, rfl⟩
          go_wp2_with fail
          go_loopw [7, 8] (fun v tv wr => ∃ (k : Nat) (t : List UInt8), k ≤ s.size ∧ v = .int .i64 k ∧ wr.ownsRow w1.heap.size 5 1 tv t.length (Lib.byteCells t) ∧ Below w1.heap.size w1 wr ∧ t.length ≤ k ∧ Hid (txR (s.data.toList.drop k) k t = RR)) (fun v _ _ => s.size - (intOf v).toNat)
          case atStart => exact ⟨f0 + 2, [], by omega, rfl, World.ownsRow_nil _ _ _ _, Below.refl _ _, by simp, hideT HX.out.symm⟩
          case round =>
            obtain ⟨k, t, hk, rfl, hown, hB, htk, HE⟩ := hrel
            clear c1 c2 a1 a2 HI
            have R0 := hideT (And.intro hown hB)
            clear hown hB
            by_cases hlt : k < s.size
            · have i1 : (k : Int) < (s.size : Int) := by omega
              have i2 : (0 : Int) ≤ (k : Int) := by omega
              by_cases h10 : s[k]'hlt = 10
              · have c1 := eq_val (z := 10) rfl h10
                have HN := hideT (show RR = (t ++ [10], k + 1, 0) by rw [← HE.out, tx_line (l := s.data.toList) (k := k) hlt (by rw [dat_at s k hlt]; exact h10)])
                clear h10
                go_wp2_with (at_builtin; refine wpList_append_lies _ rfl _ _ 37 rfl w1.heap.size 5 i0 _ 1 1 undB hi0 hz0 hz1 hz2 rfl (by omega) _ t.length (Lib.byteCells t) rfl (R0.out.1.alloc _) ⟨wr.heap.size, 0, none⟩ 1 1 [.int .u8 10] rfl rfl (fun j u hj => new_cells wr [.int .u8 10] 5 j u hj) (by simp [Value.oneCell']) (by omega) (by unfold maxLen; omega) (by omega) (by rw [World.size_alloc]; have := R0.out.2.size; omega) _ rfl ?_)
                intro g1 cp1 w1 hown1 hgr1 _ _
                have R1 := hideT (grew (c := 10) rfl R0.out.2 R0.out.1 hgr1 hown1)
                have cv := conv_bytes R1.out.1
                clear hown1 hgr1
                go_wp2
                go_ret3
                exact ⟨by rw [HN.out]; rfl, R1.out.2⟩
              · have c1 := ne_val (z := 10) rfl h10
                by_cases h92 : s[k]'hlt = 92
                · have c2 := beq_val (z := 92) rfl h92
                  by_cases hlt2 : k + 1 < s.size
                  · have j1 : (0 : Int) ≤ (k : Int) + 1 := by omega
                    have j2 : (k : Int) + 1 < (s.size : Int) := by omega
                    have j3 : ((k : Int) + 1 == (s.size : Int)) = false := by rw [beq_eq_false_iff_ne]; omega
                    have HN := hideT (show txR (s.data.toList.drop (k + 2)) (k + 2) (t ++ [s[k + 1]'hlt2]) = RR by rw [← HE.out, tx_pair (l := s.data.toList) (k := k) hlt2 (by rw [dat_at s k hlt]; exact h92)]; rfl)
                    clear h10 h92
                    go_wp2_with (at_builtin; refine wpList_append_lies _ rfl _ _ 37 rfl w1.heap.size 5 i0 _ 1 1 undB hi0 hz0 hz1 hz2 rfl (by omega) _ (t).length (Lib.byteCells (t)) rfl (R0.out.1.alloc _) ⟨wr.heap.size, 0, none⟩ 1 1 [.int .u8 ((s[k + 1]'hlt2).toNat : Nat)] rfl rfl (fun j u hj => new_cells wr [.int .u8 ((s[k + 1]'hlt2).toNat : Nat)] 5 j u hj) (by simp [Value.oneCell']) (by omega) (by unfold maxLen; (try simp only [List.length_append, List.length_singleton]); omega) (by (try simp only [List.length_append, List.length_singleton]); omega) (by rw [World.size_alloc]; have := R0.out.2.size; omega) _ rfl ?_)
                    intro g1 cp1 w1 hown1 hgr1 _ _
                    have R1 := hideT (grew (c := s[k + 1]'hlt2) (by simp) R0.out.2 R0.out.1 hgr1 hown1)
                    clear hown1 hgr1
                    go_wp2
                    exact ⟨⟨k + 2, t ++ [s[k + 1]'hlt2], by omega, by go_num, R1.out.1, R1.out.2, by simp; omega, HN⟩, by simp [intOf]; omega⟩
                  · have j3 : ((k : Int) + 1 == (s.size : Int)) = true := by rw [beq_iff_eq]; omega
                    have HN := hideT (show RR = ([], 0, 6) by rw [← HE.out, tx_last (l := s.data.toList) (k := k) (by show k + 1 = s.size; omega) (by rw [dat_at s k hlt]; exact h92)])
                    clear h10 h92
                    go_wp2
                    go_ret3
                    exact ⟨by rw [HN.out]; rfl, R0.out.2⟩
                · have c2 := bne_val (z := 92) rfl h92
                  have HN := hideT (show txR (s.data.toList.drop (k + 1)) (k + 1) (t ++ [s[k]'hlt]) = RR by rw [← HE.out, tx_step (l := s.data.toList) (k := k) hlt (by rw [dat_at s k hlt]; exact h10) (by rw [dat_at s k hlt]; exact h92)]; rfl)
                  clear h10 h92
                  go_wp2_with (at_builtin; refine wpList_append_lies _ rfl _ _ 37 rfl w1.heap.size 5 i0 _ 1 1 undB hi0 hz0 hz1 hz2 rfl (by omega) _ (t).length (Lib.byteCells (t)) rfl (R0.out.1.alloc _) ⟨wr.heap.size, 0, none⟩ 1 1 [.int .u8 ((s[k]'hlt).toNat : Nat)] rfl rfl (fun j u hj => new_cells wr [.int .u8 ((s[k]'hlt).toNat : Nat)] 5 j u hj) (by simp [Value.oneCell']) (by omega) (by unfold maxLen; (try simp only [List.length_append, List.length_singleton]); omega) (by (try simp only [List.length_append, List.length_singleton]); omega) (by rw [World.size_alloc]; have := R0.out.2.size; omega) _ rfl ?_)
                  intro g1 cp1 w1 hown1 hgr1 _ _
                  have R1 := hideT (grew (c := s[k]'hlt) (by simp) R0.out.2 R0.out.1 hgr1 hown1)
                  clear hown1 hgr1
                  go_wp2
                  exact ⟨⟨k + 1, t ++ [s[k]'hlt], by omega, by go_num, R1.out.1, R1.out.2, by simp; omega, HN⟩, by simp [intOf]; omega⟩
            · have i1 : ((k : Int) < (s.size : Int)) = False := by rw [eq_iff_iff, iff_false]; omega
              have HN := hideT (show RR = (t ++ [10], k, 0) by rw [← HE.out, tx_end (by show s.size ≤ k; omega)])
              go_wp2_with (at_builtin; refine wpList_append_lies _ rfl _ _ 37 rfl w1.heap.size 5 i0 _ 1 1 undB hi0 hz0 hz1 hz2 rfl (by omega) _ t.length (Lib.byteCells t) rfl (R0.out.1.alloc _) ⟨wr.heap.size, 0, none⟩ 1 1 [.int .u8 10] rfl rfl (fun j u hj => new_cells wr [.int .u8 10] 5 j u hj) (by simp [Value.oneCell']) (by omega) (by unfold maxLen; omega) (by omega) (by rw [World.size_alloc]; have := R0.out.2.size; omega) _ rfl ?_)
              intro g1 cp1 w1 hown1 hgr1 _ _
              have R1 := hideT (grew (c := 10) rfl R0.out.2 R0.out.1 hgr1 hown1)
              have cv := conv_bytes R1.out.1
              clear hown1 hgr1
              go_wp2
              go_ret3
              exact ⟨by rw [HN.out]; rfl, R1.out.2⟩
      · have c2 := ne_val (z := 10) rfl h10
        have HN := hideT (show RR = ([], 0, 19) by rw [hT, if_neg (fun h => h10 h.2)])
        clear hT h92 h10
        go_enter Try.func15, Try.ntmps15
        go_wp2_with fail
        refine (HI.out _).mono ?_
        rintro e w1 ⟨rfl, rfl⟩
        go_wp2
        go_ret3
        exact ⟨by rw [HN.out]; rfl, Below.refl _ _⟩
    · have c1 := ne_val (z := 92) rfl h92
      have HN := hideT (show RR = ([], 0, 19) by rw [hT, if_neg (fun h => h92 h.1)])
      clear hT h92
      go_enter Try.func15, Try.ntmps15
      go_wp2_with fail
      refine (HI.out _).mono ?_
      rintro e w1 ⟨rfl, rfl⟩
      go_wp2
      go_ret3
      exact ⟨by rw [HN.out]; rfl, Below.refl _ _⟩
  · have HN := hideT (show RR = ([], 0, 19) by
      rw [HT.out]
      by_cases h2 : f0 < s.size
      · rw [List.drop_eq_getElem_cons (show f0 < s.data.toList.length from h2), List.drop_of_length_le (by show s.size ≤ f0 + 1; omega)]
      · rw [List.drop_of_length_le (by show s.size ≤ f0; omega)])
    have a1 : (s.size : Int) ≤ (f0 : Int) + 1 := by omega
    go_enter Try.func15, Try.ntmps15
    go_wp2_with fail
    refine (HI.out _).mono ?_
    rintro e w1 ⟨rfl, rfl⟩
    go_wp2
    go_ret3
    exact ⟨by rw [HN.out]; rfl, Below.refl _ _⟩

end Go.Proofs.Ytcfbmdelgfkfeaa
