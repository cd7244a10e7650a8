/- scan, the program's: Until. -/
import Derived.Test.YtjfkhlmoppbbgaaGreatDoorKUk
import Derived.Test.YtjfkhlmoppbbgaaGreatDoorKSa
import Derived.Test.YtjfkhlmoppbbgaaGreatDoorKZa
namespace Go.Proofs.YtjfkhlmoppbbgaaGreatDoor
open Go.RowKit
open scanP
namespace prg

/-- What lies where while a text is gathered. -/
def UnB (w W : World) (t : List UInt8) : Prop := Lib.IsBuilder 157 5 w.heap.size w.heap.size (Lib.byteCells t) W ∧ Below w.heap.size w W
theorem un_new (w : World) : UnB w (w.alloc (.cells #[.pointer none, .slice none 0 0] 157)) [] :=
  ⟨Lib.fresh_isBuilder 157 5 w, (Below.refl w.heap.size w).alloc (Nat.le_refl _) _⟩
theorem put_any {w W : World} {t : List UInt8} (h : UnB w W t) (ht : t.length ≤ 140737488355000) (c : UInt8) (z : Int) (hz : (c.toNat : Int) = z) : Calls Tryz.prog 106 #[.pointer (some ⟨w.heap.size, 0, none⟩), .int .u8 z] W fun e w' => e = .returned .nilIface ∧ UnB w w' (t ++ [c]) := by
  refine (writeByte_any w.heap.size w.heap.size _ z W h.1 (by rw [Lib.byteCells_length]; omega) h.2.size).mono ?_
  rintro e w1 ⟨rfl, h1, hb1, _⟩
  refine ⟨rfl, .inr ?_, h.2.trans hb1⟩
  subst hz
  rw [cells_app]
  exact h1
theorem str_any {w W : World} {t : List UInt8} (h : UnB w W t) : Calls Tryz.prog 107 #[.pointer (some ⟨w.heap.size, 0, none⟩)] W fun e w' => e = .returned (.string (bst t)) ∧ Below w.heap.size w w' := by
  refine (builderString_any w.heap.size w.heap.size t W h.1 h.2.size).mono ?_
  rintro e w1 ⟨rfl, hb1⟩
  exact ⟨rfl, h.2.trans hb1⟩

def specB (d : UInt8) : Bool := [46, 91, 42, 94, 36, 38].contains d
theorem kept_eq (d c : UInt8) : keptB d c = (decide (c ≠ d) || specB d) := by
  unfold keptB specB
  by_cases h : c = d
  · subst h
    simp [Bool.or_assoc]
  · simp [h]
set_option maxRecDepth 100000 in
set_option maxHeartbeats 1000000 in
theorem special_any (d : UInt8) (w : World) : Calls Tryz.prog 129 #[.int .u8 (d.toNat : Nat)] w fun e w' => e = .returned (.bool (specB d)) ∧ w' = w := by
  have H := hideT (Tryz.strings_IndexByte ⟨#[46, 91, 42, 94, 36, 38]⟩ (d.toNat : Nat))
  have ed : (((d.toNat : Nat) : Int).toNat.toUInt8) = d := by simp
  rw [ed] at H
  have e : (⟨#[46, 91, 42, 94, 36, 38]⟩ : ByteArray).data.toList = [46, 91, 42, 94, 36, 38] := rfl
  rw [e] at H
  have E := hideT (show specB d = decide (0 ≤ Lib.indexByte [46, 91, 42, 94, 36, 38] d) from Lib.contains_iff_indexByte _ _)
  clear ed e
  generalize Lib.indexByte [46, 91, 42, 94, 36, 38] d = z at *
  go_enter Tryz.func129, Tryz.ntmps129
  go_wp2_with fail
  refine (H.out _).mono ?_
  rintro e w1 ⟨rfl, rfl⟩
  go_wp2
  go_ret
  exact ⟨by rw [E.out]; rfl, rfl⟩

set_option maxRecDepth 100000 in
set_option maxHeartbeats 4000000 in
theorem until_run (s : ByteArray) (a0 : Nat) (d : UInt8) (ln : Bool) (ha : a0 ≤ s.size) (h10d : d ≠ 10) (h92d : d ≠ 92) (hs : s.size ≤ 140737488355000) (w : World) : Calls Tryz.prog 109 #[.string s, .int .i64 (a0 : Nat), .int .u8 (d.toNat : Nat), .bool ln] w fun e w' => e = .returned (.tuple #[.string (bst (unR d ln (s.data.toList.drop a0) a0 []).1), .int .i64 ((unR d ln (s.data.toList.drop a0) a0 []).2.1 : Nat), .int .i64 ((unR d ln (s.data.toList.drop a0) a0 []).2.2 : Nat)]) ∧ Below w.heap.size w w' := by
  have HSP := hideT (special_any d)
  have x1 : ((a0 : Int) < 0) = False := by rw [eq_iff_iff, iff_false]; omega
  have x2 : ((s.size : Int) < (a0 : Int)) = False := by rw [eq_iff_iff, iff_false]; omega
  have x3 := bne_val (z := 10) rfl h10d
  have x4 := bne_val (z := 92) rfl h92d
  have HN0 := hideT (un_new w)
  generalize hRR : unR d ln (s.data.toList.drop a0) a0 [] = RR
  have HRR := hideT hRR
  have H10 := hideT h10d
  have H92 := hideT h92d
  clear hRR h10d h92d
  go_enter Tryz.func109, Tryz.ntmps109
  go_wp2_with fail
  clear x1 x2 x3 x4
  go_loopw [1] (fun v wr => ∃ (k : Nat) (t : List UInt8), k ≤ s.size ∧ v = .int .i64 k ∧ UnB w wr t ∧ t.length ≤ k ∧ Hid (unR d ln (s.data.toList.drop k) k t = RR)) (fun v _ => s.size - (intOf v).toNat)
  case atStart => exact ⟨a0, [], ha, rfl, HN0.out, by simp, HRR⟩
  case round =>
    obtain ⟨k, t, hk, rfl, hB, htk, HE⟩ := hrel
    clear HRR HN0
    have R0 := hideT hB
    clear hB
    by_cases hlt : k < s.size
    · have i1 : (k : Int) < (s.size : Int) := by omega
      have i2 : (0 : Int) ≤ (k : Int) := by omega
      by_cases hd : s[k]'hlt = d
      · have HN := hideT (show RR = (t, k + 1, 0) by rw [← HE.out, un_hit (l := s.data.toList) (k := k) hlt (by rw [dat_at s k hlt]; exact hd)])
        have c1 : (((s[k]'hlt).toNat : Int) == (d.toNat : Int)) = true := by rw [hd]; exact beq_self_eq_true _
        clear hd
        go_wp2_with fail
        refine (str_any R0.out).mono ?_
        rintro e w1 ⟨rfl, hb1⟩
        have B1 := hideT hb1
        clear hb1
        go_wp2
        go_ret3
        exact ⟨by rw [HN.out]; rfl, B1.out⟩
      · have c1 : (((s[k]'hlt).toNat : Int) == (d.toNat : Int)) = false := bne_val rfl hd
        by_cases h10 : s[k]'hlt = 10
        · have c2 := beq_val (z := 10) rfl h10
          have HN := hideT (show RR = ([], 0, 6) by rw [← HE.out, un_line (l := s.data.toList) (k := k) hlt (by rw [dat_at s k hlt]; exact hd) (by rw [dat_at s k hlt]; exact h10)])
          clear hd h10
          go_wp2
          go_ret3
          exact ⟨by rw [HN.out]; rfl, R0.out.2⟩
        · have c2 := bne_val (z := 10) rfl h10
          by_cases h92 : s[k]'hlt = 92
          · have c3 := eq_val (z := 92) rfl h92
            by_cases hl : k + 1 = s.size
            · have c4 : ((k : Int) == (s.size : Int) - 1) = true := by rw [beq_iff_eq]; omega
              have HN := hideT (show RR = ([], 0, 6) by rw [← HE.out, un_last (l := s.data.toList) (k := k) hl (by rw [dat_at s k hlt]; exact hd)])
              clear hd h10 h92
              go_wp2
              go_ret3
              exact ⟨by rw [HN.out]; rfl, R0.out.2⟩
            · have hlt2 : k + 1 < s.size := by omega
              have c4 : ((k : Int) == (s.size : Int) - 1) = false := by rw [beq_eq_false_iff_ne]; omega
              have j1 : (0 : Int) ≤ (k : Int) + 1 := by omega
              have j2 : (k : Int) + 1 < (s.size : Int) := by omega
              have e92 : s.data.toList[k]'hlt = 92 := h92
              have ed : s.data.toList[k]'hlt ≠ d := hd
              by_cases h4 : s[k + 1]'hlt2 = 10 ∧ ln = false
              · obtain ⟨h4, rfl⟩ := h4
                have c5 := beq_val (z := 10) rfl h4
                have HN := hideT (show RR = ([], 0, 6) by rw [← HE.out, un_stop (l := s.data.toList) (k := k) hlt2 ed e92 h4])
                clear hd h10 h92 h4 e92 ed
                go_wp2
                go_ret3
                exact ⟨by rw [HN.out]; rfl, R0.out.2⟩
              · have HN := hideT (show unR d ln (s.data.toList.drop (k + 2)) (k + 2) (t ++ ((if keptB d (s[k + 1]'hlt2) then [92] else []) ++ [s[k + 1]'hlt2])) = RR by
                  rw [← HE.out, un_pair (l := s.data.toList) (k := k) hlt2 ed e92 (by
                    by_cases h : s[k + 1]'hlt2 = 10
                    · right; cases ln with
                      | true => rfl
                      | false => exact absurd ⟨h, rfl⟩ h4
                    · exact .inl h)]
                  rfl)
                have HK := hideT (kept_eq d (s[k + 1]'hlt2))
                by_cases h5 : s[k + 1]'hlt2 = 10
                · have c5 := beq_val (z := 10) rfl h5
                  have hln : ln = true := by
                    cases ln with
                    | true => rfl
                    | false => exact absurd ⟨h5, rfl⟩ h4
                  subst hln
                  clear hd h10 h92 h4 e92 ed h5
                  by_cases he : s[k + 1]'hlt2 = d
                  · have c6 : (((s[k + 1]'hlt2).toNat : Int) != (d.toNat : Int)) = false := eq_val rfl he
                    cases hsp : specB d with
                    | true =>
                      have HN2 := hideT (show unR d true (s.data.toList.drop (k + 2)) (k + 2) (t ++ [92] ++ [s[k + 1]'hlt2]) = RR by rw [← HN.out, HK.out, hsp, Bool.or_true, if_pos rfl, List.append_assoc])
                      have HSQ := hideT hsp
                      clear he hsp HN HK HE
                      go_wp2_with fail
                      refine (HSP.out _).mono ?_
                      rintro e w0 ⟨rfl, rfl⟩
                      rw [HSQ.out]
                      go_wp2_with fail
                      refine (put_any R0.out (by omega) 92 _ rfl).mono ?_
                      rintro e w1 ⟨rfl, hb1⟩
                      have B1 := hideT hb1
                      clear hb1
                      go_wp2_with fail
                      refine (put_any B1.out (by simp; omega) (s[k + 1]'hlt2) _ rfl).mono ?_
                      rintro e w2 ⟨rfl, hb2⟩
                      have B2 := hideT hb2
                      clear hb2 B1
                      go_wp2
                      exact ⟨⟨k + 2, t ++ [92] ++ [s[k + 1]'hlt2], by omega, by go_num, B2.out, by simp; omega, HN2⟩, by simp [intOf]; omega⟩
                    | false =>
                      have HN2 := hideT (show unR d true (s.data.toList.drop (k + 2)) (k + 2) (t ++ [s[k + 1]'hlt2]) = RR by rw [← HN.out, HK.out, hsp, he]; simp)
                      have HSQ := hideT hsp
                      clear he hsp HN HK HE
                      go_wp2_with fail
                      refine (HSP.out _).mono ?_
                      rintro e w0 ⟨rfl, rfl⟩
                      rw [HSQ.out]
                      go_wp2_with fail
                      refine (put_any R0.out (by omega) (s[k + 1]'hlt2) _ rfl).mono ?_
                      rintro e w2 ⟨rfl, hb2⟩
                      have B2 := hideT hb2
                      clear hb2
                      go_wp2
                      exact ⟨⟨k + 2, t ++ [s[k + 1]'hlt2], by omega, by go_num, B2.out, by simp; omega, HN2⟩, by simp [intOf]; omega⟩
                  · have c6 : (((s[k + 1]'hlt2).toNat : Int) != (d.toNat : Int)) = true := ne_val rfl he
                    have HN2 := hideT (show unR d true (s.data.toList.drop (k + 2)) (k + 2) (t ++ [92] ++ [s[k + 1]'hlt2]) = RR by rw [← HN.out, HK.out, decide_eq_true he, Bool.true_or, if_pos rfl, List.append_assoc])
                    clear he HN HK HE
                    go_wp2_with fail
                    refine (put_any R0.out (by omega) 92 _ rfl).mono ?_
                    rintro e w1 ⟨rfl, hb1⟩
                    have B1 := hideT hb1
                    clear hb1
                    go_wp2_with fail
                    refine (put_any B1.out (by simp; omega) (s[k + 1]'hlt2) _ rfl).mono ?_
                    rintro e w2 ⟨rfl, hb2⟩
                    have B2 := hideT hb2
                    clear hb2 B1
                    go_wp2
                    exact ⟨⟨k + 2, t ++ [92] ++ [s[k + 1]'hlt2], by omega, by go_num, B2.out, by simp; omega, HN2⟩, by simp [intOf]; omega⟩
                · have c5 := bne_val (z := 10) rfl h5
                  clear hd h10 h92 h4 e92 ed h5
                  by_cases he : s[k + 1]'hlt2 = d
                  · have c6 : (((s[k + 1]'hlt2).toNat : Int) != (d.toNat : Int)) = false := eq_val rfl he
                    cases hsp : specB d with
                    | true =>
                      have HN2 := hideT (show unR d ln (s.data.toList.drop (k + 2)) (k + 2) (t ++ [92] ++ [s[k + 1]'hlt2]) = RR by rw [← HN.out, HK.out, hsp, Bool.or_true, if_pos rfl, List.append_assoc])
                      have HSQ := hideT hsp
                      clear he hsp HN HK HE
                      go_wp2_with fail
                      refine (HSP.out _).mono ?_
                      rintro e w0 ⟨rfl, rfl⟩
                      rw [HSQ.out]
                      go_wp2_with fail
                      refine (put_any R0.out (by omega) 92 _ rfl).mono ?_
                      rintro e w1 ⟨rfl, hb1⟩
                      have B1 := hideT hb1
                      clear hb1
                      go_wp2_with fail
                      refine (put_any B1.out (by simp; omega) (s[k + 1]'hlt2) _ rfl).mono ?_
                      rintro e w2 ⟨rfl, hb2⟩
                      have B2 := hideT hb2
                      clear hb2 B1
                      go_wp2
                      exact ⟨⟨k + 2, t ++ [92] ++ [s[k + 1]'hlt2], by omega, by go_num, B2.out, by simp; omega, HN2⟩, by simp [intOf]; omega⟩
                    | false =>
                      have HN2 := hideT (show unR d ln (s.data.toList.drop (k + 2)) (k + 2) (t ++ [s[k + 1]'hlt2]) = RR by rw [← HN.out, HK.out, hsp, he]; simp)
                      have HSQ := hideT hsp
                      clear he hsp HN HK HE
                      go_wp2_with fail
                      refine (HSP.out _).mono ?_
                      rintro e w0 ⟨rfl, rfl⟩
                      rw [HSQ.out]
                      go_wp2_with fail
                      refine (put_any R0.out (by omega) (s[k + 1]'hlt2) _ rfl).mono ?_
                      rintro e w2 ⟨rfl, hb2⟩
                      have B2 := hideT hb2
                      clear hb2
                      go_wp2
                      exact ⟨⟨k + 2, t ++ [s[k + 1]'hlt2], by omega, by go_num, B2.out, by simp; omega, HN2⟩, by simp [intOf]; omega⟩
                  · have c6 : (((s[k + 1]'hlt2).toNat : Int) != (d.toNat : Int)) = true := ne_val rfl he
                    have HN2 := hideT (show unR d ln (s.data.toList.drop (k + 2)) (k + 2) (t ++ [92] ++ [s[k + 1]'hlt2]) = RR by rw [← HN.out, HK.out, decide_eq_true he, Bool.true_or, if_pos rfl, List.append_assoc])
                    clear he HN HK HE
                    go_wp2_with fail
                    refine (put_any R0.out (by omega) 92 _ rfl).mono ?_
                    rintro e w1 ⟨rfl, hb1⟩
                    have B1 := hideT hb1
                    clear hb1
                    go_wp2_with fail
                    refine (put_any B1.out (by simp; omega) (s[k + 1]'hlt2) _ rfl).mono ?_
                    rintro e w2 ⟨rfl, hb2⟩
                    have B2 := hideT hb2
                    clear hb2 B1
                    go_wp2
                    exact ⟨⟨k + 2, t ++ [92] ++ [s[k + 1]'hlt2], by omega, by go_num, B2.out, by simp; omega, HN2⟩, by simp [intOf]; omega⟩
          · have c3 := ne_val (z := 92) rfl h92
            have HN := hideT (show unR d ln (s.data.toList.drop (k + 1)) (k + 1) (t ++ [s[k]'hlt]) = RR by rw [← HE.out, un_step (l := s.data.toList) (k := k) hlt hd h10 h92]; rfl)
            clear hd h10 h92
            go_wp2_with fail
            refine (put_any R0.out (by omega) (s[k]'hlt) _ rfl).mono ?_
            rintro e w1 ⟨rfl, hb1⟩
            have B1 := hideT hb1
            clear hb1
            go_wp2
            exact ⟨⟨k + 1, t ++ [s[k]'hlt], by omega, by go_num, B1.out, by simp; omega, HN⟩, by simp [intOf]; omega⟩
    · have i1 : ((k : Int) < (s.size : Int)) = False := by rw [eq_iff_iff, iff_false]; omega
      have HN := hideT (show RR = ([], 0, 6) by rw [← HE.out, un_end (by show s.size ≤ k; omega)])
      go_wp2
      go_ret3
      exact ⟨by rw [HN.out]; rfl, R0.out.2⟩

set_option maxRecDepth 100000 in
set_option maxHeartbeats 4000000 in
theorem until_doc (s : ByteArray) (i : Int) (d : UInt8) (ln : Bool) (hs : s.size ≤ 140737488355000) (w : World) : Calls Tryz.prog 109 #[.string s, .int .i64 i, .int .u8 (d.toNat : Nat), .bool ln] w fun e w' => e = .returned (.tuple #[.string (bst (untilR s.data.toList i d ln).1), .int .i64 ((untilR s.data.toList i d ln).2.1 : Nat), .int .i64 ((untilR s.data.toList i d ln).2.2 : Nat)]) ∧ Below w.heap.size w w' := by
  have hsz : s.data.toList.length = s.size := rfl
  by_cases h0 : i < 0
  · have HN := hideT (show untilR s.data.toList i d ln = ([], 0, 1) by unfold untilR; rw [if_pos (.inl h0)])
    go_enter Tryz.func109, Tryz.ntmps109
    go_wp2
    go_ret3
    exact ⟨by rw [HN.out]; rfl, Below.refl _ _⟩
  · have x1 : (i < 0) = False := by rw [eq_iff_iff, iff_false]; exact h0
    by_cases h1 : (s.size : Int) < i
    · have HN := hideT (show untilR s.data.toList i d ln = ([], 0, 1) by unfold untilR; rw [if_pos (.inr (.inl h1))])
      go_enter Tryz.func109, Tryz.ntmps109
      go_wp2
      go_ret3
      exact ⟨by rw [HN.out]; rfl, Below.refl _ _⟩
    · have x2 : ((s.size : Int) < i) = False := by rw [eq_iff_iff, iff_false]; exact h1
      by_cases h2 : d = 10
      · have HN := hideT (show untilR s.data.toList i d ln = ([], 0, 1) by unfold untilR; rw [if_pos (.inr (.inr (.inl h2)))])
        have x3 := beq_val (z := 10) rfl h2
        clear h2
        go_enter Tryz.func109, Tryz.ntmps109
        go_wp2
        go_ret3
        exact ⟨by rw [HN.out]; rfl, Below.refl _ _⟩
      · by_cases h3 : d = 92
        · have HN := hideT (show untilR s.data.toList i d ln = ([], 0, 1) by unfold untilR; rw [if_pos (.inr (.inr (.inr h3)))])
          have x3 := bne_val (z := 10) rfl h2
          have x4 := beq_val (z := 92) rfl h3
          clear h2 h3
          go_enter Tryz.func109, Tryz.ntmps109
          go_wp2
          go_ret3
          exact ⟨by rw [HN.out]; rfl, Below.refl _ _⟩
        · obtain ⟨a0, rfl⟩ := Int.eq_ofNat_of_zero_le (show 0 ≤ i by omega)
          have e : untilR s.data.toList (a0 : Int) d ln = unR d ln (s.data.toList.drop a0) a0 [] := by
            unfold untilR
            rw [if_neg (by rintro (h | h | h | h); exact h0 h; exact h1 h; exact h2 h; exact h3 h), Int.toNat_natCast]
          rw [e]
          exact until_run s a0 d ln (by omega) h2 h3 hs w

end prg
end Go.Proofs.YtjfkhlmoppbbgaaGreatDoor

/- scan, the program's: Text. -/
namespace Go.Proofs.YtjfkhlmoppbbgaaGreatDoor
open Go.RowKit
open scanP
namespace prg

theorem pre_two (l : List UInt8) : Lib.hasPrefix l [92, 10] = (match l with | b :: c :: _ => decide (b = 92 ∧ c = 10) | _ => false) := by
  unfold Lib.hasPrefix
  match l with
  | [] => rfl
  | [b] => simp [List.isPrefixOf]
  | b :: c :: r =>
    simp only [List.isPrefixOf, Bool.and_true]
    by_cases h1 : b = 92
    · by_cases h2 : c = 10
      · simp [h1, h2]
      · have : ((10 : UInt8) == c) = false := by rw [beq_eq_false_iff_ne]; exact fun h => h2 h.symm
        simp [h1, h2, this]
    · have : ((92 : UInt8) == b) = false := by rw [beq_eq_false_iff_ne]; exact fun h => h1 h.symm
      simp [h1, this]

set_option maxRecDepth 100000 in
set_option maxHeartbeats 8000000 in
theorem text_doc (s : ByteArray) (i : Int) (hs : s.size ≤ 140737488355000) (w : World) : Calls Tryz.prog 83 #[.string s, .int .i64 i] w fun e w' => e = .returned (.tuple #[.string (bst (textR s.data.toList (insN s.size i)).1), .int .i64 ((textR s.data.toList (insN s.size i)).2.1 : Nat), .int .i64 ((textR s.data.toList (insN s.size i)).2.2 : Nat)]) ∧ Below w.heap.size w w' := by
  have hsz : s.data.toList.length = s.size := rfl
  have HI := hideT (blanks_doc s i (by omega))
  have HW := hideT (fun i => within_any s i (by omega))
  have hf0 := blanks_le s.data.toList (insN s.size i) (ins_le s.size i)
  rw [hsz] at hf0
  have hT : textR s.data.toList (insN s.size i) = (match s.data.toList.drop (blanksN s.data.toList (insN s.size i)) with
    | b :: c :: r => if b = 92 ∧ c = 10 then (if r = [] then ([], 0, 6) else txR r (blanksN s.data.toList (insN s.size i) + 2) []) else ([], 0, 19)
    | _ => ([], 0, 19)) := rfl
  have HT := hideT hT
  clear hT
  generalize blanksN s.data.toList (insN s.size i) = f0 at *
  generalize textR s.data.toList (insN s.size i) = RR at *
  have HP := hideT (Tryz.strings_HasPrefix (s.extract f0 s.size) ⟨#[92, 10]⟩)
  have ep : Lib.hasPrefix (s.extract f0 s.size).data.toList (⟨#[92, 10]⟩ : ByteArray).data.toList = (match s.data.toList.drop f0 with | b :: c :: _ => decide (b = 92 ∧ c = 10) | _ => false) := by
    rw [Lib.extract_to_end]
    exact pre_two _
  rw [ep] at HP
  clear ep
  have HN0 := hideT (fun w => un_new w)
  have b0 : (0 : Int) ≤ (f0 : Int) := by omega
  have b1 : (f0 : Int) ≤ (s.size : Int) := by omega
  by_cases hpre : ∃ r, s.data.toList.drop f0 = 92 :: 10 :: r
  · obtain ⟨r, hr⟩ := hpre
    have hrl : f0 + 2 + r.length = s.size := by
      have := congrArg List.length hr
      rw [List.length_drop, hsz] at this
      simp at this
      omega
    have hr2 : s.data.toList.drop (f0 + 2) = r := by rw [← List.drop_drop, hr]; rfl
    have HT2 := hideT (show RR = (if r = [] then ([], 0, 6) else txR r (f0 + 2) []) by rw [HT.out, hr]; simp)
    have HQ := hideT (show (match s.data.toList.drop f0 with | b :: c :: _ => decide (b = 92 ∧ c = 10) | _ => false) = true by rw [hr]; simp)
    rw [HQ.out] at HP
    clear HT HQ
    by_cases h2 : f0 + 2 = s.size
    · have HN := hideT (show RR = ([], 0, 6) by rw [HT2.out, if_pos (List.eq_nil_of_length_eq_zero (by omega))])
      have a2 : ((f0 : Int) + 2 == (s.size : Int)) = true := by rw [beq_iff_eq]; omega
      clear hr hr2
      go_enter Tryz.func83, Tryz.ntmps83
      go_wp2_with fail
      refine (HI.out _).mono ?_
      rintro e w1 ⟨rfl, rfl⟩
      go_wp2_with fail
      refine (HP.out _).mono ?_
      rintro e w2 ⟨rfl, rfl⟩
      go_wp2
      go_ret3
      exact ⟨by rw [HN.out]; rfl, Below.refl _ _⟩
    · have HX := hideT (show txR (s.data.toList.drop (f0 + 2)) (f0 + 2) [] = RR by rw [HT2.out, if_neg (by intro h; rw [h] at hrl; simp at hrl; omega), hr2])
      have a2 : ((f0 : Int) + 2 == (s.size : Int)) = false := by rw [beq_eq_false_iff_ne]; omega
      clear hr hr2 HT2
      go_enter Tryz.func83, Tryz.ntmps83
      go_wp2_with fail
      refine (HI.out _).mono ?_
      rintro e w1 ⟨rfl, rfl⟩
      go_wp2_with fail
      refine (HP.out _).mono ?_
      rintro e w2 ⟨rfl, rfl⟩
      clear HP HI
      go_wp2_with fail
      go_loopw [1] (fun v wr => ∃ (k : Nat) (t : List UInt8), k ≤ s.size ∧ v = .int .i64 k ∧ UnB w2 wr t ∧ t.length ≤ k ∧ Hid (txR (s.data.toList.drop k) k t = RR)) (fun v _ => s.size - (intOf v).toNat)
      case atStart => exact ⟨f0 + 2, [], by omega, rfl, HN0.out _, by simp, HX⟩
      case round =>
        obtain ⟨k, t, hk, rfl, hB, htk, HE⟩ := hrel
        clear HX HN0 a2 b0 b1
        have R0 := hideT hB
        clear hB
        by_cases hlt : k < s.size
        · have i1 : (k : Int) < (s.size : Int) := by omega
          have i2 : (0 : Int) ≤ (k : Int) := by omega
          by_cases h10 : s[k]'hlt = 10
          · have c1 := eq_val (z := 10) rfl h10
            have HN := hideT (show RR = (t ++ [10], k + 1, 0) by rw [← HE.out, tx_line (l := s.data.toList) (k := k) hlt h10])
            have HY := hideT (show insN s.size ((k : Int) + 1) = k + 1 by unfold insN; omega)
            clear h10 HE
            go_wp2_with fail
            refine (put_any R0.out (by omega) 10 _ rfl).mono ?_
            rintro e w3 ⟨rfl, hb2⟩
            have B2 := hideT hb2
            clear hb2
            go_wp2_with fail
            refine (str_any B2.out).mono ?_
            rintro e w4 ⟨rfl, hb3⟩
            have B3 := hideT hb3
            clear hb3
            go_wp2_with fail
            refine (HW.out _ _).mono ?_
            rintro e w5 ⟨rfl, rfl⟩
            rw [HY.out]
            go_wp2
            go_ret3
            exact ⟨by rw [HN.out]; rfl, B3.out⟩
          · have c1 := ne_val (z := 10) rfl h10
            by_cases h92 : s[k]'hlt = 92
            · have c2 := beq_val (z := 92) rfl h92
              by_cases hlt2 : k + 1 < s.size
              · have j1 : (0 : Int) ≤ (k : Int) + 1 := by omega
                have j2 : (k : Int) + 1 < (s.size : Int) := by omega
                have j3 : ((k : Int) + 1 == (s.size : Int)) = false := by rw [beq_eq_false_iff_ne]; omega
                have HN := hideT (show txR (s.data.toList.drop (k + 2)) (k + 2) (t ++ [s[k + 1]'hlt2]) = RR by rw [← HE.out, tx_pair (l := s.data.toList) (k := k) hlt2 h92]; rfl)
                clear h10 h92 HE
                go_wp2_with fail
                refine (put_any R0.out (by omega) (s[k + 1]'hlt2) _ rfl).mono ?_
                rintro e w3 ⟨rfl, hb2⟩
                have B2 := hideT hb2
                clear hb2
                go_wp2
                exact ⟨⟨k + 2, t ++ [s[k + 1]'hlt2], by omega, by go_num, B2.out, by simp; omega, HN⟩, by simp [intOf]; omega⟩
              · have j3 : ((k : Int) + 1 == (s.size : Int)) = true := by rw [beq_iff_eq]; omega
                have HN := hideT (show RR = ([], 0, 6) by rw [← HE.out, tx_last (l := s.data.toList) (k := k) (by show k + 1 = s.size; omega) h92])
                clear h10 h92 HE
                go_wp2
                go_ret3
                exact ⟨by rw [HN.out]; rfl, R0.out.2⟩
            · have c2 := bne_val (z := 92) rfl h92
              have HN := hideT (show txR (s.data.toList.drop (k + 1)) (k + 1) (t ++ [s[k]'hlt]) = RR by rw [← HE.out, tx_step (l := s.data.toList) (k := k) hlt h10 h92]; rfl)
              clear h10 h92 HE
              go_wp2_with fail
              refine (put_any R0.out (by omega) (s[k]'hlt) _ rfl).mono ?_
              rintro e w3 ⟨rfl, hb2⟩
              have B2 := hideT hb2
              clear hb2
              go_wp2
              exact ⟨⟨k + 1, t ++ [s[k]'hlt], by omega, by go_num, B2.out, by simp; omega, HN⟩, by simp [intOf]; omega⟩
        · have i1 : ((k : Int) < (s.size : Int)) = False := by rw [eq_iff_iff, iff_false]; omega
          have HN := hideT (show RR = (t ++ [10], k, 0) by rw [← HE.out, tx_end (by show s.size ≤ k; omega)])
          have HY := hideT (show insN s.size ((k : Int) + 1) = k by unfold insN; omega)
          clear HE
          go_wp2_with fail
          refine (put_any R0.out (by omega) 10 _ rfl).mono ?_
          rintro e w3 ⟨rfl, hb2⟩
          have B2 := hideT hb2
          clear hb2
          go_wp2_with fail
          refine (str_any B2.out).mono ?_
          rintro e w4 ⟨rfl, hb3⟩
          have B3 := hideT hb3
          clear hb3
          go_wp2_with fail
          refine (HW.out _ _).mono ?_
          rintro e w5 ⟨rfl, rfl⟩
          rw [HY.out]
          go_wp2
          go_ret3
          exact ⟨by rw [HN.out]; rfl, B3.out⟩
  · have hq : (match s.data.toList.drop f0 with | b :: c :: _ => decide (b = 92 ∧ c = 10) | _ => false) = false ∧ RR = ([], 0, 19) := by
      rw [HT.out]
      match hl : s.data.toList.drop f0 with
      | [] => exact ⟨rfl, rfl⟩
      | [b] => exact ⟨rfl, rfl⟩
      | b :: c :: r =>
        have hn : ¬ (b = 92 ∧ c = 10) := by
          rintro ⟨rfl, rfl⟩
          exact hpre ⟨r, hl⟩
        exact ⟨decide_eq_false hn, if_neg hn⟩
    rw [hq.1] at HP
    have HN := hideT hq.2
    clear hq hpre
    go_enter Tryz.func83, Tryz.ntmps83
    go_wp2_with fail
    refine (HI.out _).mono ?_
    rintro e w1 ⟨rfl, rfl⟩
    go_wp2_with fail
    refine (HP.out _).mono ?_
    rintro e w2 ⟨rfl, rfl⟩
    go_wp2
    go_ret3
    exact ⟨by rw [HN.out]; rfl, Below.refl _ _⟩

end prg
end Go.Proofs.YtjfkhlmoppbbgaaGreatDoor
