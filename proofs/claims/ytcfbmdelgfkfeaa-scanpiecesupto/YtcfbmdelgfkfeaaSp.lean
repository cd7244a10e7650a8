/- scan: the walk of ScanPieces. -/
import Derived.Test.YtcfbmdelgfkfeaaSk
namespace Go.Proofs.Ytcfbmdelgfkfeaa
open Go.RowKit
open scanP

theorem conv_one (W : World) (d : UInt8) : (convert 37 9 (.slice (some ⟨W.heap.size, 0, none⟩) 1 1)).run Try.prog (W.alloc (.cells #[.int .u8 (d.toNat : Nat)] 5)) = .ok (.string (bst [d])) (W.alloc (.cells #[.int .u8 (d.toNat : Nat)] 5)) := by
  have h3 := run_convert_bytes_arg (P := Try.prog) (W.alloc (.cells #[.int .u8 (d.toNat : Nat)] 5)) 37 5 Try.underlying37 Try.underlying5 W.heap.size 0 1 1 [(d.toNat : Int)] rfl (fun i hi => by obtain rfl : i = 0 := (by omega); rw [World.cell?, heap_alloc_new]; rfl) 9 Try.underlying9
  rw [h3]
  have e : strOfNums [(d.toNat : Int)] = bst [d] := by
    simp [strOfNums, bst]
  rw [e]
def keepL (l : List UInt8) : List UInt8 := l.filter fun b => decide (b ≠ 10) && decide (b ≠ 92)
def plainL (d : UInt8) (l : List UInt8) : List UInt8 := (keepL l).filter fun b => decide (b ≠ d)
theorem keep_drop (l : List UInt8) (b : UInt8) (h : b = 10 ∨ b = 92) : keepL (l ++ [b]) = keepL l := by
  unfold keepL
  rw [List.filter_append]
  rcases h with rfl | rfl <;> simp
theorem keep_snoc (l : List UInt8) (b : UInt8) (h1 : b ≠ 10) (h2 : b ≠ 92) : keepL (l ++ [b]) = keepL l ++ [b] := by
  unfold keepL
  rw [List.filter_append]
  simp [h1, h2]
theorem plain_drop (d : UInt8) (l : List UInt8) (b : UInt8) (h : b = 10 ∨ b = 92) : plainL d (l ++ [b]) = plainL d l := by
  unfold plainL
  rw [keep_drop l b h]
theorem plain_same (d : UInt8) (l : List UInt8) (b : UInt8) (h1 : b ≠ 10) (h2 : b ≠ 92) (h3 : b = d) : plainL d (l ++ [b]) = plainL d l := by
  unfold plainL
  rw [keep_snoc l b h1 h2, List.filter_append]
  simp [h3]
theorem plain_snoc (d : UInt8) (l : List UInt8) (b : UInt8) (h1 : b ≠ 10) (h2 : b ≠ 92) (h3 : b ≠ d) : plainL d (l ++ [b]) = plainL d l ++ [b] := by
  unfold plainL
  rw [keep_snoc l b h1 h2, List.filter_append]
  simp [h3]
theorem mark_snoc (l : List UInt8) (b : UInt8) : markL (l ++ [b]) = markL l ++ [92, b] := by simp [markL]
theorem want_snoc (d : UInt8) (l : List UInt8) (b : UInt8) : wantL d (l ++ [b]) = wantL d l ++ ((if keptB d b then [92] else []) ++ [b]) := by simp [wantL]
theorem keep_le (l : List UInt8) : (keepL l).length ≤ l.length := List.length_filter_le _ _
theorem plain_le (d : UInt8) (l : List UInt8) : (plainL d l).length ≤ l.length := Nat.le_trans (List.length_filter_le _ _) (keep_le l)
theorem mark_le (l : List UInt8) : (markL l).length = 2 * l.length := by
  induction l with
  | nil => rfl
  | cons b r ih =>
    have e : markL (b :: r) = [92, b] ++ markL r := by simp [markL]
    rw [e, List.length_append, ih, List.length_cons]
    simp
    omega
theorem want_le (d : UInt8) (l : List UInt8) : (wantL d l).length ≤ 2 * l.length := by
  induction l with
  | nil => simp [wantL]
  | cons b r ih =>
    have e : wantL d (b :: r) = ((if keptB d b then [92] else []) ++ [b]) ++ wantL d r := by simp [wantL]
    rw [e, List.length_append, List.length_cons, List.length_append]
    split <;> simp <;> omega
theorem plain_mem (d : UInt8) (l : List UInt8) : ∀ b ∈ plainL d l, b ≠ 92 ∧ b ≠ 10 ∧ b ≠ d := by
  intro b hb
  unfold plainL keepL at hb
  rw [List.mem_filter, List.mem_filter] at hb
  simp at hb
  exact ⟨hb.1.2.2, hb.1.2.1, hb.2⟩
theorem str_eq (a b : UInt8) (h : a = b) : ((bst [a]).toList == (bst [b]).toList) = true ∧ ((bst [a]).toList = (bst [b]).toList) = True := by
  rw [h]
  exact ⟨beq_self_eq_true _, eq_self _⟩
theorem str_ne (a b : UInt8) (h : a ≠ b) : ((bst [a]).toList == (bst [b]).toList) = false ∧ ((bst [a]).toList = (bst [b]).toList) = False := by
  have e : (bst [a]).toList ≠ (bst [b]).toList := by
    rw [ByteArray.toList_eq, ByteArray.toList_eq, bst_list, bst_list]
    intro e
    exact h (List.cons.inj e).1
  exact ⟨by rw [beq_eq_false_iff_ne]; exact e, by rw [eq_iff_iff, iff_false]; exact e⟩
theorem cat_one (l : List UInt8) (b : UInt8) : bst l ++ bst [b] = bst (l ++ [b]) := bst_app _ _
theorem cat_two (l : List UInt8) (b : UInt8) : bst l ++ ((⟨#[92]⟩ : ByteArray) ++ bst [b]) = bst (l ++ [92, b]) := by
  rw [show (⟨#[92]⟩ : ByteArray) = bst [92] from rfl, bst_app, bst_app]
  rfl

set_option maxRecDepth 100000 in
set_option maxHeartbeats 4000000 in
theorem pieces_walk (f s tl : ByteArray) (d : UInt8) (hs : f.size + s.size + tl.size ≤ 1048576) (w : World) : Calls Try.prog 6 #[.string f, .string s, .string tl, .int .u8 (d.toNat : Nat)] w fun e w' => e = .returned (.bool true) ∧ Below w.heap.size w w' := by
  have AW := hideT awake_any
  by_cases h10 : d = 10
  · have x1 := beq_val (z := 10) rfl h10
    clear h10
    go_enter Try.func6, Try.ntmps6
    go_wp2_with fail
    refine (AW.out _).mono ?_
    rintro e w1 ⟨rfl, hb1⟩
    have B1 := hideT hb1
    clear hb1
    go_wp2_with fail
    refine (AW.out _).mono ?_
    rintro e w2 ⟨rfl, hb2⟩
    have B2 := hideT (B1.out.trans (hb2.mono B1.out.size))
    clear hb2
    go_wp2
    go_ret
    exact ⟨rfl, B2.out⟩
  · have x1 := bne_val (z := 10) rfl h10
    by_cases h92 : d = 92
    · have x2 := beq_val (z := 92) rfl h92
      clear h10 h92
      go_enter Try.func6, Try.ntmps6
      go_wp2_with fail
      refine (AW.out _).mono ?_
      rintro e w1 ⟨rfl, hb1⟩
      have B1 := hideT hb1
      clear hb1
      go_wp2_with fail
      refine (AW.out _).mono ?_
      rintro e w2 ⟨rfl, hb2⟩
      have B2 := hideT (B1.out.trans (hb2.mono B1.out.size))
      clear hb2
      go_wp2
      go_ret
      exact ⟨rfl, B2.out⟩
    · have x2 := bne_val (z := 92) rfl h92
      have H10 := hideT h10
      have H92 := hideT h92
      clear h10 h92
      go_enter Try.func6, Try.ntmps6
      go_wp2_with fail
      refine (AW.out _).mono ?_
      rintro e w1 ⟨rfl, hb1⟩
      have B1 := hideT hb1
      clear hb1
      have cv := conv_one w1 d
      have B2 := hideT (B1.out.trans (((Below.refl w1.heap.size w1).alloc (Nat.le_refl _) (.cells #[.int .u8 (d.toNat : Nat)] 5)).mono B1.out.size))
      go_wp2_with fail
      clear cv x1 x2
      generalize hW1 : w1.alloc (.cells #[.int .u8 (d.toNat : Nat)] 5) = W1 at *
      clear hW1
      go_loopw [10, 11, 12, 13] (fun pv mv wv v wr => ∃ j : Nat, j ≤ s.size ∧ pv = .string (bst (plainL d (s.data.toList.take j))) ∧ mv = .string (bst (markL (keepL (s.data.toList.take j)))) ∧ wv = .string (bst (wantL d (keepL (s.data.toList.take j)))) ∧ v = .int .i64 j ∧ wr = W1) (fun _ _ _ v _ => s.size - (intOf v).toNat)
      case atStart => exact ⟨0, by omega, rfl, rfl, rfl, rfl, rfl⟩
      case round =>
        obtain ⟨j, hj, rfl, rfl, rfl, rfl, rfl⟩ := hrel
        by_cases hlt : j < s.size
        · have i1 : (j : Int) < (s.size : Int) := by omega
          have i2 : (0 : Int) ≤ (j : Int) := by omega
          have i3 : (j : Int) + 1 ≤ (s.size : Int) := by omega
          have i4 : (j : Int) ≤ (j : Int) + 1 := by omega
          have hx := ext_one s j hlt
          by_cases h10 : s[j]'hlt = 10
          · have c1 := beq_val (z := 10) rfl h10
            have HK := hideT (And.intro (show plainL d (s.data.toList.take (j + 1)) = plainL d (s.data.toList.take j) by rw [take_snocB s j hlt, plain_drop _ _ _ (.inl h10)]) (show keepL (s.data.toList.take (j + 1)) = keepL (s.data.toList.take j) by rw [take_snocB s j hlt, keep_drop _ _ (.inl h10)]))
            clear h10
            go_wp2
            exact ⟨⟨j + 1, by omega, by rw [HK.out.1], by rw [HK.out.2], by rw [HK.out.2], by go_num, by simp⟩, by simp [intOf]; omega⟩
          · have c1 := bne_val (z := 10) rfl h10
            by_cases h92 : s[j]'hlt = 92
            · have c2 := beq_val (z := 92) rfl h92
              have HK := hideT (And.intro (show plainL d (s.data.toList.take (j + 1)) = plainL d (s.data.toList.take j) by rw [take_snocB s j hlt, plain_drop _ _ _ (.inr h92)]) (show keepL (s.data.toList.take (j + 1)) = keepL (s.data.toList.take j) by rw [take_snocB s j hlt, keep_drop _ _ (.inr h92)]))
              clear h10 h92
              go_wp2
              exact ⟨⟨j + 1, by omega, by rw [HK.out.1], by rw [HK.out.2], by rw [HK.out.2], by go_num, by simp⟩, by simp [intOf]; omega⟩
            · have c2 := bne_val (z := 92) rfl h92
              have hsz : s.data.toList.length = s.size := rfl
              have hpl := plain_le d (s.data.toList.take j)
              have hkl := keep_le (s.data.toList.take j)
              have hml := mark_le (keepL (s.data.toList.take j))
              have hwl := want_le d (keepL (s.data.toList.take j))
              rw [List.length_take] at hpl hkl
              have z0 : (bst [s[j]'hlt]).size = 1 := by rw [bst_size]; rfl
              have z1 := bst_size (plainL d (s.data.toList.take j))
              have z2 := bst_size (markL (keepL (s.data.toList.take j)))
              have z3 := bst_size (wantL d (keepL (s.data.toList.take j)))
              have q1 : (9223372036854775807 < 1 + (bst [s[j]'hlt]).size) = False := by rw [eq_iff_iff, iff_false]; omega
              have q2 : (9223372036854775807 < (bst (markL (keepL (s.data.toList.take j)))).size + (1 + (bst [s[j]'hlt]).size)) = False := by rw [eq_iff_iff, iff_false]; omega
              have q3 : (9223372036854775807 < (bst (plainL d (s.data.toList.take j))).size + (bst [s[j]'hlt]).size) = False := by rw [eq_iff_iff, iff_false]; omega
              have q4 : (9223372036854775807 < (bst (wantL d (keepL (s.data.toList.take j)))).size + (1 + (bst [s[j]'hlt]).size)) = False := by rw [eq_iff_iff, iff_false]; omega
              have q5 : (9223372036854775807 < (bst (wantL d (keepL (s.data.toList.take j)))).size + (bst [s[j]'hlt]).size) = False := by rw [eq_iff_iff, iff_false]; omega
              clear hpl hkl hml hwl z0 z1 z2 z3
              have htk := take_snocB s j hlt
              by_cases hd : s[j]'hlt = d
              · by_cases y0 : d = 46
                · obtain ⟨e1, e2⟩ := str_eq (s[j]'hlt) d hd
                  have hk : (decide (s[j]'hlt ≠ d) || prg.specB d) = true := by rw [y0]; simp [prg.specB]
                  have m0 := eq_val (z := 46) rfl y0
                  have hpp : bst (plainL d (s.data.toList.take (j + 1))) = bst (plainL d (s.data.toList.take j)) := by rw [htk, plain_same d _ _ h10 h92 hd]
                  have HPP := hideT hpp
                  clear hpp
                  have am : bst (markL (keepL (s.data.toList.take j))) ++ ((⟨#[92]⟩ : ByteArray) ++ bst [s[j]'hlt]) = bst (markL (keepL (s.data.toList.take (j + 1)))) := by rw [cat_two, htk, keep_snoc _ _ h10 h92, mark_snoc]
                  have aw : bst (wantL d (keepL (s.data.toList.take j))) ++ ((⟨#[92]⟩ : ByteArray) ++ bst [s[j]'hlt]) = bst (wantL d (keepL (s.data.toList.take (j + 1)))) := by rw [cat_two, htk, keep_snoc _ _ h10 h92, want_snoc, prg.kept_eq, hk]; rfl
                  clear hk htk hd h10 h92 y0
                  generalize hF1 : bst (plainL d (s.data.toList.take (j + 1))) = f1 at *
                  generalize hF2 : bst (markL (keepL (s.data.toList.take (j + 1)))) = f2 at *
                  generalize hF3 : bst (wantL d (keepL (s.data.toList.take (j + 1)))) = f3 at *
                  have HF := hideT (And.intro hF1 (And.intro hF2 hF3))
                  clear hF1 hF2 hF3
                  generalize bst (plainL d (s.data.toList.take j)) = p1 at *
                  generalize bst (markL (keepL (s.data.toList.take j))) = p2 at *
                  generalize bst (wantL d (keepL (s.data.toList.take j))) = p3 at *
                  generalize bst [s[j]'hlt] = g1 at *
                  generalize bst [d] = dd at *
                  go_wp2
                  exact ⟨⟨j + 1, by omega, by rw [HF.out.1]; rw [HPP.out], by rw [HF.out.2.1], by rw [HF.out.2.2], by go_num, by simp⟩, by simp [intOf]; omega⟩
                · have n0 : d ≠ 46 := y0
                  clear y0
                  by_cases y1 : d = 91
                  · obtain ⟨e1, e2⟩ := str_eq (s[j]'hlt) d hd
                    have hk : (decide (s[j]'hlt ≠ d) || prg.specB d) = true := by rw [y1]; simp [prg.specB]
                    have m0 := ne_val (z := 46) rfl n0
                    have m1 := eq_val (z := 91) rfl y1
                    have hpp : bst (plainL d (s.data.toList.take (j + 1))) = bst (plainL d (s.data.toList.take j)) := by rw [htk, plain_same d _ _ h10 h92 hd]
                    have HPP := hideT hpp
                    clear hpp
                    have am : bst (markL (keepL (s.data.toList.take j))) ++ ((⟨#[92]⟩ : ByteArray) ++ bst [s[j]'hlt]) = bst (markL (keepL (s.data.toList.take (j + 1)))) := by rw [cat_two, htk, keep_snoc _ _ h10 h92, mark_snoc]
                    have aw : bst (wantL d (keepL (s.data.toList.take j))) ++ ((⟨#[92]⟩ : ByteArray) ++ bst [s[j]'hlt]) = bst (wantL d (keepL (s.data.toList.take (j + 1)))) := by rw [cat_two, htk, keep_snoc _ _ h10 h92, want_snoc, prg.kept_eq, hk]; rfl
                    clear hk htk hd h10 h92 y1 n0
                    generalize hF1 : bst (plainL d (s.data.toList.take (j + 1))) = f1 at *
                    generalize hF2 : bst (markL (keepL (s.data.toList.take (j + 1)))) = f2 at *
                    generalize hF3 : bst (wantL d (keepL (s.data.toList.take (j + 1)))) = f3 at *
                    have HF := hideT (And.intro hF1 (And.intro hF2 hF3))
                    clear hF1 hF2 hF3
                    generalize bst (plainL d (s.data.toList.take j)) = p1 at *
                    generalize bst (markL (keepL (s.data.toList.take j))) = p2 at *
                    generalize bst (wantL d (keepL (s.data.toList.take j))) = p3 at *
                    generalize bst [s[j]'hlt] = g1 at *
                    generalize bst [d] = dd at *
                    go_wp2
                    exact ⟨⟨j + 1, by omega, by rw [HF.out.1]; rw [HPP.out], by rw [HF.out.2.1], by rw [HF.out.2.2], by go_num, by simp⟩, by simp [intOf]; omega⟩
                  · have n1 : d ≠ 91 := y1
                    clear y1
                    by_cases y2 : d = 42
                    · obtain ⟨e1, e2⟩ := str_eq (s[j]'hlt) d hd
                      have hk : (decide (s[j]'hlt ≠ d) || prg.specB d) = true := by rw [y2]; simp [prg.specB]
                      have m0 := ne_val (z := 46) rfl n0
                      have m1 := ne_val (z := 91) rfl n1
                      have m2 := eq_val (z := 42) rfl y2
                      have hpp : bst (plainL d (s.data.toList.take (j + 1))) = bst (plainL d (s.data.toList.take j)) := by rw [htk, plain_same d _ _ h10 h92 hd]
                      have HPP := hideT hpp
                      clear hpp
                      have am : bst (markL (keepL (s.data.toList.take j))) ++ ((⟨#[92]⟩ : ByteArray) ++ bst [s[j]'hlt]) = bst (markL (keepL (s.data.toList.take (j + 1)))) := by rw [cat_two, htk, keep_snoc _ _ h10 h92, mark_snoc]
                      have aw : bst (wantL d (keepL (s.data.toList.take j))) ++ ((⟨#[92]⟩ : ByteArray) ++ bst [s[j]'hlt]) = bst (wantL d (keepL (s.data.toList.take (j + 1)))) := by rw [cat_two, htk, keep_snoc _ _ h10 h92, want_snoc, prg.kept_eq, hk]; rfl
                      clear hk htk hd h10 h92 y2 n0 n1
                      generalize hF1 : bst (plainL d (s.data.toList.take (j + 1))) = f1 at *
                      generalize hF2 : bst (markL (keepL (s.data.toList.take (j + 1)))) = f2 at *
                      generalize hF3 : bst (wantL d (keepL (s.data.toList.take (j + 1)))) = f3 at *
                      have HF := hideT (And.intro hF1 (And.intro hF2 hF3))
                      clear hF1 hF2 hF3
                      generalize bst (plainL d (s.data.toList.take j)) = p1 at *
                      generalize bst (markL (keepL (s.data.toList.take j))) = p2 at *
                      generalize bst (wantL d (keepL (s.data.toList.take j))) = p3 at *
                      generalize bst [s[j]'hlt] = g1 at *
                      generalize bst [d] = dd at *
                      go_wp2
                      exact ⟨⟨j + 1, by omega, by rw [HF.out.1]; rw [HPP.out], by rw [HF.out.2.1], by rw [HF.out.2.2], by go_num, by simp⟩, by simp [intOf]; omega⟩
                    · have n2 : d ≠ 42 := y2
                      clear y2
                      by_cases y3 : d = 94
                      · obtain ⟨e1, e2⟩ := str_eq (s[j]'hlt) d hd
                        have hk : (decide (s[j]'hlt ≠ d) || prg.specB d) = true := by rw [y3]; simp [prg.specB]
                        have m0 := ne_val (z := 46) rfl n0
                        have m1 := ne_val (z := 91) rfl n1
                        have m2 := ne_val (z := 42) rfl n2
                        have m3 := eq_val (z := 94) rfl y3
                        have hpp : bst (plainL d (s.data.toList.take (j + 1))) = bst (plainL d (s.data.toList.take j)) := by rw [htk, plain_same d _ _ h10 h92 hd]
                        have HPP := hideT hpp
                        clear hpp
                        have am : bst (markL (keepL (s.data.toList.take j))) ++ ((⟨#[92]⟩ : ByteArray) ++ bst [s[j]'hlt]) = bst (markL (keepL (s.data.toList.take (j + 1)))) := by rw [cat_two, htk, keep_snoc _ _ h10 h92, mark_snoc]
                        have aw : bst (wantL d (keepL (s.data.toList.take j))) ++ ((⟨#[92]⟩ : ByteArray) ++ bst [s[j]'hlt]) = bst (wantL d (keepL (s.data.toList.take (j + 1)))) := by rw [cat_two, htk, keep_snoc _ _ h10 h92, want_snoc, prg.kept_eq, hk]; rfl
                        clear hk htk hd h10 h92 y3 n0 n1 n2
                        generalize hF1 : bst (plainL d (s.data.toList.take (j + 1))) = f1 at *
                        generalize hF2 : bst (markL (keepL (s.data.toList.take (j + 1)))) = f2 at *
                        generalize hF3 : bst (wantL d (keepL (s.data.toList.take (j + 1)))) = f3 at *
                        have HF := hideT (And.intro hF1 (And.intro hF2 hF3))
                        clear hF1 hF2 hF3
                        generalize bst (plainL d (s.data.toList.take j)) = p1 at *
                        generalize bst (markL (keepL (s.data.toList.take j))) = p2 at *
                        generalize bst (wantL d (keepL (s.data.toList.take j))) = p3 at *
                        generalize bst [s[j]'hlt] = g1 at *
                        generalize bst [d] = dd at *
                        go_wp2
                        exact ⟨⟨j + 1, by omega, by rw [HF.out.1]; rw [HPP.out], by rw [HF.out.2.1], by rw [HF.out.2.2], by go_num, by simp⟩, by simp [intOf]; omega⟩
                      · have n3 : d ≠ 94 := y3
                        clear y3
                        by_cases y4 : d = 36
                        · obtain ⟨e1, e2⟩ := str_eq (s[j]'hlt) d hd
                          have hk : (decide (s[j]'hlt ≠ d) || prg.specB d) = true := by rw [y4]; simp [prg.specB]
                          have m0 := ne_val (z := 46) rfl n0
                          have m1 := ne_val (z := 91) rfl n1
                          have m2 := ne_val (z := 42) rfl n2
                          have m3 := ne_val (z := 94) rfl n3
                          have m4 := eq_val (z := 36) rfl y4
                          have hpp : bst (plainL d (s.data.toList.take (j + 1))) = bst (plainL d (s.data.toList.take j)) := by rw [htk, plain_same d _ _ h10 h92 hd]
                          have HPP := hideT hpp
                          clear hpp
                          have am : bst (markL (keepL (s.data.toList.take j))) ++ ((⟨#[92]⟩ : ByteArray) ++ bst [s[j]'hlt]) = bst (markL (keepL (s.data.toList.take (j + 1)))) := by rw [cat_two, htk, keep_snoc _ _ h10 h92, mark_snoc]
                          have aw : bst (wantL d (keepL (s.data.toList.take j))) ++ ((⟨#[92]⟩ : ByteArray) ++ bst [s[j]'hlt]) = bst (wantL d (keepL (s.data.toList.take (j + 1)))) := by rw [cat_two, htk, keep_snoc _ _ h10 h92, want_snoc, prg.kept_eq, hk]; rfl
                          clear hk htk hd h10 h92 y4 n0 n1 n2 n3
                          generalize hF1 : bst (plainL d (s.data.toList.take (j + 1))) = f1 at *
                          generalize hF2 : bst (markL (keepL (s.data.toList.take (j + 1)))) = f2 at *
                          generalize hF3 : bst (wantL d (keepL (s.data.toList.take (j + 1)))) = f3 at *
                          have HF := hideT (And.intro hF1 (And.intro hF2 hF3))
                          clear hF1 hF2 hF3
                          generalize bst (plainL d (s.data.toList.take j)) = p1 at *
                          generalize bst (markL (keepL (s.data.toList.take j))) = p2 at *
                          generalize bst (wantL d (keepL (s.data.toList.take j))) = p3 at *
                          generalize bst [s[j]'hlt] = g1 at *
                          generalize bst [d] = dd at *
                          go_wp2
                          exact ⟨⟨j + 1, by omega, by rw [HF.out.1]; rw [HPP.out], by rw [HF.out.2.1], by rw [HF.out.2.2], by go_num, by simp⟩, by simp [intOf]; omega⟩
                        · have n4 : d ≠ 36 := y4
                          clear y4
                          by_cases y5 : d = 38
                          · obtain ⟨e1, e2⟩ := str_eq (s[j]'hlt) d hd
                            have hk : (decide (s[j]'hlt ≠ d) || prg.specB d) = true := by rw [y5]; simp [prg.specB]
                            have m0 := ne_val (z := 46) rfl n0
                            have m1 := ne_val (z := 91) rfl n1
                            have m2 := ne_val (z := 42) rfl n2
                            have m3 := ne_val (z := 94) rfl n3
                            have m4 := ne_val (z := 36) rfl n4
                            have m5 := eq_val (z := 38) rfl y5
                            have hpp : bst (plainL d (s.data.toList.take (j + 1))) = bst (plainL d (s.data.toList.take j)) := by rw [htk, plain_same d _ _ h10 h92 hd]
                            have HPP := hideT hpp
                            clear hpp
                            have am : bst (markL (keepL (s.data.toList.take j))) ++ ((⟨#[92]⟩ : ByteArray) ++ bst [s[j]'hlt]) = bst (markL (keepL (s.data.toList.take (j + 1)))) := by rw [cat_two, htk, keep_snoc _ _ h10 h92, mark_snoc]
                            have aw : bst (wantL d (keepL (s.data.toList.take j))) ++ ((⟨#[92]⟩ : ByteArray) ++ bst [s[j]'hlt]) = bst (wantL d (keepL (s.data.toList.take (j + 1)))) := by rw [cat_two, htk, keep_snoc _ _ h10 h92, want_snoc, prg.kept_eq, hk]; rfl
                            clear hk htk hd h10 h92 y5 n0 n1 n2 n3 n4
                            generalize hF1 : bst (plainL d (s.data.toList.take (j + 1))) = f1 at *
                            generalize hF2 : bst (markL (keepL (s.data.toList.take (j + 1)))) = f2 at *
                            generalize hF3 : bst (wantL d (keepL (s.data.toList.take (j + 1)))) = f3 at *
                            have HF := hideT (And.intro hF1 (And.intro hF2 hF3))
                            clear hF1 hF2 hF3
                            generalize bst (plainL d (s.data.toList.take j)) = p1 at *
                            generalize bst (markL (keepL (s.data.toList.take j))) = p2 at *
                            generalize bst (wantL d (keepL (s.data.toList.take j))) = p3 at *
                            generalize bst [s[j]'hlt] = g1 at *
                            generalize bst [d] = dd at *
                            go_wp2
                            exact ⟨⟨j + 1, by omega, by rw [HF.out.1]; rw [HPP.out], by rw [HF.out.2.1], by rw [HF.out.2.2], by go_num, by simp⟩, by simp [intOf]; omega⟩
                          · have n5 : d ≠ 38 := y5
                            clear y5
                            obtain ⟨e1, e2⟩ := str_eq (s[j]'hlt) d hd
                            have hk : (decide (s[j]'hlt ≠ d) || prg.specB d) = false := by rw [decide_eq_false (fun h => h hd), Bool.false_or]; unfold prg.specB; simp [n0, n1, n2, n3, n4, n5]
                            have m0 := ne_val (z := 46) rfl n0
                            have m1 := ne_val (z := 91) rfl n1
                            have m2 := ne_val (z := 42) rfl n2
                            have m3 := ne_val (z := 94) rfl n3
                            have m4 := ne_val (z := 36) rfl n4
                            have m5 := ne_val (z := 38) rfl n5
                            have hpp : bst (plainL d (s.data.toList.take (j + 1))) = bst (plainL d (s.data.toList.take j)) := by rw [htk, plain_same d _ _ h10 h92 hd]
                            have HPP := hideT hpp
                            clear hpp
                            have am : bst (markL (keepL (s.data.toList.take j))) ++ ((⟨#[92]⟩ : ByteArray) ++ bst [s[j]'hlt]) = bst (markL (keepL (s.data.toList.take (j + 1)))) := by rw [cat_two, htk, keep_snoc _ _ h10 h92, mark_snoc]
                            have aw : bst (wantL d (keepL (s.data.toList.take j))) ++ bst [s[j]'hlt] = bst (wantL d (keepL (s.data.toList.take (j + 1)))) := by rw [cat_one, htk, keep_snoc _ _ h10 h92, want_snoc, prg.kept_eq, hk]; rfl
                            clear hk htk hd h10 h92 n0 n1 n2 n3 n4 n5
                            generalize hF1 : bst (plainL d (s.data.toList.take (j + 1))) = f1 at *
                            generalize hF2 : bst (markL (keepL (s.data.toList.take (j + 1)))) = f2 at *
                            generalize hF3 : bst (wantL d (keepL (s.data.toList.take (j + 1)))) = f3 at *
                            have HF := hideT (And.intro hF1 (And.intro hF2 hF3))
                            clear hF1 hF2 hF3
                            generalize bst (plainL d (s.data.toList.take j)) = p1 at *
                            generalize bst (markL (keepL (s.data.toList.take j))) = p2 at *
                            generalize bst (wantL d (keepL (s.data.toList.take j))) = p3 at *
                            generalize bst [s[j]'hlt] = g1 at *
                            generalize bst [d] = dd at *
                            go_wp2
                            exact ⟨⟨j + 1, by omega, by rw [HF.out.1]; rw [HPP.out], by rw [HF.out.2.1], by rw [HF.out.2.2], by go_num, by simp⟩, by simp [intOf]; omega⟩
              · obtain ⟨e1, e2⟩ := str_ne (s[j]'hlt) d hd
                have hk : (decide (s[j]'hlt ≠ d) || prg.specB d) = true := by rw [decide_eq_true hd]; rfl
                have ap : bst (plainL d (s.data.toList.take j)) ++ bst [s[j]'hlt] = bst (plainL d (s.data.toList.take (j + 1))) := by rw [cat_one, htk, plain_snoc d _ _ h10 h92 hd]
                have am : bst (markL (keepL (s.data.toList.take j))) ++ ((⟨#[92]⟩ : ByteArray) ++ bst [s[j]'hlt]) = bst (markL (keepL (s.data.toList.take (j + 1)))) := by rw [cat_two, htk, keep_snoc _ _ h10 h92, mark_snoc]
                have aw : bst (wantL d (keepL (s.data.toList.take j))) ++ ((⟨#[92]⟩ : ByteArray) ++ bst [s[j]'hlt]) = bst (wantL d (keepL (s.data.toList.take (j + 1)))) := by rw [cat_two, htk, keep_snoc _ _ h10 h92, want_snoc, prg.kept_eq, hk]; rfl
                clear hk htk hd h10 h92
                generalize hF1 : bst (plainL d (s.data.toList.take (j + 1))) = f1 at *
                generalize hF2 : bst (markL (keepL (s.data.toList.take (j + 1)))) = f2 at *
                generalize hF3 : bst (wantL d (keepL (s.data.toList.take (j + 1)))) = f3 at *
                have HF := hideT (And.intro hF1 (And.intro hF2 hF3))
                clear hF1 hF2 hF3
                generalize bst (plainL d (s.data.toList.take j)) = p1 at *
                generalize bst (markL (keepL (s.data.toList.take j))) = p2 at *
                generalize bst (wantL d (keepL (s.data.toList.take j))) = p3 at *
                generalize bst [s[j]'hlt] = g1 at *
                generalize bst [d] = dd at *
                go_wp2
                exact ⟨⟨j + 1, by omega, by rw [HF.out.1], by rw [HF.out.2.1], by rw [HF.out.2.2], by go_num, by simp⟩, by simp [intOf]; omega⟩
        · obtain rfl : j = s.size := by omega
          have i1 : ((s.size : Int) < (s.size : Int)) = False := by rw [eq_iff_iff, iff_false]; omega
          rw [List.take_of_length_le (show s.data.toList.length ≤ s.size from Nat.le_refl _)]
          have hsz : s.data.toList.length = s.size := rfl
          have hfz : f.data.toList.length = f.size := rfl
          have htz : tl.data.toList.length = tl.size := rfl
          have hpl := plain_le d s.data.toList
          have hkl := keep_le s.data.toList
          have hml := mark_le (keepL s.data.toList)
          obtain ⟨P, hP⟩ : ∃ P, P = plainL d s.data.toList := ⟨_, rfl⟩
          obtain ⟨M, hM⟩ : ∃ M, M = markL (keepL s.data.toList) := ⟨_, rfl⟩
          obtain ⟨WN, hWN⟩ : ∃ M, M = wantL d (keepL s.data.toList) := ⟨_, rfl⟩
          have uP : unR d false (P ++ d :: tl.data.toList) f.size [] = (P, f.size + P.length + 1, 0) := by
            rw [un_plain d false _ P _ _ (by rw [hP]; exact plain_mem d _), List.nil_append]
          have uM : unR d true (M ++ d :: tl.data.toList) f.size [] = (WN, f.size + M.length + 1, 0) := by
            rw [hM, un_mark d H92.out, hWN, List.nil_append]
          rw [← hP] at hpl ⊢
          rw [← hM] at hml ⊢
          rw [← hWN]
          have CP := prg.until_doc (bst (f.data.toList ++ P ++ [d] ++ tl.data.toList)) (f.size : Nat) d false (by rw [bst_size]; simp only [List.length_append, List.length_singleton]; omega)
          have CM := prg.until_doc (bst (f.data.toList ++ M ++ [d] ++ tl.data.toList)) (f.size : Nat) d true (by rw [bst_size]; simp only [List.length_append, List.length_singleton]; omega)
          have eP : untilR (bst (f.data.toList ++ P ++ [d] ++ tl.data.toList)).data.toList (f.size : Nat) d false = (P, f.size + P.length + 1, 0) := by
            rw [bst_list, untilR, if_neg (by rintro (h | h | h | h); omega; (simp only [List.length_append] at h; omega); exact H10.out h; exact H92.out h), Int.toNat_natCast, List.append_assoc, List.append_assoc, List.drop_left' hfz]
            exact uP
          have eM : untilR (bst (f.data.toList ++ M ++ [d] ++ tl.data.toList)).data.toList (f.size : Nat) d true = (WN, f.size + M.length + 1, 0) := by
            rw [bst_list, untilR, if_neg (by rintro (h | h | h | h); omega; (simp only [List.length_append] at h; omega); exact H10.out h; exact H92.out h), Int.toNat_natCast, List.append_assoc, List.append_assoc, List.drop_left' hfz]
            exact uM
          rw [eP] at CP
          rw [eM] at CM
          have fP : ((f.size + P.length + 1 : Nat) : Int) = (f.size : Int) + ((bst P).size : Int) + 1 := by rw [bst_size]; omega
          have fM : ((f.size + M.length + 1 : Nat) : Int) = (f.size : Int) + ((bst M).size : Int) + 1 := by rw [bst_size]; omega
          simp only [fP] at CP
          simp only [fM] at CM
          have HCP := hideT CP
          have HCM := hideT CM
          have b1 : f ++ bst P = bst (f.data.toList ++ P) := by rw [← bst_app, bst_data]
          have b2 : bst (f.data.toList ++ P) ++ bst [d] = bst (f.data.toList ++ P ++ [d]) := bst_app _ _
          have b3 : bst (f.data.toList ++ P ++ [d]) ++ tl = bst (f.data.toList ++ P ++ [d] ++ tl.data.toList) := by rw [← bst_app _ tl.data.toList, bst_data]
          have d1 : f ++ bst M = bst (f.data.toList ++ M) := by rw [← bst_app, bst_data]
          have d2 : bst (f.data.toList ++ M) ++ bst [d] = bst (f.data.toList ++ M ++ [d]) := bst_app _ _
          have d3 : bst (f.data.toList ++ M ++ [d]) ++ tl = bst (f.data.toList ++ M ++ [d] ++ tl.data.toList) := by rw [← bst_app _ tl.data.toList, bst_data]
          have y1 : (9223372036854775807 < f.size + (bst P).size) = False := by rw [eq_iff_iff, iff_false, bst_size]; omega
          have y2 : (9223372036854775807 < (bst (f.data.toList ++ P)).size + (bst [d]).size) = False := by rw [eq_iff_iff, iff_false, bst_size, bst_size, List.length_append, List.length_singleton]; omega
          have y3 : (9223372036854775807 < (bst (f.data.toList ++ P ++ [d])).size + tl.size) = False := by rw [eq_iff_iff, iff_false, bst_size, List.length_append, List.length_append, List.length_singleton]; omega
          have y4 : (9223372036854775807 < f.size + (bst M).size) = False := by rw [eq_iff_iff, iff_false, bst_size]; omega
          have y5 : (9223372036854775807 < (bst (f.data.toList ++ M)).size + (bst [d]).size) = False := by rw [eq_iff_iff, iff_false, bst_size, bst_size, List.length_append, List.length_singleton]; omega
          have y6 : (9223372036854775807 < (bst (f.data.toList ++ M ++ [d])).size + tl.size) = False := by rw [eq_iff_iff, iff_false, bst_size, List.length_append, List.length_append, List.length_singleton]; omega
          have bP : ((bst P).size : Int) ≤ 4194304 := by rw [bst_size]; omega
          have bM : ((bst M).size : Int) ≤ 4194304 := by rw [bst_size]; omega
          have bF : (f.size : Int) ≤ 4194304 := by omega
          clear hP hM hWN uP uM eP eM fP fM CP CM hpl hkl hml hsz hfz htz
          generalize bst (f.data.toList ++ P ++ [d] ++ tl.data.toList) = P3 at *
          generalize bst (f.data.toList ++ P ++ [d]) = P2 at *
          generalize bst (f.data.toList ++ P) = P1 at *
          generalize bst (f.data.toList ++ M ++ [d] ++ tl.data.toList) = M3 at *
          generalize bst (f.data.toList ++ M ++ [d]) = M2 at *
          generalize bst (f.data.toList ++ M) = M1 at *
          generalize bst (P, (f.size + P.length + 1, (0 : Nat))).1 = P0 at *
          generalize bst (M, (f.size + M.length + 1, (0 : Nat))).1 = M0 at *
          generalize bst [d] = dd at *
          generalize bst (WN, (f.size + M.length + 1, (0 : Nat))).1 = W0 at *
          go_wp2_with fail
          refine (HCP.out _).mono ?_
          rintro e w2 ⟨rfl, hb2⟩
          have B3 := hideT (B2.out.trans (hb2.mono B2.out.size))
          clear hb2
          go_wp2_with fail
          refine (HCM.out _).mono ?_
          rintro e w3 ⟨rfl, hb3⟩
          have B4 := hideT (B3.out.trans (hb3.mono B3.out.size))
          clear hb3
          go_wp2
          go_ret
          exact ⟨rfl, B4.out⟩

end Go.Proofs.Ytcfbmdelgfkfeaa
