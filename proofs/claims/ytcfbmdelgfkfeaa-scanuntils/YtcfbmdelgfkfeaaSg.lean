/- scan: the document's Until. -/
import Derived.Test.YtcfbmdelgfkfeaaSd
namespace Go.Proofs.Ytcfbmdelgfkfeaa
open Go.RowKit
open scanP

/-- A byte behind a row of bytes of one's own: what is known behind it. -/
theorem grew {w W w2 : World} {v v2 : Value} {t : List UInt8} {c : UInt8} {o : Obj} {n : Nat} (hn : n = t.length + 1) (hB : Below w.heap.size w W) (ho : W.ownsRow w.heap.size 5 1 v t.length (Lib.byteCells t)) (hg : (W.alloc o).grownBy w2 v.ownBlock) (h2 : w2.ownsRow w.heap.size 5 1 v2 n (Lib.byteCells t ++ [.int .u8 (c.toNat : Nat)])) : w2.ownsRow w.heap.size 5 1 v2 (t ++ [c]).length (Lib.byteCells (t ++ [c])) ∧ Below w.heap.size w w2 := by
  subst hn
  refine ⟨by rw [cells_app, List.length_append]; exact h2, ?_⟩
  exact (hB.alloc hB.size o).grown hg (by rw [World.size_alloc]; have := hB.size; omega) (fun k hk => (owns_blk ho hk).1)

set_option maxRecDepth 100000 in
set_option maxHeartbeats 8000000 in
theorem until_run (s : ByteArray) (a0 : Nat) (d : UInt8) (ln : Bool) (ha : a0 ≤ s.size) (h10d : d ≠ 10) (h92d : d ≠ 92) (hs : s.size ≤ 140737488355000) (w : World) : Calls Try.prog 13 #[.string s, .int .i64 a0, .int .u8 (d.toNat : Nat), .bool ln] w fun e w' => e = .returned (.tuple #[.string (bst (unR d ln (s.data.toList.drop a0) a0 []).1), .int .i64 ((unR d ln (s.data.toList.drop a0) a0 []).2.1 : Nat), .int .i64 ((unR d ln (s.data.toList.drop a0) a0 []).2.2 : Nat)]) ∧ Below w.heap.size w w' := by
  obtain ⟨i0, hi0, hz0, hz1, hz2⟩ := info_parts info5
  have x1 : ((a0 : Int) < 0) = False := by rw [eq_iff_iff, iff_false]; omega
  have x2 : ((s.size : Int) < (a0 : Int)) = False := by rw [eq_iff_iff, iff_false]; omega
  have x3 := bne_val (z := 10) rfl h10d
  have x4 := bne_val (z := 92) rfl h92d
  go_enter Try.func13, Try.ntmps13
  go_wp2_with fail
  clear x1 x2 x3 x4
  go_loopw [11, 12] (fun tv v wr => ∃ (k : Nat) (t : List UInt8), k ≤ s.size ∧ v = .int .i64 k ∧ wr.ownsRow w.heap.size 5 1 tv t.length (Lib.byteCells t) ∧ Below w.heap.size w wr ∧ t.length ≤ k ∧ Hid (unR d ln (s.data.toList.drop k) k t = unR d ln (s.data.toList.drop a0) a0 [])) (fun _ v _ => s.size - (intOf v).toNat)
  case atStart => exact ⟨a0, [], ha, rfl, World.ownsRow_nil _ _ _ _, Below.refl _ _, by simp, hideT rfl⟩
  case round =>
    obtain ⟨k, t, hk, rfl, hown, hB, htk, HE⟩ := hrel
    have cv := conv_bytes hown
    have R0 := hideT (And.intro hown hB)
    clear hown hB
    by_cases hlt : k < s.size
    · have i1 : (k : Int) < (s.size : Int) := by omega
      have i2 : (0 : Int) ≤ (k : Int) := by omega
      by_cases hd : s[k]'hlt = d
      · have c1 : (((s[k]'hlt).toNat : Int) == (d.toNat : Int)) = true := by rw [hd]; simp
        have HN := hideT (show unR d ln (s.data.toList.drop a0) a0 [] = (t, k + 1, 0) by rw [← HE.out, un_hit (l := s.data.toList) (k := k) hlt (by rw [dat_at s k hlt]; exact hd)])
        clear hd
        go_wp2
        go_ret3
        exact ⟨by rw [HN.out]; rfl, R0.out.2⟩
      · have c1 : (((s[k]'hlt).toNat : Int) == (d.toNat : Int)) = false := bne_val rfl hd
        clear cv
        by_cases h10 : s[k]'hlt = 10
        · have c2 := beq_val (z := 10) rfl h10
          have HN := hideT (show unR d ln (s.data.toList.drop a0) a0 [] = ([], 0, 6) by rw [← HE.out, un_line (l := s.data.toList) (k := k) hlt (by rw [dat_at s k hlt]; exact hd) (by rw [dat_at s k hlt]; exact h10)])
          clear hd h10
          go_wp2
          go_ret3
          exact ⟨by rw [HN.out]; rfl, R0.out.2⟩
        · have c2 := bne_val (z := 10) rfl h10
          by_cases h92 : s[k]'hlt = 92
          · have c3 := eq_val (z := 92) rfl h92
            by_cases hlt2 : k + 1 < s.size
            · obtain ⟨c, hc⟩ : ∃ c, s[k + 1]'hlt2 = c := ⟨_, rfl⟩
              have j1 : (0 : Int) ≤ (k : Int) + 1 := by omega
              have j2 : (k : Int) + 1 < (s.size : Int) := by omega
              have j3 : ((k : Int) + 1 == (s.size : Int)) = false := by rw [beq_eq_false_iff_ne]; omega
              by_cases hcn : c = 10 ∧ ln = false
              · obtain ⟨hc10, hln⟩ := hcn
                have k1 := beq_val (z := 10) rfl hc10
                have HN := hideT (show unR d ln (s.data.toList.drop a0) a0 [] = ([], 0, 6) by
                  rw [← HE.out, hln, un_stop (l := s.data.toList) (k := k) hlt2 (by rw [dat_at s k hlt]; exact hd) (by rw [dat_at s k hlt]; exact h92) (by rw [dat_at s (k + 1) hlt2, hc]; exact hc10)])
                clear hd h10 h92 hc10
                subst hln
                go_wp2
                go_ret3
                exact ⟨by rw [HN.out]; rfl, R0.out.2⟩
              · have hor : c ≠ 10 ∨ ln = true := by
                  cases ln
                  · exact .inl fun h => hcn ⟨h, rfl⟩
                  · exact .inr rfl
                have HP := hideT (show unR d ln (s.data.toList.drop (k + 2)) (k + 2) (t ++ ((if keptB d c then [92] else []) ++ [c])) = unR d ln (s.data.toList.drop a0) a0 [] by
                  rw [← HE.out, un_pair (l := s.data.toList) (k := k) hlt2 (by rw [dat_at s k hlt]; exact hd) (by rw [dat_at s k hlt]; exact h92) (by rw [dat_at s (k + 1) hlt2, hc]; exact hor)]
                  rw [dat_at s (k + 1) hlt2, hc])
                have H92 := hideT h92
                clear hd h10 h92 hcn
                by_cases hc10 : c = 10
                · have hln : ln = true := by rcases hor with h | h; exact absurd hc10 h; exact h
                  have k1 := beq_val (z := 10) rfl hc10
                  have kd : ((c.toNat : Int) != (d.toNat : Int)) = true := ne_val rfl (by rw [hc10]; exact h10d.symm)
                  have HN := hideT (show unR d ln (s.data.toList.drop (k + 2)) (k + 2) (t ++ [s[k]'hlt] ++ [c]) = unR d ln (s.data.toList.drop a0) a0 [] by
                    have h := HP.out
                    rw [if_pos (by unfold keptB; rw [hc10]; simp [h10d.symm])] at h
                    rw [← h, H92.out]
                    simp)
                  clear hc10 hor
                  subst hln
                  go_wp2_with (at_builtin; refine wpList_append_lies _ rfl _ _ 37 rfl w.heap.size 5 i0 _ 1 1 undB hi0 hz0 hz1 hz2 rfl (by omega) _ (t).length (Lib.byteCells (t)) rfl (R0.out.1.alloc _) ⟨wr.heap.size, 0, none⟩ 1 1 [.int .u8 ((s[k]'hlt).toNat : Nat)] rfl rfl (fun j u hj => new_cells wr [.int .u8 ((s[k]'hlt).toNat : Nat)] 5 j u hj) (by simp [Value.oneCell']) (by omega) (by unfold maxLen; (try simp only [List.length_append, List.length_singleton]); omega) (by (try simp only [List.length_append, List.length_singleton]); omega) (by rw [World.size_alloc]; have := R0.out.2.size; omega) _ rfl ?_)
                  intro g1 cp1 w1 hown1 hgr1 _ _
                  have R1 := hideT (grew (c := s[k]'hlt) (by simp) R0.out.2 R0.out.1 hgr1 hown1)
                  clear hown1 hgr1
                  go_wp2_with (at_builtin; refine wpList_append_lies _ rfl _ _ 37 rfl w.heap.size 5 i0 _ 1 1 undB hi0 hz0 hz1 hz2 rfl (by omega) _ (t ++ [s[k]'hlt]).length (Lib.byteCells (t ++ [s[k]'hlt])) rfl (R1.out.1.alloc _) ⟨w1.heap.size, 0, none⟩ 1 1 [.int .u8 ((c).toNat : Nat)] rfl rfl (fun j u hj => new_cells w1 [.int .u8 ((c).toNat : Nat)] 5 j u hj) (by simp [Value.oneCell']) (by omega) (by unfold maxLen; (try simp only [List.length_append, List.length_singleton]); omega) (by (try simp only [List.length_append, List.length_singleton]); omega) (by rw [World.size_alloc]; have := R1.out.2.size; omega) _ rfl ?_)
                  intro g2 cp2 w2 hown2 hgr2 _ _
                  have R2 := hideT (grew (c := c) (by simp) R1.out.2 R1.out.1 hgr2 hown2)
                  clear hown2 hgr2
                  go_wp2
                  exact ⟨⟨k + 2, t ++ [s[k]'hlt] ++ [c], by omega, by go_num, R2.out.1, R2.out.2, by simp; omega, HN⟩, by simp [intOf]; omega⟩
                · have k1 := bne_val (z := 10) rfl hc10
                  clear hor hc10
                  by_cases hcd : c = d
                  · have kd : ((c.toNat : Int) != (d.toNat : Int)) = false := by rw [hcd]; simp
                    by_cases h46 : c = 46
                    · have k46 := beq_val (z := 46) rfl h46
                      have HN := hideT (show unR d ln (s.data.toList.drop (k + 2)) (k + 2) (t ++ [s[k]'hlt] ++ [c]) = unR d ln (s.data.toList.drop a0) a0 [] by
                        have h := HP.out
                        rw [if_pos (by unfold keptB; simp [h46])] at h
                        rw [← h, H92.out]
                        simp)
                      clear hcd h46
                      go_wp2_with (at_builtin; refine wpList_append_lies _ rfl _ _ 37 rfl w.heap.size 5 i0 _ 1 1 undB hi0 hz0 hz1 hz2 rfl (by omega) _ (t).length (Lib.byteCells (t)) rfl (R0.out.1.alloc _) ⟨wr.heap.size, 0, none⟩ 1 1 [.int .u8 ((s[k]'hlt).toNat : Nat)] rfl rfl (fun j u hj => new_cells wr [.int .u8 ((s[k]'hlt).toNat : Nat)] 5 j u hj) (by simp [Value.oneCell']) (by omega) (by unfold maxLen; (try simp only [List.length_append, List.length_singleton]); omega) (by (try simp only [List.length_append, List.length_singleton]); omega) (by rw [World.size_alloc]; have := R0.out.2.size; omega) _ rfl ?_)
                      intro g1 cp1 w1 hown1 hgr1 _ _
                      have R1 := hideT (grew (c := s[k]'hlt) (by simp) R0.out.2 R0.out.1 hgr1 hown1)
                      clear hown1 hgr1
                      go_wp2_with (at_builtin; refine wpList_append_lies _ rfl _ _ 37 rfl w.heap.size 5 i0 _ 1 1 undB hi0 hz0 hz1 hz2 rfl (by omega) _ (t ++ [s[k]'hlt]).length (Lib.byteCells (t ++ [s[k]'hlt])) rfl (R1.out.1.alloc _) ⟨w1.heap.size, 0, none⟩ 1 1 [.int .u8 ((c).toNat : Nat)] rfl rfl (fun j u hj => new_cells w1 [.int .u8 ((c).toNat : Nat)] 5 j u hj) (by simp [Value.oneCell']) (by omega) (by unfold maxLen; (try simp only [List.length_append, List.length_singleton]); omega) (by (try simp only [List.length_append, List.length_singleton]); omega) (by rw [World.size_alloc]; have := R1.out.2.size; omega) _ rfl ?_)
                      intro g2 cp2 w2 hown2 hgr2 _ _
                      have R2 := hideT (grew (c := c) (by simp) R1.out.2 R1.out.1 hgr2 hown2)
                      clear hown2 hgr2
                      go_wp2
                      exact ⟨⟨k + 2, t ++ [s[k]'hlt] ++ [c], by omega, by go_num, R2.out.1, R2.out.2, by simp; omega, HN⟩, by simp [intOf]; omega⟩
                    · have k46 := bne_val (z := 46) rfl h46
                      by_cases h91 : c = 91
                      · have k91 := beq_val (z := 91) rfl h91
                        have HN := hideT (show unR d ln (s.data.toList.drop (k + 2)) (k + 2) (t ++ [s[k]'hlt] ++ [c]) = unR d ln (s.data.toList.drop a0) a0 [] by
                          have h := HP.out
                          rw [if_pos (by unfold keptB; simp [h91])] at h
                          rw [← h, H92.out]
                          simp)
                        clear hcd h46 h91
                        go_wp2_with (at_builtin; refine wpList_append_lies _ rfl _ _ 37 rfl w.heap.size 5 i0 _ 1 1 undB hi0 hz0 hz1 hz2 rfl (by omega) _ (t).length (Lib.byteCells (t)) rfl (R0.out.1.alloc _) ⟨wr.heap.size, 0, none⟩ 1 1 [.int .u8 ((s[k]'hlt).toNat : Nat)] rfl rfl (fun j u hj => new_cells wr [.int .u8 ((s[k]'hlt).toNat : Nat)] 5 j u hj) (by simp [Value.oneCell']) (by omega) (by unfold maxLen; (try simp only [List.length_append, List.length_singleton]); omega) (by (try simp only [List.length_append, List.length_singleton]); omega) (by rw [World.size_alloc]; have := R0.out.2.size; omega) _ rfl ?_)
                        intro g1 cp1 w1 hown1 hgr1 _ _
                        have R1 := hideT (grew (c := s[k]'hlt) (by simp) R0.out.2 R0.out.1 hgr1 hown1)
                        clear hown1 hgr1
                        go_wp2_with (at_builtin; refine wpList_append_lies _ rfl _ _ 37 rfl w.heap.size 5 i0 _ 1 1 undB hi0 hz0 hz1 hz2 rfl (by omega) _ (t ++ [s[k]'hlt]).length (Lib.byteCells (t ++ [s[k]'hlt])) rfl (R1.out.1.alloc _) ⟨w1.heap.size, 0, none⟩ 1 1 [.int .u8 ((c).toNat : Nat)] rfl rfl (fun j u hj => new_cells w1 [.int .u8 ((c).toNat : Nat)] 5 j u hj) (by simp [Value.oneCell']) (by omega) (by unfold maxLen; (try simp only [List.length_append, List.length_singleton]); omega) (by (try simp only [List.length_append, List.length_singleton]); omega) (by rw [World.size_alloc]; have := R1.out.2.size; omega) _ rfl ?_)
                        intro g2 cp2 w2 hown2 hgr2 _ _
                        have R2 := hideT (grew (c := c) (by simp) R1.out.2 R1.out.1 hgr2 hown2)
                        clear hown2 hgr2
                        go_wp2
                        exact ⟨⟨k + 2, t ++ [s[k]'hlt] ++ [c], by omega, by go_num, R2.out.1, R2.out.2, by simp; omega, HN⟩, by simp [intOf]; omega⟩
                      · have k91 := bne_val (z := 91) rfl h91
                        by_cases h42 : c = 42
                        · have k42 := beq_val (z := 42) rfl h42
                          have HN := hideT (show unR d ln (s.data.toList.drop (k + 2)) (k + 2) (t ++ [s[k]'hlt] ++ [c]) = unR d ln (s.data.toList.drop a0) a0 [] by
                            have h := HP.out
                            rw [if_pos (by unfold keptB; simp [h42])] at h
                            rw [← h, H92.out]
                            simp)
                          clear hcd h46 h91 h42
                          go_wp2_with (at_builtin; refine wpList_append_lies _ rfl _ _ 37 rfl w.heap.size 5 i0 _ 1 1 undB hi0 hz0 hz1 hz2 rfl (by omega) _ (t).length (Lib.byteCells (t)) rfl (R0.out.1.alloc _) ⟨wr.heap.size, 0, none⟩ 1 1 [.int .u8 ((s[k]'hlt).toNat : Nat)] rfl rfl (fun j u hj => new_cells wr [.int .u8 ((s[k]'hlt).toNat : Nat)] 5 j u hj) (by simp [Value.oneCell']) (by omega) (by unfold maxLen; (try simp only [List.length_append, List.length_singleton]); omega) (by (try simp only [List.length_append, List.length_singleton]); omega) (by rw [World.size_alloc]; have := R0.out.2.size; omega) _ rfl ?_)
                          intro g1 cp1 w1 hown1 hgr1 _ _
                          have R1 := hideT (grew (c := s[k]'hlt) (by simp) R0.out.2 R0.out.1 hgr1 hown1)
                          clear hown1 hgr1
                          go_wp2_with (at_builtin; refine wpList_append_lies _ rfl _ _ 37 rfl w.heap.size 5 i0 _ 1 1 undB hi0 hz0 hz1 hz2 rfl (by omega) _ (t ++ [s[k]'hlt]).length (Lib.byteCells (t ++ [s[k]'hlt])) rfl (R1.out.1.alloc _) ⟨w1.heap.size, 0, none⟩ 1 1 [.int .u8 ((c).toNat : Nat)] rfl rfl (fun j u hj => new_cells w1 [.int .u8 ((c).toNat : Nat)] 5 j u hj) (by simp [Value.oneCell']) (by omega) (by unfold maxLen; (try simp only [List.length_append, List.length_singleton]); omega) (by (try simp only [List.length_append, List.length_singleton]); omega) (by rw [World.size_alloc]; have := R1.out.2.size; omega) _ rfl ?_)
                          intro g2 cp2 w2 hown2 hgr2 _ _
                          have R2 := hideT (grew (c := c) (by simp) R1.out.2 R1.out.1 hgr2 hown2)
                          clear hown2 hgr2
                          go_wp2
                          exact ⟨⟨k + 2, t ++ [s[k]'hlt] ++ [c], by omega, by go_num, R2.out.1, R2.out.2, by simp; omega, HN⟩, by simp [intOf]; omega⟩
                        · have k42 := bne_val (z := 42) rfl h42
                          by_cases h94 : c = 94
                          · have k94 := beq_val (z := 94) rfl h94
                            have HN := hideT (show unR d ln (s.data.toList.drop (k + 2)) (k + 2) (t ++ [s[k]'hlt] ++ [c]) = unR d ln (s.data.toList.drop a0) a0 [] by
                              have h := HP.out
                              rw [if_pos (by unfold keptB; simp [h94])] at h
                              rw [← h, H92.out]
                              simp)
                            clear hcd h46 h91 h42 h94
                            go_wp2_with (at_builtin; refine wpList_append_lies _ rfl _ _ 37 rfl w.heap.size 5 i0 _ 1 1 undB hi0 hz0 hz1 hz2 rfl (by omega) _ (t).length (Lib.byteCells (t)) rfl (R0.out.1.alloc _) ⟨wr.heap.size, 0, none⟩ 1 1 [.int .u8 ((s[k]'hlt).toNat : Nat)] rfl rfl (fun j u hj => new_cells wr [.int .u8 ((s[k]'hlt).toNat : Nat)] 5 j u hj) (by simp [Value.oneCell']) (by omega) (by unfold maxLen; (try simp only [List.length_append, List.length_singleton]); omega) (by (try simp only [List.length_append, List.length_singleton]); omega) (by rw [World.size_alloc]; have := R0.out.2.size; omega) _ rfl ?_)
                            intro g1 cp1 w1 hown1 hgr1 _ _
                            have R1 := hideT (grew (c := s[k]'hlt) (by simp) R0.out.2 R0.out.1 hgr1 hown1)
                            clear hown1 hgr1
                            go_wp2_with (at_builtin; refine wpList_append_lies _ rfl _ _ 37 rfl w.heap.size 5 i0 _ 1 1 undB hi0 hz0 hz1 hz2 rfl (by omega) _ (t ++ [s[k]'hlt]).length (Lib.byteCells (t ++ [s[k]'hlt])) rfl (R1.out.1.alloc _) ⟨w1.heap.size, 0, none⟩ 1 1 [.int .u8 ((c).toNat : Nat)] rfl rfl (fun j u hj => new_cells w1 [.int .u8 ((c).toNat : Nat)] 5 j u hj) (by simp [Value.oneCell']) (by omega) (by unfold maxLen; (try simp only [List.length_append, List.length_singleton]); omega) (by (try simp only [List.length_append, List.length_singleton]); omega) (by rw [World.size_alloc]; have := R1.out.2.size; omega) _ rfl ?_)
                            intro g2 cp2 w2 hown2 hgr2 _ _
                            have R2 := hideT (grew (c := c) (by simp) R1.out.2 R1.out.1 hgr2 hown2)
                            clear hown2 hgr2
                            go_wp2
                            exact ⟨⟨k + 2, t ++ [s[k]'hlt] ++ [c], by omega, by go_num, R2.out.1, R2.out.2, by simp; omega, HN⟩, by simp [intOf]; omega⟩
                          · have k94 := bne_val (z := 94) rfl h94
                            by_cases h36 : c = 36
                            · have k36 := beq_val (z := 36) rfl h36
                              have HN := hideT (show unR d ln (s.data.toList.drop (k + 2)) (k + 2) (t ++ [s[k]'hlt] ++ [c]) = unR d ln (s.data.toList.drop a0) a0 [] by
                                have h := HP.out
                                rw [if_pos (by unfold keptB; simp [h36])] at h
                                rw [← h, H92.out]
                                simp)
                              clear hcd h46 h91 h42 h94 h36
                              go_wp2_with (at_builtin; refine wpList_append_lies _ rfl _ _ 37 rfl w.heap.size 5 i0 _ 1 1 undB hi0 hz0 hz1 hz2 rfl (by omega) _ (t).length (Lib.byteCells (t)) rfl (R0.out.1.alloc _) ⟨wr.heap.size, 0, none⟩ 1 1 [.int .u8 ((s[k]'hlt).toNat : Nat)] rfl rfl (fun j u hj => new_cells wr [.int .u8 ((s[k]'hlt).toNat : Nat)] 5 j u hj) (by simp [Value.oneCell']) (by omega) (by unfold maxLen; (try simp only [List.length_append, List.length_singleton]); omega) (by (try simp only [List.length_append, List.length_singleton]); omega) (by rw [World.size_alloc]; have := R0.out.2.size; omega) _ rfl ?_)
                              intro g1 cp1 w1 hown1 hgr1 _ _
                              have R1 := hideT (grew (c := s[k]'hlt) (by simp) R0.out.2 R0.out.1 hgr1 hown1)
                              clear hown1 hgr1
                              go_wp2_with (at_builtin; refine wpList_append_lies _ rfl _ _ 37 rfl w.heap.size 5 i0 _ 1 1 undB hi0 hz0 hz1 hz2 rfl (by omega) _ (t ++ [s[k]'hlt]).length (Lib.byteCells (t ++ [s[k]'hlt])) rfl (R1.out.1.alloc _) ⟨w1.heap.size, 0, none⟩ 1 1 [.int .u8 ((c).toNat : Nat)] rfl rfl (fun j u hj => new_cells w1 [.int .u8 ((c).toNat : Nat)] 5 j u hj) (by simp [Value.oneCell']) (by omega) (by unfold maxLen; (try simp only [List.length_append, List.length_singleton]); omega) (by (try simp only [List.length_append, List.length_singleton]); omega) (by rw [World.size_alloc]; have := R1.out.2.size; omega) _ rfl ?_)
                              intro g2 cp2 w2 hown2 hgr2 _ _
                              have R2 := hideT (grew (c := c) (by simp) R1.out.2 R1.out.1 hgr2 hown2)
                              clear hown2 hgr2
                              go_wp2
                              exact ⟨⟨k + 2, t ++ [s[k]'hlt] ++ [c], by omega, by go_num, R2.out.1, R2.out.2, by simp; omega, HN⟩, by simp [intOf]; omega⟩
                            · have k36 := bne_val (z := 36) rfl h36
                              by_cases h38 : c = 38
                              · have k38 := beq_val (z := 38) rfl h38
                                have HN := hideT (show unR d ln (s.data.toList.drop (k + 2)) (k + 2) (t ++ [s[k]'hlt] ++ [c]) = unR d ln (s.data.toList.drop a0) a0 [] by
                                  have h := HP.out
                                  rw [if_pos (by unfold keptB; simp [h38])] at h
                                  rw [← h, H92.out]
                                  simp)
                                clear hcd h46 h91 h42 h94 h36 h38
                                go_wp2_with (at_builtin; refine wpList_append_lies _ rfl _ _ 37 rfl w.heap.size 5 i0 _ 1 1 undB hi0 hz0 hz1 hz2 rfl (by omega) _ (t).length (Lib.byteCells (t)) rfl (R0.out.1.alloc _) ⟨wr.heap.size, 0, none⟩ 1 1 [.int .u8 ((s[k]'hlt).toNat : Nat)] rfl rfl (fun j u hj => new_cells wr [.int .u8 ((s[k]'hlt).toNat : Nat)] 5 j u hj) (by simp [Value.oneCell']) (by omega) (by unfold maxLen; (try simp only [List.length_append, List.length_singleton]); omega) (by (try simp only [List.length_append, List.length_singleton]); omega) (by rw [World.size_alloc]; have := R0.out.2.size; omega) _ rfl ?_)
                                intro g1 cp1 w1 hown1 hgr1 _ _
                                have R1 := hideT (grew (c := s[k]'hlt) (by simp) R0.out.2 R0.out.1 hgr1 hown1)
                                clear hown1 hgr1
                                go_wp2_with (at_builtin; refine wpList_append_lies _ rfl _ _ 37 rfl w.heap.size 5 i0 _ 1 1 undB hi0 hz0 hz1 hz2 rfl (by omega) _ (t ++ [s[k]'hlt]).length (Lib.byteCells (t ++ [s[k]'hlt])) rfl (R1.out.1.alloc _) ⟨w1.heap.size, 0, none⟩ 1 1 [.int .u8 ((c).toNat : Nat)] rfl rfl (fun j u hj => new_cells w1 [.int .u8 ((c).toNat : Nat)] 5 j u hj) (by simp [Value.oneCell']) (by omega) (by unfold maxLen; (try simp only [List.length_append, List.length_singleton]); omega) (by (try simp only [List.length_append, List.length_singleton]); omega) (by rw [World.size_alloc]; have := R1.out.2.size; omega) _ rfl ?_)
                                intro g2 cp2 w2 hown2 hgr2 _ _
                                have R2 := hideT (grew (c := c) (by simp) R1.out.2 R1.out.1 hgr2 hown2)
                                clear hown2 hgr2
                                go_wp2
                                exact ⟨⟨k + 2, t ++ [s[k]'hlt] ++ [c], by omega, by go_num, R2.out.1, R2.out.2, by simp; omega, HN⟩, by simp [intOf]; omega⟩
                              · have k38 := bne_val (z := 38) rfl h38
                                have HN := hideT (show unR d ln (s.data.toList.drop (k + 2)) (k + 2) (t ++ [c]) = unR d ln (s.data.toList.drop a0) a0 [] by
                                  have h := HP.out
                                  rw [if_neg (by unfold keptB; rw [← hcd]; simp [h46, h91, h42, h94, h36, h38])] at h
                                  rw [← h]
                                  simp)
                                clear hcd h46 h91 h42 h94 h36 h38
                                go_wp2_with (at_builtin; refine wpList_append_lies _ rfl _ _ 37 rfl w.heap.size 5 i0 _ 1 1 undB hi0 hz0 hz1 hz2 rfl (by omega) _ (t).length (Lib.byteCells (t)) rfl (R0.out.1.alloc _) ⟨wr.heap.size, 0, none⟩ 1 1 [.int .u8 ((c).toNat : Nat)] rfl rfl (fun j u hj => new_cells wr [.int .u8 ((c).toNat : Nat)] 5 j u hj) (by simp [Value.oneCell']) (by omega) (by unfold maxLen; (try simp only [List.length_append, List.length_singleton]); omega) (by (try simp only [List.length_append, List.length_singleton]); omega) (by rw [World.size_alloc]; have := R0.out.2.size; omega) _ rfl ?_)
                                intro g1 cp1 w1 hown1 hgr1 _ _
                                have R1 := hideT (grew (c := c) (by simp) R0.out.2 R0.out.1 hgr1 hown1)
                                clear hown1 hgr1
                                go_wp2
                                exact ⟨⟨k + 2, t ++ [c], by omega, by go_num, R1.out.1, R1.out.2, by simp; omega, HN⟩, by simp [intOf]; omega⟩
                  · have kd : ((c.toNat : Int) != (d.toNat : Int)) = true := ne_val rfl hcd
                    have HN := hideT (show unR d ln (s.data.toList.drop (k + 2)) (k + 2) (t ++ [s[k]'hlt] ++ [c]) = unR d ln (s.data.toList.drop a0) a0 [] by
                      have h := HP.out
                      rw [if_pos (by unfold keptB; simp [hcd])] at h
                      rw [← h, H92.out]
                      simp)
                    clear hcd
                    go_wp2_with (at_builtin; refine wpList_append_lies _ rfl _ _ 37 rfl w.heap.size 5 i0 _ 1 1 undB hi0 hz0 hz1 hz2 rfl (by omega) _ (t).length (Lib.byteCells (t)) rfl (R0.out.1.alloc _) ⟨wr.heap.size, 0, none⟩ 1 1 [.int .u8 ((s[k]'hlt).toNat : Nat)] rfl rfl (fun j u hj => new_cells wr [.int .u8 ((s[k]'hlt).toNat : Nat)] 5 j u hj) (by simp [Value.oneCell']) (by omega) (by unfold maxLen; (try simp only [List.length_append, List.length_singleton]); omega) (by (try simp only [List.length_append, List.length_singleton]); omega) (by rw [World.size_alloc]; have := R0.out.2.size; omega) _ rfl ?_)
                    intro g1 cp1 w1 hown1 hgr1 _ _
                    have R1 := hideT (grew (c := s[k]'hlt) (by simp) R0.out.2 R0.out.1 hgr1 hown1)
                    clear hown1 hgr1
                    go_wp2_with (at_builtin; refine wpList_append_lies _ rfl _ _ 37 rfl w.heap.size 5 i0 _ 1 1 undB hi0 hz0 hz1 hz2 rfl (by omega) _ (t ++ [s[k]'hlt]).length (Lib.byteCells (t ++ [s[k]'hlt])) rfl (R1.out.1.alloc _) ⟨w1.heap.size, 0, none⟩ 1 1 [.int .u8 ((c).toNat : Nat)] rfl rfl (fun j u hj => new_cells w1 [.int .u8 ((c).toNat : Nat)] 5 j u hj) (by simp [Value.oneCell']) (by omega) (by unfold maxLen; (try simp only [List.length_append, List.length_singleton]); omega) (by (try simp only [List.length_append, List.length_singleton]); omega) (by rw [World.size_alloc]; have := R1.out.2.size; omega) _ rfl ?_)
                    intro g2 cp2 w2 hown2 hgr2 _ _
                    have R2 := hideT (grew (c := c) (by simp) R1.out.2 R1.out.1 hgr2 hown2)
                    clear hown2 hgr2
                    go_wp2
                    exact ⟨⟨k + 2, t ++ [s[k]'hlt] ++ [c], by omega, by go_num, R2.out.1, R2.out.2, by simp; omega, HN⟩, by simp [intOf]; omega⟩
            · have j3 : ((k : Int) + 1 == (s.size : Int)) = true := by rw [beq_iff_eq]; omega
              have HN := hideT (show unR d ln (s.data.toList.drop a0) a0 [] = ([], 0, 6) by rw [← HE.out, un_last (l := s.data.toList) (k := k) (by show k + 1 = s.size; omega) (by rw [dat_at s k hlt]; exact hd)])
              clear hd h10 h92
              go_wp2
              go_ret3
              exact ⟨by rw [HN.out]; rfl, R0.out.2⟩
          · have c3 := ne_val (z := 92) rfl h92
            have HN := hideT (show unR d ln (s.data.toList.drop (k + 1)) (k + 1) (t ++ [s[k]'hlt]) = unR d ln (s.data.toList.drop a0) a0 [] by
              rw [← HE.out, un_step (l := s.data.toList) (k := k) hlt (by rw [dat_at s k hlt]; exact hd) (by rw [dat_at s k hlt]; exact h10) (by rw [dat_at s k hlt]; exact h92)]
              rfl)
            clear hd h10 h92
            go_wp2_with (at_builtin; refine wpList_append_lies _ rfl _ _ 37 rfl w.heap.size 5 i0 _ 1 1 undB hi0 hz0 hz1 hz2 rfl (by omega) _ (t).length (Lib.byteCells (t)) rfl (R0.out.1.alloc _) ⟨wr.heap.size, 0, none⟩ 1 1 [.int .u8 ((s[k]'hlt).toNat : Nat)] rfl rfl (fun j u hj => new_cells wr [.int .u8 ((s[k]'hlt).toNat : Nat)] 5 j u hj) (by simp [Value.oneCell']) (by omega) (by unfold maxLen; (try simp only [List.length_append, List.length_singleton]); omega) (by (try simp only [List.length_append, List.length_singleton]); omega) (by rw [World.size_alloc]; have := R0.out.2.size; omega) _ rfl ?_)
            intro g1 cp1 w1 hown1 hgr1 _ _
            have R1 := hideT (grew (c := s[k]'hlt) (by simp) R0.out.2 R0.out.1 hgr1 hown1)
            clear hown1 hgr1
            go_wp2
            exact ⟨⟨k + 1, t ++ [s[k]'hlt], by omega, by go_num, R1.out.1, R1.out.2, by simp; omega, HN⟩, by simp [intOf]; omega⟩
    · have i1 : ((k : Int) < (s.size : Int)) = False := by rw [eq_iff_iff, iff_false]; omega
      clear cv
      have HN := hideT (show unR d ln (s.data.toList.drop a0) a0 [] = ([], 0, 6) by rw [← HE.out, un_end (by show s.size ≤ k; omega)])
      go_wp2
      go_ret3
      exact ⟨by rw [HN.out]; rfl, R0.out.2⟩

set_option maxRecDepth 100000 in
set_option maxHeartbeats 4000000 in
theorem until_doc (s : ByteArray) (i : Int) (d : UInt8) (ln : Bool) (hs : s.size ≤ 140737488355000) (w : World) : Calls Try.prog 13 #[.string s, .int .i64 i, .int .u8 (d.toNat : Nat), .bool ln] w fun e w' => e = .returned (.tuple #[.string (bst (untilR s.data.toList i d ln).1), .int .i64 ((untilR s.data.toList i d ln).2.1 : Nat), .int .i64 ((untilR s.data.toList i d ln).2.2 : Nat)]) ∧ Below w.heap.size w w' := by
  have hsz : s.data.toList.length = s.size := rfl
  by_cases h0 : i < 0
  · have HN := hideT (show untilR s.data.toList i d ln = ([], 0, 1) by unfold untilR; rw [if_pos (.inl h0)])
    go_enter Try.func13, Try.ntmps13
    go_wp2
    go_ret3
    exact ⟨by rw [HN.out]; rfl, Below.refl _ _⟩
  · have x1 : (i < 0) = False := by rw [eq_iff_iff, iff_false]; exact h0
    by_cases h1 : (s.size : Int) < i
    · have HN := hideT (show untilR s.data.toList i d ln = ([], 0, 1) by unfold untilR; rw [if_pos (.inr (.inl h1))])
      go_enter Try.func13, Try.ntmps13
      go_wp2
      go_ret3
      exact ⟨by rw [HN.out]; rfl, Below.refl _ _⟩
    · have x2 : ((s.size : Int) < i) = False := by rw [eq_iff_iff, iff_false]; exact h1
      by_cases h2 : d = 10
      · have HN := hideT (show untilR s.data.toList i d ln = ([], 0, 1) by unfold untilR; rw [if_pos (.inr (.inr (.inl h2)))])
        have x3 := beq_val (z := 10) rfl h2
        clear h2
        go_enter Try.func13, Try.ntmps13
        go_wp2
        go_ret3
        exact ⟨by rw [HN.out]; rfl, Below.refl _ _⟩
      · by_cases h3 : d = 92
        · have HN := hideT (show untilR s.data.toList i d ln = ([], 0, 1) by unfold untilR; rw [if_pos (.inr (.inr (.inr h3)))])
          have x3 := bne_val (z := 10) rfl h2
          have x4 := beq_val (z := 92) rfl h3
          clear h2 h3
          go_enter Try.func13, Try.ntmps13
          go_wp2
          go_ret3
          exact ⟨by rw [HN.out]; rfl, Below.refl _ _⟩
        · obtain ⟨a0, rfl⟩ := Int.eq_ofNat_of_zero_le (show 0 ≤ i by omega)
          have e : untilR s.data.toList (a0 : Int) d ln = unR d ln (s.data.toList.drop a0) a0 [] := by
            unfold untilR
            rw [if_neg (by rintro (h | h | h | h); exact h0 h; exact h1 h; exact h2 h; exact h3 h), Int.toNat_natCast]
          rw [e]
          exact until_run s a0 d ln (by omega) h2 h3 hs w

end Go.Proofs.Ytcfbmdelgfkfeaa
