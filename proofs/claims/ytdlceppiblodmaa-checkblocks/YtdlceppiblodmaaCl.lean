/- CheckBlocks: the walk. -/
import Derived.Test.YtdlceppiblodmaaCk
import Derived.Test.YtdlceppiblodmaaCb
namespace Go.Proofs.Ytdlceppiblodmaa
open Go.RowKit
open chkP

theorem blk_succ (i : Nat) : blkL (i + 1) = blkL i ++ [cm 123 (10 + (i : Int))] := by simp [blkL, List.range_succ]
theorem shut_succ (i : Nat) : shutL (i + 1) = shutL i ++ [cm 125 (100 + (i : Int))] := by simp [shutL, List.range_succ]
theorem bes_succ (i : Nat) : besL (i + 1) = besL i ++ [cm 123 (1000 + (i : Int)), cm 125 (2000 + (i : Int))] := by simp [besL, List.range_succ]
theorem blk_len (i : Nat) : (blkL i).length = i := by simp [blkL]
theorem shut_len (i : Nat) : (shutL i).length = i := by simp [shutL]
theorem bes_len (i : Nat) : (besL i).length = 2 * i := by
  induction i with
  | zero => rfl
  | succ i ih => rw [bes_succ, List.length_append, ih]; simp; omega
theorem cm_lab (nm : UInt8) (p : Int) : (cm nm p).lb.length ≤ 1000000000000000 := by simp [cm]

set_option maxRecDepth 100000 in
set_option maxHeartbeats 4000000 in
theorem blocks_walk (n b : UInt8) (W : World) : Calls Try.prog 4 #[.int .u8 (n.toNat : Nat), .int .u8 (b.toNat : Nat)] W fun e w' => e = .returned (.bool true) ∧ Below W.heap.size W w' := by
  have HA := hideT (awake_any W)
  obtain ⟨k, hk⟩ : ∃ k, k = n.toNat % 20 := ⟨_, rfl⟩
  obtain ⟨q, hq⟩ : ∃ q, q = b.toNat % 30 := ⟨_, rfl⟩
  have hk20 : k < 20 := by omega
  have hq30 : q < 30 := by omega
  have nb := n.toNat_lt
  have bb := b.toNat_lt
  have a1' : ((n.toNat : Int) % 20) = (k : Int) := by omega
  have a2' : ((b.toNat : Int) % 30) = (q : Int) := by omega
  have a1t : (n.toNat : Int).tmod 20 = (k : Int) := by rw [hk]; simp [Int.tmod]
  have a2t : (b.toNat : Int).tmod 30 = (q : Int) := by rw [hq]; simp [Int.tmod]
  have w1 : IntKind.i64.wrap (k : Int) = (k : Int) := by rw [IntKind.wrap_i64]; omega
  have w2 : IntKind.i64.wrap (q : Int) = (q : Int) := by rw [IntKind.wrap_i64]; omega
  clear hk hq nb bb
  go_enter Try.func4, Try.ntmps4
  go_wp2_with fail
  refine HA.out.mono ?_
  rintro e X0 ⟨rfl, hb0⟩
  have HB0 := hideT hb0
  clear hb0 HA
  go_wp2_with fail
  have HS := hideT (show CsAt W X0 (.slice none 0 0) [] from (CsAt.start W).step HB0.out)
  go_loopw [6, 18] (fun lv iv wr => ∃ i : Nat, i ≤ k ∧ iv = .int .i64 (i : Nat) ∧ Hid (CsAt W wr lv (blkL i))) (fun _ iv _ => k - (intOf iv).toNat)
  case atStart => exact ⟨0, Nat.zero_le _, rfl, HS⟩
  case round =>
    obtain ⟨i, hi, rfl, HI⟩ := hrel
    by_cases hlt : i < k
    · have i1 : (i : Int) < (k : Int) := by omega
      have i2 : IntKind.i64.wrap (10 + (i : Int)) = 10 + (i : Int) := by rw [IntKind.wrap_i64]; omega
      go_wp2_with (at_builtin; refine append_lit (W := W) (by rfl) _ _ (by rfl) u6 (blkL i) [cm 123 (10 + (i : Int))] _ rfl (by rfl) (by rfl) HI.out 1 (by rfl) (by simp) (by rw [blk_len]; simp; omega) (fun c hc => by rw [List.mem_singleton.1 hc]; exact cm_lab _ _) ?_)
      intro g2 cap w' hA hgr
      have HN := hideT (show CsAt W w' (.slice (some ⟨g2, 0, none⟩) ((blkL i).length + 1) cap) (blkL (i + 1)) by rw [blk_succ]; exact hA)
      clear hA hgr
      go_wp2
      exact ⟨⟨i + 1, by omega, by go_num, HN⟩, by simp [intOf]; omega⟩
    · obtain rfl : i = k := by omega
      have i1 : ((i : Int) < (i : Int)) = False := by rw [eq_iff_iff, iff_false]; omega
      clear HS hlt hi
      go_wp2_with fail
      have HS := hideT (show CsAt W wr u6 (blkL i ++ shutL 0) by simp [shutL]; exact HI.out)
      go_loopw [6, 29] (fun lv iv wr => ∃ j : Nat, j ≤ i ∧ iv = .int .i64 (j : Nat) ∧ Hid (CsAt W wr lv (blkL i ++ shutL j))) (fun _ iv _ => i - (intOf iv).toNat)
      case atStart => exact ⟨0, Nat.zero_le _, rfl, HS⟩
      case round =>
        obtain ⟨j, hj, rfl, HI2⟩ := hrel
        by_cases hlt : j < i
        · have j1 : (j : Int) < (i : Int) := by omega
          have j2 : IntKind.i64.wrap (100 + (j : Int)) = 100 + (j : Int) := by rw [IntKind.wrap_i64]; omega
          obtain ⟨L, hL⟩ : ∃ L, L = blkL i ++ shutL j := ⟨_, rfl⟩
          rw [← hL] at HI2
          have HLL := hideT hL
          clear hL
          go_wp2_with (at_builtin; refine append_lit (W := W) (by rfl) _ _ (by rfl) u6 L [cm 125 (100 + (j : Int))] _ rfl (by rfl) (by rfl) HI2.out 1 (by rfl) (by simp) (by rw [HLL.out, List.length_append, blk_len, shut_len]; simp; omega) (fun c hc => by rw [List.mem_singleton.1 hc]; exact cm_lab _ _) ?_)
          intro g2 cap w' hA hgr
          have HN := hideT (show CsAt W w' (.slice (some ⟨g2, 0, none⟩) (L.length + 1) cap) (blkL i ++ shutL (j + 1)) by rw [shut_succ, ← List.append_assoc, ← HLL.out]; exact hA)
          clear hA hgr
          go_wp2
          exact ⟨⟨j + 1, by omega, by go_num, HN⟩, by simp [intOf]; omega⟩
        · obtain rfl : j = i := by omega
          have j1 : ((j : Int) < (j : Int)) = False := by rw [eq_iff_iff, iff_false]; omega
          clear HS hlt hj HI i1
          by_cases h16 : 16 < j
          · have j3 : (16 : Int) < (j : Int) := by omega
            have HC := hideT (check_made HI2.out (by rw [List.length_append, blk_len, shut_len]; omega) (blocks_deep j hk20 h16))
            have hq1 := fun w => run_equal_fault 13 26 13 26 w
            go_wp2_with fail
            refine HC.out.mono ?_
            rintro e w1 ⟨rfl, hb1⟩
            have HF := hideT (HI2.out.step hb1).below
            clear hb1 HC
            go_wp2
            go_ret
            exact ⟨rfl, HF.out⟩
          · have j3 : ((16 : Int) < (j : Int)) = False := by rw [eq_iff_iff, iff_false]; omega
            have HBA := hideT (blocks_all j (by omega) q hq30)
            go_wp2_with fail
            have HS := hideT (show CsAt W wr u6 (blkL j ++ shutL j ++ besL 0) by simp [besL]; exact HI2.out)
            go_loopw [6, 48] (fun lv iv wr => ∃ i : Nat, i ≤ q ∧ iv = .int .i64 (i : Nat) ∧ Hid (CsAt W wr lv (blkL j ++ shutL j ++ besL i))) (fun _ iv _ => q - (intOf iv).toNat)
            case atStart => exact ⟨0, Nat.zero_le _, rfl, HS⟩
            case round =>
              obtain ⟨i, hi, rfl, HI⟩ := hrel
              by_cases hlt : i < q
              · have i1 : (i : Int) < (q : Int) := by omega
                have i2 : IntKind.i64.wrap (1000 + (i : Int)) = 1000 + (i : Int) := by rw [IntKind.wrap_i64]; omega
                have i3 : IntKind.i64.wrap (2000 + (i : Int)) = 2000 + (i : Int) := by rw [IntKind.wrap_i64]; omega
                obtain ⟨L, hL⟩ : ∃ L, L = blkL j ++ shutL j ++ besL i := ⟨_, rfl⟩
                rw [← hL] at HI
                have HLL := hideT hL
                clear hL
                go_wp2_with (at_builtin; refine append_lit (W := W) (by rfl) _ _ (by rfl) u6 L [cm 123 (1000 + (i : Int)), cm 125 (2000 + (i : Int))] _ rfl (by rfl) (by rfl) HI.out 2 (by rfl) (by simp) (by rw [HLL.out, List.length_append, List.length_append, blk_len, shut_len, bes_len]; simp; omega) (fun c hc => by simp only [List.mem_cons, List.not_mem_nil, or_false] at hc; rcases hc with rfl | rfl <;> exact cm_lab _ _) ?_)
                intro g2 cap w' hA hgr
                have HN := hideT (show CsAt W w' (.slice (some ⟨g2, 0, none⟩) (L.length + 2) cap) (blkL j ++ shutL j ++ besL (i + 1)) by rw [bes_succ, ← List.append_assoc, ← HLL.out]; exact hA)
                clear hA hgr
                go_wp2
                exact ⟨⟨i + 1, by omega, by go_num, HN⟩, by simp [intOf]; omega⟩
              · obtain rfl : i = q := by omega
                have i1 : ((i : Int) < (i : Int)) = False := by rw [eq_iff_iff, iff_false]; omega
                clear HS hlt hi HI2
                obtain ⟨L, hL⟩ : ∃ L, L = blkL j ++ shutL j ++ besL i := ⟨_, rfl⟩
                have HLEN := hideT (show L.length ≤ 1000 by rw [hL, List.length_append, List.length_append, blk_len, shut_len, bes_len]; omega)
                rw [← hL] at HI HBA
                clear hL
                have HC := hideT (check_made HI.out (by have := HLEN.out; omega) HBA.out.1)
                have hq1 := fun w => run_equal_fault 0 0 0 0 w
                go_wp2_with fail
                refine HC.out.mono ?_
                rintro e w1 ⟨rfl, hb1⟩
                have HA1 := hideT (HI.out.step hb1)
                clear hb1 HC HI
                go_wp2_with (at_builtin; refine append_copy (W := W) (by rfl) _ _ (by rfl) u6 L (by rfl) HA1.out (by rfl) (by have := HLEN.out; omega) ?_)
                intro v2 w2 hA2 hnew2 hb2
                have HL2 := hideT (HA1.out.step hb2)
                have HA2 := hideT hA2
                have HNE := hideT (show ∀ g, u6.ownBlock = some g → v2.ownBlock ≠ some g from fun g hg e => by have := hnew2 g e; have := (HA1.out.own.lt g hg).2; omega)
                clear hA2 hnew2 hb2 HA1
                go_wp2_with (at_builtin; refine append_lit (W := W) (by rfl) _ _ (by rfl) v2 L [cm 123 7] _ rfl (by rfl) (by rfl) HA2.out 1 (by rfl) (by simp) (by have := HLEN.out; simp; omega) (fun c hc => by rw [List.mem_singleton.1 hc]; exact cm_lab _ _) ?_)
                intro g3 c3 w3 hA3 hgr3
                have HL3 := hideT (HL2.out.beside hgr3 (fun g e => (HA2.out.own.lt g e).1) (fun g hg e => HNE.out g hg e))
                have HA3 := hideT hA3
                clear hA3 hgr3 HA2 HL2 HNE
                go_wp2_with (at_builtin; refine append_copy (W := W) (by rfl) _ _ (by rfl) u6 L (by rfl) HL3.out (by rfl) (by have := HLEN.out; omega) ?_)
                intro v4 w4 hA4 hnew4 hb4
                have HA4 := hideT hA4
                have HO4 := hideT (HA3.out.step hb4)
                have HNE4 := hideT (show ∀ g, v4.ownBlock = some g → g ≠ g3 from fun g hg e => by have := hnew4 g hg; have := (HA3.out.own.lt g3 rfl).2; omega)
                clear hA4 hnew4 hb4 HA3 HL3
                go_wp2_with (at_builtin; refine append_lit (W := W) (by rfl) _ _ (by rfl) v4 L [cm 125 8] _ rfl (by rfl) (by rfl) HA4.out 1 (by rfl) (by simp) (by have := HLEN.out; simp; omega) (fun c hc => by rw [List.mem_singleton.1 hc]; exact cm_lab _ _) ?_)
                intro g5 c5 w5 hA5 hgr5
                have HO5 := hideT (HO4.out.beside hgr5 (fun g e => (HA4.out.own.lt g e).1) (fun g hg e => HNE4.out g e (by cases hg; rfl)))
                have HA5 := hideT hA5
                clear hA5 hgr5 HA4 HO4 HNE4
                have HC5 := hideT (check_made HO5.out (by have := HLEN.out; simp; omega) HBA.out.2.1)
                have hq2 := fun w => run_equal_fault 23 7 23 7 w
                have hq3 := fun w => run_equal_fault 23 8 23 8 w
                go_wp2_with fail
                refine HC5.out.mono ?_
                rintro e w6 ⟨rfl, hb6⟩
                have HA6 := hideT (HA5.out.step hb6)
                clear hb6 HC5 HO5 HA5
                have HC6 := hideT (check_made HA6.out (by have := HLEN.out; simp; omega) HBA.out.2.2)
                go_wp2_with fail
                refine HC6.out.mono ?_
                rintro e w7 ⟨rfl, hb7⟩
                have HF := hideT (HA6.out.step hb7).below
                clear hb7 HC6 HA6
                go_wp2
                go_ret
                exact ⟨rfl, HF.out⟩
end Go.Proofs.Ytdlceppiblodmaa
