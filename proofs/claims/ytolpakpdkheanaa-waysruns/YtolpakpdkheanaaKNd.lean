/- tally: New, what it makes. -/
import Derived.Test.YtolpakpdkheanaaKTi
set_option maxRecDepth 100000
set_option maxHeartbeats 1500000
namespace Go.Proofs.Ytolpakpdkheanaa.tly
open Go.RowKit Go.Maps Go.WideMaps Go.Proofs.Ytolpakpdkheanaa.br
theorem new_p {p : Tp} (hp : OkP p) (hki : KiP p) {W : World} {v0 v1 v2 v3 v4 v5 v6 v7 v8 : Value} (hlay : Calls Try.prog 23 #[.agg #[v0, v1, v2, v3, v4, v5, v6, v7, v8]] (W.alloc (.cells #[v0, v1, v2, v3, v4, v5, v6, v7, v8] 41)) fun e W' => ∃ b, e = .returned (.pointer (some ⟨b, 0, none⟩)) ∧ PtAt W' (fun k => W.heap.size < k ∧ k < W'.heap.size) b p ∧ Below (W.heap.size + 1) (W.alloc (.cells #[v0, v1, v2, v3, v4, v5, v6, v7, v8] 41)) W')
 {s : ByteArray} (hs : s.size ≤ 1024) {fr : Nat} (hfr : fr ≤ s.size) :
 Calls Try.prog 15 #[.agg #[v0, v1, v2, v3, v4, v5, v6, v7, v8], .string s, .int .i64 (fr : Nat)] W fun e W' => ∃ (X T gt gn gl M c : Nat) (ge : Nat → Nat) (S : Nat → Prop), e = .returned (.pointer (some ⟨T, 0, none⟩)) ∧ TcV W' X T s (tabT p) gt gn gl ge fr M ∧ W'.cell? ⟨T, 0, none⟩ = some (.pointer (some ⟨c, 0, none⟩)) ∧ PtAt W' S c p ∧ (∀ k, S k → k < W'.heap.size) ∧ Below W.heap.size W W' ∧ W.heap.size ≤ M ∧ (tabT p).takes.length = p.size := by
 have hbA := (Below.refl W.heap.size W).alloc (Nat.le_refl _) (.cells #[v0, v1, v2, v3, v4, v5, v6, v7, v8] 41)
 have HP := hideT (And.intro hp (And.intro hki (And.intro hfr hbA)))
 have N256 := hp.len
 obtain ⟨N, hN⟩ : ∃ N, N = p.size := ⟨_, rfl⟩
 rw [← hN] at N256
 have HN := hideT hN
 clear hp hki hfr hbA hN
 go_enter Try.func15, Try.ntmps15
 go_wp2_with fail
 refine hlay.mono ?_
 rintro e w5 ⟨c, rfl, hpt, hb5⟩
 have HL := hideT (And.intro hpt (HP.out.2.2.2.trans (hb5.mono (Nat.le_succ _))))
 obtain ⟨vl0, u0, hblk, _⟩ := hpt.core
 have x8 : w5.cell? ⟨c, 8, none⟩ = some (.int .i64 (N : Nat)) := by rw [HN.out]; exact (cells_at hblk (j := 8) rfl).1
 clear hpt hb5 hlay hblk
 go_upto_region 2 with fail
 rename_i K1 hK1
 go_cut [8] from 14 to 34 (fun s8 V => ∃ T gt gn gl M : Nat, s8 = .pointer (some ⟨T, 0, none⟩) ∧ Hid (NwA w5 V N s c T gt gn gl M [slN, slN, slN, slN]))
 case first =>
  rename_i K2 hK2
  have hse := make_se N (by omega)
  have hss := make_ss N (by omega)
  have hsb := make_sb (s.size + 1) (by omega)
  have q1 : ((s.size + 1 : Nat) : Int) = (s.size : Int) + 1 := by omega
  rw [q1] at hsb
  have j1 : (s.size : Int) ≤ 1024 := by omega
  have j2 : (0 : Int) ≤ (s.size : Int) := by omega
  have H1 := hideT (show IntKind.i64.wrap ((s.size : Int) + 1) = (s.size : Int) + 1 from IntWalk.i64_in _ (by omega))
  refine wp_region_held (S := fun V : World => V.cell? ⟨c, 8, none⟩ = some (.int .i64 (N : Nat))) (by kernel_rfl) ?_
  show wpAnyH _ _ _ _ _ _ _ _ w5.drew
  have hb0 := drew_below w5.heap.size w5
  have hS0 : (fun V : World => V.cell? ⟨c, 8, none⟩ = some (.int .i64 (N : Nat))) w5.drew := x8
  have hz : w5.drew.heap.size = w5.heap.size := rfl
  generalize w5.drew = V0 at *
  have hz0 : w5.heap.size ≤ V0.heap.size := hb0.size
  refine tq 0 16 hS0 ?_
  refine tq 1 17 hS0 ?_
  refine tq 2 18 hS0 ?_
  refine tq 3 19 hS0 ?_
  simp only [Act.put, List.setIfInBounds_toArray, List.set_cons_zero, List.set_cons_succ]
  refine tq 4 20 hS0 ?_
  refine tq 5 21 hS0 ?_
  simp only [Act.put, List.setIfInBounds_toArray, List.set_cons_zero, List.set_cons_succ]
  refine tq 7 23 hS0 ?_
  refine tq 8 24 hS0 ?_
  refine tq 9 25 hS0 ?_
  simp only [Act.put, List.setIfInBounds_toArray, List.set_cons_zero, List.set_cons_succ]
  refine tq 10 26 hS0 ?_
  refine tq 12 28 hS0 ?_
  simp only [Act.put, List.setIfInBounds_toArray, List.set_cons_zero, List.set_cons_succ]
  refine tq 13 29 hS0 ?_
  refine tq (v := .int .i64 ((s.size : Int) + 1)) 14 30 hS0 ?_ (hy := fun V hV => by
   go_simp
   rw [H1.out]
   (try rfl))
  simp only [Act.put, List.setIfInBounds_toArray, List.set_cons_zero, List.set_cons_succ]
  refine wpAnyH_all (rs := [6, 11, 15, 16]) (by kernel_rfl) (by simp) (fun j hj => ?_)
  simp only [List.mem_cons, List.not_mem_nil, or_false] at hj
  rcases hj with rfl | rfl | rfl | rfl
  ·
   obtain ⟨g6, V1, e1, e2, f6, b1⟩ := mk_step V0 (.cells (tkV (List.replicate N xad)).toArray 38)
   refine op_value (some 22) (v := .slice (some ⟨g6, 0, none⟩) N N) (w' := V1) rfl rfl (by rfl) (by rw [e1, e2]; exact mks_yield rfl rfl rfl (hse _)) ?_
   have hS1 : (fun V : World => V.cell? ⟨c, 8, none⟩ = some (.int .i64 (N : Nat))) V1 := keep_cell b1 hS0
   refine And.intro hS1 ?_
   simp only [Act.put, List.setIfInBounds_toArray, List.set_cons_zero, List.set_cons_succ]
   have l6 : w5.heap.size ≤ g6 := by rw [e2]; have := hz0; omega
   have hz1 : w5.heap.size ≤ V1.heap.size := Nat.le_trans hz0 b1.size
   have hb1 := hb0.trans (b1.mono hz0)
   clear e1 e2
   refine wpAnyH_all (rs := [11, 15, 16]) (by kernel_rfl) (by simp) (fun j hj => ?_)
   simp only [List.mem_cons, List.not_mem_nil, or_false] at hj
   rcases hj with rfl | rfl | rfl
   ·
    obtain ⟨g11, V2, e1, e2, f11, b2⟩ := mk_step V1 (.cells (List.replicate N slN).toArray 81)
    refine op_value (some 27) (v := .slice (some ⟨g11, 0, none⟩) N N) (w' := V2) rfl rfl (by rfl) (by rw [e1, e2]; exact mks_yield rfl rfl rfl (hss _)) ?_
    have hS2 : (fun V : World => V.cell? ⟨c, 8, none⟩ = some (.int .i64 (N : Nat))) V2 := keep_cell b2 hS1
    refine And.intro hS2 ?_
    simp only [Act.put, List.setIfInBounds_toArray, List.set_cons_zero, List.set_cons_succ]
    replace f6 := keep_blk b2 f6
    have l11 : w5.heap.size ≤ g11 := by rw [e2]; have := hz1; omega
    have hz2 : w5.heap.size ≤ V2.heap.size := Nat.le_trans hz1 b2.size
    have hb2 := hb1.trans (b2.mono hz1)
    clear e1 e2
    refine wpAnyH_all (rs := [15, 16]) (by kernel_rfl) (by simp) (fun j hj => ?_)
    simp only [List.mem_cons, List.not_mem_nil, or_false] at hj
    rcases hj with rfl | rfl
    ·
     obtain ⟨g15, V3, e1, e2, f15, b3⟩ := mk_step V2 (.cells (List.replicate (s.size + 1) slN).toArray 97)
     refine op_value (some 31) (v := .slice (some ⟨g15, 0, none⟩) (s.size + 1) (s.size + 1)) (w' := V3) rfl rfl (by rfl) (by rw [e1, e2]; exact mks_yield rfl rfl rfl (hsb _)) ?_
     have hS3 : (fun V : World => V.cell? ⟨c, 8, none⟩ = some (.int .i64 (N : Nat))) V3 := keep_cell b3 hS2
     refine And.intro hS3 ?_
     simp only [Act.put, List.setIfInBounds_toArray, List.set_cons_zero, List.set_cons_succ]
     replace f6 := keep_blk b3 f6
     replace f11 := keep_blk b3 f11
     have l15 : w5.heap.size ≤ g15 := by rw [e2]; have := hz2; omega
     have hz3 : w5.heap.size ≤ V3.heap.size := Nat.le_trans hz2 b3.size
     have hb3 := hb2.trans (b3.mono hz2)
     clear e1 e2
     refine wpAnyH_all (rs := [16]) (by kernel_rfl) (by simp) (fun j hj => ?_)
     obtain rfl : j = 16 := List.mem_singleton.1 hj
     obtain ⟨g16, V4, e1, e2, f16, b4⟩ := mk_step V3 (.map #[] 0)
     refine op_value (some 32) (v := .map (some g16)) (w' := V4) rfl rfl (by rfl) (by rw [e1, e2]; exact mkm_yield rfl) ?_
     have hS4 : (fun V : World => V.cell? ⟨c, 8, none⟩ = some (.int .i64 (N : Nat))) V4 := keep_cell b4 hS3
     refine And.intro hS4 ?_
     simp only [Act.put, List.setIfInBounds_toArray, List.set_cons_zero, List.set_cons_succ]
     replace f6 := keep_blk b4 f6
     replace f11 := keep_blk b4 f11
     replace f15 := keep_blk b4 f15
     have l16 : w5.heap.size ≤ g16 := by rw [e2]; have := hz3; omega
     have hz4 : w5.heap.size ≤ V4.heap.size := Nat.le_trans hz3 b4.size
     have hb4 := hb3.trans (b4.mono hz3)
     clear e1 e2
     refine tq (v := .agg #[.pointer (some ⟨c, 0, none⟩), .string s, .slice (some ⟨g6, 0, none⟩) N N, .slice (some ⟨g11, 0, none⟩) N N, .slice none 0 0, .slice none 0 0, .slice none 0 0, .slice none 0 0, .slice (some ⟨g15, 0, none⟩) (s.size + 1) (s.size + 1), .map (some g16)]) 17 33 hS4 ?_
     simp only [Act.put, List.setIfInBounds_toArray, List.set_cons_zero, List.set_cons_succ]
     refine wpAnyH_all (rs := [18]) (by kernel_rfl) (by simp) (fun j hj => ?_)
     obtain rfl : j = 18 := List.mem_singleton.1 hj
     obtain ⟨T, V5, e1, e2, f5, b5⟩ := mk_step V4 (.cells #[.pointer (some ⟨c, 0, none⟩), .string s, .slice (some ⟨g6, 0, none⟩) N N, .slice (some ⟨g11, 0, none⟩) N N, .slice none 0 0, .slice none 0 0, .slice none 0 0, .slice none 0 0, .slice (some ⟨g15, 0, none⟩) (s.size + 1) (s.size + 1), .map (some g16)] 93)
     refine op_value (some 34) (v := .pointer (some ⟨T, 0, none⟩)) (w' := V5) rfl rfl (by rfl) (by rw [e1, e2]; go_simp; (try with_reducible rfl)) ?_
     have hS5 : (fun V : World => V.cell? ⟨c, 8, none⟩ = some (.int .i64 (N : Nat))) V5 := keep_cell b5 hS4
     refine And.intro hS5 ?_
     simp only [Act.put, List.setIfInBounds_toArray, List.set_cons_zero, List.set_cons_succ]
     have l5 : w5.heap.size ≤ T := by rw [e2]; exact hz4
     clear e1 e2
     refine tq 19 8 hS5 ?_
     simp only [Act.put, List.setIfInBounds_toArray, List.set_cons_zero, List.set_cons_succ]
     refine wpAnyH_done (by kernel_rfl) (hK2 _ _ ?_) _
     go_meet
     exact ⟨T, g6, g11, g15, g16, rfl, hideT ⟨keep_blk b5 f6, keep_blk b5 f11, keep_blk b5 f15, keep_blk b5 f16, f5, hb4.trans (b5.mono hz4), l6, l11, l15, l16, l5⟩⟩
    ·
     obtain ⟨g16, V3, e1, e2, f16, b3⟩ := mk_step V2 (.map #[] 0)
     refine op_value (some 32) (v := .map (some g16)) (w' := V3) rfl rfl (by rfl) (by rw [e1, e2]; exact mkm_yield rfl) ?_
     have hS3 : (fun V : World => V.cell? ⟨c, 8, none⟩ = some (.int .i64 (N : Nat))) V3 := keep_cell b3 hS2
     refine And.intro hS3 ?_
     simp only [Act.put, List.setIfInBounds_toArray, List.set_cons_zero, List.set_cons_succ]
     replace f6 := keep_blk b3 f6
     replace f11 := keep_blk b3 f11
     have l16 : w5.heap.size ≤ g16 := by rw [e2]; have := hz2; omega
     have hz3 : w5.heap.size ≤ V3.heap.size := Nat.le_trans hz2 b3.size
     have hb3 := hb2.trans (b3.mono hz2)
     clear e1 e2
     refine wpAnyH_all (rs := [15]) (by kernel_rfl) (by simp) (fun j hj => ?_)
     obtain rfl : j = 15 := List.mem_singleton.1 hj
     obtain ⟨g15, V4, e1, e2, f15, b4⟩ := mk_step V3 (.cells (List.replicate (s.size + 1) slN).toArray 97)
     refine op_value (some 31) (v := .slice (some ⟨g15, 0, none⟩) (s.size + 1) (s.size + 1)) (w' := V4) rfl rfl (by rfl) (by rw [e1, e2]; exact mks_yield rfl rfl rfl (hsb _)) ?_
     have hS4 : (fun V : World => V.cell? ⟨c, 8, none⟩ = some (.int .i64 (N : Nat))) V4 := keep_cell b4 hS3
     refine And.intro hS4 ?_
     simp only [Act.put, List.setIfInBounds_toArray, List.set_cons_zero, List.set_cons_succ]
     replace f6 := keep_blk b4 f6
     replace f11 := keep_blk b4 f11
     replace f16 := keep_blk b4 f16
     have l15 : w5.heap.size ≤ g15 := by rw [e2]; have := hz3; omega
     have hz4 : w5.heap.size ≤ V4.heap.size := Nat.le_trans hz3 b4.size
     have hb4 := hb3.trans (b4.mono hz3)
     clear e1 e2
     refine tq (v := .agg #[.pointer (some ⟨c, 0, none⟩), .string s, .slice (some ⟨g6, 0, none⟩) N N, .slice (some ⟨g11, 0, none⟩) N N, .slice none 0 0, .slice none 0 0, .slice none 0 0, .slice none 0 0, .slice (some ⟨g15, 0, none⟩) (s.size + 1) (s.size + 1), .map (some g16)]) 17 33 hS4 ?_
     simp only [Act.put, List.setIfInBounds_toArray, List.set_cons_zero, List.set_cons_succ]
     refine wpAnyH_all (rs := [18]) (by kernel_rfl) (by simp) (fun j hj => ?_)
     obtain rfl : j = 18 := List.mem_singleton.1 hj
     obtain ⟨T, V5, e1, e2, f5, b5⟩ := mk_step V4 (.cells #[.pointer (some ⟨c, 0, none⟩), .string s, .slice (some ⟨g6, 0, none⟩) N N, .slice (some ⟨g11, 0, none⟩) N N, .slice none 0 0, .slice none 0 0, .slice none 0 0, .slice none 0 0, .slice (some ⟨g15, 0, none⟩) (s.size + 1) (s.size + 1), .map (some g16)] 93)
     refine op_value (some 34) (v := .pointer (some ⟨T, 0, none⟩)) (w' := V5) rfl rfl (by rfl) (by rw [e1, e2]; go_simp; (try with_reducible rfl)) ?_
     have hS5 : (fun V : World => V.cell? ⟨c, 8, none⟩ = some (.int .i64 (N : Nat))) V5 := keep_cell b5 hS4
     refine And.intro hS5 ?_
     simp only [Act.put, List.setIfInBounds_toArray, List.set_cons_zero, List.set_cons_succ]
     have l5 : w5.heap.size ≤ T := by rw [e2]; exact hz4
     clear e1 e2
     refine tq 19 8 hS5 ?_
     simp only [Act.put, List.setIfInBounds_toArray, List.set_cons_zero, List.set_cons_succ]
     refine wpAnyH_done (by kernel_rfl) (hK2 _ _ ?_) _
     go_meet
     exact ⟨T, g6, g11, g15, g16, rfl, hideT ⟨keep_blk b5 f6, keep_blk b5 f11, keep_blk b5 f15, keep_blk b5 f16, f5, hb4.trans (b5.mono hz4), l6, l11, l15, l16, l5⟩⟩
   ·
    obtain ⟨g15, V2, e1, e2, f15, b2⟩ := mk_step V1 (.cells (List.replicate (s.size + 1) slN).toArray 97)
    refine op_value (some 31) (v := .slice (some ⟨g15, 0, none⟩) (s.size + 1) (s.size + 1)) (w' := V2) rfl rfl (by rfl) (by rw [e1, e2]; exact mks_yield rfl rfl rfl (hsb _)) ?_
    have hS2 : (fun V : World => V.cell? ⟨c, 8, none⟩ = some (.int .i64 (N : Nat))) V2 := keep_cell b2 hS1
    refine And.intro hS2 ?_
    simp only [Act.put, List.setIfInBounds_toArray, List.set_cons_zero, List.set_cons_succ]
    replace f6 := keep_blk b2 f6
    have l15 : w5.heap.size ≤ g15 := by rw [e2]; have := hz1; omega
    have hz2 : w5.heap.size ≤ V2.heap.size := Nat.le_trans hz1 b2.size
    have hb2 := hb1.trans (b2.mono hz1)
    clear e1 e2
    refine wpAnyH_all (rs := [11, 16]) (by kernel_rfl) (by simp) (fun j hj => ?_)
    simp only [List.mem_cons, List.not_mem_nil, or_false] at hj
    rcases hj with rfl | rfl
    ·
     obtain ⟨g11, V3, e1, e2, f11, b3⟩ := mk_step V2 (.cells (List.replicate N slN).toArray 81)
     refine op_value (some 27) (v := .slice (some ⟨g11, 0, none⟩) N N) (w' := V3) rfl rfl (by rfl) (by rw [e1, e2]; exact mks_yield rfl rfl rfl (hss _)) ?_
     have hS3 : (fun V : World => V.cell? ⟨c, 8, none⟩ = some (.int .i64 (N : Nat))) V3 := keep_cell b3 hS2
     refine And.intro hS3 ?_
     simp only [Act.put, List.setIfInBounds_toArray, List.set_cons_zero, List.set_cons_succ]
     replace f6 := keep_blk b3 f6
     replace f15 := keep_blk b3 f15
     have l11 : w5.heap.size ≤ g11 := by rw [e2]; have := hz2; omega
     have hz3 : w5.heap.size ≤ V3.heap.size := Nat.le_trans hz2 b3.size
     have hb3 := hb2.trans (b3.mono hz2)
     clear e1 e2
     refine wpAnyH_all (rs := [16]) (by kernel_rfl) (by simp) (fun j hj => ?_)
     obtain rfl : j = 16 := List.mem_singleton.1 hj
     obtain ⟨g16, V4, e1, e2, f16, b4⟩ := mk_step V3 (.map #[] 0)
     refine op_value (some 32) (v := .map (some g16)) (w' := V4) rfl rfl (by rfl) (by rw [e1, e2]; exact mkm_yield rfl) ?_
     have hS4 : (fun V : World => V.cell? ⟨c, 8, none⟩ = some (.int .i64 (N : Nat))) V4 := keep_cell b4 hS3
     refine And.intro hS4 ?_
     simp only [Act.put, List.setIfInBounds_toArray, List.set_cons_zero, List.set_cons_succ]
     replace f6 := keep_blk b4 f6
     replace f15 := keep_blk b4 f15
     replace f11 := keep_blk b4 f11
     have l16 : w5.heap.size ≤ g16 := by rw [e2]; have := hz3; omega
     have hz4 : w5.heap.size ≤ V4.heap.size := Nat.le_trans hz3 b4.size
     have hb4 := hb3.trans (b4.mono hz3)
     clear e1 e2
     refine tq (v := .agg #[.pointer (some ⟨c, 0, none⟩), .string s, .slice (some ⟨g6, 0, none⟩) N N, .slice (some ⟨g11, 0, none⟩) N N, .slice none 0 0, .slice none 0 0, .slice none 0 0, .slice none 0 0, .slice (some ⟨g15, 0, none⟩) (s.size + 1) (s.size + 1), .map (some g16)]) 17 33 hS4 ?_
     simp only [Act.put, List.setIfInBounds_toArray, List.set_cons_zero, List.set_cons_succ]
     refine wpAnyH_all (rs := [18]) (by kernel_rfl) (by simp) (fun j hj => ?_)
     obtain rfl : j = 18 := List.mem_singleton.1 hj
     obtain ⟨T, V5, e1, e2, f5, b5⟩ := mk_step V4 (.cells #[.pointer (some ⟨c, 0, none⟩), .string s, .slice (some ⟨g6, 0, none⟩) N N, .slice (some ⟨g11, 0, none⟩) N N, .slice none 0 0, .slice none 0 0, .slice none 0 0, .slice none 0 0, .slice (some ⟨g15, 0, none⟩) (s.size + 1) (s.size + 1), .map (some g16)] 93)
     refine op_value (some 34) (v := .pointer (some ⟨T, 0, none⟩)) (w' := V5) rfl rfl (by rfl) (by rw [e1, e2]; go_simp; (try with_reducible rfl)) ?_
     have hS5 : (fun V : World => V.cell? ⟨c, 8, none⟩ = some (.int .i64 (N : Nat))) V5 := keep_cell b5 hS4
     refine And.intro hS5 ?_
     simp only [Act.put, List.setIfInBounds_toArray, List.set_cons_zero, List.set_cons_succ]
     have l5 : w5.heap.size ≤ T := by rw [e2]; exact hz4
     clear e1 e2
     refine tq 19 8 hS5 ?_
     simp only [Act.put, List.setIfInBounds_toArray, List.set_cons_zero, List.set_cons_succ]
     refine wpAnyH_done (by kernel_rfl) (hK2 _ _ ?_) _
     go_meet
     exact ⟨T, g6, g11, g15, g16, rfl, hideT ⟨keep_blk b5 f6, keep_blk b5 f11, keep_blk b5 f15, keep_blk b5 f16, f5, hb4.trans (b5.mono hz4), l6, l11, l15, l16, l5⟩⟩
    ·
     obtain ⟨g16, V3, e1, e2, f16, b3⟩ := mk_step V2 (.map #[] 0)
     refine op_value (some 32) (v := .map (some g16)) (w' := V3) rfl rfl (by rfl) (by rw [e1, e2]; exact mkm_yield rfl) ?_
     have hS3 : (fun V : World => V.cell? ⟨c, 8, none⟩ = some (.int .i64 (N : Nat))) V3 := keep_cell b3 hS2
     refine And.intro hS3 ?_
     simp only [Act.put, List.setIfInBounds_toArray, List.set_cons_zero, List.set_cons_succ]
     replace f6 := keep_blk b3 f6
     replace f15 := keep_blk b3 f15
     have l16 : w5.heap.size ≤ g16 := by rw [e2]; have := hz2; omega
     have hz3 : w5.heap.size ≤ V3.heap.size := Nat.le_trans hz2 b3.size
     have hb3 := hb2.trans (b3.mono hz2)
     clear e1 e2
     refine wpAnyH_all (rs := [11]) (by kernel_rfl) (by simp) (fun j hj => ?_)
     obtain rfl : j = 11 := List.mem_singleton.1 hj
     obtain ⟨g11, V4, e1, e2, f11, b4⟩ := mk_step V3 (.cells (List.replicate N slN).toArray 81)
     refine op_value (some 27) (v := .slice (some ⟨g11, 0, none⟩) N N) (w' := V4) rfl rfl (by rfl) (by rw [e1, e2]; exact mks_yield rfl rfl rfl (hss _)) ?_
     have hS4 : (fun V : World => V.cell? ⟨c, 8, none⟩ = some (.int .i64 (N : Nat))) V4 := keep_cell b4 hS3
     refine And.intro hS4 ?_
     simp only [Act.put, List.setIfInBounds_toArray, List.set_cons_zero, List.set_cons_succ]
     replace f6 := keep_blk b4 f6
     replace f15 := keep_blk b4 f15
     replace f16 := keep_blk b4 f16
     have l11 : w5.heap.size ≤ g11 := by rw [e2]; have := hz3; omega
     have hz4 : w5.heap.size ≤ V4.heap.size := Nat.le_trans hz3 b4.size
     have hb4 := hb3.trans (b4.mono hz3)
     clear e1 e2
     refine tq (v := .agg #[.pointer (some ⟨c, 0, none⟩), .string s, .slice (some ⟨g6, 0, none⟩) N N, .slice (some ⟨g11, 0, none⟩) N N, .slice none 0 0, .slice none 0 0, .slice none 0 0, .slice none 0 0, .slice (some ⟨g15, 0, none⟩) (s.size + 1) (s.size + 1), .map (some g16)]) 17 33 hS4 ?_
     simp only [Act.put, List.setIfInBounds_toArray, List.set_cons_zero, List.set_cons_succ]
     refine wpAnyH_all (rs := [18]) (by kernel_rfl) (by simp) (fun j hj => ?_)
     obtain rfl : j = 18 := List.mem_singleton.1 hj
     obtain ⟨T, V5, e1, e2, f5, b5⟩ := mk_step V4 (.cells #[.pointer (some ⟨c, 0, none⟩), .string s, .slice (some ⟨g6, 0, none⟩) N N, .slice (some ⟨g11, 0, none⟩) N N, .slice none 0 0, .slice none 0 0, .slice none 0 0, .slice none 0 0, .slice (some ⟨g15, 0, none⟩) (s.size + 1) (s.size + 1), .map (some g16)] 93)
     refine op_value (some 34) (v := .pointer (some ⟨T, 0, none⟩)) (w' := V5) rfl rfl (by rfl) (by rw [e1, e2]; go_simp; (try with_reducible rfl)) ?_
     have hS5 : (fun V : World => V.cell? ⟨c, 8, none⟩ = some (.int .i64 (N : Nat))) V5 := keep_cell b5 hS4
     refine And.intro hS5 ?_
     simp only [Act.put, List.setIfInBounds_toArray, List.set_cons_zero, List.set_cons_succ]
     have l5 : w5.heap.size ≤ T := by rw [e2]; exact hz4
     clear e1 e2
     refine tq 19 8 hS5 ?_
     simp only [Act.put, List.setIfInBounds_toArray, List.set_cons_zero, List.set_cons_succ]
     refine wpAnyH_done (by kernel_rfl) (hK2 _ _ ?_) _
     go_meet
     exact ⟨T, g6, g11, g15, g16, rfl, hideT ⟨keep_blk b5 f6, keep_blk b5 f11, keep_blk b5 f15, keep_blk b5 f16, f5, hb4.trans (b5.mono hz4), l6, l11, l15, l16, l5⟩⟩
   ·
    obtain ⟨g16, V2, e1, e2, f16, b2⟩ := mk_step V1 (.map #[] 0)
    refine op_value (some 32) (v := .map (some g16)) (w' := V2) rfl rfl (by rfl) (by rw [e1, e2]; exact mkm_yield rfl) ?_
    have hS2 : (fun V : World => V.cell? ⟨c, 8, none⟩ = some (.int .i64 (N : Nat))) V2 := keep_cell b2 hS1
    refine And.intro hS2 ?_
    simp only [Act.put, List.setIfInBounds_toArray, List.set_cons_zero, List.set_cons_succ]
    replace f6 := keep_blk b2 f6
    have l16 : w5.heap.size ≤ g16 := by rw [e2]; have := hz1; omega
    have hz2 : w5.heap.size ≤ V2.heap.size := Nat.le_trans hz1 b2.size
    have hb2 := hb1.trans (b2.mono hz1)
    clear e1 e2
    refine wpAnyH_all (rs := [11, 15]) (by kernel_rfl) (by simp) (fun j hj => ?_)
    simp only [List.mem_cons, List.not_mem_nil, or_false] at hj
    rcases hj with rfl | rfl
    ·
     obtain ⟨g11, V3, e1, e2, f11, b3⟩ := mk_step V2 (.cells (List.replicate N slN).toArray 81)
     refine op_value (some 27) (v := .slice (some ⟨g11, 0, none⟩) N N) (w' := V3) rfl rfl (by rfl) (by rw [e1, e2]; exact mks_yield rfl rfl rfl (hss _)) ?_
     have hS3 : (fun V : World => V.cell? ⟨c, 8, none⟩ = some (.int .i64 (N : Nat))) V3 := keep_cell b3 hS2
     refine And.intro hS3 ?_
     simp only [Act.put, List.setIfInBounds_toArray, List.set_cons_zero, List.set_cons_succ]
     replace f6 := keep_blk b3 f6
     replace f16 := keep_blk b3 f16
     have l11 : w5.heap.size ≤ g11 := by rw [e2]; have := hz2; omega
     have hz3 : w5.heap.size ≤ V3.heap.size := Nat.le_trans hz2 b3.size
     have hb3 := hb2.trans (b3.mono hz2)
     clear e1 e2
     refine wpAnyH_all (rs := [15]) (by kernel_rfl) (by simp) (fun j hj => ?_)
     obtain rfl : j = 15 := List.mem_singleton.1 hj
     obtain ⟨g15, V4, e1, e2, f15, b4⟩ := mk_step V3 (.cells (List.replicate (s.size + 1) slN).toArray 97)
     refine op_value (some 31) (v := .slice (some ⟨g15, 0, none⟩) (s.size + 1) (s.size + 1)) (w' := V4) rfl rfl (by rfl) (by rw [e1, e2]; exact mks_yield rfl rfl rfl (hsb _)) ?_
     have hS4 : (fun V : World => V.cell? ⟨c, 8, none⟩ = some (.int .i64 (N : Nat))) V4 := keep_cell b4 hS3
     refine And.intro hS4 ?_
     simp only [Act.put, List.setIfInBounds_toArray, List.set_cons_zero, List.set_cons_succ]
     replace f6 := keep_blk b4 f6
     replace f16 := keep_blk b4 f16
     replace f11 := keep_blk b4 f11
     have l15 : w5.heap.size ≤ g15 := by rw [e2]; have := hz3; omega
     have hz4 : w5.heap.size ≤ V4.heap.size := Nat.le_trans hz3 b4.size
     have hb4 := hb3.trans (b4.mono hz3)
     clear e1 e2
     refine tq (v := .agg #[.pointer (some ⟨c, 0, none⟩), .string s, .slice (some ⟨g6, 0, none⟩) N N, .slice (some ⟨g11, 0, none⟩) N N, .slice none 0 0, .slice none 0 0, .slice none 0 0, .slice none 0 0, .slice (some ⟨g15, 0, none⟩) (s.size + 1) (s.size + 1), .map (some g16)]) 17 33 hS4 ?_
     simp only [Act.put, List.setIfInBounds_toArray, List.set_cons_zero, List.set_cons_succ]
     refine wpAnyH_all (rs := [18]) (by kernel_rfl) (by simp) (fun j hj => ?_)
     obtain rfl : j = 18 := List.mem_singleton.1 hj
     obtain ⟨T, V5, e1, e2, f5, b5⟩ := mk_step V4 (.cells #[.pointer (some ⟨c, 0, none⟩), .string s, .slice (some ⟨g6, 0, none⟩) N N, .slice (some ⟨g11, 0, none⟩) N N, .slice none 0 0, .slice none 0 0, .slice none 0 0, .slice none 0 0, .slice (some ⟨g15, 0, none⟩) (s.size + 1) (s.size + 1), .map (some g16)] 93)
     refine op_value (some 34) (v := .pointer (some ⟨T, 0, none⟩)) (w' := V5) rfl rfl (by rfl) (by rw [e1, e2]; go_simp; (try with_reducible rfl)) ?_
     have hS5 : (fun V : World => V.cell? ⟨c, 8, none⟩ = some (.int .i64 (N : Nat))) V5 := keep_cell b5 hS4
     refine And.intro hS5 ?_
     simp only [Act.put, List.setIfInBounds_toArray, List.set_cons_zero, List.set_cons_succ]
     have l5 : w5.heap.size ≤ T := by rw [e2]; exact hz4
     clear e1 e2
     refine tq 19 8 hS5 ?_
     simp only [Act.put, List.setIfInBounds_toArray, List.set_cons_zero, List.set_cons_succ]
     refine wpAnyH_done (by kernel_rfl) (hK2 _ _ ?_) _
     go_meet
     exact ⟨T, g6, g11, g15, g16, rfl, hideT ⟨keep_blk b5 f6, keep_blk b5 f11, keep_blk b5 f15, keep_blk b5 f16, f5, hb4.trans (b5.mono hz4), l6, l11, l15, l16, l5⟩⟩
    ·
     obtain ⟨g15, V3, e1, e2, f15, b3⟩ := mk_step V2 (.cells (List.replicate (s.size + 1) slN).toArray 97)
     refine op_value (some 31) (v := .slice (some ⟨g15, 0, none⟩) (s.size + 1) (s.size + 1)) (w' := V3) rfl rfl (by rfl) (by rw [e1, e2]; exact mks_yield rfl rfl rfl (hsb _)) ?_
     have hS3 : (fun V : World => V.cell? ⟨c, 8, none⟩ = some (.int .i64 (N : Nat))) V3 := keep_cell b3 hS2
     refine And.intro hS3 ?_
     simp only [Act.put, List.setIfInBounds_toArray, List.set_cons_zero, List.set_cons_succ]
     replace f6 := keep_blk b3 f6
     replace f16 := keep_blk b3 f16
     have l15 : w5.heap.size ≤ g15 := by rw [e2]; have := hz2; omega
     have hz3 : w5.heap.size ≤ V3.heap.size := Nat.le_trans hz2 b3.size
     have hb3 := hb2.trans (b3.mono hz2)
     clear e1 e2
     refine wpAnyH_all (rs := [11]) (by kernel_rfl) (by simp) (fun j hj => ?_)
     obtain rfl : j = 11 := List.mem_singleton.1 hj
     obtain ⟨g11, V4, e1, e2, f11, b4⟩ := mk_step V3 (.cells (List.replicate N slN).toArray 81)
     refine op_value (some 27) (v := .slice (some ⟨g11, 0, none⟩) N N) (w' := V4) rfl rfl (by rfl) (by rw [e1, e2]; exact mks_yield rfl rfl rfl (hss _)) ?_
     have hS4 : (fun V : World => V.cell? ⟨c, 8, none⟩ = some (.int .i64 (N : Nat))) V4 := keep_cell b4 hS3
     refine And.intro hS4 ?_
     simp only [Act.put, List.setIfInBounds_toArray, List.set_cons_zero, List.set_cons_succ]
     replace f6 := keep_blk b4 f6
     replace f16 := keep_blk b4 f16
     replace f15 := keep_blk b4 f15
     have l11 : w5.heap.size ≤ g11 := by rw [e2]; have := hz3; omega
     have hz4 : w5.heap.size ≤ V4.heap.size := Nat.le_trans hz3 b4.size
     have hb4 := hb3.trans (b4.mono hz3)
     clear e1 e2
     refine tq (v := .agg #[.pointer (some ⟨c, 0, none⟩), .string s, .slice (some ⟨g6, 0, none⟩) N N, .slice (some ⟨g11, 0, none⟩) N N, .slice none 0 0, .slice none 0 0, .slice none 0 0, .slice none 0 0, .slice (some ⟨g15, 0, none⟩) (s.size + 1) (s.size + 1), .map (some g16)]) 17 33 hS4 ?_
     simp only [Act.put, List.setIfInBounds_toArray, List.set_cons_zero, List.set_cons_succ]
     refine wpAnyH_all (rs := [18]) (by kernel_rfl) (by simp) (fun j hj => ?_)
     obtain rfl : j = 18 := List.mem_singleton.1 hj
     obtain ⟨T, V5, e1, e2, f5, b5⟩ := mk_step V4 (.cells #[.pointer (some ⟨c, 0, none⟩), .string s, .slice (some ⟨g6, 0, none⟩) N N, .slice (some ⟨g11, 0, none⟩) N N, .slice none 0 0, .slice none 0 0, .slice none 0 0, .slice none 0 0, .slice (some ⟨g15, 0, none⟩) (s.size + 1) (s.size + 1), .map (some g16)] 93)
     refine op_value (some 34) (v := .pointer (some ⟨T, 0, none⟩)) (w' := V5) rfl rfl (by rfl) (by rw [e1, e2]; go_simp; (try with_reducible rfl)) ?_
     have hS5 : (fun V : World => V.cell? ⟨c, 8, none⟩ = some (.int .i64 (N : Nat))) V5 := keep_cell b5 hS4
     refine And.intro hS5 ?_
     simp only [Act.put, List.setIfInBounds_toArray, List.set_cons_zero, List.set_cons_succ]
     have l5 : w5.heap.size ≤ T := by rw [e2]; exact hz4
     clear e1 e2
     refine tq 19 8 hS5 ?_
     simp only [Act.put, List.setIfInBounds_toArray, List.set_cons_zero, List.set_cons_succ]
     refine wpAnyH_done (by kernel_rfl) (hK2 _ _ ?_) _
     go_meet
     exact ⟨T, g6, g11, g15, g16, rfl, hideT ⟨keep_blk b5 f6, keep_blk b5 f11, keep_blk b5 f15, keep_blk b5 f16, f5, hb4.trans (b5.mono hz4), l6, l11, l15, l16, l5⟩⟩
  ·
   obtain ⟨g11, V1, e1, e2, f11, b1⟩ := mk_step V0 (.cells (List.replicate N slN).toArray 81)
   refine op_value (some 27) (v := .slice (some ⟨g11, 0, none⟩) N N) (w' := V1) rfl rfl (by rfl) (by rw [e1, e2]; exact mks_yield rfl rfl rfl (hss _)) ?_
   have hS1 : (fun V : World => V.cell? ⟨c, 8, none⟩ = some (.int .i64 (N : Nat))) V1 := keep_cell b1 hS0
   refine And.intro hS1 ?_
   simp only [Act.put, List.setIfInBounds_toArray, List.set_cons_zero, List.set_cons_succ]
   have l11 : w5.heap.size ≤ g11 := by rw [e2]; have := hz0; omega
   have hz1 : w5.heap.size ≤ V1.heap.size := Nat.le_trans hz0 b1.size
   have hb1 := hb0.trans (b1.mono hz0)
   clear e1 e2
   refine wpAnyH_all (rs := [6, 15, 16]) (by kernel_rfl) (by simp) (fun j hj => ?_)
   simp only [List.mem_cons, List.not_mem_nil, or_false] at hj
   rcases hj with rfl | rfl | rfl
   ·
    obtain ⟨g6, V2, e1, e2, f6, b2⟩ := mk_step V1 (.cells (tkV (List.replicate N xad)).toArray 38)
    refine op_value (some 22) (v := .slice (some ⟨g6, 0, none⟩) N N) (w' := V2) rfl rfl (by rfl) (by rw [e1, e2]; exact mks_yield rfl rfl rfl (hse _)) ?_
    have hS2 : (fun V : World => V.cell? ⟨c, 8, none⟩ = some (.int .i64 (N : Nat))) V2 := keep_cell b2 hS1
    refine And.intro hS2 ?_
    simp only [Act.put, List.setIfInBounds_toArray, List.set_cons_zero, List.set_cons_succ]
    replace f11 := keep_blk b2 f11
    have l6 : w5.heap.size ≤ g6 := by rw [e2]; have := hz1; omega
    have hz2 : w5.heap.size ≤ V2.heap.size := Nat.le_trans hz1 b2.size
    have hb2 := hb1.trans (b2.mono hz1)
    clear e1 e2
    refine wpAnyH_all (rs := [15, 16]) (by kernel_rfl) (by simp) (fun j hj => ?_)
    simp only [List.mem_cons, List.not_mem_nil, or_false] at hj
    rcases hj with rfl | rfl
    ·
     obtain ⟨g15, V3, e1, e2, f15, b3⟩ := mk_step V2 (.cells (List.replicate (s.size + 1) slN).toArray 97)
     refine op_value (some 31) (v := .slice (some ⟨g15, 0, none⟩) (s.size + 1) (s.size + 1)) (w' := V3) rfl rfl (by rfl) (by rw [e1, e2]; exact mks_yield rfl rfl rfl (hsb _)) ?_
     have hS3 : (fun V : World => V.cell? ⟨c, 8, none⟩ = some (.int .i64 (N : Nat))) V3 := keep_cell b3 hS2
     refine And.intro hS3 ?_
     simp only [Act.put, List.setIfInBounds_toArray, List.set_cons_zero, List.set_cons_succ]
     replace f11 := keep_blk b3 f11
     replace f6 := keep_blk b3 f6
     have l15 : w5.heap.size ≤ g15 := by rw [e2]; have := hz2; omega
     have hz3 : w5.heap.size ≤ V3.heap.size := Nat.le_trans hz2 b3.size
     have hb3 := hb2.trans (b3.mono hz2)
     clear e1 e2
     refine wpAnyH_all (rs := [16]) (by kernel_rfl) (by simp) (fun j hj => ?_)
     obtain rfl : j = 16 := List.mem_singleton.1 hj
     obtain ⟨g16, V4, e1, e2, f16, b4⟩ := mk_step V3 (.map #[] 0)
     refine op_value (some 32) (v := .map (some g16)) (w' := V4) rfl rfl (by rfl) (by rw [e1, e2]; exact mkm_yield rfl) ?_
     have hS4 : (fun V : World => V.cell? ⟨c, 8, none⟩ = some (.int .i64 (N : Nat))) V4 := keep_cell b4 hS3
     refine And.intro hS4 ?_
     simp only [Act.put, List.setIfInBounds_toArray, List.set_cons_zero, List.set_cons_succ]
     replace f11 := keep_blk b4 f11
     replace f6 := keep_blk b4 f6
     replace f15 := keep_blk b4 f15
     have l16 : w5.heap.size ≤ g16 := by rw [e2]; have := hz3; omega
     have hz4 : w5.heap.size ≤ V4.heap.size := Nat.le_trans hz3 b4.size
     have hb4 := hb3.trans (b4.mono hz3)
     clear e1 e2
     refine tq (v := .agg #[.pointer (some ⟨c, 0, none⟩), .string s, .slice (some ⟨g6, 0, none⟩) N N, .slice (some ⟨g11, 0, none⟩) N N, .slice none 0 0, .slice none 0 0, .slice none 0 0, .slice none 0 0, .slice (some ⟨g15, 0, none⟩) (s.size + 1) (s.size + 1), .map (some g16)]) 17 33 hS4 ?_
     simp only [Act.put, List.setIfInBounds_toArray, List.set_cons_zero, List.set_cons_succ]
     refine wpAnyH_all (rs := [18]) (by kernel_rfl) (by simp) (fun j hj => ?_)
     obtain rfl : j = 18 := List.mem_singleton.1 hj
     obtain ⟨T, V5, e1, e2, f5, b5⟩ := mk_step V4 (.cells #[.pointer (some ⟨c, 0, none⟩), .string s, .slice (some ⟨g6, 0, none⟩) N N, .slice (some ⟨g11, 0, none⟩) N N, .slice none 0 0, .slice none 0 0, .slice none 0 0, .slice none 0 0, .slice (some ⟨g15, 0, none⟩) (s.size + 1) (s.size + 1), .map (some g16)] 93)
     refine op_value (some 34) (v := .pointer (some ⟨T, 0, none⟩)) (w' := V5) rfl rfl (by rfl) (by rw [e1, e2]; go_simp; (try with_reducible rfl)) ?_
     have hS5 : (fun V : World => V.cell? ⟨c, 8, none⟩ = some (.int .i64 (N : Nat))) V5 := keep_cell b5 hS4
     refine And.intro hS5 ?_
     simp only [Act.put, List.setIfInBounds_toArray, List.set_cons_zero, List.set_cons_succ]
     have l5 : w5.heap.size ≤ T := by rw [e2]; exact hz4
     clear e1 e2
     refine tq 19 8 hS5 ?_
     simp only [Act.put, List.setIfInBounds_toArray, List.set_cons_zero, List.set_cons_succ]
     refine wpAnyH_done (by kernel_rfl) (hK2 _ _ ?_) _
     go_meet
     exact ⟨T, g6, g11, g15, g16, rfl, hideT ⟨keep_blk b5 f6, keep_blk b5 f11, keep_blk b5 f15, keep_blk b5 f16, f5, hb4.trans (b5.mono hz4), l6, l11, l15, l16, l5⟩⟩
    ·
     obtain ⟨g16, V3, e1, e2, f16, b3⟩ := mk_step V2 (.map #[] 0)
     refine op_value (some 32) (v := .map (some g16)) (w' := V3) rfl rfl (by rfl) (by rw [e1, e2]; exact mkm_yield rfl) ?_
     have hS3 : (fun V : World => V.cell? ⟨c, 8, none⟩ = some (.int .i64 (N : Nat))) V3 := keep_cell b3 hS2
     refine And.intro hS3 ?_
     simp only [Act.put, List.setIfInBounds_toArray, List.set_cons_zero, List.set_cons_succ]
     replace f11 := keep_blk b3 f11
     replace f6 := keep_blk b3 f6
     have l16 : w5.heap.size ≤ g16 := by rw [e2]; have := hz2; omega
     have hz3 : w5.heap.size ≤ V3.heap.size := Nat.le_trans hz2 b3.size
     have hb3 := hb2.trans (b3.mono hz2)
     clear e1 e2
     refine wpAnyH_all (rs := [15]) (by kernel_rfl) (by simp) (fun j hj => ?_)
     obtain rfl : j = 15 := List.mem_singleton.1 hj
     obtain ⟨g15, V4, e1, e2, f15, b4⟩ := mk_step V3 (.cells (List.replicate (s.size + 1) slN).toArray 97)
     refine op_value (some 31) (v := .slice (some ⟨g15, 0, none⟩) (s.size + 1) (s.size + 1)) (w' := V4) rfl rfl (by rfl) (by rw [e1, e2]; exact mks_yield rfl rfl rfl (hsb _)) ?_
     have hS4 : (fun V : World => V.cell? ⟨c, 8, none⟩ = some (.int .i64 (N : Nat))) V4 := keep_cell b4 hS3
     refine And.intro hS4 ?_
     simp only [Act.put, List.setIfInBounds_toArray, List.set_cons_zero, List.set_cons_succ]
     replace f11 := keep_blk b4 f11
     replace f6 := keep_blk b4 f6
     replace f16 := keep_blk b4 f16
     have l15 : w5.heap.size ≤ g15 := by rw [e2]; have := hz3; omega
     have hz4 : w5.heap.size ≤ V4.heap.size := Nat.le_trans hz3 b4.size
     have hb4 := hb3.trans (b4.mono hz3)
     clear e1 e2
     refine tq (v := .agg #[.pointer (some ⟨c, 0, none⟩), .string s, .slice (some ⟨g6, 0, none⟩) N N, .slice (some ⟨g11, 0, none⟩) N N, .slice none 0 0, .slice none 0 0, .slice none 0 0, .slice none 0 0, .slice (some ⟨g15, 0, none⟩) (s.size + 1) (s.size + 1), .map (some g16)]) 17 33 hS4 ?_
     simp only [Act.put, List.setIfInBounds_toArray, List.set_cons_zero, List.set_cons_succ]
     refine wpAnyH_all (rs := [18]) (by kernel_rfl) (by simp) (fun j hj => ?_)
     obtain rfl : j = 18 := List.mem_singleton.1 hj
     obtain ⟨T, V5, e1, e2, f5, b5⟩ := mk_step V4 (.cells #[.pointer (some ⟨c, 0, none⟩), .string s, .slice (some ⟨g6, 0, none⟩) N N, .slice (some ⟨g11, 0, none⟩) N N, .slice none 0 0, .slice none 0 0, .slice none 0 0, .slice none 0 0, .slice (some ⟨g15, 0, none⟩) (s.size + 1) (s.size + 1), .map (some g16)] 93)
     refine op_value (some 34) (v := .pointer (some ⟨T, 0, none⟩)) (w' := V5) rfl rfl (by rfl) (by rw [e1, e2]; go_simp; (try with_reducible rfl)) ?_
     have hS5 : (fun V : World => V.cell? ⟨c, 8, none⟩ = some (.int .i64 (N : Nat))) V5 := keep_cell b5 hS4
     refine And.intro hS5 ?_
     simp only [Act.put, List.setIfInBounds_toArray, List.set_cons_zero, List.set_cons_succ]
     have l5 : w5.heap.size ≤ T := by rw [e2]; exact hz4
     clear e1 e2
     refine tq 19 8 hS5 ?_
     simp only [Act.put, List.setIfInBounds_toArray, List.set_cons_zero, List.set_cons_succ]
     refine wpAnyH_done (by kernel_rfl) (hK2 _ _ ?_) _
     go_meet
     exact ⟨T, g6, g11, g15, g16, rfl, hideT ⟨keep_blk b5 f6, keep_blk b5 f11, keep_blk b5 f15, keep_blk b5 f16, f5, hb4.trans (b5.mono hz4), l6, l11, l15, l16, l5⟩⟩
   ·
    obtain ⟨g15, V2, e1, e2, f15, b2⟩ := mk_step V1 (.cells (List.replicate (s.size + 1) slN).toArray 97)
    refine op_value (some 31) (v := .slice (some ⟨g15, 0, none⟩) (s.size + 1) (s.size + 1)) (w' := V2) rfl rfl (by rfl) (by rw [e1, e2]; exact mks_yield rfl rfl rfl (hsb _)) ?_
    have hS2 : (fun V : World => V.cell? ⟨c, 8, none⟩ = some (.int .i64 (N : Nat))) V2 := keep_cell b2 hS1
    refine And.intro hS2 ?_
    simp only [Act.put, List.setIfInBounds_toArray, List.set_cons_zero, List.set_cons_succ]
    replace f11 := keep_blk b2 f11
    have l15 : w5.heap.size ≤ g15 := by rw [e2]; have := hz1; omega
    have hz2 : w5.heap.size ≤ V2.heap.size := Nat.le_trans hz1 b2.size
    have hb2 := hb1.trans (b2.mono hz1)
    clear e1 e2
    refine wpAnyH_all (rs := [6, 16]) (by kernel_rfl) (by simp) (fun j hj => ?_)
    simp only [List.mem_cons, List.not_mem_nil, or_false] at hj
    rcases hj with rfl | rfl
    ·
     obtain ⟨g6, V3, e1, e2, f6, b3⟩ := mk_step V2 (.cells (tkV (List.replicate N xad)).toArray 38)
     refine op_value (some 22) (v := .slice (some ⟨g6, 0, none⟩) N N) (w' := V3) rfl rfl (by rfl) (by rw [e1, e2]; exact mks_yield rfl rfl rfl (hse _)) ?_
     have hS3 : (fun V : World => V.cell? ⟨c, 8, none⟩ = some (.int .i64 (N : Nat))) V3 := keep_cell b3 hS2
     refine And.intro hS3 ?_
     simp only [Act.put, List.setIfInBounds_toArray, List.set_cons_zero, List.set_cons_succ]
     replace f11 := keep_blk b3 f11
     replace f15 := keep_blk b3 f15
     have l6 : w5.heap.size ≤ g6 := by rw [e2]; have := hz2; omega
     have hz3 : w5.heap.size ≤ V3.heap.size := Nat.le_trans hz2 b3.size
     have hb3 := hb2.trans (b3.mono hz2)
     clear e1 e2
     refine wpAnyH_all (rs := [16]) (by kernel_rfl) (by simp) (fun j hj => ?_)
     obtain rfl : j = 16 := List.mem_singleton.1 hj
     obtain ⟨g16, V4, e1, e2, f16, b4⟩ := mk_step V3 (.map #[] 0)
     refine op_value (some 32) (v := .map (some g16)) (w' := V4) rfl rfl (by rfl) (by rw [e1, e2]; exact mkm_yield rfl) ?_
     have hS4 : (fun V : World => V.cell? ⟨c, 8, none⟩ = some (.int .i64 (N : Nat))) V4 := keep_cell b4 hS3
     refine And.intro hS4 ?_
     simp only [Act.put, List.setIfInBounds_toArray, List.set_cons_zero, List.set_cons_succ]
     replace f11 := keep_blk b4 f11
     replace f15 := keep_blk b4 f15
     replace f6 := keep_blk b4 f6
     have l16 : w5.heap.size ≤ g16 := by rw [e2]; have := hz3; omega
     have hz4 : w5.heap.size ≤ V4.heap.size := Nat.le_trans hz3 b4.size
     have hb4 := hb3.trans (b4.mono hz3)
     clear e1 e2
     refine tq (v := .agg #[.pointer (some ⟨c, 0, none⟩), .string s, .slice (some ⟨g6, 0, none⟩) N N, .slice (some ⟨g11, 0, none⟩) N N, .slice none 0 0, .slice none 0 0, .slice none 0 0, .slice none 0 0, .slice (some ⟨g15, 0, none⟩) (s.size + 1) (s.size + 1), .map (some g16)]) 17 33 hS4 ?_
     simp only [Act.put, List.setIfInBounds_toArray, List.set_cons_zero, List.set_cons_succ]
     refine wpAnyH_all (rs := [18]) (by kernel_rfl) (by simp) (fun j hj => ?_)
     obtain rfl : j = 18 := List.mem_singleton.1 hj
     obtain ⟨T, V5, e1, e2, f5, b5⟩ := mk_step V4 (.cells #[.pointer (some ⟨c, 0, none⟩), .string s, .slice (some ⟨g6, 0, none⟩) N N, .slice (some ⟨g11, 0, none⟩) N N, .slice none 0 0, .slice none 0 0, .slice none 0 0, .slice none 0 0, .slice (some ⟨g15, 0, none⟩) (s.size + 1) (s.size + 1), .map (some g16)] 93)
     refine op_value (some 34) (v := .pointer (some ⟨T, 0, none⟩)) (w' := V5) rfl rfl (by rfl) (by rw [e1, e2]; go_simp; (try with_reducible rfl)) ?_
     have hS5 : (fun V : World => V.cell? ⟨c, 8, none⟩ = some (.int .i64 (N : Nat))) V5 := keep_cell b5 hS4
     refine And.intro hS5 ?_
     simp only [Act.put, List.setIfInBounds_toArray, List.set_cons_zero, List.set_cons_succ]
     have l5 : w5.heap.size ≤ T := by rw [e2]; exact hz4
     clear e1 e2
     refine tq 19 8 hS5 ?_
     simp only [Act.put, List.setIfInBounds_toArray, List.set_cons_zero, List.set_cons_succ]
     refine wpAnyH_done (by kernel_rfl) (hK2 _ _ ?_) _
     go_meet
     exact ⟨T, g6, g11, g15, g16, rfl, hideT ⟨keep_blk b5 f6, keep_blk b5 f11, keep_blk b5 f15, keep_blk b5 f16, f5, hb4.trans (b5.mono hz4), l6, l11, l15, l16, l5⟩⟩
    ·
     obtain ⟨g16, V3, e1, e2, f16, b3⟩ := mk_step V2 (.map #[] 0)
     refine op_value (some 32) (v := .map (some g16)) (w' := V3) rfl rfl (by rfl) (by rw [e1, e2]; exact mkm_yield rfl) ?_
     have hS3 : (fun V : World => V.cell? ⟨c, 8, none⟩ = some (.int .i64 (N : Nat))) V3 := keep_cell b3 hS2
     refine And.intro hS3 ?_
     simp only [Act.put, List.setIfInBounds_toArray, List.set_cons_zero, List.set_cons_succ]
     replace f11 := keep_blk b3 f11
     replace f15 := keep_blk b3 f15
     have l16 : w5.heap.size ≤ g16 := by rw [e2]; have := hz2; omega
     have hz3 : w5.heap.size ≤ V3.heap.size := Nat.le_trans hz2 b3.size
     have hb3 := hb2.trans (b3.mono hz2)
     clear e1 e2
     refine wpAnyH_all (rs := [6]) (by kernel_rfl) (by simp) (fun j hj => ?_)
     obtain rfl : j = 6 := List.mem_singleton.1 hj
     obtain ⟨g6, V4, e1, e2, f6, b4⟩ := mk_step V3 (.cells (tkV (List.replicate N xad)).toArray 38)
     refine op_value (some 22) (v := .slice (some ⟨g6, 0, none⟩) N N) (w' := V4) rfl rfl (by rfl) (by rw [e1, e2]; exact mks_yield rfl rfl rfl (hse _)) ?_
     have hS4 : (fun V : World => V.cell? ⟨c, 8, none⟩ = some (.int .i64 (N : Nat))) V4 := keep_cell b4 hS3
     refine And.intro hS4 ?_
     simp only [Act.put, List.setIfInBounds_toArray, List.set_cons_zero, List.set_cons_succ]
     replace f11 := keep_blk b4 f11
     replace f15 := keep_blk b4 f15
     replace f16 := keep_blk b4 f16
     have l6 : w5.heap.size ≤ g6 := by rw [e2]; have := hz3; omega
     have hz4 : w5.heap.size ≤ V4.heap.size := Nat.le_trans hz3 b4.size
     have hb4 := hb3.trans (b4.mono hz3)
     clear e1 e2
     refine tq (v := .agg #[.pointer (some ⟨c, 0, none⟩), .string s, .slice (some ⟨g6, 0, none⟩) N N, .slice (some ⟨g11, 0, none⟩) N N, .slice none 0 0, .slice none 0 0, .slice none 0 0, .slice none 0 0, .slice (some ⟨g15, 0, none⟩) (s.size + 1) (s.size + 1), .map (some g16)]) 17 33 hS4 ?_
     simp only [Act.put, List.setIfInBounds_toArray, List.set_cons_zero, List.set_cons_succ]
     refine wpAnyH_all (rs := [18]) (by kernel_rfl) (by simp) (fun j hj => ?_)
     obtain rfl : j = 18 := List.mem_singleton.1 hj
     obtain ⟨T, V5, e1, e2, f5, b5⟩ := mk_step V4 (.cells #[.pointer (some ⟨c, 0, none⟩), .string s, .slice (some ⟨g6, 0, none⟩) N N, .slice (some ⟨g11, 0, none⟩) N N, .slice none 0 0, .slice none 0 0, .slice none 0 0, .slice none 0 0, .slice (some ⟨g15, 0, none⟩) (s.size + 1) (s.size + 1), .map (some g16)] 93)
     refine op_value (some 34) (v := .pointer (some ⟨T, 0, none⟩)) (w' := V5) rfl rfl (by rfl) (by rw [e1, e2]; go_simp; (try with_reducible rfl)) ?_
     have hS5 : (fun V : World => V.cell? ⟨c, 8, none⟩ = some (.int .i64 (N : Nat))) V5 := keep_cell b5 hS4
     refine And.intro hS5 ?_
     simp only [Act.put, List.setIfInBounds_toArray, List.set_cons_zero, List.set_cons_succ]
     have l5 : w5.heap.size ≤ T := by rw [e2]; exact hz4
     clear e1 e2
     refine tq 19 8 hS5 ?_
     simp only [Act.put, List.setIfInBounds_toArray, List.set_cons_zero, List.set_cons_succ]
     refine wpAnyH_done (by kernel_rfl) (hK2 _ _ ?_) _
     go_meet
     exact ⟨T, g6, g11, g15, g16, rfl, hideT ⟨keep_blk b5 f6, keep_blk b5 f11, keep_blk b5 f15, keep_blk b5 f16, f5, hb4.trans (b5.mono hz4), l6, l11, l15, l16, l5⟩⟩
   ·
    obtain ⟨g16, V2, e1, e2, f16, b2⟩ := mk_step V1 (.map #[] 0)
    refine op_value (some 32) (v := .map (some g16)) (w' := V2) rfl rfl (by rfl) (by rw [e1, e2]; exact mkm_yield rfl) ?_
    have hS2 : (fun V : World => V.cell? ⟨c, 8, none⟩ = some (.int .i64 (N : Nat))) V2 := keep_cell b2 hS1
    refine And.intro hS2 ?_
    simp only [Act.put, List.setIfInBounds_toArray, List.set_cons_zero, List.set_cons_succ]
    replace f11 := keep_blk b2 f11
    have l16 : w5.heap.size ≤ g16 := by rw [e2]; have := hz1; omega
    have hz2 : w5.heap.size ≤ V2.heap.size := Nat.le_trans hz1 b2.size
    have hb2 := hb1.trans (b2.mono hz1)
    clear e1 e2
    refine wpAnyH_all (rs := [6, 15]) (by kernel_rfl) (by simp) (fun j hj => ?_)
    simp only [List.mem_cons, List.not_mem_nil, or_false] at hj
    rcases hj with rfl | rfl
    ·
     obtain ⟨g6, V3, e1, e2, f6, b3⟩ := mk_step V2 (.cells (tkV (List.replicate N xad)).toArray 38)
     refine op_value (some 22) (v := .slice (some ⟨g6, 0, none⟩) N N) (w' := V3) rfl rfl (by rfl) (by rw [e1, e2]; exact mks_yield rfl rfl rfl (hse _)) ?_
     have hS3 : (fun V : World => V.cell? ⟨c, 8, none⟩ = some (.int .i64 (N : Nat))) V3 := keep_cell b3 hS2
     refine And.intro hS3 ?_
     simp only [Act.put, List.setIfInBounds_toArray, List.set_cons_zero, List.set_cons_succ]
     replace f11 := keep_blk b3 f11
     replace f16 := keep_blk b3 f16
     have l6 : w5.heap.size ≤ g6 := by rw [e2]; have := hz2; omega
     have hz3 : w5.heap.size ≤ V3.heap.size := Nat.le_trans hz2 b3.size
     have hb3 := hb2.trans (b3.mono hz2)
     clear e1 e2
     refine wpAnyH_all (rs := [15]) (by kernel_rfl) (by simp) (fun j hj => ?_)
     obtain rfl : j = 15 := List.mem_singleton.1 hj
     obtain ⟨g15, V4, e1, e2, f15, b4⟩ := mk_step V3 (.cells (List.replicate (s.size + 1) slN).toArray 97)
     refine op_value (some 31) (v := .slice (some ⟨g15, 0, none⟩) (s.size + 1) (s.size + 1)) (w' := V4) rfl rfl (by rfl) (by rw [e1, e2]; exact mks_yield rfl rfl rfl (hsb _)) ?_
     have hS4 : (fun V : World => V.cell? ⟨c, 8, none⟩ = some (.int .i64 (N : Nat))) V4 := keep_cell b4 hS3
     refine And.intro hS4 ?_
     simp only [Act.put, List.setIfInBounds_toArray, List.set_cons_zero, List.set_cons_succ]
     replace f11 := keep_blk b4 f11
     replace f16 := keep_blk b4 f16
     replace f6 := keep_blk b4 f6
     have l15 : w5.heap.size ≤ g15 := by rw [e2]; have := hz3; omega
     have hz4 : w5.heap.size ≤ V4.heap.size := Nat.le_trans hz3 b4.size
     have hb4 := hb3.trans (b4.mono hz3)
     clear e1 e2
     refine tq (v := .agg #[.pointer (some ⟨c, 0, none⟩), .string s, .slice (some ⟨g6, 0, none⟩) N N, .slice (some ⟨g11, 0, none⟩) N N, .slice none 0 0, .slice none 0 0, .slice none 0 0, .slice none 0 0, .slice (some ⟨g15, 0, none⟩) (s.size + 1) (s.size + 1), .map (some g16)]) 17 33 hS4 ?_
     simp only [Act.put, List.setIfInBounds_toArray, List.set_cons_zero, List.set_cons_succ]
     refine wpAnyH_all (rs := [18]) (by kernel_rfl) (by simp) (fun j hj => ?_)
     obtain rfl : j = 18 := List.mem_singleton.1 hj
     obtain ⟨T, V5, e1, e2, f5, b5⟩ := mk_step V4 (.cells #[.pointer (some ⟨c, 0, none⟩), .string s, .slice (some ⟨g6, 0, none⟩) N N, .slice (some ⟨g11, 0, none⟩) N N, .slice none 0 0, .slice none 0 0, .slice none 0 0, .slice none 0 0, .slice (some ⟨g15, 0, none⟩) (s.size + 1) (s.size + 1), .map (some g16)] 93)
     refine op_value (some 34) (v := .pointer (some ⟨T, 0, none⟩)) (w' := V5) rfl rfl (by rfl) (by rw [e1, e2]; go_simp; (try with_reducible rfl)) ?_
     have hS5 : (fun V : World => V.cell? ⟨c, 8, none⟩ = some (.int .i64 (N : Nat))) V5 := keep_cell b5 hS4
     refine And.intro hS5 ?_
     simp only [Act.put, List.setIfInBounds_toArray, List.set_cons_zero, List.set_cons_succ]
     have l5 : w5.heap.size ≤ T := by rw [e2]; exact hz4
     clear e1 e2
     refine tq 19 8 hS5 ?_
     simp only [Act.put, List.setIfInBounds_toArray, List.set_cons_zero, List.set_cons_succ]
     refine wpAnyH_done (by kernel_rfl) (hK2 _ _ ?_) _
     go_meet
     exact ⟨T, g6, g11, g15, g16, rfl, hideT ⟨keep_blk b5 f6, keep_blk b5 f11, keep_blk b5 f15, keep_blk b5 f16, f5, hb4.trans (b5.mono hz4), l6, l11, l15, l16, l5⟩⟩
    ·
     obtain ⟨g15, V3, e1, e2, f15, b3⟩ := mk_step V2 (.cells (List.replicate (s.size + 1) slN).toArray 97)
     refine op_value (some 31) (v := .slice (some ⟨g15, 0, none⟩) (s.size + 1) (s.size + 1)) (w' := V3) rfl rfl (by rfl) (by rw [e1, e2]; exact mks_yield rfl rfl rfl (hsb _)) ?_
     have hS3 : (fun V : World => V.cell? ⟨c, 8, none⟩ = some (.int .i64 (N : Nat))) V3 := keep_cell b3 hS2
     refine And.intro hS3 ?_
     simp only [Act.put, List.setIfInBounds_toArray, List.set_cons_zero, List.set_cons_succ]
     replace f11 := keep_blk b3 f11
     replace f16 := keep_blk b3 f16
     have l15 : w5.heap.size ≤ g15 := by rw [e2]; have := hz2; omega
     have hz3 : w5.heap.size ≤ V3.heap.size := Nat.le_trans hz2 b3.size
     have hb3 := hb2.trans (b3.mono hz2)
     clear e1 e2
     refine wpAnyH_all (rs := [6]) (by kernel_rfl) (by simp) (fun j hj => ?_)
     obtain rfl : j = 6 := List.mem_singleton.1 hj
     obtain ⟨g6, V4, e1, e2, f6, b4⟩ := mk_step V3 (.cells (tkV (List.replicate N xad)).toArray 38)
     refine op_value (some 22) (v := .slice (some ⟨g6, 0, none⟩) N N) (w' := V4) rfl rfl (by rfl) (by rw [e1, e2]; exact mks_yield rfl rfl rfl (hse _)) ?_
     have hS4 : (fun V : World => V.cell? ⟨c, 8, none⟩ = some (.int .i64 (N : Nat))) V4 := keep_cell b4 hS3
     refine And.intro hS4 ?_
     simp only [Act.put, List.setIfInBounds_toArray, List.set_cons_zero, List.set_cons_succ]
     replace f11 := keep_blk b4 f11
     replace f16 := keep_blk b4 f16
     replace f15 := keep_blk b4 f15
     have l6 : w5.heap.size ≤ g6 := by rw [e2]; have := hz3; omega
     have hz4 : w5.heap.size ≤ V4.heap.size := Nat.le_trans hz3 b4.size
     have hb4 := hb3.trans (b4.mono hz3)
     clear e1 e2
     refine tq (v := .agg #[.pointer (some ⟨c, 0, none⟩), .string s, .slice (some ⟨g6, 0, none⟩) N N, .slice (some ⟨g11, 0, none⟩) N N, .slice none 0 0, .slice none 0 0, .slice none 0 0, .slice none 0 0, .slice (some ⟨g15, 0, none⟩) (s.size + 1) (s.size + 1), .map (some g16)]) 17 33 hS4 ?_
     simp only [Act.put, List.setIfInBounds_toArray, List.set_cons_zero, List.set_cons_succ]
     refine wpAnyH_all (rs := [18]) (by kernel_rfl) (by simp) (fun j hj => ?_)
     obtain rfl : j = 18 := List.mem_singleton.1 hj
     obtain ⟨T, V5, e1, e2, f5, b5⟩ := mk_step V4 (.cells #[.pointer (some ⟨c, 0, none⟩), .string s, .slice (some ⟨g6, 0, none⟩) N N, .slice (some ⟨g11, 0, none⟩) N N, .slice none 0 0, .slice none 0 0, .slice none 0 0, .slice none 0 0, .slice (some ⟨g15, 0, none⟩) (s.size + 1) (s.size + 1), .map (some g16)] 93)
     refine op_value (some 34) (v := .pointer (some ⟨T, 0, none⟩)) (w' := V5) rfl rfl (by rfl) (by rw [e1, e2]; go_simp; (try with_reducible rfl)) ?_
     have hS5 : (fun V : World => V.cell? ⟨c, 8, none⟩ = some (.int .i64 (N : Nat))) V5 := keep_cell b5 hS4
     refine And.intro hS5 ?_
     simp only [Act.put, List.setIfInBounds_toArray, List.set_cons_zero, List.set_cons_succ]
     have l5 : w5.heap.size ≤ T := by rw [e2]; exact hz4
     clear e1 e2
     refine tq 19 8 hS5 ?_
     simp only [Act.put, List.setIfInBounds_toArray, List.set_cons_zero, List.set_cons_succ]
     refine wpAnyH_done (by kernel_rfl) (hK2 _ _ ?_) _
     go_meet
     exact ⟨T, g6, g11, g15, g16, rfl, hideT ⟨keep_blk b5 f6, keep_blk b5 f11, keep_blk b5 f15, keep_blk b5 f16, f5, hb4.trans (b5.mono hz4), l6, l11, l15, l16, l5⟩⟩
  ·
   obtain ⟨g15, V1, e1, e2, f15, b1⟩ := mk_step V0 (.cells (List.replicate (s.size + 1) slN).toArray 97)
   refine op_value (some 31) (v := .slice (some ⟨g15, 0, none⟩) (s.size + 1) (s.size + 1)) (w' := V1) rfl rfl (by rfl) (by rw [e1, e2]; exact mks_yield rfl rfl rfl (hsb _)) ?_
   have hS1 : (fun V : World => V.cell? ⟨c, 8, none⟩ = some (.int .i64 (N : Nat))) V1 := keep_cell b1 hS0
   refine And.intro hS1 ?_
   simp only [Act.put, List.setIfInBounds_toArray, List.set_cons_zero, List.set_cons_succ]
   have l15 : w5.heap.size ≤ g15 := by rw [e2]; have := hz0; omega
   have hz1 : w5.heap.size ≤ V1.heap.size := Nat.le_trans hz0 b1.size
   have hb1 := hb0.trans (b1.mono hz0)
   clear e1 e2
   refine wpAnyH_all (rs := [6, 11, 16]) (by kernel_rfl) (by simp) (fun j hj => ?_)
   simp only [List.mem_cons, List.not_mem_nil, or_false] at hj
   rcases hj with rfl | rfl | rfl
   ·
    obtain ⟨g6, V2, e1, e2, f6, b2⟩ := mk_step V1 (.cells (tkV (List.replicate N xad)).toArray 38)
    refine op_value (some 22) (v := .slice (some ⟨g6, 0, none⟩) N N) (w' := V2) rfl rfl (by rfl) (by rw [e1, e2]; exact mks_yield rfl rfl rfl (hse _)) ?_
    have hS2 : (fun V : World => V.cell? ⟨c, 8, none⟩ = some (.int .i64 (N : Nat))) V2 := keep_cell b2 hS1
    refine And.intro hS2 ?_
    simp only [Act.put, List.setIfInBounds_toArray, List.set_cons_zero, List.set_cons_succ]
    replace f15 := keep_blk b2 f15
    have l6 : w5.heap.size ≤ g6 := by rw [e2]; have := hz1; omega
    have hz2 : w5.heap.size ≤ V2.heap.size := Nat.le_trans hz1 b2.size
    have hb2 := hb1.trans (b2.mono hz1)
    clear e1 e2
    refine wpAnyH_all (rs := [11, 16]) (by kernel_rfl) (by simp) (fun j hj => ?_)
    simp only [List.mem_cons, List.not_mem_nil, or_false] at hj
    rcases hj with rfl | rfl
    ·
     obtain ⟨g11, V3, e1, e2, f11, b3⟩ := mk_step V2 (.cells (List.replicate N slN).toArray 81)
     refine op_value (some 27) (v := .slice (some ⟨g11, 0, none⟩) N N) (w' := V3) rfl rfl (by rfl) (by rw [e1, e2]; exact mks_yield rfl rfl rfl (hss _)) ?_
     have hS3 : (fun V : World => V.cell? ⟨c, 8, none⟩ = some (.int .i64 (N : Nat))) V3 := keep_cell b3 hS2
     refine And.intro hS3 ?_
     simp only [Act.put, List.setIfInBounds_toArray, List.set_cons_zero, List.set_cons_succ]
     replace f15 := keep_blk b3 f15
     replace f6 := keep_blk b3 f6
     have l11 : w5.heap.size ≤ g11 := by rw [e2]; have := hz2; omega
     have hz3 : w5.heap.size ≤ V3.heap.size := Nat.le_trans hz2 b3.size
     have hb3 := hb2.trans (b3.mono hz2)
     clear e1 e2
     refine wpAnyH_all (rs := [16]) (by kernel_rfl) (by simp) (fun j hj => ?_)
     obtain rfl : j = 16 := List.mem_singleton.1 hj
     obtain ⟨g16, V4, e1, e2, f16, b4⟩ := mk_step V3 (.map #[] 0)
     refine op_value (some 32) (v := .map (some g16)) (w' := V4) rfl rfl (by rfl) (by rw [e1, e2]; exact mkm_yield rfl) ?_
     have hS4 : (fun V : World => V.cell? ⟨c, 8, none⟩ = some (.int .i64 (N : Nat))) V4 := keep_cell b4 hS3
     refine And.intro hS4 ?_
     simp only [Act.put, List.setIfInBounds_toArray, List.set_cons_zero, List.set_cons_succ]
     replace f15 := keep_blk b4 f15
     replace f6 := keep_blk b4 f6
     replace f11 := keep_blk b4 f11
     have l16 : w5.heap.size ≤ g16 := by rw [e2]; have := hz3; omega
     have hz4 : w5.heap.size ≤ V4.heap.size := Nat.le_trans hz3 b4.size
     have hb4 := hb3.trans (b4.mono hz3)
     clear e1 e2
     refine tq (v := .agg #[.pointer (some ⟨c, 0, none⟩), .string s, .slice (some ⟨g6, 0, none⟩) N N, .slice (some ⟨g11, 0, none⟩) N N, .slice none 0 0, .slice none 0 0, .slice none 0 0, .slice none 0 0, .slice (some ⟨g15, 0, none⟩) (s.size + 1) (s.size + 1), .map (some g16)]) 17 33 hS4 ?_
     simp only [Act.put, List.setIfInBounds_toArray, List.set_cons_zero, List.set_cons_succ]
     refine wpAnyH_all (rs := [18]) (by kernel_rfl) (by simp) (fun j hj => ?_)
     obtain rfl : j = 18 := List.mem_singleton.1 hj
     obtain ⟨T, V5, e1, e2, f5, b5⟩ := mk_step V4 (.cells #[.pointer (some ⟨c, 0, none⟩), .string s, .slice (some ⟨g6, 0, none⟩) N N, .slice (some ⟨g11, 0, none⟩) N N, .slice none 0 0, .slice none 0 0, .slice none 0 0, .slice none 0 0, .slice (some ⟨g15, 0, none⟩) (s.size + 1) (s.size + 1), .map (some g16)] 93)
     refine op_value (some 34) (v := .pointer (some ⟨T, 0, none⟩)) (w' := V5) rfl rfl (by rfl) (by rw [e1, e2]; go_simp; (try with_reducible rfl)) ?_
     have hS5 : (fun V : World => V.cell? ⟨c, 8, none⟩ = some (.int .i64 (N : Nat))) V5 := keep_cell b5 hS4
     refine And.intro hS5 ?_
     simp only [Act.put, List.setIfInBounds_toArray, List.set_cons_zero, List.set_cons_succ]
     have l5 : w5.heap.size ≤ T := by rw [e2]; exact hz4
     clear e1 e2
     refine tq 19 8 hS5 ?_
     simp only [Act.put, List.setIfInBounds_toArray, List.set_cons_zero, List.set_cons_succ]
     refine wpAnyH_done (by kernel_rfl) (hK2 _ _ ?_) _
     go_meet
     exact ⟨T, g6, g11, g15, g16, rfl, hideT ⟨keep_blk b5 f6, keep_blk b5 f11, keep_blk b5 f15, keep_blk b5 f16, f5, hb4.trans (b5.mono hz4), l6, l11, l15, l16, l5⟩⟩
    ·
     obtain ⟨g16, V3, e1, e2, f16, b3⟩ := mk_step V2 (.map #[] 0)
     refine op_value (some 32) (v := .map (some g16)) (w' := V3) rfl rfl (by rfl) (by rw [e1, e2]; exact mkm_yield rfl) ?_
     have hS3 : (fun V : World => V.cell? ⟨c, 8, none⟩ = some (.int .i64 (N : Nat))) V3 := keep_cell b3 hS2
     refine And.intro hS3 ?_
     simp only [Act.put, List.setIfInBounds_toArray, List.set_cons_zero, List.set_cons_succ]
     replace f15 := keep_blk b3 f15
     replace f6 := keep_blk b3 f6
     have l16 : w5.heap.size ≤ g16 := by rw [e2]; have := hz2; omega
     have hz3 : w5.heap.size ≤ V3.heap.size := Nat.le_trans hz2 b3.size
     have hb3 := hb2.trans (b3.mono hz2)
     clear e1 e2
     refine wpAnyH_all (rs := [11]) (by kernel_rfl) (by simp) (fun j hj => ?_)
     obtain rfl : j = 11 := List.mem_singleton.1 hj
     obtain ⟨g11, V4, e1, e2, f11, b4⟩ := mk_step V3 (.cells (List.replicate N slN).toArray 81)
     refine op_value (some 27) (v := .slice (some ⟨g11, 0, none⟩) N N) (w' := V4) rfl rfl (by rfl) (by rw [e1, e2]; exact mks_yield rfl rfl rfl (hss _)) ?_
     have hS4 : (fun V : World => V.cell? ⟨c, 8, none⟩ = some (.int .i64 (N : Nat))) V4 := keep_cell b4 hS3
     refine And.intro hS4 ?_
     simp only [Act.put, List.setIfInBounds_toArray, List.set_cons_zero, List.set_cons_succ]
     replace f15 := keep_blk b4 f15
     replace f6 := keep_blk b4 f6
     replace f16 := keep_blk b4 f16
     have l11 : w5.heap.size ≤ g11 := by rw [e2]; have := hz3; omega
     have hz4 : w5.heap.size ≤ V4.heap.size := Nat.le_trans hz3 b4.size
     have hb4 := hb3.trans (b4.mono hz3)
     clear e1 e2
     refine tq (v := .agg #[.pointer (some ⟨c, 0, none⟩), .string s, .slice (some ⟨g6, 0, none⟩) N N, .slice (some ⟨g11, 0, none⟩) N N, .slice none 0 0, .slice none 0 0, .slice none 0 0, .slice none 0 0, .slice (some ⟨g15, 0, none⟩) (s.size + 1) (s.size + 1), .map (some g16)]) 17 33 hS4 ?_
     simp only [Act.put, List.setIfInBounds_toArray, List.set_cons_zero, List.set_cons_succ]
     refine wpAnyH_all (rs := [18]) (by kernel_rfl) (by simp) (fun j hj => ?_)
     obtain rfl : j = 18 := List.mem_singleton.1 hj
     obtain ⟨T, V5, e1, e2, f5, b5⟩ := mk_step V4 (.cells #[.pointer (some ⟨c, 0, none⟩), .string s, .slice (some ⟨g6, 0, none⟩) N N, .slice (some ⟨g11, 0, none⟩) N N, .slice none 0 0, .slice none 0 0, .slice none 0 0, .slice none 0 0, .slice (some ⟨g15, 0, none⟩) (s.size + 1) (s.size + 1), .map (some g16)] 93)
     refine op_value (some 34) (v := .pointer (some ⟨T, 0, none⟩)) (w' := V5) rfl rfl (by rfl) (by rw [e1, e2]; go_simp; (try with_reducible rfl)) ?_
     have hS5 : (fun V : World => V.cell? ⟨c, 8, none⟩ = some (.int .i64 (N : Nat))) V5 := keep_cell b5 hS4
     refine And.intro hS5 ?_
     simp only [Act.put, List.setIfInBounds_toArray, List.set_cons_zero, List.set_cons_succ]
     have l5 : w5.heap.size ≤ T := by rw [e2]; exact hz4
     clear e1 e2
     refine tq 19 8 hS5 ?_
     simp only [Act.put, List.setIfInBounds_toArray, List.set_cons_zero, List.set_cons_succ]
     refine wpAnyH_done (by kernel_rfl) (hK2 _ _ ?_) _
     go_meet
     exact ⟨T, g6, g11, g15, g16, rfl, hideT ⟨keep_blk b5 f6, keep_blk b5 f11, keep_blk b5 f15, keep_blk b5 f16, f5, hb4.trans (b5.mono hz4), l6, l11, l15, l16, l5⟩⟩
   ·
    obtain ⟨g11, V2, e1, e2, f11, b2⟩ := mk_step V1 (.cells (List.replicate N slN).toArray 81)
    refine op_value (some 27) (v := .slice (some ⟨g11, 0, none⟩) N N) (w' := V2) rfl rfl (by rfl) (by rw [e1, e2]; exact mks_yield rfl rfl rfl (hss _)) ?_
    have hS2 : (fun V : World => V.cell? ⟨c, 8, none⟩ = some (.int .i64 (N : Nat))) V2 := keep_cell b2 hS1
    refine And.intro hS2 ?_
    simp only [Act.put, List.setIfInBounds_toArray, List.set_cons_zero, List.set_cons_succ]
    replace f15 := keep_blk b2 f15
    have l11 : w5.heap.size ≤ g11 := by rw [e2]; have := hz1; omega
    have hz2 : w5.heap.size ≤ V2.heap.size := Nat.le_trans hz1 b2.size
    have hb2 := hb1.trans (b2.mono hz1)
    clear e1 e2
    refine wpAnyH_all (rs := [6, 16]) (by kernel_rfl) (by simp) (fun j hj => ?_)
    simp only [List.mem_cons, List.not_mem_nil, or_false] at hj
    rcases hj with rfl | rfl
    ·
     obtain ⟨g6, V3, e1, e2, f6, b3⟩ := mk_step V2 (.cells (tkV (List.replicate N xad)).toArray 38)
     refine op_value (some 22) (v := .slice (some ⟨g6, 0, none⟩) N N) (w' := V3) rfl rfl (by rfl) (by rw [e1, e2]; exact mks_yield rfl rfl rfl (hse _)) ?_
     have hS3 : (fun V : World => V.cell? ⟨c, 8, none⟩ = some (.int .i64 (N : Nat))) V3 := keep_cell b3 hS2
     refine And.intro hS3 ?_
     simp only [Act.put, List.setIfInBounds_toArray, List.set_cons_zero, List.set_cons_succ]
     replace f15 := keep_blk b3 f15
     replace f11 := keep_blk b3 f11
     have l6 : w5.heap.size ≤ g6 := by rw [e2]; have := hz2; omega
     have hz3 : w5.heap.size ≤ V3.heap.size := Nat.le_trans hz2 b3.size
     have hb3 := hb2.trans (b3.mono hz2)
     clear e1 e2
     refine wpAnyH_all (rs := [16]) (by kernel_rfl) (by simp) (fun j hj => ?_)
     obtain rfl : j = 16 := List.mem_singleton.1 hj
     obtain ⟨g16, V4, e1, e2, f16, b4⟩ := mk_step V3 (.map #[] 0)
     refine op_value (some 32) (v := .map (some g16)) (w' := V4) rfl rfl (by rfl) (by rw [e1, e2]; exact mkm_yield rfl) ?_
     have hS4 : (fun V : World => V.cell? ⟨c, 8, none⟩ = some (.int .i64 (N : Nat))) V4 := keep_cell b4 hS3
     refine And.intro hS4 ?_
     simp only [Act.put, List.setIfInBounds_toArray, List.set_cons_zero, List.set_cons_succ]
     replace f15 := keep_blk b4 f15
     replace f11 := keep_blk b4 f11
     replace f6 := keep_blk b4 f6
     have l16 : w5.heap.size ≤ g16 := by rw [e2]; have := hz3; omega
     have hz4 : w5.heap.size ≤ V4.heap.size := Nat.le_trans hz3 b4.size
     have hb4 := hb3.trans (b4.mono hz3)
     clear e1 e2
     refine tq (v := .agg #[.pointer (some ⟨c, 0, none⟩), .string s, .slice (some ⟨g6, 0, none⟩) N N, .slice (some ⟨g11, 0, none⟩) N N, .slice none 0 0, .slice none 0 0, .slice none 0 0, .slice none 0 0, .slice (some ⟨g15, 0, none⟩) (s.size + 1) (s.size + 1), .map (some g16)]) 17 33 hS4 ?_
     simp only [Act.put, List.setIfInBounds_toArray, List.set_cons_zero, List.set_cons_succ]
     refine wpAnyH_all (rs := [18]) (by kernel_rfl) (by simp) (fun j hj => ?_)
     obtain rfl : j = 18 := List.mem_singleton.1 hj
     obtain ⟨T, V5, e1, e2, f5, b5⟩ := mk_step V4 (.cells #[.pointer (some ⟨c, 0, none⟩), .string s, .slice (some ⟨g6, 0, none⟩) N N, .slice (some ⟨g11, 0, none⟩) N N, .slice none 0 0, .slice none 0 0, .slice none 0 0, .slice none 0 0, .slice (some ⟨g15, 0, none⟩) (s.size + 1) (s.size + 1), .map (some g16)] 93)
     refine op_value (some 34) (v := .pointer (some ⟨T, 0, none⟩)) (w' := V5) rfl rfl (by rfl) (by rw [e1, e2]; go_simp; (try with_reducible rfl)) ?_
     have hS5 : (fun V : World => V.cell? ⟨c, 8, none⟩ = some (.int .i64 (N : Nat))) V5 := keep_cell b5 hS4
     refine And.intro hS5 ?_
     simp only [Act.put, List.setIfInBounds_toArray, List.set_cons_zero, List.set_cons_succ]
     have l5 : w5.heap.size ≤ T := by rw [e2]; exact hz4
     clear e1 e2
     refine tq 19 8 hS5 ?_
     simp only [Act.put, List.setIfInBounds_toArray, List.set_cons_zero, List.set_cons_succ]
     refine wpAnyH_done (by kernel_rfl) (hK2 _ _ ?_) _
     go_meet
     exact ⟨T, g6, g11, g15, g16, rfl, hideT ⟨keep_blk b5 f6, keep_blk b5 f11, keep_blk b5 f15, keep_blk b5 f16, f5, hb4.trans (b5.mono hz4), l6, l11, l15, l16, l5⟩⟩
    ·
     obtain ⟨g16, V3, e1, e2, f16, b3⟩ := mk_step V2 (.map #[] 0)
     refine op_value (some 32) (v := .map (some g16)) (w' := V3) rfl rfl (by rfl) (by rw [e1, e2]; exact mkm_yield rfl) ?_
     have hS3 : (fun V : World => V.cell? ⟨c, 8, none⟩ = some (.int .i64 (N : Nat))) V3 := keep_cell b3 hS2
     refine And.intro hS3 ?_
     simp only [Act.put, List.setIfInBounds_toArray, List.set_cons_zero, List.set_cons_succ]
     replace f15 := keep_blk b3 f15
     replace f11 := keep_blk b3 f11
     have l16 : w5.heap.size ≤ g16 := by rw [e2]; have := hz2; omega
     have hz3 : w5.heap.size ≤ V3.heap.size := Nat.le_trans hz2 b3.size
     have hb3 := hb2.trans (b3.mono hz2)
     clear e1 e2
     refine wpAnyH_all (rs := [6]) (by kernel_rfl) (by simp) (fun j hj => ?_)
     obtain rfl : j = 6 := List.mem_singleton.1 hj
     obtain ⟨g6, V4, e1, e2, f6, b4⟩ := mk_step V3 (.cells (tkV (List.replicate N xad)).toArray 38)
     refine op_value (some 22) (v := .slice (some ⟨g6, 0, none⟩) N N) (w' := V4) rfl rfl (by rfl) (by rw [e1, e2]; exact mks_yield rfl rfl rfl (hse _)) ?_
     have hS4 : (fun V : World => V.cell? ⟨c, 8, none⟩ = some (.int .i64 (N : Nat))) V4 := keep_cell b4 hS3
     refine And.intro hS4 ?_
     simp only [Act.put, List.setIfInBounds_toArray, List.set_cons_zero, List.set_cons_succ]
     replace f15 := keep_blk b4 f15
     replace f11 := keep_blk b4 f11
     replace f16 := keep_blk b4 f16
     have l6 : w5.heap.size ≤ g6 := by rw [e2]; have := hz3; omega
     have hz4 : w5.heap.size ≤ V4.heap.size := Nat.le_trans hz3 b4.size
     have hb4 := hb3.trans (b4.mono hz3)
     clear e1 e2
     refine tq (v := .agg #[.pointer (some ⟨c, 0, none⟩), .string s, .slice (some ⟨g6, 0, none⟩) N N, .slice (some ⟨g11, 0, none⟩) N N, .slice none 0 0, .slice none 0 0, .slice none 0 0, .slice none 0 0, .slice (some ⟨g15, 0, none⟩) (s.size + 1) (s.size + 1), .map (some g16)]) 17 33 hS4 ?_
     simp only [Act.put, List.setIfInBounds_toArray, List.set_cons_zero, List.set_cons_succ]
     refine wpAnyH_all (rs := [18]) (by kernel_rfl) (by simp) (fun j hj => ?_)
     obtain rfl : j = 18 := List.mem_singleton.1 hj
     obtain ⟨T, V5, e1, e2, f5, b5⟩ := mk_step V4 (.cells #[.pointer (some ⟨c, 0, none⟩), .string s, .slice (some ⟨g6, 0, none⟩) N N, .slice (some ⟨g11, 0, none⟩) N N, .slice none 0 0, .slice none 0 0, .slice none 0 0, .slice none 0 0, .slice (some ⟨g15, 0, none⟩) (s.size + 1) (s.size + 1), .map (some g16)] 93)
     refine op_value (some 34) (v := .pointer (some ⟨T, 0, none⟩)) (w' := V5) rfl rfl (by rfl) (by rw [e1, e2]; go_simp; (try with_reducible rfl)) ?_
     have hS5 : (fun V : World => V.cell? ⟨c, 8, none⟩ = some (.int .i64 (N : Nat))) V5 := keep_cell b5 hS4
     refine And.intro hS5 ?_
     simp only [Act.put, List.setIfInBounds_toArray, List.set_cons_zero, List.set_cons_succ]
     have l5 : w5.heap.size ≤ T := by rw [e2]; exact hz4
     clear e1 e2
     refine tq 19 8 hS5 ?_
     simp only [Act.put, List.setIfInBounds_toArray, List.set_cons_zero, List.set_cons_succ]
     refine wpAnyH_done (by kernel_rfl) (hK2 _ _ ?_) _
     go_meet
     exact ⟨T, g6, g11, g15, g16, rfl, hideT ⟨keep_blk b5 f6, keep_blk b5 f11, keep_blk b5 f15, keep_blk b5 f16, f5, hb4.trans (b5.mono hz4), l6, l11, l15, l16, l5⟩⟩
   ·
    obtain ⟨g16, V2, e1, e2, f16, b2⟩ := mk_step V1 (.map #[] 0)
    refine op_value (some 32) (v := .map (some g16)) (w' := V2) rfl rfl (by rfl) (by rw [e1, e2]; exact mkm_yield rfl) ?_
    have hS2 : (fun V : World => V.cell? ⟨c, 8, none⟩ = some (.int .i64 (N : Nat))) V2 := keep_cell b2 hS1
    refine And.intro hS2 ?_
    simp only [Act.put, List.setIfInBounds_toArray, List.set_cons_zero, List.set_cons_succ]
    replace f15 := keep_blk b2 f15
    have l16 : w5.heap.size ≤ g16 := by rw [e2]; have := hz1; omega
    have hz2 : w5.heap.size ≤ V2.heap.size := Nat.le_trans hz1 b2.size
    have hb2 := hb1.trans (b2.mono hz1)
    clear e1 e2
    refine wpAnyH_all (rs := [6, 11]) (by kernel_rfl) (by simp) (fun j hj => ?_)
    simp only [List.mem_cons, List.not_mem_nil, or_false] at hj
    rcases hj with rfl | rfl
    ·
     obtain ⟨g6, V3, e1, e2, f6, b3⟩ := mk_step V2 (.cells (tkV (List.replicate N xad)).toArray 38)
     refine op_value (some 22) (v := .slice (some ⟨g6, 0, none⟩) N N) (w' := V3) rfl rfl (by rfl) (by rw [e1, e2]; exact mks_yield rfl rfl rfl (hse _)) ?_
     have hS3 : (fun V : World => V.cell? ⟨c, 8, none⟩ = some (.int .i64 (N : Nat))) V3 := keep_cell b3 hS2
     refine And.intro hS3 ?_
     simp only [Act.put, List.setIfInBounds_toArray, List.set_cons_zero, List.set_cons_succ]
     replace f15 := keep_blk b3 f15
     replace f16 := keep_blk b3 f16
     have l6 : w5.heap.size ≤ g6 := by rw [e2]; have := hz2; omega
     have hz3 : w5.heap.size ≤ V3.heap.size := Nat.le_trans hz2 b3.size
     have hb3 := hb2.trans (b3.mono hz2)
     clear e1 e2
     refine wpAnyH_all (rs := [11]) (by kernel_rfl) (by simp) (fun j hj => ?_)
     obtain rfl : j = 11 := List.mem_singleton.1 hj
     obtain ⟨g11, V4, e1, e2, f11, b4⟩ := mk_step V3 (.cells (List.replicate N slN).toArray 81)
     refine op_value (some 27) (v := .slice (some ⟨g11, 0, none⟩) N N) (w' := V4) rfl rfl (by rfl) (by rw [e1, e2]; exact mks_yield rfl rfl rfl (hss _)) ?_
     have hS4 : (fun V : World => V.cell? ⟨c, 8, none⟩ = some (.int .i64 (N : Nat))) V4 := keep_cell b4 hS3
     refine And.intro hS4 ?_
     simp only [Act.put, List.setIfInBounds_toArray, List.set_cons_zero, List.set_cons_succ]
     replace f15 := keep_blk b4 f15
     replace f16 := keep_blk b4 f16
     replace f6 := keep_blk b4 f6
     have l11 : w5.heap.size ≤ g11 := by rw [e2]; have := hz3; omega
     have hz4 : w5.heap.size ≤ V4.heap.size := Nat.le_trans hz3 b4.size
     have hb4 := hb3.trans (b4.mono hz3)
     clear e1 e2
     refine tq (v := .agg #[.pointer (some ⟨c, 0, none⟩), .string s, .slice (some ⟨g6, 0, none⟩) N N, .slice (some ⟨g11, 0, none⟩) N N, .slice none 0 0, .slice none 0 0, .slice none 0 0, .slice none 0 0, .slice (some ⟨g15, 0, none⟩) (s.size + 1) (s.size + 1), .map (some g16)]) 17 33 hS4 ?_
     simp only [Act.put, List.setIfInBounds_toArray, List.set_cons_zero, List.set_cons_succ]
     refine wpAnyH_all (rs := [18]) (by kernel_rfl) (by simp) (fun j hj => ?_)
     obtain rfl : j = 18 := List.mem_singleton.1 hj
     obtain ⟨T, V5, e1, e2, f5, b5⟩ := mk_step V4 (.cells #[.pointer (some ⟨c, 0, none⟩), .string s, .slice (some ⟨g6, 0, none⟩) N N, .slice (some ⟨g11, 0, none⟩) N N, .slice none 0 0, .slice none 0 0, .slice none 0 0, .slice none 0 0, .slice (some ⟨g15, 0, none⟩) (s.size + 1) (s.size + 1), .map (some g16)] 93)
     refine op_value (some 34) (v := .pointer (some ⟨T, 0, none⟩)) (w' := V5) rfl rfl (by rfl) (by rw [e1, e2]; go_simp; (try with_reducible rfl)) ?_
     have hS5 : (fun V : World => V.cell? ⟨c, 8, none⟩ = some (.int .i64 (N : Nat))) V5 := keep_cell b5 hS4
     refine And.intro hS5 ?_
     simp only [Act.put, List.setIfInBounds_toArray, List.set_cons_zero, List.set_cons_succ]
     have l5 : w5.heap.size ≤ T := by rw [e2]; exact hz4
     clear e1 e2
     refine tq 19 8 hS5 ?_
     simp only [Act.put, List.setIfInBounds_toArray, List.set_cons_zero, List.set_cons_succ]
     refine wpAnyH_done (by kernel_rfl) (hK2 _ _ ?_) _
     go_meet
     exact ⟨T, g6, g11, g15, g16, rfl, hideT ⟨keep_blk b5 f6, keep_blk b5 f11, keep_blk b5 f15, keep_blk b5 f16, f5, hb4.trans (b5.mono hz4), l6, l11, l15, l16, l5⟩⟩
    ·
     obtain ⟨g11, V3, e1, e2, f11, b3⟩ := mk_step V2 (.cells (List.replicate N slN).toArray 81)
     refine op_value (some 27) (v := .slice (some ⟨g11, 0, none⟩) N N) (w' := V3) rfl rfl (by rfl) (by rw [e1, e2]; exact mks_yield rfl rfl rfl (hss _)) ?_
     have hS3 : (fun V : World => V.cell? ⟨c, 8, none⟩ = some (.int .i64 (N : Nat))) V3 := keep_cell b3 hS2
     refine And.intro hS3 ?_
     simp only [Act.put, List.setIfInBounds_toArray, List.set_cons_zero, List.set_cons_succ]
     replace f15 := keep_blk b3 f15
     replace f16 := keep_blk b3 f16
     have l11 : w5.heap.size ≤ g11 := by rw [e2]; have := hz2; omega
     have hz3 : w5.heap.size ≤ V3.heap.size := Nat.le_trans hz2 b3.size
     have hb3 := hb2.trans (b3.mono hz2)
     clear e1 e2
     refine wpAnyH_all (rs := [6]) (by kernel_rfl) (by simp) (fun j hj => ?_)
     obtain rfl : j = 6 := List.mem_singleton.1 hj
     obtain ⟨g6, V4, e1, e2, f6, b4⟩ := mk_step V3 (.cells (tkV (List.replicate N xad)).toArray 38)
     refine op_value (some 22) (v := .slice (some ⟨g6, 0, none⟩) N N) (w' := V4) rfl rfl (by rfl) (by rw [e1, e2]; exact mks_yield rfl rfl rfl (hse _)) ?_
     have hS4 : (fun V : World => V.cell? ⟨c, 8, none⟩ = some (.int .i64 (N : Nat))) V4 := keep_cell b4 hS3
     refine And.intro hS4 ?_
     simp only [Act.put, List.setIfInBounds_toArray, List.set_cons_zero, List.set_cons_succ]
     replace f15 := keep_blk b4 f15
     replace f16 := keep_blk b4 f16
     replace f11 := keep_blk b4 f11
     have l6 : w5.heap.size ≤ g6 := by rw [e2]; have := hz3; omega
     have hz4 : w5.heap.size ≤ V4.heap.size := Nat.le_trans hz3 b4.size
     have hb4 := hb3.trans (b4.mono hz3)
     clear e1 e2
     refine tq (v := .agg #[.pointer (some ⟨c, 0, none⟩), .string s, .slice (some ⟨g6, 0, none⟩) N N, .slice (some ⟨g11, 0, none⟩) N N, .slice none 0 0, .slice none 0 0, .slice none 0 0, .slice none 0 0, .slice (some ⟨g15, 0, none⟩) (s.size + 1) (s.size + 1), .map (some g16)]) 17 33 hS4 ?_
     simp only [Act.put, List.setIfInBounds_toArray, List.set_cons_zero, List.set_cons_succ]
     refine wpAnyH_all (rs := [18]) (by kernel_rfl) (by simp) (fun j hj => ?_)
     obtain rfl : j = 18 := List.mem_singleton.1 hj
     obtain ⟨T, V5, e1, e2, f5, b5⟩ := mk_step V4 (.cells #[.pointer (some ⟨c, 0, none⟩), .string s, .slice (some ⟨g6, 0, none⟩) N N, .slice (some ⟨g11, 0, none⟩) N N, .slice none 0 0, .slice none 0 0, .slice none 0 0, .slice none 0 0, .slice (some ⟨g15, 0, none⟩) (s.size + 1) (s.size + 1), .map (some g16)] 93)
     refine op_value (some 34) (v := .pointer (some ⟨T, 0, none⟩)) (w' := V5) rfl rfl (by rfl) (by rw [e1, e2]; go_simp; (try with_reducible rfl)) ?_
     have hS5 : (fun V : World => V.cell? ⟨c, 8, none⟩ = some (.int .i64 (N : Nat))) V5 := keep_cell b5 hS4
     refine And.intro hS5 ?_
     simp only [Act.put, List.setIfInBounds_toArray, List.set_cons_zero, List.set_cons_succ]
     have l5 : w5.heap.size ≤ T := by rw [e2]; exact hz4
     clear e1 e2
     refine tq 19 8 hS5 ?_
     simp only [Act.put, List.setIfInBounds_toArray, List.set_cons_zero, List.set_cons_succ]
     refine wpAnyH_done (by kernel_rfl) (hK2 _ _ ?_) _
     go_meet
     exact ⟨T, g6, g11, g15, g16, rfl, hideT ⟨keep_blk b5 f6, keep_blk b5 f11, keep_blk b5 f15, keep_blk b5 f16, f5, hb4.trans (b5.mono hz4), l6, l11, l15, l16, l5⟩⟩
  ·
   obtain ⟨g16, V1, e1, e2, f16, b1⟩ := mk_step V0 (.map #[] 0)
   refine op_value (some 32) (v := .map (some g16)) (w' := V1) rfl rfl (by rfl) (by rw [e1, e2]; exact mkm_yield rfl) ?_
   have hS1 : (fun V : World => V.cell? ⟨c, 8, none⟩ = some (.int .i64 (N : Nat))) V1 := keep_cell b1 hS0
   refine And.intro hS1 ?_
   simp only [Act.put, List.setIfInBounds_toArray, List.set_cons_zero, List.set_cons_succ]
   have l16 : w5.heap.size ≤ g16 := by rw [e2]; have := hz0; omega
   have hz1 : w5.heap.size ≤ V1.heap.size := Nat.le_trans hz0 b1.size
   have hb1 := hb0.trans (b1.mono hz0)
   clear e1 e2
   refine wpAnyH_all (rs := [6, 11, 15]) (by kernel_rfl) (by simp) (fun j hj => ?_)
   simp only [List.mem_cons, List.not_mem_nil, or_false] at hj
   rcases hj with rfl | rfl | rfl
   ·
    obtain ⟨g6, V2, e1, e2, f6, b2⟩ := mk_step V1 (.cells (tkV (List.replicate N xad)).toArray 38)
    refine op_value (some 22) (v := .slice (some ⟨g6, 0, none⟩) N N) (w' := V2) rfl rfl (by rfl) (by rw [e1, e2]; exact mks_yield rfl rfl rfl (hse _)) ?_
    have hS2 : (fun V : World => V.cell? ⟨c, 8, none⟩ = some (.int .i64 (N : Nat))) V2 := keep_cell b2 hS1
    refine And.intro hS2 ?_
    simp only [Act.put, List.setIfInBounds_toArray, List.set_cons_zero, List.set_cons_succ]
    replace f16 := keep_blk b2 f16
    have l6 : w5.heap.size ≤ g6 := by rw [e2]; have := hz1; omega
    have hz2 : w5.heap.size ≤ V2.heap.size := Nat.le_trans hz1 b2.size
    have hb2 := hb1.trans (b2.mono hz1)
    clear e1 e2
    refine wpAnyH_all (rs := [11, 15]) (by kernel_rfl) (by simp) (fun j hj => ?_)
    simp only [List.mem_cons, List.not_mem_nil, or_false] at hj
    rcases hj with rfl | rfl
    ·
     obtain ⟨g11, V3, e1, e2, f11, b3⟩ := mk_step V2 (.cells (List.replicate N slN).toArray 81)
     refine op_value (some 27) (v := .slice (some ⟨g11, 0, none⟩) N N) (w' := V3) rfl rfl (by rfl) (by rw [e1, e2]; exact mks_yield rfl rfl rfl (hss _)) ?_
     have hS3 : (fun V : World => V.cell? ⟨c, 8, none⟩ = some (.int .i64 (N : Nat))) V3 := keep_cell b3 hS2
     refine And.intro hS3 ?_
     simp only [Act.put, List.setIfInBounds_toArray, List.set_cons_zero, List.set_cons_succ]
     replace f16 := keep_blk b3 f16
     replace f6 := keep_blk b3 f6
     have l11 : w5.heap.size ≤ g11 := by rw [e2]; have := hz2; omega
     have hz3 : w5.heap.size ≤ V3.heap.size := Nat.le_trans hz2 b3.size
     have hb3 := hb2.trans (b3.mono hz2)
     clear e1 e2
     refine wpAnyH_all (rs := [15]) (by kernel_rfl) (by simp) (fun j hj => ?_)
     obtain rfl : j = 15 := List.mem_singleton.1 hj
     obtain ⟨g15, V4, e1, e2, f15, b4⟩ := mk_step V3 (.cells (List.replicate (s.size + 1) slN).toArray 97)
     refine op_value (some 31) (v := .slice (some ⟨g15, 0, none⟩) (s.size + 1) (s.size + 1)) (w' := V4) rfl rfl (by rfl) (by rw [e1, e2]; exact mks_yield rfl rfl rfl (hsb _)) ?_
     have hS4 : (fun V : World => V.cell? ⟨c, 8, none⟩ = some (.int .i64 (N : Nat))) V4 := keep_cell b4 hS3
     refine And.intro hS4 ?_
     simp only [Act.put, List.setIfInBounds_toArray, List.set_cons_zero, List.set_cons_succ]
     replace f16 := keep_blk b4 f16
     replace f6 := keep_blk b4 f6
     replace f11 := keep_blk b4 f11
     have l15 : w5.heap.size ≤ g15 := by rw [e2]; have := hz3; omega
     have hz4 : w5.heap.size ≤ V4.heap.size := Nat.le_trans hz3 b4.size
     have hb4 := hb3.trans (b4.mono hz3)
     clear e1 e2
     refine tq (v := .agg #[.pointer (some ⟨c, 0, none⟩), .string s, .slice (some ⟨g6, 0, none⟩) N N, .slice (some ⟨g11, 0, none⟩) N N, .slice none 0 0, .slice none 0 0, .slice none 0 0, .slice none 0 0, .slice (some ⟨g15, 0, none⟩) (s.size + 1) (s.size + 1), .map (some g16)]) 17 33 hS4 ?_
     simp only [Act.put, List.setIfInBounds_toArray, List.set_cons_zero, List.set_cons_succ]
     refine wpAnyH_all (rs := [18]) (by kernel_rfl) (by simp) (fun j hj => ?_)
     obtain rfl : j = 18 := List.mem_singleton.1 hj
     obtain ⟨T, V5, e1, e2, f5, b5⟩ := mk_step V4 (.cells #[.pointer (some ⟨c, 0, none⟩), .string s, .slice (some ⟨g6, 0, none⟩) N N, .slice (some ⟨g11, 0, none⟩) N N, .slice none 0 0, .slice none 0 0, .slice none 0 0, .slice none 0 0, .slice (some ⟨g15, 0, none⟩) (s.size + 1) (s.size + 1), .map (some g16)] 93)
     refine op_value (some 34) (v := .pointer (some ⟨T, 0, none⟩)) (w' := V5) rfl rfl (by rfl) (by rw [e1, e2]; go_simp; (try with_reducible rfl)) ?_
     have hS5 : (fun V : World => V.cell? ⟨c, 8, none⟩ = some (.int .i64 (N : Nat))) V5 := keep_cell b5 hS4
     refine And.intro hS5 ?_
     simp only [Act.put, List.setIfInBounds_toArray, List.set_cons_zero, List.set_cons_succ]
     have l5 : w5.heap.size ≤ T := by rw [e2]; exact hz4
     clear e1 e2
     refine tq 19 8 hS5 ?_
     simp only [Act.put, List.setIfInBounds_toArray, List.set_cons_zero, List.set_cons_succ]
     refine wpAnyH_done (by kernel_rfl) (hK2 _ _ ?_) _
     go_meet
     exact ⟨T, g6, g11, g15, g16, rfl, hideT ⟨keep_blk b5 f6, keep_blk b5 f11, keep_blk b5 f15, keep_blk b5 f16, f5, hb4.trans (b5.mono hz4), l6, l11, l15, l16, l5⟩⟩
    ·
     obtain ⟨g15, V3, e1, e2, f15, b3⟩ := mk_step V2 (.cells (List.replicate (s.size + 1) slN).toArray 97)
     refine op_value (some 31) (v := .slice (some ⟨g15, 0, none⟩) (s.size + 1) (s.size + 1)) (w' := V3) rfl rfl (by rfl) (by rw [e1, e2]; exact mks_yield rfl rfl rfl (hsb _)) ?_
     have hS3 : (fun V : World => V.cell? ⟨c, 8, none⟩ = some (.int .i64 (N : Nat))) V3 := keep_cell b3 hS2
     refine And.intro hS3 ?_
     simp only [Act.put, List.setIfInBounds_toArray, List.set_cons_zero, List.set_cons_succ]
     replace f16 := keep_blk b3 f16
     replace f6 := keep_blk b3 f6
     have l15 : w5.heap.size ≤ g15 := by rw [e2]; have := hz2; omega
     have hz3 : w5.heap.size ≤ V3.heap.size := Nat.le_trans hz2 b3.size
     have hb3 := hb2.trans (b3.mono hz2)
     clear e1 e2
     refine wpAnyH_all (rs := [11]) (by kernel_rfl) (by simp) (fun j hj => ?_)
     obtain rfl : j = 11 := List.mem_singleton.1 hj
     obtain ⟨g11, V4, e1, e2, f11, b4⟩ := mk_step V3 (.cells (List.replicate N slN).toArray 81)
     refine op_value (some 27) (v := .slice (some ⟨g11, 0, none⟩) N N) (w' := V4) rfl rfl (by rfl) (by rw [e1, e2]; exact mks_yield rfl rfl rfl (hss _)) ?_
     have hS4 : (fun V : World => V.cell? ⟨c, 8, none⟩ = some (.int .i64 (N : Nat))) V4 := keep_cell b4 hS3
     refine And.intro hS4 ?_
     simp only [Act.put, List.setIfInBounds_toArray, List.set_cons_zero, List.set_cons_succ]
     replace f16 := keep_blk b4 f16
     replace f6 := keep_blk b4 f6
     replace f15 := keep_blk b4 f15
     have l11 : w5.heap.size ≤ g11 := by rw [e2]; have := hz3; omega
     have hz4 : w5.heap.size ≤ V4.heap.size := Nat.le_trans hz3 b4.size
     have hb4 := hb3.trans (b4.mono hz3)
     clear e1 e2
     refine tq (v := .agg #[.pointer (some ⟨c, 0, none⟩), .string s, .slice (some ⟨g6, 0, none⟩) N N, .slice (some ⟨g11, 0, none⟩) N N, .slice none 0 0, .slice none 0 0, .slice none 0 0, .slice none 0 0, .slice (some ⟨g15, 0, none⟩) (s.size + 1) (s.size + 1), .map (some g16)]) 17 33 hS4 ?_
     simp only [Act.put, List.setIfInBounds_toArray, List.set_cons_zero, List.set_cons_succ]
     refine wpAnyH_all (rs := [18]) (by kernel_rfl) (by simp) (fun j hj => ?_)
     obtain rfl : j = 18 := List.mem_singleton.1 hj
     obtain ⟨T, V5, e1, e2, f5, b5⟩ := mk_step V4 (.cells #[.pointer (some ⟨c, 0, none⟩), .string s, .slice (some ⟨g6, 0, none⟩) N N, .slice (some ⟨g11, 0, none⟩) N N, .slice none 0 0, .slice none 0 0, .slice none 0 0, .slice none 0 0, .slice (some ⟨g15, 0, none⟩) (s.size + 1) (s.size + 1), .map (some g16)] 93)
     refine op_value (some 34) (v := .pointer (some ⟨T, 0, none⟩)) (w' := V5) rfl rfl (by rfl) (by rw [e1, e2]; go_simp; (try with_reducible rfl)) ?_
     have hS5 : (fun V : World => V.cell? ⟨c, 8, none⟩ = some (.int .i64 (N : Nat))) V5 := keep_cell b5 hS4
     refine And.intro hS5 ?_
     simp only [Act.put, List.setIfInBounds_toArray, List.set_cons_zero, List.set_cons_succ]
     have l5 : w5.heap.size ≤ T := by rw [e2]; exact hz4
     clear e1 e2
     refine tq 19 8 hS5 ?_
     simp only [Act.put, List.setIfInBounds_toArray, List.set_cons_zero, List.set_cons_succ]
     refine wpAnyH_done (by kernel_rfl) (hK2 _ _ ?_) _
     go_meet
     exact ⟨T, g6, g11, g15, g16, rfl, hideT ⟨keep_blk b5 f6, keep_blk b5 f11, keep_blk b5 f15, keep_blk b5 f16, f5, hb4.trans (b5.mono hz4), l6, l11, l15, l16, l5⟩⟩
   ·
    obtain ⟨g11, V2, e1, e2, f11, b2⟩ := mk_step V1 (.cells (List.replicate N slN).toArray 81)
    refine op_value (some 27) (v := .slice (some ⟨g11, 0, none⟩) N N) (w' := V2) rfl rfl (by rfl) (by rw [e1, e2]; exact mks_yield rfl rfl rfl (hss _)) ?_
    have hS2 : (fun V : World => V.cell? ⟨c, 8, none⟩ = some (.int .i64 (N : Nat))) V2 := keep_cell b2 hS1
    refine And.intro hS2 ?_
    simp only [Act.put, List.setIfInBounds_toArray, List.set_cons_zero, List.set_cons_succ]
    replace f16 := keep_blk b2 f16
    have l11 : w5.heap.size ≤ g11 := by rw [e2]; have := hz1; omega
    have hz2 : w5.heap.size ≤ V2.heap.size := Nat.le_trans hz1 b2.size
    have hb2 := hb1.trans (b2.mono hz1)
    clear e1 e2
    refine wpAnyH_all (rs := [6, 15]) (by kernel_rfl) (by simp) (fun j hj => ?_)
    simp only [List.mem_cons, List.not_mem_nil, or_false] at hj
    rcases hj with rfl | rfl
    ·
     obtain ⟨g6, V3, e1, e2, f6, b3⟩ := mk_step V2 (.cells (tkV (List.replicate N xad)).toArray 38)
     refine op_value (some 22) (v := .slice (some ⟨g6, 0, none⟩) N N) (w' := V3) rfl rfl (by rfl) (by rw [e1, e2]; exact mks_yield rfl rfl rfl (hse _)) ?_
     have hS3 : (fun V : World => V.cell? ⟨c, 8, none⟩ = some (.int .i64 (N : Nat))) V3 := keep_cell b3 hS2
     refine And.intro hS3 ?_
     simp only [Act.put, List.setIfInBounds_toArray, List.set_cons_zero, List.set_cons_succ]
     replace f16 := keep_blk b3 f16
     replace f11 := keep_blk b3 f11
     have l6 : w5.heap.size ≤ g6 := by rw [e2]; have := hz2; omega
     have hz3 : w5.heap.size ≤ V3.heap.size := Nat.le_trans hz2 b3.size
     have hb3 := hb2.trans (b3.mono hz2)
     clear e1 e2
     refine wpAnyH_all (rs := [15]) (by kernel_rfl) (by simp) (fun j hj => ?_)
     obtain rfl : j = 15 := List.mem_singleton.1 hj
     obtain ⟨g15, V4, e1, e2, f15, b4⟩ := mk_step V3 (.cells (List.replicate (s.size + 1) slN).toArray 97)
     refine op_value (some 31) (v := .slice (some ⟨g15, 0, none⟩) (s.size + 1) (s.size + 1)) (w' := V4) rfl rfl (by rfl) (by rw [e1, e2]; exact mks_yield rfl rfl rfl (hsb _)) ?_
     have hS4 : (fun V : World => V.cell? ⟨c, 8, none⟩ = some (.int .i64 (N : Nat))) V4 := keep_cell b4 hS3
     refine And.intro hS4 ?_
     simp only [Act.put, List.setIfInBounds_toArray, List.set_cons_zero, List.set_cons_succ]
     replace f16 := keep_blk b4 f16
     replace f11 := keep_blk b4 f11
     replace f6 := keep_blk b4 f6
     have l15 : w5.heap.size ≤ g15 := by rw [e2]; have := hz3; omega
     have hz4 : w5.heap.size ≤ V4.heap.size := Nat.le_trans hz3 b4.size
     have hb4 := hb3.trans (b4.mono hz3)
     clear e1 e2
     refine tq (v := .agg #[.pointer (some ⟨c, 0, none⟩), .string s, .slice (some ⟨g6, 0, none⟩) N N, .slice (some ⟨g11, 0, none⟩) N N, .slice none 0 0, .slice none 0 0, .slice none 0 0, .slice none 0 0, .slice (some ⟨g15, 0, none⟩) (s.size + 1) (s.size + 1), .map (some g16)]) 17 33 hS4 ?_
     simp only [Act.put, List.setIfInBounds_toArray, List.set_cons_zero, List.set_cons_succ]
     refine wpAnyH_all (rs := [18]) (by kernel_rfl) (by simp) (fun j hj => ?_)
     obtain rfl : j = 18 := List.mem_singleton.1 hj
     obtain ⟨T, V5, e1, e2, f5, b5⟩ := mk_step V4 (.cells #[.pointer (some ⟨c, 0, none⟩), .string s, .slice (some ⟨g6, 0, none⟩) N N, .slice (some ⟨g11, 0, none⟩) N N, .slice none 0 0, .slice none 0 0, .slice none 0 0, .slice none 0 0, .slice (some ⟨g15, 0, none⟩) (s.size + 1) (s.size + 1), .map (some g16)] 93)
     refine op_value (some 34) (v := .pointer (some ⟨T, 0, none⟩)) (w' := V5) rfl rfl (by rfl) (by rw [e1, e2]; go_simp; (try with_reducible rfl)) ?_
     have hS5 : (fun V : World => V.cell? ⟨c, 8, none⟩ = some (.int .i64 (N : Nat))) V5 := keep_cell b5 hS4
     refine And.intro hS5 ?_
     simp only [Act.put, List.setIfInBounds_toArray, List.set_cons_zero, List.set_cons_succ]
     have l5 : w5.heap.size ≤ T := by rw [e2]; exact hz4
     clear e1 e2
     refine tq 19 8 hS5 ?_
     simp only [Act.put, List.setIfInBounds_toArray, List.set_cons_zero, List.set_cons_succ]
     refine wpAnyH_done (by kernel_rfl) (hK2 _ _ ?_) _
     go_meet
     exact ⟨T, g6, g11, g15, g16, rfl, hideT ⟨keep_blk b5 f6, keep_blk b5 f11, keep_blk b5 f15, keep_blk b5 f16, f5, hb4.trans (b5.mono hz4), l6, l11, l15, l16, l5⟩⟩
    ·
     obtain ⟨g15, V3, e1, e2, f15, b3⟩ := mk_step V2 (.cells (List.replicate (s.size + 1) slN).toArray 97)
     refine op_value (some 31) (v := .slice (some ⟨g15, 0, none⟩) (s.size + 1) (s.size + 1)) (w' := V3) rfl rfl (by rfl) (by rw [e1, e2]; exact mks_yield rfl rfl rfl (hsb _)) ?_
     have hS3 : (fun V : World => V.cell? ⟨c, 8, none⟩ = some (.int .i64 (N : Nat))) V3 := keep_cell b3 hS2
     refine And.intro hS3 ?_
     simp only [Act.put, List.setIfInBounds_toArray, List.set_cons_zero, List.set_cons_succ]
     replace f16 := keep_blk b3 f16
     replace f11 := keep_blk b3 f11
     have l15 : w5.heap.size ≤ g15 := by rw [e2]; have := hz2; omega
     have hz3 : w5.heap.size ≤ V3.heap.size := Nat.le_trans hz2 b3.size
     have hb3 := hb2.trans (b3.mono hz2)
     clear e1 e2
     refine wpAnyH_all (rs := [6]) (by kernel_rfl) (by simp) (fun j hj => ?_)
     obtain rfl : j = 6 := List.mem_singleton.1 hj
     obtain ⟨g6, V4, e1, e2, f6, b4⟩ := mk_step V3 (.cells (tkV (List.replicate N xad)).toArray 38)
     refine op_value (some 22) (v := .slice (some ⟨g6, 0, none⟩) N N) (w' := V4) rfl rfl (by rfl) (by rw [e1, e2]; exact mks_yield rfl rfl rfl (hse _)) ?_
     have hS4 : (fun V : World => V.cell? ⟨c, 8, none⟩ = some (.int .i64 (N : Nat))) V4 := keep_cell b4 hS3
     refine And.intro hS4 ?_
     simp only [Act.put, List.setIfInBounds_toArray, List.set_cons_zero, List.set_cons_succ]
     replace f16 := keep_blk b4 f16
     replace f11 := keep_blk b4 f11
     replace f15 := keep_blk b4 f15
     have l6 : w5.heap.size ≤ g6 := by rw [e2]; have := hz3; omega
     have hz4 : w5.heap.size ≤ V4.heap.size := Nat.le_trans hz3 b4.size
     have hb4 := hb3.trans (b4.mono hz3)
     clear e1 e2
     refine tq (v := .agg #[.pointer (some ⟨c, 0, none⟩), .string s, .slice (some ⟨g6, 0, none⟩) N N, .slice (some ⟨g11, 0, none⟩) N N, .slice none 0 0, .slice none 0 0, .slice none 0 0, .slice none 0 0, .slice (some ⟨g15, 0, none⟩) (s.size + 1) (s.size + 1), .map (some g16)]) 17 33 hS4 ?_
     simp only [Act.put, List.setIfInBounds_toArray, List.set_cons_zero, List.set_cons_succ]
     refine wpAnyH_all (rs := [18]) (by kernel_rfl) (by simp) (fun j hj => ?_)
     obtain rfl : j = 18 := List.mem_singleton.1 hj
     obtain ⟨T, V5, e1, e2, f5, b5⟩ := mk_step V4 (.cells #[.pointer (some ⟨c, 0, none⟩), .string s, .slice (some ⟨g6, 0, none⟩) N N, .slice (some ⟨g11, 0, none⟩) N N, .slice none 0 0, .slice none 0 0, .slice none 0 0, .slice none 0 0, .slice (some ⟨g15, 0, none⟩) (s.size + 1) (s.size + 1), .map (some g16)] 93)
     refine op_value (some 34) (v := .pointer (some ⟨T, 0, none⟩)) (w' := V5) rfl rfl (by rfl) (by rw [e1, e2]; go_simp; (try with_reducible rfl)) ?_
     have hS5 : (fun V : World => V.cell? ⟨c, 8, none⟩ = some (.int .i64 (N : Nat))) V5 := keep_cell b5 hS4
     refine And.intro hS5 ?_
     simp only [Act.put, List.setIfInBounds_toArray, List.set_cons_zero, List.set_cons_succ]
     have l5 : w5.heap.size ≤ T := by rw [e2]; exact hz4
     clear e1 e2
     refine tq 19 8 hS5 ?_
     simp only [Act.put, List.setIfInBounds_toArray, List.set_cons_zero, List.set_cons_succ]
     refine wpAnyH_done (by kernel_rfl) (hK2 _ _ ?_) _
     go_meet
     exact ⟨T, g6, g11, g15, g16, rfl, hideT ⟨keep_blk b5 f6, keep_blk b5 f11, keep_blk b5 f15, keep_blk b5 f16, f5, hb4.trans (b5.mono hz4), l6, l11, l15, l16, l5⟩⟩
   ·
    obtain ⟨g15, V2, e1, e2, f15, b2⟩ := mk_step V1 (.cells (List.replicate (s.size + 1) slN).toArray 97)
    refine op_value (some 31) (v := .slice (some ⟨g15, 0, none⟩) (s.size + 1) (s.size + 1)) (w' := V2) rfl rfl (by rfl) (by rw [e1, e2]; exact mks_yield rfl rfl rfl (hsb _)) ?_
    have hS2 : (fun V : World => V.cell? ⟨c, 8, none⟩ = some (.int .i64 (N : Nat))) V2 := keep_cell b2 hS1
    refine And.intro hS2 ?_
    simp only [Act.put, List.setIfInBounds_toArray, List.set_cons_zero, List.set_cons_succ]
    replace f16 := keep_blk b2 f16
    have l15 : w5.heap.size ≤ g15 := by rw [e2]; have := hz1; omega
    have hz2 : w5.heap.size ≤ V2.heap.size := Nat.le_trans hz1 b2.size
    have hb2 := hb1.trans (b2.mono hz1)
    clear e1 e2
    refine wpAnyH_all (rs := [6, 11]) (by kernel_rfl) (by simp) (fun j hj => ?_)
    simp only [List.mem_cons, List.not_mem_nil, or_false] at hj
    rcases hj with rfl | rfl
    ·
     obtain ⟨g6, V3, e1, e2, f6, b3⟩ := mk_step V2 (.cells (tkV (List.replicate N xad)).toArray 38)
     refine op_value (some 22) (v := .slice (some ⟨g6, 0, none⟩) N N) (w' := V3) rfl rfl (by rfl) (by rw [e1, e2]; exact mks_yield rfl rfl rfl (hse _)) ?_
     have hS3 : (fun V : World => V.cell? ⟨c, 8, none⟩ = some (.int .i64 (N : Nat))) V3 := keep_cell b3 hS2
     refine And.intro hS3 ?_
     simp only [Act.put, List.setIfInBounds_toArray, List.set_cons_zero, List.set_cons_succ]
     replace f16 := keep_blk b3 f16
     replace f15 := keep_blk b3 f15
     have l6 : w5.heap.size ≤ g6 := by rw [e2]; have := hz2; omega
     have hz3 : w5.heap.size ≤ V3.heap.size := Nat.le_trans hz2 b3.size
     have hb3 := hb2.trans (b3.mono hz2)
     clear e1 e2
     refine wpAnyH_all (rs := [11]) (by kernel_rfl) (by simp) (fun j hj => ?_)
     obtain rfl : j = 11 := List.mem_singleton.1 hj
     obtain ⟨g11, V4, e1, e2, f11, b4⟩ := mk_step V3 (.cells (List.replicate N slN).toArray 81)
     refine op_value (some 27) (v := .slice (some ⟨g11, 0, none⟩) N N) (w' := V4) rfl rfl (by rfl) (by rw [e1, e2]; exact mks_yield rfl rfl rfl (hss _)) ?_
     have hS4 : (fun V : World => V.cell? ⟨c, 8, none⟩ = some (.int .i64 (N : Nat))) V4 := keep_cell b4 hS3
     refine And.intro hS4 ?_
     simp only [Act.put, List.setIfInBounds_toArray, List.set_cons_zero, List.set_cons_succ]
     replace f16 := keep_blk b4 f16
     replace f15 := keep_blk b4 f15
     replace f6 := keep_blk b4 f6
     have l11 : w5.heap.size ≤ g11 := by rw [e2]; have := hz3; omega
     have hz4 : w5.heap.size ≤ V4.heap.size := Nat.le_trans hz3 b4.size
     have hb4 := hb3.trans (b4.mono hz3)
     clear e1 e2
     refine tq (v := .agg #[.pointer (some ⟨c, 0, none⟩), .string s, .slice (some ⟨g6, 0, none⟩) N N, .slice (some ⟨g11, 0, none⟩) N N, .slice none 0 0, .slice none 0 0, .slice none 0 0, .slice none 0 0, .slice (some ⟨g15, 0, none⟩) (s.size + 1) (s.size + 1), .map (some g16)]) 17 33 hS4 ?_
     simp only [Act.put, List.setIfInBounds_toArray, List.set_cons_zero, List.set_cons_succ]
     refine wpAnyH_all (rs := [18]) (by kernel_rfl) (by simp) (fun j hj => ?_)
     obtain rfl : j = 18 := List.mem_singleton.1 hj
     obtain ⟨T, V5, e1, e2, f5, b5⟩ := mk_step V4 (.cells #[.pointer (some ⟨c, 0, none⟩), .string s, .slice (some ⟨g6, 0, none⟩) N N, .slice (some ⟨g11, 0, none⟩) N N, .slice none 0 0, .slice none 0 0, .slice none 0 0, .slice none 0 0, .slice (some ⟨g15, 0, none⟩) (s.size + 1) (s.size + 1), .map (some g16)] 93)
     refine op_value (some 34) (v := .pointer (some ⟨T, 0, none⟩)) (w' := V5) rfl rfl (by rfl) (by rw [e1, e2]; go_simp; (try with_reducible rfl)) ?_
     have hS5 : (fun V : World => V.cell? ⟨c, 8, none⟩ = some (.int .i64 (N : Nat))) V5 := keep_cell b5 hS4
     refine And.intro hS5 ?_
     simp only [Act.put, List.setIfInBounds_toArray, List.set_cons_zero, List.set_cons_succ]
     have l5 : w5.heap.size ≤ T := by rw [e2]; exact hz4
     clear e1 e2
     refine tq 19 8 hS5 ?_
     simp only [Act.put, List.setIfInBounds_toArray, List.set_cons_zero, List.set_cons_succ]
     refine wpAnyH_done (by kernel_rfl) (hK2 _ _ ?_) _
     go_meet
     exact ⟨T, g6, g11, g15, g16, rfl, hideT ⟨keep_blk b5 f6, keep_blk b5 f11, keep_blk b5 f15, keep_blk b5 f16, f5, hb4.trans (b5.mono hz4), l6, l11, l15, l16, l5⟩⟩
    ·
     obtain ⟨g11, V3, e1, e2, f11, b3⟩ := mk_step V2 (.cells (List.replicate N slN).toArray 81)
     refine op_value (some 27) (v := .slice (some ⟨g11, 0, none⟩) N N) (w' := V3) rfl rfl (by rfl) (by rw [e1, e2]; exact mks_yield rfl rfl rfl (hss _)) ?_
     have hS3 : (fun V : World => V.cell? ⟨c, 8, none⟩ = some (.int .i64 (N : Nat))) V3 := keep_cell b3 hS2
     refine And.intro hS3 ?_
     simp only [Act.put, List.setIfInBounds_toArray, List.set_cons_zero, List.set_cons_succ]
     replace f16 := keep_blk b3 f16
     replace f15 := keep_blk b3 f15
     have l11 : w5.heap.size ≤ g11 := by rw [e2]; have := hz2; omega
     have hz3 : w5.heap.size ≤ V3.heap.size := Nat.le_trans hz2 b3.size
     have hb3 := hb2.trans (b3.mono hz2)
     clear e1 e2
     refine wpAnyH_all (rs := [6]) (by kernel_rfl) (by simp) (fun j hj => ?_)
     obtain rfl : j = 6 := List.mem_singleton.1 hj
     obtain ⟨g6, V4, e1, e2, f6, b4⟩ := mk_step V3 (.cells (tkV (List.replicate N xad)).toArray 38)
     refine op_value (some 22) (v := .slice (some ⟨g6, 0, none⟩) N N) (w' := V4) rfl rfl (by rfl) (by rw [e1, e2]; exact mks_yield rfl rfl rfl (hse _)) ?_
     have hS4 : (fun V : World => V.cell? ⟨c, 8, none⟩ = some (.int .i64 (N : Nat))) V4 := keep_cell b4 hS3
     refine And.intro hS4 ?_
     simp only [Act.put, List.setIfInBounds_toArray, List.set_cons_zero, List.set_cons_succ]
     replace f16 := keep_blk b4 f16
     replace f15 := keep_blk b4 f15
     replace f11 := keep_blk b4 f11
     have l6 : w5.heap.size ≤ g6 := by rw [e2]; have := hz3; omega
     have hz4 : w5.heap.size ≤ V4.heap.size := Nat.le_trans hz3 b4.size
     have hb4 := hb3.trans (b4.mono hz3)
     clear e1 e2
     refine tq (v := .agg #[.pointer (some ⟨c, 0, none⟩), .string s, .slice (some ⟨g6, 0, none⟩) N N, .slice (some ⟨g11, 0, none⟩) N N, .slice none 0 0, .slice none 0 0, .slice none 0 0, .slice none 0 0, .slice (some ⟨g15, 0, none⟩) (s.size + 1) (s.size + 1), .map (some g16)]) 17 33 hS4 ?_
     simp only [Act.put, List.setIfInBounds_toArray, List.set_cons_zero, List.set_cons_succ]
     refine wpAnyH_all (rs := [18]) (by kernel_rfl) (by simp) (fun j hj => ?_)
     obtain rfl : j = 18 := List.mem_singleton.1 hj
     obtain ⟨T, V5, e1, e2, f5, b5⟩ := mk_step V4 (.cells #[.pointer (some ⟨c, 0, none⟩), .string s, .slice (some ⟨g6, 0, none⟩) N N, .slice (some ⟨g11, 0, none⟩) N N, .slice none 0 0, .slice none 0 0, .slice none 0 0, .slice none 0 0, .slice (some ⟨g15, 0, none⟩) (s.size + 1) (s.size + 1), .map (some g16)] 93)
     refine op_value (some 34) (v := .pointer (some ⟨T, 0, none⟩)) (w' := V5) rfl rfl (by rfl) (by rw [e1, e2]; go_simp; (try with_reducible rfl)) ?_
     have hS5 : (fun V : World => V.cell? ⟨c, 8, none⟩ = some (.int .i64 (N : Nat))) V5 := keep_cell b5 hS4
     refine And.intro hS5 ?_
     simp only [Act.put, List.setIfInBounds_toArray, List.set_cons_zero, List.set_cons_succ]
     have l5 : w5.heap.size ≤ T := by rw [e2]; exact hz4
     clear e1 e2
     refine tq 19 8 hS5 ?_
     simp only [Act.put, List.setIfInBounds_toArray, List.set_cons_zero, List.set_cons_succ]
     refine wpAnyH_done (by kernel_rfl) (hK2 _ _ ?_) _
     go_meet
     exact ⟨T, g6, g11, g15, g16, rfl, hideT ⟨keep_blk b5 f6, keep_blk b5 f11, keep_blk b5 f15, keep_blk b5 f16, f5, hb4.trans (b5.mono hz4), l6, l11, l15, l16, l5⟩⟩
 case rest =>
  obtain ⟨T, gt, gn, gl, M, rfl, HA⟩ := hcut
  refine hK1 _ _ ?_
  obtain ⟨vl, u, cs, vs, blk, hl, hv, ol, sl, es, bh, kids⟩ := HL.out.1.parts
  have hblk := keep_blk HA.out.be blk
  have hcw : c < w5.heap.size := (Array.getElem?_eq_some_iff.1 blk).1
  obtain ⟨fa, la, fc, lc, hE⟩ := es.fn
  have y0 := (cells_at hblk (j := 9) rfl).1
  rw [show u 0 = _ from (hE 0 (by decide)).1] at y0
  have y1 := (cells_at hblk (j := 10) rfl).1
  rw [show u 1 = _ from (hE 0 (by decide)).2.1] at y1
  have y2 := (cells_at hblk (j := 11) rfl).1
  rw [show u 2 = _ from (hE 0 (by decide)).2.2.1] at y2
  have y3 := (cells_at hblk (j := 12) rfl).1
  rw [show u 3 = _ from (hE 1 (by decide)).1] at y3
  have y4 := (cells_at hblk (j := 13) rfl).1
  rw [show u 4 = _ from (hE 1 (by decide)).2.1] at y4
  have y5 := (cells_at hblk (j := 14) rfl).1
  rw [show u 5 = _ from (hE 1 (by decide)).2.2.1] at y5
  have y6 := (cells_at hblk (j := 15) rfl).1
  rw [show u 6 = _ from (hE 2 (by decide)).1] at y6
  have y7 := (cells_at hblk (j := 16) rfl).1
  rw [show u 7 = _ from (hE 2 (by decide)).2.1] at y7
  have y8 := (cells_at hblk (j := 17) rfl).1
  rw [show u 8 = _ from (hE 2 (by decide)).2.2.1] at y8
  have y9 := (cells_at hblk (j := 18) rfl).1
  rw [show u 9 = _ from (hE 3 (by decide)).1] at y9
  have y10 := (cells_at hblk (j := 19) rfl).1
  rw [show u 10 = _ from (hE 3 (by decide)).2.1] at y10
  have y11 := (cells_at hblk (j := 20) rfl).1
  rw [show u 11 = _ from (hE 3 (by decide)).2.2.1] at y11
  have HE := hideT (And.intro hE hcw)
  clear hl hv ol sl bh kids es blk hblk hE hcw x8 hK1
  go_wp2_with fail
  clear y0 y1 y2 y3 y4 y5 y6 y7 y8 y9 y10 y11
  go_loopg [9, 10, 12, 39] 4 (fun fu v9 v10 v12 v39 wr => ∃ k : Nat, v39 = .int .i64 (k : Nat) ∧ k + fu = 4 ∧ Hid (∃ es ge, NwB w5 wr N s c T gt gn gl M es ge p k))
  case atStart => exact ⟨0, rfl, rfl, hideT ⟨_, (fun _ => 0), HA.out, rfl, fun j hj => absurd hj (Nat.not_lt_zero j)⟩⟩
  case round =>
   obtain ⟨k, rfl, hkf, HI⟩ := hrel
   cases gk with
   | zero =>
    obtain rfl : k = 4 := by omega
    obtain ⟨es, ge, hB⟩ := HI.out
    have hp := HP.out.1
    have hpt : PtAt wr (fun k => W.heap.size < k ∧ k < w5.heap.size) c p := HL.out.1.keep (fun g hg => hB.na.be.block g hg.2) (fun _ h => h)
    have htie := tie_any hp HP.out.2.1 wr _ c 0 _ hpt (fun k hk => ⟨by have := hB.na.be.size; omega, by have := hB.na.ge.1; omega, by have := hB.na.ge.2.1; omega⟩) (tiv_zero hB.na hB.el) (by rw [HN.out]; omega) N256 hB.na.be.size
    clear hp hpt hB
    go_wp2_with fail
    refine htie.mono ?_
    rintro e w6 ⟨⟨v, rfl⟩, hTi, hTf⟩
    obtain ⟨es, ge, hB⟩ := HI.out
    rw [HN.out] at hTi
    have hLv := hB.live HN.out (by rw [HN.out]; exact hTi) hTf
    have hbe := hTf.low hB.na.be hB.na.ge.1 hB.na.ge.2.1 hB.na.be.size
    have hne := hB.na.ne
    have hge := hB.na.ge
    have HF := hideT (And.intro hLv (And.intro hbe (And.intro hne hge)))
    have c1 := hLv.1.ta.c1
    have hLn : (tabT p).takes.length = p.size := hTi.tk.2
    have HFB := hideT (fitB_tab HP.out.1 hs hLn)
    have HLN := hideT hLn
    have i1 : (s.size : Int) ≤ 1024 := by omega
    have i2 : (fr : Int) ≤ 1024 := by have := HP.out.2.2.1; omega
    clear hLv hbe hne hge hB hTi hTf htie HI hLn
    go_wp2_with fail
    clear c1
    go_loopg [13] (s.size - fr) (fun fu v13 wq => ∃ pl : Nat, v13 = .int .i64 (pl : Nat) ∧ fr + fu = pl ∧ Hid (pl ≤ s.size ∧ NwL w6 wq w5.heap.size T s (tabT p) gt gn gl ge pl))
    case atStart => exact ⟨s.size, rfl, by have := HP.out.2.2.1; omega, hideT ⟨Nat.le_refl _, HF.out.1.1⟩⟩
    case round =>
     obtain ⟨pl, rfl, hpf, HQ⟩ := hrel
     cases gk with
     | zero =>
      obtain rfl : fr = pl := hpf
      have hQ := HQ.out.2
      obtain ⟨n1, n2, n3, n4, n5, n6, n7, n8, n9, n10⟩ := HF.out.2.2.1
      obtain ⟨g1, g2, g3, g4, g5⟩ := HF.out.2.2.2
      have hMl := (Array.getElem?_eq_some_iff.1 HF.out.1.2.1).1
      have hTl := World.block_lt_of_cell? w6 _ HF.out.1.2.2.1
      have hM := (hQ.fr.block M hMl (Ne.symm n10) (Ne.symm n10)).trans HF.out.1.2.1
      have h0 := (World.cell?_of_block (a := ⟨T, 0, none⟩) (hQ.fr.block T hTl n4 n4)).trans HF.out.1.2.2.1
      have h9 := (World.cell?_of_block (a := ⟨T, 9, none⟩) (hQ.fr.block T hTl n4 n4)).trans HF.out.1.2.2.2
      have hbe2 := hQ.fr.low HF.out.2.1 g3 g3 HF.out.2.1.size
      have HZ := hideT (show TcV wr w5.heap.size T s (tabT p) gt gn gl ge fr M ∧ wr.cell? ⟨T, 0, none⟩ = some (.pointer (some ⟨c, 0, none⟩)) ∧ PtAt wr (fun k => W.heap.size < k ∧ k < w5.heap.size) c p ∧ (∀ k, (W.heap.size < k ∧ k < w5.heap.size) → k < wr.heap.size) ∧ Below W.heap.size W wr ∧ W.heap.size ≤ M ∧ (tabT p).takes.length = p.size from ⟨⟨hQ.ta, h9, cov_zero hM _ _ _⟩, h0, HL.out.1.keep (fun g hg => hbe2.block g hg.2) (fun _ h => h), fun k hk => Nat.lt_of_lt_of_le hk.2 hbe2.size, HL.out.2.trans (hbe2.mono HL.out.2.size), Nat.le_trans HL.out.2.size g4, HLN.out⟩)
      clear hQ n1 n2 n3 n4 n5 n6 n7 n8 n9 n10 g1 g2 g3 g4 g5 hMl hTl hM h0 h9 hbe2 HQ
      go_wp2_with fail
      go_ret
      exact ⟨w5.heap.size, T, gt, gn, gl, M, c, ge, _, rfl, HZ.out⟩
     | succ fu =>
      obtain ⟨m, rfl⟩ : ∃ m, pl = m + 1 := ⟨fr + fu, by omega⟩
      obtain ⟨pl, hpl⟩ : ∃ pl, pl = m + 1 := ⟨_, rfl⟩
      have hm : m < s.size := by have := HQ.out.1; omega
      have hfm : fr + fu = m := by omega
      rw [← hpl]
      have p0 : (fr : Int) < (pl : Int) := by omega
      have p1 : (pl : Int) - 1 = (m : Int) := by omega
      have p2 : (pl : Int) < (s.size : Int) + 1 := by omega
      have p3 : (0 : Int) ≤ (pl : Int) := by omega
      have p4 : (m : Int) ≤ 1024 := by omega
      have hU := HQ.out.2.below (drew_below _ wr)
      have hal := alive_any hU.ta hm hs HFB.out.N (hU.fr.low HF.out.2.1 HF.out.2.2.2.2.2.1 HF.out.2.2.2.2.2.1 HF.out.2.1.size).size
      rw [← hpl] at hal
      obtain ⟨c8, h8⟩ := hU.ta.c8
      have HP1 := hideT (And.intro hpl (And.intro hm (And.intro hfm hU)))
      clear hpf HQ hU hpl hm hfm
      go_upto_region 17 with fail
      rename_i K17 hK17
      refine wp_region_held (S := fun V : World => V.cell? ⟨T, 8, none⟩ = some (.slice (some ⟨gl, 0, none⟩) (s.size + 1) c8)) (by kernel_rfl) ?_
      show wpAnyH _ _ _ _ _ _ _ _ wr.drew
      generalize wr.drew = U at *
      have hS0 : (fun V : World => V.cell? ⟨T, 8, none⟩ = some (.slice (some ⟨gl, 0, none⟩) (s.size + 1) c8)) U := h8
      clear h8
      refine tq 0 83 hS0 ?_
      refine tq 1 84 hS0 ?_
      refine tq 2 85 hS0 ?_
      refine tq 3 86 hS0 ?_
      simp only [Act.put, List.setIfInBounds_toArray, List.set_cons_zero, List.set_cons_succ]
      refine tq 4 87 hS0 ?_
      refine tq 5 88 hS0 ?_
      refine tq 6 89 hS0 ?_
      simp only [Act.put, List.setIfInBounds_toArray, List.set_cons_zero, List.set_cons_succ]
      refine wpAnyH_all (rs := [7]) (by kernel_rfl) (by simp) (fun j hj => ?_)
      obtain rfl : j = 7 := List.mem_singleton.1 hj
      clear hj
      refine op_call (R := fun v w7 => w7.ownsRow U.heap.size 4 1 v (tabT p).takes.length (boV (rowF (tabT p) (bnS s) pl (nxtF (tabT p) s pl))) ∧ v ≠ .slice none 0 0 ∧ Below U.heap.size U w7) (f := 25) (some 90) rfl rfl (by rfl) (by go_simp; (try with_reducible rfl)) (hal.mono ?_) ?_
      · rintro e w7 ⟨v, rfl, h1⟩
        exact ⟨_, rfl, h1.2.1, h1.1, h1.2.2⟩
      rintro v w7 ⟨ho7, hn7, hb7⟩
      rw [HP1.out.1] at ho7
      have hS1 : (fun V : World => V.cell? ⟨T, 8, none⟩ = some (.slice (some ⟨gl, 0, none⟩) (s.size + 1) c8)) w7 := keep_cell hb7 hS0
      refine ⟨hS1, ?_⟩
      simp only [Act.put, List.setIfInBounds_toArray, List.set_cons_zero, List.set_cons_succ]
      refine tq 8 91 hS1 ?_
      simp only [Act.put, List.setIfInBounds_toArray, List.set_cons_zero, List.set_cons_succ]
      refine wpAnyH_all (rs := [9]) (by kernel_rfl) (by simp) (fun j hj => ?_)
      obtain rfl : j = 9 := List.mem_singleton.1 hj
      clear hj
      have hlg := (HP1.out.2.2.2.below hb7).lg
      obtain ⟨vs1, v1, v2, v3⟩ := hlg
      obtain ⟨e1, e2⟩ := cells_at v1 (j := pl) (List.getElem?_eq_getElem (by rw [v2]; have := HP1.out.1; have := HP1.out.2.1; omega))
      have hX := HP1.out.2.2.2.put ⟨HF.out.2.2.1.2.2.2.1, HF.out.2.2.1.2.2.2.2.1, HF.out.2.2.1.2.2.2.2.2.1⟩ HP1.out.2.1 hb7 ho7 hn7
      rw [← HP1.out.1] at hX
      obtain ⟨a7, c7, hv7⟩ := row_shape ho7
      rw [hv7] at hX ⊢
      have hS2 : (fun V : World => V.cell? ⟨T, 8, none⟩ = some (.slice (some ⟨gl, 0, none⟩) (s.size + 1) c8)) (w7.setCell ⟨gl, pl, none⟩ (.slice a7 (tabT p).takes.length c7)) := by obtain ⟨cc, hcc⟩ := hX.ta.c8; exact (keep_cell_other HF.out.2.2.1.2.2.2.1 hS1)
      refine op_skip rfl rfl (by rfl) (w' := w7.setCell ⟨gl, pl, none⟩ (.slice a7 (tabT p).takes.length c7)) (by go_simp; (try rfl)) ⟨hS2, ?_⟩
      refine wpAnyH_done (by kernel_rfl) (hK17 _ _ ?_) _
      simp only [Act.put]
      have HX := hideT hX
      clear hK17 hS0 hS1 hS2 hX e1 e2 v1 v2 v3 hal ho7 hn7 hb7 hv7
      generalize w7.setCell ⟨gl, pl, none⟩ (.slice a7 (tabT p).takes.length c7) = Z at *
      go_wp2_with fail
      go_roundg fu
      case measure => omega
      case rel => exact ⟨m, rfl, HP1.out.2.2.1, hideT ⟨by have := HP1.out.2.1; omega, HX.out⟩⟩
   | succ fu =>
    have hk4 : k < 4 := by omega
    obtain ⟨es, ge, hB⟩ := HI.out
    have i1 : (k : Int) < 4 := by omega
    have i2 : (0 : Int) ≤ (k : Int) := by omega
    have i3 : (N : Int) ≤ 256 := by omega
    have hidx := idx_eds (fun k => (eat p.eds k).no) fa la (fun k => (eat p.eds k).fi.length) (fun k => (eat p.eds k).la.length) fc lc k hk4
    have hbA := (Below.refl wr.heap.size wr).alloc (Nat.le_refl _) (.cells #[.bool (eat p.eds k).no, .slice (fa k) (eat p.eds k).fi.length (fc k), .slice (la k) (eat p.eds k).la.length (lc k)] 83)
    have hnA := World.alloc_heap_new wr (.cells #[.bool (eat p.eds k).no, .slice (fa k) (eat p.eds k).fi.length (fc k), .slice (la k) (eat p.eds k).la.length (lc k)] 83)
    have q2 := (cells_at hnA (j := 2) rfl).1
    have x8 : wr.cell? ⟨c, 8, none⟩ = some (.int .i64 (N : Nat)) := by
     obtain ⟨vl, u, cs, vs, blk, _⟩ := HL.out.1.parts
     rw [HN.out]
     exact (World.cell?_of_block (a := ⟨c, 8, none⟩) (hB.na.be.block c HE.out.2)).trans (cells_at blk (j := 8) rfl).1
    have x8' := keep_cell hbA x8
    have hCA : wr.heap.size < (wr.alloc (.cells #[.bool (eat p.eds k).no, .slice (fa k) (eat p.eds k).fi.length (fc k), .slice (la k) (eat p.eds k).la.length (lc k)] 83)).heap.size := by rw [World.size_alloc]; omega
    have HB := hideT (And.intro (hB.below hbA) (And.intro hk4 (And.intro hkf (show wr.heap.size ≠ T by have := hB.na.lt.2.2.2.2; omega))))
    have hcC : c < wr.heap.size := World.block_lt_of_cell? wr _ x8
    clear hB HI hbA hnA x8 hkf hk4
    go_upto_region 6 with fail
    rename_i K6 hK6
    clear hidx
    show Code.wp _ _ _ _ (wr.alloc (.cells #[.bool (eat p.eds k).no, .slice (fa k) (eat p.eds k).fi.length (fc k), .slice (la k) (eat p.eds k).la.length (lc k)] 83))
    generalize wr.alloc (.cells #[.bool (eat p.eds k).no, .slice (fa k) (eat p.eds k).fi.length (fc k), .slice (la k) (eat p.eds k).la.length (lc k)] 83) = V1 at *
    generalize wr.heap.size = C10 at *
    have hS0 : (fun V : World => V.cell? ⟨c, 8, none⟩ = some (.int .i64 (N : Nat)) ∧ V.cell? ⟨C10, 2, none⟩ = some (.slice (la k) (eat p.eds k).la.length (lc k))) V1.drew := ⟨x8', q2⟩
    refine wp_region_held (S := fun V : World => V.cell? ⟨c, 8, none⟩ = some (.int .i64 (N : Nat)) ∧ V.cell? ⟨C10, 2, none⟩ = some (.slice (la k) (eat p.eds k).la.length (lc k))) (by kernel_rfl) ?_
    show wpAnyH _ _ _ _ _ _ _ _ V1.drew
    have hBU := HB.out.1.below (drew_below _ V1)
    have hCU : C10 < V1.drew.heap.size := hCA
    clear x8' q2 hCA
    generalize V1.drew = U at *
    refine tq 0 43 hS0 ?_
    refine tq 1 44 hS0 ?_
    refine tq 2 45 hS0 ?_
    refine tq 3 46 hS0 ?_
    simp only [Act.put, List.setIfInBounds_toArray, List.set_cons_zero, List.set_cons_succ]
    refine tq 4 47 hS0 ?_
    refine tq 5 48 hS0 ?_
    refine tq 7 50 hS0 ?_
    refine tq 8 51 hS0 ?_
    simp only [Act.put, List.setIfInBounds_toArray, List.set_cons_zero, List.set_cons_succ]
    refine wpAnyH_all (rs := [6]) (by kernel_rfl) (by simp) (fun j hj => ?_)
    obtain rfl : j = 6 := List.mem_singleton.1 hj
    clear hj
    obtain ⟨g, V2, e1, e2, fg, bg⟩ := mk_step U (.cells (List.replicate N (.int .i64 0)).toArray 3)
    refine op_value (some 49) (v := .slice (some ⟨g, 0, none⟩) N N) (w' := V2) rfl rfl (by rfl) (by rw [e1, e2]; exact mks_yield rfl rfl rfl (make_si N (by omega) _)) ?_
    have hS1 : (fun V : World => V.cell? ⟨c, 8, none⟩ = some (.int .i64 (N : Nat)) ∧ V.cell? ⟨C10, 2, none⟩ = some (.slice (la k) (eat p.eds k).la.length (lc k))) V2 := ⟨keep_cell bg hS0.1, keep_cell bg hS0.2⟩
    have hgU : U.heap.size ≤ g := by rw [e2]; exact Nat.le_refl _
    clear e1 e2
    refine And.intro hS1 ?_
    simp only [Act.put, List.setIfInBounds_toArray, List.set_cons_zero, List.set_cons_succ]
    refine tq 9 52 hS1 ?_
    simp only [Act.put, List.setIfInBounds_toArray, List.set_cons_zero, List.set_cons_succ]
    refine wpAnyH_all (rs := [10]) (by kernel_rfl) (by simp) (fun j hj => ?_)
    obtain rfl : j = 10 := List.mem_singleton.1 hj
    clear hj
    have hC := hBU.begin HB.out.2.1 bg fg hgU
    obtain ⟨e1, e2⟩ := cells_at (hBU.below bg).na.tb ((tb_at hBU.el HB.out.2.1).trans (List.getElem?_eq_getElem (by rw [hBU.el]; exact HB.out.2.1)))
    have hcT : c ≠ T := by have := hBU.na.ge.2.2.2.2; have := HE.out.2; omega
    have hCT : C10 ≠ T := HB.out.2.2.2
    have hS2 : (fun V : World => V.cell? ⟨c, 8, none⟩ = some (.int .i64 (N : Nat)) ∧ V.cell? ⟨C10, 2, none⟩ = some (.slice (la k) (eat p.eds k).la.length (lc k))) (V2.setCell ⟨T, 4 + k, none⟩ (.slice (some ⟨g, 0, none⟩) N N)) := ⟨keep_cell_other hcT hS1.1, keep_cell_other hCT hS1.2⟩
    refine op_skip rfl rfl (by rfl) (w' := V2.setCell ⟨T, 4 + k, none⟩ (.slice (some ⟨g, 0, none⟩) N N)) (by go_simp; (try rfl)) ⟨hS2, ?_⟩
    refine wpAnyH_done (by kernel_rfl) (hK6 _ _ ?_) _
    simp only [Act.put]
    have q2 := hS2.2
    have HC := hideT hC
    clear hK6 hS0 hS1 hS2 hC e1 e2 hcT hCT hgU fg bg hBU hCU hcC
    generalize V2.setCell ⟨T, 4 + k, none⟩ (.slice (some ⟨g, 0, none⟩) N N) = Z at *
    generalize es.set k (.slice (some ⟨g, 0, none⟩) N N) = es3 at *
    go_wp2_with fail
    clear q2
    go_loopg [12, 56] (eat p.eds k).la.length (fun fu2 v12 v56 wq => ∃ i : Nat, v56 = .int .i64 (i : Nat) ∧ i + fu2 = (eat p.eds k).la.length ∧ Hid (NwC w5 wq N s c T gt gn gl M es3 ge p k g i))
    case atStart => exact ⟨0, rfl, by omega, HC⟩
    case round =>
     obtain ⟨i, rfl, hif, HI⟩ := hrel
     cases gk with
     | zero =>
      obtain rfl : i = (eat p.eds k).la.length := by omega
      have HD := hideT (HI.out.done rfl)
      clear HI
      go_wp2_with fail
      go_roundg fu
      case measure => omega
      case rel => exact ⟨k + 1, by go_num, by have := HB.out.2.2.1; omega, hideT ⟨_, _, HD.out⟩⟩
     | succ fu2 =>
      have hlt : i < (eat p.eds k).la.length := by omega
      obtain ⟨x, hx⟩ : ∃ x, (eat p.eds k).la[i]? = some x := ⟨_, List.getElem?_eq_getElem hlt⟩
      have hlw := ((HE.out.1 k HB.out.2.1).2.2.2.2).keep (W' := wr) (S' := fun _ => True) (fun g hg => HI.out.nb.na.be.block g hg.2) (fun _ _ => trivial)
      obtain ⟨gx, ox, hla, hg, q0, q1⟩ := hlw.at hx
      have hxo := (HP.out.1.ed.at k).2.lt x (List.mem_of_getElem? hx)
      rw [← HN.out] at hxo
      have hbA := (Below.refl wr.heap.size wr).alloc (Nat.le_refl _) (.cells #[.int .i64 (x.1 : Nat), .int .i64 (x.2 : Nat)] 95)
      have hnA := World.alloc_heap_new wr (.cells #[.int .i64 (x.1 : Nat), .int .i64 (x.2 : Nat)] 95)
      have q0' := (cells_at hnA (j := 0) rfl).1
      have q1' := (cells_at hnA (j := 1) rfl).1
      have j1 : (i : Int) < ((eat p.eds k).la.length : Int) := by omega
      have j2 : (0 : Int) ≤ (i : Int) := by omega
      have j3 : (x.1 : Int) < (N : Int) := by omega
      have j5 : (i : Int) ≤ 256 := by have := (HP.out.1.ed.at k).2.length; have := HN.out; omega
      have j4 : (0 : Int) ≤ (x.1 : Int) := by omega
      have hCC := HI.out.below hbA
      have HC2 := hideT (And.intro hCC (And.intro hx (And.intro hxo hif)))
      have hCn : T ≠ wr.heap.size := by have := HI.out.nb.na.lt.2.2.2.2; omega
      have hgn : g ≠ wr.heap.size := by have := (Array.getElem?_eq_some_iff.1 HI.out.gk.1).1; omega
      rw [hla]
      clear hbA hnA hx hxo hg hlw hif hlt HI hCC
      go_upto_region 10 with fail
      rename_i K10 hK10
      show Code.wp _ _ _ _ (wr.alloc (.cells #[.int .i64 (x.1 : Nat), .int .i64 (x.2 : Nat)] 95))
      generalize wr.alloc (.cells #[.int .i64 (x.1 : Nat), .int .i64 (x.2 : Nat)] 95) = V1 at *
      generalize wr.heap.size = C12 at *
      have hU := HC2.out.1.below (drew_below _ V1)
      have hS0 : (fun V : World => V.cell? ⟨T, 4 + k, none⟩ = some (.slice (some ⟨g, 0, none⟩) N N) ∧ V.cell? ⟨C12, 0, none⟩ = some (.int .i64 (x.1 : Nat)) ∧ V.cell? ⟨C12, 1, none⟩ = some (.int .i64 (x.2 : Nat))) V1.drew := ⟨(cells_at hU.nb.na.tb ((tb_at hU.nb.el HB.out.2.1).trans hU.ek)).1, q0', q1'⟩
      refine wp_region_held (S := fun V : World => V.cell? ⟨T, 4 + k, none⟩ = some (.slice (some ⟨g, 0, none⟩) N N) ∧ V.cell? ⟨C12, 0, none⟩ = some (.int .i64 (x.1 : Nat)) ∧ V.cell? ⟨C12, 1, none⟩ = some (.int .i64 (x.2 : Nat))) (by kernel_rfl) ?_
      show wpAnyH _ _ _ _ _ _ _ _ V1.drew
      clear q0' q1' q0 q1
      generalize V1.drew = U at *
      refine tq 0 60 hS0 ?_
      refine tq 1 61 hS0 ?_
      refine tq 2 62 hS0 ?_
      refine tq 3 63 hS0 ?_
      simp only [Act.put, List.setIfInBounds_toArray, List.set_cons_zero, List.set_cons_succ]
      refine tq 4 64 hS0 ?_
      refine tq 5 65 hS0 ?_
      refine tq 6 66 hS0 ?_
      refine tq 7 67 hS0 ?_
      simp only [Act.put, List.setIfInBounds_toArray, List.set_cons_zero, List.set_cons_succ]
      refine tq 8 68 hS0 ?_
      refine tq 9 69 hS0 ?_
      refine tq 10 70 hS0 ?_
      simp only [Act.put, List.setIfInBounds_toArray, List.set_cons_zero, List.set_cons_succ]
      refine wpAnyH_all (rs := [11]) (by kernel_rfl) (by simp) (fun j hj => ?_)
      obtain rfl : j = 11 := List.mem_singleton.1 hj
      clear hj
      obtain ⟨⟨v11, e1⟩, e2⟩ := hU.there HC2.out.2.2.1.1
      have hX := hU.step HC2.out.2.1
      have hTg : T ≠ g := ne_ty hU.nb.na.tb hU.gk.1 (by decide)
      have hS2 : (fun V : World => V.cell? ⟨T, 4 + k, none⟩ = some (.slice (some ⟨g, 0, none⟩) N N) ∧ V.cell? ⟨C12, 0, none⟩ = some (.int .i64 (x.1 : Nat)) ∧ V.cell? ⟨C12, 1, none⟩ = some (.int .i64 (x.2 : Nat))) (U.setCell ⟨g, x.1, none⟩ (.int .i64 (x.2 : Nat))) := ⟨keep_cell_other hTg hS0.1, keep_cell_other (Ne.symm hgn) hS0.2.1, keep_cell_other (Ne.symm hgn) hS0.2.2⟩
      refine op_skip rfl rfl (by rfl) (w' := U.setCell ⟨g, x.1, none⟩ (.int .i64 (x.2 : Nat))) (by go_simp; (try rfl)) ⟨hS2, ?_⟩
      refine wpAnyH_done (by kernel_rfl) (hK10 _ _ ?_) _
      simp only [Act.put]
      have HX := hideT hX
      clear hK10 hS0 hS2 hX e1 e2 hTg hU hgn hCn
      generalize U.setCell ⟨g, x.1, none⟩ (.int .i64 (x.2 : Nat)) = Z at *
      go_wp2_with fail
      rw [← hla]
      go_roundg fu2
      case measure => omega
      case rel => exact ⟨i + 1, by go_num, by have := HC2.out.2.2.2; omega, HX⟩
end Go.Proofs.Ytolpakpdkheanaa.tly
