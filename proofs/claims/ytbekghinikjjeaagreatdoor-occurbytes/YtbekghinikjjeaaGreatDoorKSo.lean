/- KSo -/
import Derived.Test.YtbekghinikjjeaaGreatDoorKA3
import Derived.Test.YtbekghinikjjeaaGreatDoorKA1
set_option maxRecDepth 100000
set_option maxHeartbeats 4000000
namespace Go.Proofs.YtbekghinikjjeaaGreatDoor.smt
open Go.RowKit Go.Proofs.YtbekghinikjjeaaGreatDoor.br
theorem lkB_any {w : World} {S : Nat → Prop} {c base : Nat} {q : Pt} (hq : PtAt w S c q) (hbd : q.bds.length = 4) (free : Bool) (hb : base < 1000000) : Calls Tryz.prog 91 #[.agg #[.pointer (some ⟨c, 0, none⟩), .int .i64 (base : Nat), .bool free]] w fun e w' => e = .returned (.agg (bsV (lnB (q, base, free))).toArray) ∧ Below w.heap.size w w' := by
 have HU := hideT (fun (n : Nat) (W : World) => up_any n base hb W)
 obtain ⟨b, p, vl, vt, vn, cs, hS, blk, -, -, -, -, -, -, -, -⟩ := hq
 have hc : c < w.heap.size := (Array.getElem?_eq_some_iff.1 blk).1
 obtain ⟨mm, hmm⟩ : ∃ mm, mm = q.bds.map (fun x => (⟨x.no, up x.fi base, up x.la base⟩ : Bd)) := ⟨_, rfl⟩
 have hL : lnB (q, base, free) = bif free then optB mm else mm := by rw [hmm]; rfl
 rw [hL]
 clear hL
 have HMM := hideT hmm
 clear hmm
 go_enter Tryz.func91, Tryz.ntmps91
 go_upto_region 1 with fail
 rename_i K1 hK1
 obtain ⟨X, hX⟩ : ∃ X, X = ((w.alloc (.cells #[.pointer (some ⟨c, 0, none⟩), .int .i64 (base : Nat), .bool free] 177)).alloc (.cells #[.bool false, .int .u64 0, .int .u64 0, .int .u64 0, .int .u64 0, .int .u64 0, .int .u64 0, .int .u64 0, .int .u64 0, .bool false, .int .u64 0, .int .u64 0, .int .u64 0, .int .u64 0, .int .u64 0, .int .u64 0, .int .u64 0, .int .u64 0, .bool false, .int .u64 0, .int .u64 0, .int .u64 0, .int .u64 0, .int .u64 0, .int .u64 0, .int .u64 0, .int .u64 0, .bool false, .int .u64 0, .int .u64 0, .int .u64 0, .int .u64 0, .int .u64 0, .int .u64 0, .int .u64 0, .int .u64 0] 161)) := ⟨_, rfl⟩
 rw [← hX]
 have hsX : X.heap.size = w.heap.size + 1 + 1 := by rw [hX, World.size_alloc, World.size_alloc]
 have hBX : Below w.heap.size w X := by rw [hX]; exact ((Below.refl _ w).alloc (Nat.le_refl _) _).alloc (by simp) _
 have x0 : X.heap[w.heap.size]? = some (.cells #[.pointer (some ⟨c, 0, none⟩), .int .i64 (base : Nat), .bool free] 177 (0, 0)) := by
  rw [hX, Below.heap_alloc _ _ _ (by simp)]; exact World.alloc_heap_new w _
 have x1 : X.heap[w.heap.size + 1]? = some (.cells (zr 4).toArray 161 (0, 0)) := by
  have h := World.alloc_heap_new (w.alloc (.cells #[.pointer (some ⟨c, 0, none⟩), .int .i64 (base : Nat), .bool free] 177)) (.cells #[.bool false, .int .u64 0, .int .u64 0, .int .u64 0, .int .u64 0, .int .u64 0, .int .u64 0, .int .u64 0, .int .u64 0, .bool false, .int .u64 0, .int .u64 0, .int .u64 0, .int .u64 0, .int .u64 0, .int .u64 0, .int .u64 0, .int .u64 0, .bool false, .int .u64 0, .int .u64 0, .int .u64 0, .int .u64 0, .int .u64 0, .int .u64 0, .int .u64 0, .int .u64 0, .bool false, .int .u64 0, .int .u64 0, .int .u64 0, .int .u64 0, .int .u64 0, .int .u64 0, .int .u64 0, .int .u64 0] 161)
  rw [World.size_alloc] at h; rw [hX]; exact h
 have xc := (hBX.block c hc).trans blk
 have c0 : X.cell? ⟨w.heap.size, 0, none⟩ = some (.pointer (some ⟨c, 0, none⟩)) := by simp [World.cell?, x0]
 clear hX
 refine wp_region_lit (l := [_, _, _, _, _, _, _]) ?_
 refine wl_value (v := .pointer (some ⟨w.heap.size, 0, none⟩)) (w' := X) rfl (by clear x0 x1; go_simp; (try with_reducible rfl)) ?_
 refine wl_value (v := .pointer (some ⟨c, 0, none⟩)) (w' := X) rfl (by clear x0 x1; go_simp; (try with_reducible rfl)) ?_
 refine wl_value (v := .pointer (some ⟨c, 0, none⟩)) (w' := X) rfl (by clear x0 x1; go_simp; (try with_reducible rfl)) ?_
 refine wl_value (v := .pointer (some ⟨c, 5, none⟩)) (w' := X) rfl (by clear x0 x1; go_simp; (try with_reducible rfl)) ?_
 refine wpList_load_mid rfl 161 _ rfl c 5 rfl (bsV q.bds) _ (pt_range xc) und_part rfl (by rw [info_part]; rfl) ?_
 obtain ⟨C, hC⟩ : ∃ C, X.heap.size = C := ⟨_, rfl⟩
 refine wl_value (v := .pointer (some ⟨C, 0, none⟩)) (w' := X.alloc (.cells (zr 4).toArray 161)) rfl (by rw [← hC]; clear x0 x1; go_simp; rfl) ?_
 have z0 : (X.alloc (.cells (zr 4).toArray 161)).heap[C]? = some (.cells (zr 4).toArray 161 (0, 0)) := by rw [← hC]; exact World.alloc_heap_new X _
 refine wpList_store_mid rfl 161 _ _ rfl C 0 (bsV q.bds).toArray rfl rfl (there_block z0 _ rfl) (by rw [info_part]; rfl) (bsV_one _) ?_
 refine wpList_nil (hK1 _ _ ?_)
 have y := setCells_whole (bsV q.bds) z0 rfl
 have y0 : ((X.alloc (.cells (zr 4).toArray 161)).setCells C 0 (bsV q.bds)).heap[w.heap.size]? = _ := (setCells_far _ _ (by omega) _ _).trans ((Below.heap_alloc _ _ _ (by omega)).trans x0)
 have y1 : ((X.alloc (.cells (zr 4).toArray 161)).setCells C 0 (bsV q.bds)).heap[w.heap.size + 1]? = _ := (setCells_far _ _ (by omega) _ _).trans ((Below.heap_alloc _ _ _ (by omega)).trans x1)
 have hBY : Below w.heap.size w ((X.alloc (.cells (zr 4).toArray 161)).setCells C 0 (bsV q.bds)) := below_setCells _ (by omega) _ _ _ (hBX.alloc (by omega) _)
 have hcw : w.heap.size + 1 < C := by omega
 simp only [Act.put, List.setIfInBounds_toArray, List.set_cons_zero, List.set_cons_succ]
 show Code.wp _ _ _ _ ((X.alloc (.cells (zr 4).toArray 161)).setCells C 0 (bsV q.bds))
 generalize (X.alloc (.cells (zr 4).toArray 161)).setCells C 0 (bsV q.bds) = Y at *
 clear z0 x0 x1 xc hK1 hBX hsX hC c0
 go_wp2_with fail
 go_loopw [10] (fun iv wq => ∃ k : Nat, k ≤ 4 ∧ iv = .int .i64 k ∧ wq.heap[C]? = some (.cells (bsV (mvB base q.bds k)).toArray 161 (0, 0)) ∧ wq.heap[w.heap.size]? = some (.cells #[.pointer (some ⟨c, 0, none⟩), .int .i64 (base : Nat), .bool free] 177 (0, 0)) ∧ wq.heap[w.heap.size + 1]? = some (.cells (zr 4).toArray 161 (0, 0)) ∧ Below w.heap.size w wq) (fun iv _ => (4 - intOf iv).toNat)
 case atStart => exact ⟨0, by omega, rfl, y, y0, y1, hBY⟩
 case round =>
  obtain ⟨k, hk1, rfl, hC, h05, h15, hB5⟩ := hrel
  have hcs : C < wr.heap.size := (Array.getElem?_eq_some_iff.1 hC).1
  by_cases hlt : k < 4
  · have i1 : (k : Int) < 4 := by omega
    have i2 : (0 : Int) ≤ (k : Int) := by omega
    have hm := mvB_len base hbd k
    have hst := hideT (mvB_step base hbd hlt)
    have b1 : wr.cell? ⟨w.heap.size, 1, none⟩ = some (.int .i64 (base : Nat)) := by simp [World.cell?, h05]
    generalize mvB base q.bds k = m at *
    obtain ⟨⟨l0, l1, l2, l3⟩, g0, g1, g2, g3⟩ := bs_cF hC hlt
    have hS5 : (fun V : World => V.cell? ⟨w.heap.size, 1, none⟩ = some (.int .i64 (base : Nat))) wr.drew := b1
    go_wp2_with fail
    rename_i K7 hK7 K5 hK5
    refine wp_region_held (S := fun V : World => V.cell? ⟨w.heap.size, 1, none⟩ = some (.int .i64 (base : Nat))) (by kernel_rfl) ?_
    refine tq 0 13 hS5 ?_
    refine tq 1 14 hS5 ?_
    refine tq 2 15 hS5 ?_
    refine tq 3 16 hS5 ?_
    refine tq 5 18 hS5 ?_
    refine tq 6 19 hS5 ?_
    refine wpAnyH_all (rs := [4]) (by kernel_rfl) (by simp) (fun i hi => ?_)
    obtain rfl : i = 4 := List.mem_singleton.1 hi
    refine op_value (some 17) rfl rfl (by rfl) (v := .agg #[.int .u64 (wd (Nat.testBit ((bat m k).fi)) 0 : Nat), .int .u64 (wd (Nat.testBit ((bat m k).fi)) 1 : Nat), .int .u64 (wd (Nat.testBit ((bat m k).fi)) 2 : Nat), .int .u64 (wd (Nat.testBit ((bat m k).fi)) 3 : Nat)]) (by go_simp; (try with_reducible rfl)) ⟨hS5, ?_⟩
    simp only [Act.put, List.setIfInBounds_toArray, List.set_cons_zero, List.set_cons_succ]
    refine wpAnyH_all (rs := [7]) (by kernel_rfl) (by simp) (fun i hi => ?_)
    obtain rfl : i = 7 := List.mem_singleton.1 hi
    refine op_call (R := fun v w1 => v = .agg #[.int .u64 (wd (Nat.testBit (up (bat m k).fi base)) 0 : Nat), .int .u64 (wd (Nat.testBit (up (bat m k).fi base)) 1 : Nat), .int .u64 (wd (Nat.testBit (up (bat m k).fi base)) 2 : Nat), .int .u64 (wd (Nat.testBit (up (bat m k).fi base)) 3 : Nat)] ∧ Below wr.heap.size wr w1) (f := 89) (some 20) rfl rfl (by rfl) (by go_simp; (try with_reducible rfl)) ((HU.out (bat m k).fi _).mono ?_) ?_
    · rintro e w1 ⟨rfl, hb0⟩
      exact ⟨_, rfl, rfl, ((Below.refl wr.heap.size wr).drew).trans hb0⟩
    rintro v w1 ⟨rfl, hb1⟩
    have hC2 := (hb1.block C (Array.getElem?_eq_some_iff.1 hC).1).trans hC
    obtain ⟨⟨l0, l1, l2, l3⟩, g0, g1, g2, g3⟩ := bs_cF hC2 hlt
    have hS5' := keep_cell hb1 hS5
    refine ⟨hS5', ?_⟩
    simp only [Act.put, List.setIfInBounds_toArray, List.set_cons_zero, List.set_cons_succ]
    refine tq 8 21 hS5' ?_
    refine tq 9 22 hS5' ?_
    refine wpAnyH_all (rs := [10]) (by kernel_rfl) (by simp) (fun i hi => ?_)
    obtain rfl : i = 10 := List.mem_singleton.1 hi
    refine op_skip rfl rfl (by rfl) (w' := put4at w1 C (k * 9 + 1) (up (bat m k).fi base)) (by go_simp; (try with_reducible rfl)) ⟨?_, ?_⟩
    · exact (World.cell?_of_block (a := ⟨w.heap.size, 1, none⟩) (put4at_far w1 C (k * 9 + 1) (up (bat m k).fi base) (j := w.heap.size) (by omega))).trans hS5'
    refine wpAnyH_done (by kernel_rfl) (hK5 _ _ ?_) _
    have hZ := at_stF hC2 hm hlt (up (bat m k).fi base)
    have hZb : Below w.heap.size w (put4at w1 C (k * 9 + 1) (up (bat m k).fi base)) := below_setCells C (by omega) [.int .u64 (wd (Nat.testBit (up (bat m k).fi base)) 0 : Nat), .int .u64 (wd (Nat.testBit (up (bat m k).fi base)) 1 : Nat), .int .u64 (wd (Nat.testBit (up (bat m k).fi base)) 2 : Nat), .int .u64 (wd (Nat.testBit (up (bat m k).fi base)) 3 : Nat)] w1 (k * 9 + 1) (hB5.trans (hb1.mono hB5.size))
    have hZ0 := (put4at_far w1 C (k * 9 + 1) (up (bat m k).fi base) (j := w.heap.size) (by omega)).trans ((hb1.block _ (by omega)).trans h05)
    have hZ1 := (put4at_far w1 C (k * 9 + 1) (up (bat m k).fi base) (j := w.heap.size + 1) (by omega)).trans ((hb1.block _ (by omega)).trans h15)
    have hZs : C < (put4at w1 C (k * 9 + 1) (up (bat m k).fi base)).heap.size := (Array.getElem?_eq_some_iff.1 hZ).1
    generalize put4at w1 C (k * 9 + 1) (up (bat m k).fi base) = Z5 at *
    clear l0 l1 l2 l3 g0 g1 g2 g3 hS5 hS5' hC2 hb1 hK5
    simp only [Act.put]
    have b6 : Z5.cell? ⟨w.heap.size, 1, none⟩ = some (.int .i64 (base : Nat)) := by simp [World.cell?, hZ0]
    have hm1 : (stF m k (up (bat m k).fi base)).length = 4 := by simp [stF, hm]
    have hB6 := hZb
    have h06 := hZ0
    have h16 := hZ1
    have hC6 := hZ
    have hcs6 := hZs
    clear hZ hZb hZ0 hZ1 hZs hC h05 h15 hB5 b1 hcs
    generalize stF m k (up (bat m k).fi base) = m1 at *
    obtain ⟨⟨l0, l1, l2, l3⟩, g0, g1, g2, g3⟩ := bs_cL hC6 hlt
    have hS6 : (fun V : World => V.cell? ⟨w.heap.size, 1, none⟩ = some (.int .i64 (base : Nat))) Z5.drew := b6
    go_wp2_with fail
    refine wp_region_noPanic ?_
    refine wp_region_held (S := fun V : World => V.cell? ⟨w.heap.size, 1, none⟩ = some (.int .i64 (base : Nat))) (by kernel_rfl) ?_
    refine tq 0 23 hS6 ?_
    refine tq 1 24 hS6 ?_
    refine tq 2 25 hS6 ?_
    refine tq 3 26 hS6 ?_
    refine tq 5 28 hS6 ?_
    refine tq 6 29 hS6 ?_
    refine wpAnyH_all (rs := [4]) (by kernel_rfl) (by simp) (fun i hi => ?_)
    obtain rfl : i = 4 := List.mem_singleton.1 hi
    refine op_value (some 27) rfl rfl (by rfl) (v := .agg #[.int .u64 (wd (Nat.testBit ((bat m1 k).la)) 0 : Nat), .int .u64 (wd (Nat.testBit ((bat m1 k).la)) 1 : Nat), .int .u64 (wd (Nat.testBit ((bat m1 k).la)) 2 : Nat), .int .u64 (wd (Nat.testBit ((bat m1 k).la)) 3 : Nat)]) (by go_simp; (try with_reducible rfl)) ⟨hS6, ?_⟩
    simp only [Act.put, List.setIfInBounds_toArray, List.set_cons_zero, List.set_cons_succ]
    refine wpAnyH_all (rs := [7]) (by kernel_rfl) (by simp) (fun i hi => ?_)
    obtain rfl : i = 7 := List.mem_singleton.1 hi
    refine op_call (R := fun v w1 => v = .agg #[.int .u64 (wd (Nat.testBit (up (bat m1 k).la base)) 0 : Nat), .int .u64 (wd (Nat.testBit (up (bat m1 k).la base)) 1 : Nat), .int .u64 (wd (Nat.testBit (up (bat m1 k).la base)) 2 : Nat), .int .u64 (wd (Nat.testBit (up (bat m1 k).la base)) 3 : Nat)] ∧ Below Z5.heap.size Z5 w1) (f := 89) (some 30) rfl rfl (by rfl) (by go_simp; (try with_reducible rfl)) ((HU.out (bat m1 k).la _).mono ?_) ?_
    · rintro e w1 ⟨rfl, hb0⟩
      exact ⟨_, rfl, rfl, ((Below.refl Z5.heap.size Z5).drew).trans hb0⟩
    rintro v w1 ⟨rfl, hb1⟩
    have hC2 := (hb1.block C (Array.getElem?_eq_some_iff.1 hC6).1).trans hC6
    obtain ⟨⟨l0, l1, l2, l3⟩, g0, g1, g2, g3⟩ := bs_cL hC2 hlt
    have hS6' := keep_cell hb1 hS6
    refine ⟨hS6', ?_⟩
    simp only [Act.put, List.setIfInBounds_toArray, List.set_cons_zero, List.set_cons_succ]
    refine tq 8 31 hS6' ?_
    refine tq 9 32 hS6' ?_
    refine wpAnyH_all (rs := [10]) (by kernel_rfl) (by simp) (fun i hi => ?_)
    obtain rfl : i = 10 := List.mem_singleton.1 hi
    refine op_skip rfl rfl (by rfl) (w' := put4at w1 C (k * 9 + 5) (up (bat m1 k).la base)) (by go_simp; (try with_reducible rfl)) ⟨?_, ?_⟩
    · exact (World.cell?_of_block (a := ⟨w.heap.size, 1, none⟩) (put4at_far w1 C (k * 9 + 5) (up (bat m1 k).la base) (j := w.heap.size) (by omega))).trans hS6'
    refine wpAnyH_done (by kernel_rfl) (hK7 _ _ ?_) _
    have hZ := at_stL hC2 hm1 hlt (up (bat m1 k).la base)
    have hZb : Below w.heap.size w (put4at w1 C (k * 9 + 5) (up (bat m1 k).la base)) := below_setCells C (by omega) [.int .u64 (wd (Nat.testBit (up (bat m1 k).la base)) 0 : Nat), .int .u64 (wd (Nat.testBit (up (bat m1 k).la base)) 1 : Nat), .int .u64 (wd (Nat.testBit (up (bat m1 k).la base)) 2 : Nat), .int .u64 (wd (Nat.testBit (up (bat m1 k).la base)) 3 : Nat)] w1 (k * 9 + 5) (hB6.trans (hb1.mono hB6.size))
    have hZ0 := (put4at_far w1 C (k * 9 + 5) (up (bat m1 k).la base) (j := w.heap.size) (by omega)).trans ((hb1.block _ (by omega)).trans h06)
    have hZ1 := (put4at_far w1 C (k * 9 + 5) (up (bat m1 k).la base) (j := w.heap.size + 1) (by omega)).trans ((hb1.block _ (by omega)).trans h16)
    have hZs : C < (put4at w1 C (k * 9 + 5) (up (bat m1 k).la base)).heap.size := (Array.getElem?_eq_some_iff.1 hZ).1
    generalize put4at w1 C (k * 9 + 5) (up (bat m1 k).la base) = Z6 at *
    clear l0 l1 l2 l3 g0 g1 g2 g3 hS6 hS6' hC2 hb1
    simp only [Act.put]
    go_wp2
    go_roundw
    case rel => exact ⟨k + 1, by omega, by go_num, by rw [← hst.out]; exact hZ, hZ0, hZ1, hZb⟩
    case measure => simp [intOf]; omega
  · obtain rfl : k = 4 := by omega
    rw [mvB_four base hbd] at hC
    rw [← HMM.out] at hC
    have ho : mm.length = 4 := by rw [HMM.out]; simp [hbd]
    have c2 : wr.cell? ⟨w.heap.size, 2, none⟩ = some (.bool free) := by simp [World.cell?, h05]
    clear y y0 y1
    cases free with
    | true =>
     go_upto_region 9 with fail
     rename_i K9 hK9
     refine wp_region_lit (l := [_, _, _]) ?_
     refine wpList_load_mid rfl 161 _ rfl C 0 rfl (bsV mm) _ (range_block hC) und_part rfl (by rw [info_part]; rfl) ?_
     refine wl_call (f := 90) (args := #[.agg (bsV mm).toArray]) (R := fun v w1 => v = .agg (bsV (optB mm)).toArray ∧ Below wr.heap.size wr w1) rfl (by clear hC h05 h15; go_simp; (try with_reducible rfl)) ((optional_any ho wr).mono (by rintro e w1 ⟨rfl, hb⟩; exact ⟨_, rfl, rfl, hb⟩)) ?_
     rintro v w1 ⟨rfl, hb1⟩
     have h2 := (hb1.block _ (by omega)).trans h15
     refine store_part (b := w.heap.size + 1) (cs := bsV (optB mm)) (zs := zr 4) rfl rfl rfl rfl h2 rfl rfl (bsV_one _) ?_
     refine hK9 _ _ ?_
     have hZ := setCells_whole (bsV (optB mm)) h2 rfl
     have hZb := below_setCells (w.heap.size + 1) (by omega) (bsV (optB mm)) _ 0 (hB5.trans (hb1.mono hB5.size))
     generalize w1.setCells (w.heap.size + 1) 0 (bsV (optB mm)) = Z at *
     simp only [Act.put, List.setIfInBounds_toArray, List.set_cons_zero, List.set_cons_succ]
     go_wp2_with fail
     exact bodyPost_ret (part_result rfl rfl hZ rfl) rfl ⟨rfl, hZb⟩
    | false =>
     go_upto_region 10 with fail
     refine ret_part (b := C) (b' := w.heap.size + 1) (cs := bsV mm) (zs := zr 4) rfl (by assumption) rfl rfl (by decide) rfl hC h15 rfl rfl (bsV_one _) rfl rfl ⟨rfl, ?_⟩
     exact below_setCells _ (by omega) _ _ _ hB5
end Go.Proofs.YtbekghinikjjeaaGreatDoor.smt
