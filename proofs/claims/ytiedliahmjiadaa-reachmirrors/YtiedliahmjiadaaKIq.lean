/- reach: a tree is laid. -/
import Derived.Test.YtiedliahmjiadaaKIo
set_option maxRecDepth 100000
set_option maxHeartbeats 1000000
namespace Go.Proofs.Ytiedliahmjiadaa
open Go.RowKit Go.Shelf
theorem add_byte {B b : Nat} (q : Nat → Bool) (lo hi : Int) (gp : Nat) (va : Option Addr) (vn vc : Nat) (w : World) (ps : List PosB) (cs : List Value) (hB : B ≤ w.heap.size) (hw : WebAt w B b ps cs) (hl : ps.length < 256) :
  Calls Try.prog 44 #[.pointer (some ⟨b, 0, none⟩), .agg #[.int .i64 1, .int .u64 (wd q 0 : Nat), .int .u64 (wd q 1 : Nat), .int .u64 (wd q 2 : Nat), .int .u64 (wd q 3 : Nat), .int .i64 lo, .int .i64 hi, .int .i64 (gp : Nat), .slice va vn vc]] w fun e w' => e = .returned (partV (posP ps.length)) ∧ WebAt w' B b (ps ++ [⟨q, noB, noB⟩]) cs ∧ WFr B w w' := by
 have x0 : ((w.alloc (.cells #[.int .i64 1, .int .u64 (wd q 0 : Nat), .int .u64 (wd q 1 : Nat), .int .u64 (wd q 2 : Nat), .int .u64 (wd q 3 : Nat), .int .i64 lo, .int .i64 hi, .int .i64 (gp : Nat), .slice va vn vc] 48)).alloc (.cells #[.bool false, .int .u64 0, .int .u64 0, .int .u64 0, .int .u64 0, .int .u64 0, .int .u64 0, .int .u64 0, .int .u64 0, .bool false, .int .u64 0, .int .u64 0, .int .u64 0, .int .u64 0, .int .u64 0, .int .u64 0, .int .u64 0, .int .u64 0, .bool false, .int .u64 0, .int .u64 0, .int .u64 0, .int .u64 0, .int .u64 0, .int .u64 0, .int .u64 0, .int .u64 0, .bool false, .int .u64 0, .int .u64 0, .int .u64 0, .int .u64 0, .int .u64 0, .int .u64 0, .int .u64 0, .int .u64 0] 81)).heap[w.heap.size]? = some (.cells #[.int .i64 1, .int .u64 (wd q 0 : Nat), .int .u64 (wd q 1 : Nat), .int .u64 (wd q 2 : Nat), .int .u64 (wd q 3 : Nat), .int .i64 lo, .int .i64 hi, .int .i64 (gp : Nat), .slice va vn vc] 48 (0, 0)) := (Below.heap_alloc _ _ _ (by simp)).trans (World.alloc_heap_new w _)
 have x1 : ((w.alloc (.cells #[.int .i64 1, .int .u64 (wd q 0 : Nat), .int .u64 (wd q 1 : Nat), .int .u64 (wd q 2 : Nat), .int .u64 (wd q 3 : Nat), .int .i64 lo, .int .i64 hi, .int .i64 (gp : Nat), .slice va vn vc] 48)).alloc (.cells #[.bool false, .int .u64 0, .int .u64 0, .int .u64 0, .int .u64 0, .int .u64 0, .int .u64 0, .int .u64 0, .int .u64 0, .bool false, .int .u64 0, .int .u64 0, .int .u64 0, .int .u64 0, .int .u64 0, .int .u64 0, .int .u64 0, .int .u64 0, .bool false, .int .u64 0, .int .u64 0, .int .u64 0, .int .u64 0, .int .u64 0, .int .u64 0, .int .u64 0, .int .u64 0, .bool false, .int .u64 0, .int .u64 0, .int .u64 0, .int .u64 0, .int .u64 0, .int .u64 0, .int .u64 0, .int .u64 0] 81)).heap[(w.heap.size + 1)]? = some (.cells [.bool false, .int .u64 0, .int .u64 0, .int .u64 0, .int .u64 0, .int .u64 0, .int .u64 0, .int .u64 0, .int .u64 0, .bool false, .int .u64 0, .int .u64 0, .int .u64 0, .int .u64 0, .int .u64 0, .int .u64 0, .int .u64 0, .int .u64 0, .bool false, .int .u64 0, .int .u64 0, .int .u64 0, .int .u64 0, .int .u64 0, .int .u64 0, .int .u64 0, .int .u64 0, .bool false, .int .u64 0, .int .u64 0, .int .u64 0, .int .u64 0, .int .u64 0, .int .u64 0, .int .u64 0, .int .u64 0].toArray 81 (0, 0)) := by
  have h := World.alloc_heap_new (w.alloc (.cells #[.int .i64 1, .int .u64 (wd q 0 : Nat), .int .u64 (wd q 1 : Nat), .int .u64 (wd q 2 : Nat), .int .u64 (wd q 3 : Nat), .int .i64 lo, .int .i64 hi, .int .i64 (gp : Nat), .slice va vn vc] 48)) (.cells #[.bool false, .int .u64 0, .int .u64 0, .int .u64 0, .int .u64 0, .int .u64 0, .int .u64 0, .int .u64 0, .int .u64 0, .bool false, .int .u64 0, .int .u64 0, .int .u64 0, .int .u64 0, .int .u64 0, .int .u64 0, .int .u64 0, .int .u64 0, .bool false, .int .u64 0, .int .u64 0, .int .u64 0, .int .u64 0, .int .u64 0, .int .u64 0, .int .u64 0, .int .u64 0, .bool false, .int .u64 0, .int .u64 0, .int .u64 0, .int .u64 0, .int .u64 0, .int .u64 0, .int .u64 0, .int .u64 0] 81)
  rw [World.size_alloc] at h
  exact h
 have hBX : Below w.heap.size w ((w.alloc (.cells #[.int .i64 1, .int .u64 (wd q 0 : Nat), .int .u64 (wd q 1 : Nat), .int .u64 (wd q 2 : Nat), .int .u64 (wd q 3 : Nat), .int .i64 lo, .int .i64 hi, .int .i64 (gp : Nat), .slice va vn vc] 48)).alloc (.cells #[.bool false, .int .u64 0, .int .u64 0, .int .u64 0, .int .u64 0, .int .u64 0, .int .u64 0, .int .u64 0, .int .u64 0, .bool false, .int .u64 0, .int .u64 0, .int .u64 0, .int .u64 0, .int .u64 0, .int .u64 0, .int .u64 0, .int .u64 0, .bool false, .int .u64 0, .int .u64 0, .int .u64 0, .int .u64 0, .int .u64 0, .int .u64 0, .int .u64 0, .int .u64 0, .bool false, .int .u64 0, .int .u64 0, .int .u64 0, .int .u64 0, .int .u64 0, .int .u64 0, .int .u64 0, .int .u64 0] 81)) := ((Below.refl _ w).alloc (Nat.le_refl _) _).alloc (by simp) _
 have HC := hideT (addPosition_any q _ (Nat.le_trans hB hBX.size) (hw.below hBX) hl)
 have HB := hideT (And.intro x1 hBX)
 clear x0 x1 hBX hw
 unfold partV
 unfold partV at HC
 go_enter Try.func44, Try.ntmps44
 go_wp2_with fail
 refine HC.out.mono ?_
 rintro e V ⟨rfl, hwV, hf⟩
 have z1 := hf.same _ _ HB.out.1 rfl
 have hfV := (WFr.of_below HB.out.2 hB).trans hf
 rename_i K1 hK1 K2 hK2
 refine hK2 _ _ ?_
 refine store_part (b := (w.heap.size + 1)) (cs := paV (posP ps.length)) (zs := [.bool false, .int .u64 0, .int .u64 0, .int .u64 0, .int .u64 0, .int .u64 0, .int .u64 0, .int .u64 0, .int .u64 0, .bool false, .int .u64 0, .int .u64 0, .int .u64 0, .int .u64 0, .int .u64 0, .int .u64 0, .int .u64 0, .int .u64 0, .bool false, .int .u64 0, .int .u64 0, .int .u64 0, .int .u64 0, .int .u64 0, .int .u64 0, .int .u64 0, .int .u64 0, .bool false, .int .u64 0, .int .u64 0, .int .u64 0, .int .u64 0, .int .u64 0, .int .u64 0, .int .u64 0, .int .u64 0]) rfl rfl rfl rfl z1 rfl rfl (paV_one _) ?_
 refine hK1 _ _ ?_
 have w1 := setCells_whole (paV (posP ps.length)) z1 rfl
 have w2 := hwV.far z1 rfl 0 (paV (posP ps.length))
 have w3 := hfV.far hB (c := (w.heap.size + 1)) (by omega) 0 (paV (posP ps.length))
 generalize V.setCells (w.heap.size + 1) 0 (paV (posP ps.length)) = Z at *
 go_wp2
 exact bodyPost_ret (part_result (r := 4) rfl rfl w1 rfl) rfl ⟨rfl, w2, w3⟩
theorem add_bol {B b : Nat} (q : Nat → Bool) (lo hi : Int) (gp : Nat) (va : Option Addr) (vn vc : Nat) (w : World) (ps : List PosB) (cs : List Value) (hB : B ≤ w.heap.size) (hw : WebAt w B b ps cs) :
  Calls Try.prog 44 #[.pointer (some ⟨b, 0, none⟩), .agg #[.int .i64 2, .int .u64 (wd q 0 : Nat), .int .u64 (wd q 1 : Nat), .int .u64 (wd q 2 : Nat), .int .u64 (wd q 3 : Nat), .int .i64 lo, .int .i64 hi, .int .i64 (gp : Nat), .slice va vn vc]] w fun e w' => e = .returned (partV (fun k => ⟨decide (k % 2 = 1), noB, noB⟩)) ∧ WebAt w' B b ps cs ∧ WFr B w w' := by
 have x0 : ((w.alloc (.cells #[.int .i64 2, .int .u64 (wd q 0 : Nat), .int .u64 (wd q 1 : Nat), .int .u64 (wd q 2 : Nat), .int .u64 (wd q 3 : Nat), .int .i64 lo, .int .i64 hi, .int .i64 (gp : Nat), .slice va vn vc] 48)).alloc (.cells #[.bool false, .int .u64 0, .int .u64 0, .int .u64 0, .int .u64 0, .int .u64 0, .int .u64 0, .int .u64 0, .int .u64 0, .bool false, .int .u64 0, .int .u64 0, .int .u64 0, .int .u64 0, .int .u64 0, .int .u64 0, .int .u64 0, .int .u64 0, .bool false, .int .u64 0, .int .u64 0, .int .u64 0, .int .u64 0, .int .u64 0, .int .u64 0, .int .u64 0, .int .u64 0, .bool false, .int .u64 0, .int .u64 0, .int .u64 0, .int .u64 0, .int .u64 0, .int .u64 0, .int .u64 0, .int .u64 0] 81)).heap[w.heap.size]? = some (.cells #[.int .i64 2, .int .u64 (wd q 0 : Nat), .int .u64 (wd q 1 : Nat), .int .u64 (wd q 2 : Nat), .int .u64 (wd q 3 : Nat), .int .i64 lo, .int .i64 hi, .int .i64 (gp : Nat), .slice va vn vc] 48 (0, 0)) := (Below.heap_alloc _ _ _ (by simp)).trans (World.alloc_heap_new w _)
 have x1 : ((w.alloc (.cells #[.int .i64 2, .int .u64 (wd q 0 : Nat), .int .u64 (wd q 1 : Nat), .int .u64 (wd q 2 : Nat), .int .u64 (wd q 3 : Nat), .int .i64 lo, .int .i64 hi, .int .i64 (gp : Nat), .slice va vn vc] 48)).alloc (.cells #[.bool false, .int .u64 0, .int .u64 0, .int .u64 0, .int .u64 0, .int .u64 0, .int .u64 0, .int .u64 0, .int .u64 0, .bool false, .int .u64 0, .int .u64 0, .int .u64 0, .int .u64 0, .int .u64 0, .int .u64 0, .int .u64 0, .int .u64 0, .bool false, .int .u64 0, .int .u64 0, .int .u64 0, .int .u64 0, .int .u64 0, .int .u64 0, .int .u64 0, .int .u64 0, .bool false, .int .u64 0, .int .u64 0, .int .u64 0, .int .u64 0, .int .u64 0, .int .u64 0, .int .u64 0, .int .u64 0] 81)).heap[(w.heap.size + 1)]? = some (.cells [.bool false, .int .u64 0, .int .u64 0, .int .u64 0, .int .u64 0, .int .u64 0, .int .u64 0, .int .u64 0, .int .u64 0, .bool false, .int .u64 0, .int .u64 0, .int .u64 0, .int .u64 0, .int .u64 0, .int .u64 0, .int .u64 0, .int .u64 0, .bool false, .int .u64 0, .int .u64 0, .int .u64 0, .int .u64 0, .int .u64 0, .int .u64 0, .int .u64 0, .int .u64 0, .bool false, .int .u64 0, .int .u64 0, .int .u64 0, .int .u64 0, .int .u64 0, .int .u64 0, .int .u64 0, .int .u64 0].toArray 81 (0, 0)) := by
  have h := World.alloc_heap_new (w.alloc (.cells #[.int .i64 2, .int .u64 (wd q 0 : Nat), .int .u64 (wd q 1 : Nat), .int .u64 (wd q 2 : Nat), .int .u64 (wd q 3 : Nat), .int .i64 lo, .int .i64 hi, .int .i64 (gp : Nat), .slice va vn vc] 48)) (.cells #[.bool false, .int .u64 0, .int .u64 0, .int .u64 0, .int .u64 0, .int .u64 0, .int .u64 0, .int .u64 0, .int .u64 0, .bool false, .int .u64 0, .int .u64 0, .int .u64 0, .int .u64 0, .int .u64 0, .int .u64 0, .int .u64 0, .int .u64 0, .bool false, .int .u64 0, .int .u64 0, .int .u64 0, .int .u64 0, .int .u64 0, .int .u64 0, .int .u64 0, .int .u64 0, .bool false, .int .u64 0, .int .u64 0, .int .u64 0, .int .u64 0, .int .u64 0, .int .u64 0, .int .u64 0, .int .u64 0] 81)
  rw [World.size_alloc] at h
  exact h
 have hBX : Below w.heap.size w ((w.alloc (.cells #[.int .i64 2, .int .u64 (wd q 0 : Nat), .int .u64 (wd q 1 : Nat), .int .u64 (wd q 2 : Nat), .int .u64 (wd q 3 : Nat), .int .i64 lo, .int .i64 hi, .int .i64 (gp : Nat), .slice va vn vc] 48)).alloc (.cells #[.bool false, .int .u64 0, .int .u64 0, .int .u64 0, .int .u64 0, .int .u64 0, .int .u64 0, .int .u64 0, .int .u64 0, .bool false, .int .u64 0, .int .u64 0, .int .u64 0, .int .u64 0, .int .u64 0, .int .u64 0, .int .u64 0, .int .u64 0, .bool false, .int .u64 0, .int .u64 0, .int .u64 0, .int .u64 0, .int .u64 0, .int .u64 0, .int .u64 0, .int .u64 0, .bool false, .int .u64 0, .int .u64 0, .int .u64 0, .int .u64 0, .int .u64 0, .int .u64 0, .int .u64 0, .int .u64 0] 81)) := ((Below.refl _ w).alloc (Nat.le_refl _) _).alloc (by simp) _
 have HC := hideT (fun W => anchor_bol W)
 have HB := hideT (And.intro x1 (And.intro hBX (hw.below hBX)))
 clear x0 x1 hBX hw
 unfold partV
 unfold partV at HC
 go_enter Try.func44, Try.ntmps44
 go_wp2_with fail
 refine (HC.out _).mono ?_
 rintro e V ⟨rfl, hb⟩
 have z1 := (hb.block _ (Array.getElem?_eq_some_iff.1 HB.out.1).1).trans HB.out.1
 have hwV := HB.out.2.2.below hb
 have hfV := (WFr.of_below HB.out.2.1 hB).trans (WFr.of_below hb (Nat.le_trans hB HB.out.2.1.size))
 rename_i K1 hK1 K2 hK2
 refine hK2 _ _ ?_
 refine store_part (b := (w.heap.size + 1)) (cs := paV (fun k => ⟨decide (k % 2 = 1), noB, noB⟩)) (zs := [.bool false, .int .u64 0, .int .u64 0, .int .u64 0, .int .u64 0, .int .u64 0, .int .u64 0, .int .u64 0, .int .u64 0, .bool false, .int .u64 0, .int .u64 0, .int .u64 0, .int .u64 0, .int .u64 0, .int .u64 0, .int .u64 0, .int .u64 0, .bool false, .int .u64 0, .int .u64 0, .int .u64 0, .int .u64 0, .int .u64 0, .int .u64 0, .int .u64 0, .int .u64 0, .bool false, .int .u64 0, .int .u64 0, .int .u64 0, .int .u64 0, .int .u64 0, .int .u64 0, .int .u64 0, .int .u64 0]) rfl rfl rfl rfl z1 rfl rfl (paV_one _) ?_
 refine hK1 _ _ ?_
 have w1 := setCells_whole (paV (fun k => ⟨decide (k % 2 = 1), noB, noB⟩)) z1 rfl
 have w2 := hwV.far z1 rfl 0 (paV (fun k => ⟨decide (k % 2 = 1), noB, noB⟩))
 have w3 := hfV.far hB (c := (w.heap.size + 1)) (by omega) 0 (paV (fun k => ⟨decide (k % 2 = 1), noB, noB⟩))
 generalize V.setCells (w.heap.size + 1) 0 (paV (fun k => ⟨decide (k % 2 = 1), noB, noB⟩)) = Z at *
 go_wp2
 exact bodyPost_ret (part_result (r := 4) rfl rfl w1 rfl) rfl ⟨rfl, w2, w3⟩
theorem add_eol {B b : Nat} (q : Nat → Bool) (lo hi : Int) (gp : Nat) (va : Option Addr) (vn vc : Nat) (w : World) (ps : List PosB) (cs : List Value) (hB : B ≤ w.heap.size) (hw : WebAt w B b ps cs) :
  Calls Try.prog 44 #[.pointer (some ⟨b, 0, none⟩), .agg #[.int .i64 3, .int .u64 (wd q 0 : Nat), .int .u64 (wd q 1 : Nat), .int .u64 (wd q 2 : Nat), .int .u64 (wd q 3 : Nat), .int .i64 lo, .int .i64 hi, .int .i64 (gp : Nat), .slice va vn vc]] w fun e w' => e = .returned (partV (fun k => ⟨decide (2 ≤ k), noB, noB⟩)) ∧ WebAt w' B b ps cs ∧ WFr B w w' := by
 have x0 : ((w.alloc (.cells #[.int .i64 3, .int .u64 (wd q 0 : Nat), .int .u64 (wd q 1 : Nat), .int .u64 (wd q 2 : Nat), .int .u64 (wd q 3 : Nat), .int .i64 lo, .int .i64 hi, .int .i64 (gp : Nat), .slice va vn vc] 48)).alloc (.cells #[.bool false, .int .u64 0, .int .u64 0, .int .u64 0, .int .u64 0, .int .u64 0, .int .u64 0, .int .u64 0, .int .u64 0, .bool false, .int .u64 0, .int .u64 0, .int .u64 0, .int .u64 0, .int .u64 0, .int .u64 0, .int .u64 0, .int .u64 0, .bool false, .int .u64 0, .int .u64 0, .int .u64 0, .int .u64 0, .int .u64 0, .int .u64 0, .int .u64 0, .int .u64 0, .bool false, .int .u64 0, .int .u64 0, .int .u64 0, .int .u64 0, .int .u64 0, .int .u64 0, .int .u64 0, .int .u64 0] 81)).heap[w.heap.size]? = some (.cells #[.int .i64 3, .int .u64 (wd q 0 : Nat), .int .u64 (wd q 1 : Nat), .int .u64 (wd q 2 : Nat), .int .u64 (wd q 3 : Nat), .int .i64 lo, .int .i64 hi, .int .i64 (gp : Nat), .slice va vn vc] 48 (0, 0)) := (Below.heap_alloc _ _ _ (by simp)).trans (World.alloc_heap_new w _)
 have x1 : ((w.alloc (.cells #[.int .i64 3, .int .u64 (wd q 0 : Nat), .int .u64 (wd q 1 : Nat), .int .u64 (wd q 2 : Nat), .int .u64 (wd q 3 : Nat), .int .i64 lo, .int .i64 hi, .int .i64 (gp : Nat), .slice va vn vc] 48)).alloc (.cells #[.bool false, .int .u64 0, .int .u64 0, .int .u64 0, .int .u64 0, .int .u64 0, .int .u64 0, .int .u64 0, .int .u64 0, .bool false, .int .u64 0, .int .u64 0, .int .u64 0, .int .u64 0, .int .u64 0, .int .u64 0, .int .u64 0, .int .u64 0, .bool false, .int .u64 0, .int .u64 0, .int .u64 0, .int .u64 0, .int .u64 0, .int .u64 0, .int .u64 0, .int .u64 0, .bool false, .int .u64 0, .int .u64 0, .int .u64 0, .int .u64 0, .int .u64 0, .int .u64 0, .int .u64 0, .int .u64 0] 81)).heap[(w.heap.size + 1)]? = some (.cells [.bool false, .int .u64 0, .int .u64 0, .int .u64 0, .int .u64 0, .int .u64 0, .int .u64 0, .int .u64 0, .int .u64 0, .bool false, .int .u64 0, .int .u64 0, .int .u64 0, .int .u64 0, .int .u64 0, .int .u64 0, .int .u64 0, .int .u64 0, .bool false, .int .u64 0, .int .u64 0, .int .u64 0, .int .u64 0, .int .u64 0, .int .u64 0, .int .u64 0, .int .u64 0, .bool false, .int .u64 0, .int .u64 0, .int .u64 0, .int .u64 0, .int .u64 0, .int .u64 0, .int .u64 0, .int .u64 0].toArray 81 (0, 0)) := by
  have h := World.alloc_heap_new (w.alloc (.cells #[.int .i64 3, .int .u64 (wd q 0 : Nat), .int .u64 (wd q 1 : Nat), .int .u64 (wd q 2 : Nat), .int .u64 (wd q 3 : Nat), .int .i64 lo, .int .i64 hi, .int .i64 (gp : Nat), .slice va vn vc] 48)) (.cells #[.bool false, .int .u64 0, .int .u64 0, .int .u64 0, .int .u64 0, .int .u64 0, .int .u64 0, .int .u64 0, .int .u64 0, .bool false, .int .u64 0, .int .u64 0, .int .u64 0, .int .u64 0, .int .u64 0, .int .u64 0, .int .u64 0, .int .u64 0, .bool false, .int .u64 0, .int .u64 0, .int .u64 0, .int .u64 0, .int .u64 0, .int .u64 0, .int .u64 0, .int .u64 0, .bool false, .int .u64 0, .int .u64 0, .int .u64 0, .int .u64 0, .int .u64 0, .int .u64 0, .int .u64 0, .int .u64 0] 81)
  rw [World.size_alloc] at h
  exact h
 have hBX : Below w.heap.size w ((w.alloc (.cells #[.int .i64 3, .int .u64 (wd q 0 : Nat), .int .u64 (wd q 1 : Nat), .int .u64 (wd q 2 : Nat), .int .u64 (wd q 3 : Nat), .int .i64 lo, .int .i64 hi, .int .i64 (gp : Nat), .slice va vn vc] 48)).alloc (.cells #[.bool false, .int .u64 0, .int .u64 0, .int .u64 0, .int .u64 0, .int .u64 0, .int .u64 0, .int .u64 0, .int .u64 0, .bool false, .int .u64 0, .int .u64 0, .int .u64 0, .int .u64 0, .int .u64 0, .int .u64 0, .int .u64 0, .int .u64 0, .bool false, .int .u64 0, .int .u64 0, .int .u64 0, .int .u64 0, .int .u64 0, .int .u64 0, .int .u64 0, .int .u64 0, .bool false, .int .u64 0, .int .u64 0, .int .u64 0, .int .u64 0, .int .u64 0, .int .u64 0, .int .u64 0, .int .u64 0] 81)) := ((Below.refl _ w).alloc (Nat.le_refl _) _).alloc (by simp) _
 have HC := hideT (fun W => anchor_eol W)
 have HB := hideT (And.intro x1 (And.intro hBX (hw.below hBX)))
 clear x0 x1 hBX hw
 unfold partV
 unfold partV at HC
 go_enter Try.func44, Try.ntmps44
 go_wp2_with fail
 refine (HC.out _).mono ?_
 rintro e V ⟨rfl, hb⟩
 have z1 := (hb.block _ (Array.getElem?_eq_some_iff.1 HB.out.1).1).trans HB.out.1
 have hwV := HB.out.2.2.below hb
 have hfV := (WFr.of_below HB.out.2.1 hB).trans (WFr.of_below hb (Nat.le_trans hB HB.out.2.1.size))
 rename_i K1 hK1 K2 hK2
 refine hK2 _ _ ?_
 refine store_part (b := (w.heap.size + 1)) (cs := paV (fun k => ⟨decide (2 ≤ k), noB, noB⟩)) (zs := [.bool false, .int .u64 0, .int .u64 0, .int .u64 0, .int .u64 0, .int .u64 0, .int .u64 0, .int .u64 0, .int .u64 0, .bool false, .int .u64 0, .int .u64 0, .int .u64 0, .int .u64 0, .int .u64 0, .int .u64 0, .int .u64 0, .int .u64 0, .bool false, .int .u64 0, .int .u64 0, .int .u64 0, .int .u64 0, .int .u64 0, .int .u64 0, .int .u64 0, .int .u64 0, .bool false, .int .u64 0, .int .u64 0, .int .u64 0, .int .u64 0, .int .u64 0, .int .u64 0, .int .u64 0, .int .u64 0]) rfl rfl rfl rfl z1 rfl rfl (paV_one _) ?_
 refine hK1 _ _ ?_
 have w1 := setCells_whole (paV (fun k => ⟨decide (2 ≤ k), noB, noB⟩)) z1 rfl
 have w2 := hwV.far z1 rfl 0 (paV (fun k => ⟨decide (2 ≤ k), noB, noB⟩))
 have w3 := hfV.far hB (c := (w.heap.size + 1)) (by omega) 0 (paV (fun k => ⟨decide (2 ≤ k), noB, noB⟩))
 generalize V.setCells (w.heap.size + 1) 0 (paV (fun k => ⟨decide (2 ≤ k), noB, noB⟩)) = Z at *
 go_wp2
 exact bodyPost_ret (part_result (r := 4) rfl rfl w1 rfl) rfl ⟨rfl, w2, w3⟩
end Go.Proofs.Ytiedliahmjiadaa
namespace Go.Proofs.Ytiedliahmjiadaa
open Go.RowKit Go.Shelf
def RdS (H g : Nat) (q : Nat → Bool) (lo hi : Int) (gp : Nat) (kv : Value) (x : Tr) (u : Value) (V : World) : Prop := V.heap[H]? = some (.cells #[.int .i64 5, .int .u64 (wd q 0 : Nat), .int .u64 (wd q 1 : Nat), .int .u64 (wd q 2 : Nat), .int .u64 (wd q 3 : Nat), .int .i64 lo, .int .i64 hi, .int .i64 (gp : Nat), kv] 48 (0, 0)) ∧ ∀ (k : Nat) (y : Value), (nodeV x u)[k]? = some y → V.cell? ⟨g, k, none⟩ = some y
theorem add_rep {B b g : Nat} {x : Tr} (ih : AdIH B x) (q : Nat → Bool) (lo hi : Int) (gp : Nat) (vc : Nat) (ua : Option Addr) (un uc : Nat) (l0 : 0 ≤ lo) (l1 : lo ≤ 1000) (l2 : -1 ≤ hi) (l3 : hi ≤ 1000) (w : World) (ps : List PosB) (cs : List Value) (hB : B ≤ w.heap.size) (hg : g < B) (hw : WebAt w B b ps cs) (hk : Kids w (· < B) (.slice ua un uc) x.kids) (hx : ∀ (k : Nat) (y : Value), (nodeV x (.slice ua un uc))[k]? = some y → w.cell? ⟨g, k, none⟩ = some y) (hl : (rpB (adT x) (decide (hi < 0)) lo.toNat (wrG lo hi) 0 emB ps).2.length ≤ 256) :
  Calls Try.prog 44 #[.pointer (some ⟨b, 0, none⟩), .agg #[.int .i64 5, .int .u64 (wd q 0 : Nat), .int .u64 (wd q 1 : Nat), .int .u64 (wd q 2 : Nat), .int .u64 (wd q 3 : Nat), .int .i64 lo, .int .i64 hi, .int .i64 (gp : Nat), .slice (some ⟨g, 0, none⟩) 1 vc]] w fun e w' => e = .returned (partV (rpB (adT x) (decide (hi < 0)) lo.toNat (wrG lo hi) 0 emB ps).1) ∧ WebAt w' B b (rpB (adT x) (decide (hi < 0)) lo.toNat (wrG lo hi) 0 emB ps).2 cs ∧ WFr B w w' := by
 have x0 : ((w.alloc (.cells #[.int .i64 5, .int .u64 (wd q 0 : Nat), .int .u64 (wd q 1 : Nat), .int .u64 (wd q 2 : Nat), .int .u64 (wd q 3 : Nat), .int .i64 lo, .int .i64 hi, .int .i64 (gp : Nat), .slice (some ⟨g, 0, none⟩) 1 vc] 48)).alloc (.cells #[.bool false, .int .u64 0, .int .u64 0, .int .u64 0, .int .u64 0, .int .u64 0, .int .u64 0, .int .u64 0, .int .u64 0, .bool false, .int .u64 0, .int .u64 0, .int .u64 0, .int .u64 0, .int .u64 0, .int .u64 0, .int .u64 0, .int .u64 0, .bool false, .int .u64 0, .int .u64 0, .int .u64 0, .int .u64 0, .int .u64 0, .int .u64 0, .int .u64 0, .int .u64 0, .bool false, .int .u64 0, .int .u64 0, .int .u64 0, .int .u64 0, .int .u64 0, .int .u64 0, .int .u64 0, .int .u64 0] 81)).heap[w.heap.size]? = some (.cells #[.int .i64 5, .int .u64 (wd q 0 : Nat), .int .u64 (wd q 1 : Nat), .int .u64 (wd q 2 : Nat), .int .u64 (wd q 3 : Nat), .int .i64 lo, .int .i64 hi, .int .i64 (gp : Nat), .slice (some ⟨g, 0, none⟩) 1 vc] 48 (0, 0)) := (Below.heap_alloc _ _ _ (by simp)).trans (World.alloc_heap_new w _)
 have x1 : ((w.alloc (.cells #[.int .i64 5, .int .u64 (wd q 0 : Nat), .int .u64 (wd q 1 : Nat), .int .u64 (wd q 2 : Nat), .int .u64 (wd q 3 : Nat), .int .i64 lo, .int .i64 hi, .int .i64 (gp : Nat), .slice (some ⟨g, 0, none⟩) 1 vc] 48)).alloc (.cells #[.bool false, .int .u64 0, .int .u64 0, .int .u64 0, .int .u64 0, .int .u64 0, .int .u64 0, .int .u64 0, .int .u64 0, .bool false, .int .u64 0, .int .u64 0, .int .u64 0, .int .u64 0, .int .u64 0, .int .u64 0, .int .u64 0, .int .u64 0, .bool false, .int .u64 0, .int .u64 0, .int .u64 0, .int .u64 0, .int .u64 0, .int .u64 0, .int .u64 0, .int .u64 0, .bool false, .int .u64 0, .int .u64 0, .int .u64 0, .int .u64 0, .int .u64 0, .int .u64 0, .int .u64 0, .int .u64 0] 81)).heap[(w.heap.size + 1)]? = some (.cells [.bool false, .int .u64 0, .int .u64 0, .int .u64 0, .int .u64 0, .int .u64 0, .int .u64 0, .int .u64 0, .int .u64 0, .bool false, .int .u64 0, .int .u64 0, .int .u64 0, .int .u64 0, .int .u64 0, .int .u64 0, .int .u64 0, .int .u64 0, .bool false, .int .u64 0, .int .u64 0, .int .u64 0, .int .u64 0, .int .u64 0, .int .u64 0, .int .u64 0, .int .u64 0, .bool false, .int .u64 0, .int .u64 0, .int .u64 0, .int .u64 0, .int .u64 0, .int .u64 0, .int .u64 0, .int .u64 0].toArray 81 (0, 0)) := by
  have h := World.alloc_heap_new (w.alloc (.cells #[.int .i64 5, .int .u64 (wd q 0 : Nat), .int .u64 (wd q 1 : Nat), .int .u64 (wd q 2 : Nat), .int .u64 (wd q 3 : Nat), .int .i64 lo, .int .i64 hi, .int .i64 (gp : Nat), .slice (some ⟨g, 0, none⟩) 1 vc] 48)) (.cells #[.bool false, .int .u64 0, .int .u64 0, .int .u64 0, .int .u64 0, .int .u64 0, .int .u64 0, .int .u64 0, .int .u64 0, .bool false, .int .u64 0, .int .u64 0, .int .u64 0, .int .u64 0, .int .u64 0, .int .u64 0, .int .u64 0, .int .u64 0, .bool false, .int .u64 0, .int .u64 0, .int .u64 0, .int .u64 0, .int .u64 0, .int .u64 0, .int .u64 0, .int .u64 0, .bool false, .int .u64 0, .int .u64 0, .int .u64 0, .int .u64 0, .int .u64 0, .int .u64 0, .int .u64 0, .int .u64 0] 81)
  rw [World.size_alloc] at h
  exact h
 have hBX : Below w.heap.size w ((w.alloc (.cells #[.int .i64 5, .int .u64 (wd q 0 : Nat), .int .u64 (wd q 1 : Nat), .int .u64 (wd q 2 : Nat), .int .u64 (wd q 3 : Nat), .int .i64 lo, .int .i64 hi, .int .i64 (gp : Nat), .slice (some ⟨g, 0, none⟩) 1 vc] 48)).alloc (.cells #[.bool false, .int .u64 0, .int .u64 0, .int .u64 0, .int .u64 0, .int .u64 0, .int .u64 0, .int .u64 0, .int .u64 0, .bool false, .int .u64 0, .int .u64 0, .int .u64 0, .int .u64 0, .int .u64 0, .int .u64 0, .int .u64 0, .int .u64 0, .bool false, .int .u64 0, .int .u64 0, .int .u64 0, .int .u64 0, .int .u64 0, .int .u64 0, .int .u64 0, .int .u64 0, .bool false, .int .u64 0, .int .u64 0, .int .u64 0, .int .u64 0, .int .u64 0, .int .u64 0, .int .u64 0, .int .u64 0] 81)) := ((Below.refl _ w).alloc (Nat.le_refl _) _).alloc (by simp) _
 have HC : Hid (∀ W : World, Below w.heap.size w W → Calls Try.prog 57 #[.pointer (some ⟨b, 0, none⟩), .agg #[.int .i64 (x.kind : Nat), .int .u64 (wd x.q 0 : Nat), .int .u64 (wd x.q 1 : Nat), .int .u64 (wd x.q 2 : Nat), .int .u64 (wd x.q 3 : Nat), .int .i64 x.lo, .int .i64 x.hi, .int .i64 (x.grp : Nat), .slice ua un uc], .int .i64 lo, .int .i64 hi] W fun e w' => ∃ u, e = .returned u ∧ u = .agg (paV (rpB (adT x) (decide (hi < 0)) lo.toNat (wrG lo hi) 0 emB ps).1).toArray ∧ WebAt w' B b (rpB (adT x) (decide (hi < 0)) lo.toNat (wrG lo hi) 0 emB ps).2 cs ∧ WFr B W w') := hideT (fun W hb => (addRepeat_any ih lo hi l0 l1 l2 l3 W ps cs (.slice ua un uc) (Nat.le_trans hB hb.size) (hw.below hb) (kidsB hk (hb.mono hB)) hl).mono (by
  rintro e w' ⟨rfl, k1, k2⟩
  exact ⟨_, rfl, rfl, k1, k2⟩))
 unfold partV
 generalize rpB (adT x) (decide (hi < 0)) lo.toNat (wrG lo hi) 0 emB ps = RR at *
 go_enter Try.func44, Try.ntmps44
 have HB := hideT (And.intro x0 (And.intro x1 (And.intro hBX hx)))
 clear x0 x1 hBX hw hk hx l0 l1 l2 l3 hl
 go_upto_region 9 with fail
 rename_i K1 hK1
 obtain ⟨x0, x1, hBX, hx⟩ := HB.out
 generalize ((w.alloc (.cells #[.int .i64 5, .int .u64 (wd q 0 : Nat), .int .u64 (wd q 1 : Nat), .int .u64 (wd q 2 : Nat), .int .u64 (wd q 3 : Nat), .int .i64 lo, .int .i64 hi, .int .i64 (gp : Nat), .slice (some ⟨g, 0, none⟩) 1 vc] 48)).alloc (.cells #[.bool false, .int .u64 0, .int .u64 0, .int .u64 0, .int .u64 0, .int .u64 0, .int .u64 0, .int .u64 0, .int .u64 0, .bool false, .int .u64 0, .int .u64 0, .int .u64 0, .int .u64 0, .int .u64 0, .int .u64 0, .int .u64 0, .int .u64 0, .bool false, .int .u64 0, .int .u64 0, .int .u64 0, .int .u64 0, .int .u64 0, .int .u64 0, .int .u64 0, .int .u64 0, .bool false, .int .u64 0, .int .u64 0, .int .u64 0, .int .u64 0, .int .u64 0, .int .u64 0, .int .u64 0, .int .u64 0] 81)) = X at *
 have hS0 : RdS w.heap.size g q lo hi gp (.slice (some ⟨g, 0, none⟩) 1 vc) x (.slice ua un uc) X.drew := ⟨x0, fun k y hy => show X.cell? _ = _ from keep_cell hBX (hx k y hy)⟩
 clear HB hx
 refine wp_region_held (S := RdS w.heap.size g q lo hi gp (.slice (some ⟨g, 0, none⟩) 1 vc) x (.slice ua un uc)) (by kernel_rfl) ?_
 refine' take_d 0 (some 24) rfl rfl (by kernel_rfl) (by kernel_rfl) (by kernel_rfl) (fun _ _ _ h => h) (by rfl) hS0 ?hy1 ?rest1
 case hy1 => intro V hV; go_simp; (try with_reducible rfl)
 refine' take_d 1 (some 25) rfl rfl (by kernel_rfl) (by kernel_rfl) (by kernel_rfl) (fun _ _ _ h => h) (by rfl) hS0 ?hy2 ?rest2
 case hy2 => intro V hV; go_simp; (try with_reducible rfl)
 refine' take_d 2 (some 26) rfl rfl (by kernel_rfl) (by kernel_rfl) (by kernel_rfl) (fun _ _ _ h => h) (by rfl) hS0 ?hy3 ?rest3
 case hy3 => intro V hV; (obtain ⟨hV0, hV1⟩ := hV; have r5 : V.cell? ⟨w.heap.size, 5, none⟩ = some (.int .i64 lo) := (by simp [World.cell?, hV0]); have r6 : V.cell? ⟨w.heap.size, 6, none⟩ = some (.int .i64 hi) := (by simp [World.cell?, hV0]); have r8 : V.cell? ⟨w.heap.size, 8, none⟩ = some (.slice (some ⟨g, 0, none⟩) 1 vc) := (by simp [World.cell?, hV0]); have m0 := hV1 0 _ rfl; have m1 := hV1 1 _ rfl; have m2 := hV1 2 _ rfl; have m3 := hV1 3 _ rfl; have m4 := hV1 4 _ rfl; have m5 := hV1 5 _ rfl; have m6 := hV1 6 _ rfl; have m7 := hV1 7 _ rfl; have m8 := hV1 8 _ rfl); go_simp; (try with_reducible rfl)
 refine' take_d 3 (some 27) rfl rfl (by kernel_rfl) (by kernel_rfl) (by kernel_rfl) (fun _ _ _ h => h) (by rfl) hS0 ?hy4 ?rest4
 case hy4 => intro V hV; go_simp; (try with_reducible rfl)
 refine' take_d 4 (some 28) rfl rfl (by kernel_rfl) (by kernel_rfl) (by kernel_rfl) (fun _ _ _ h => h) (by rfl) hS0 ?hy5 ?rest5
 case hy5 => intro V hV; (obtain ⟨hV0, hV1⟩ := hV; have r5 : V.cell? ⟨w.heap.size, 5, none⟩ = some (.int .i64 lo) := (by simp [World.cell?, hV0]); have r6 : V.cell? ⟨w.heap.size, 6, none⟩ = some (.int .i64 hi) := (by simp [World.cell?, hV0]); have r8 : V.cell? ⟨w.heap.size, 8, none⟩ = some (.slice (some ⟨g, 0, none⟩) 1 vc) := (by simp [World.cell?, hV0]); have m0 := hV1 0 _ rfl; have m1 := hV1 1 _ rfl; have m2 := hV1 2 _ rfl; have m3 := hV1 3 _ rfl; have m4 := hV1 4 _ rfl; have m5 := hV1 5 _ rfl; have m6 := hV1 6 _ rfl; have m7 := hV1 7 _ rfl; have m8 := hV1 8 _ rfl); go_simp; (try with_reducible rfl)
 refine' take_d 5 (some 29) rfl rfl (by kernel_rfl) (by kernel_rfl) (by kernel_rfl) (fun _ _ _ h => h) (by rfl) hS0 ?hy6 ?rest6
 case hy6 => intro V hV; go_simp; (try with_reducible rfl)
 refine' take_d 6 (some 30) rfl rfl (by kernel_rfl) (by kernel_rfl) (by kernel_rfl) (fun _ _ _ h => h) (by rfl) hS0 ?hy7 ?rest7
 case hy7 => intro V hV; (obtain ⟨hV0, hV1⟩ := hV; have r5 : V.cell? ⟨w.heap.size, 5, none⟩ = some (.int .i64 lo) := (by simp [World.cell?, hV0]); have r6 : V.cell? ⟨w.heap.size, 6, none⟩ = some (.int .i64 hi) := (by simp [World.cell?, hV0]); have r8 : V.cell? ⟨w.heap.size, 8, none⟩ = some (.slice (some ⟨g, 0, none⟩) 1 vc) := (by simp [World.cell?, hV0]); have m0 := hV1 0 _ rfl; have m1 := hV1 1 _ rfl; have m2 := hV1 2 _ rfl; have m3 := hV1 3 _ rfl; have m4 := hV1 4 _ rfl; have m5 := hV1 5 _ rfl; have m6 := hV1 6 _ rfl; have m7 := hV1 7 _ rfl; have m8 := hV1 8 _ rfl); go_simp; (try with_reducible rfl)
 refine' take_d 7 (some 31) rfl rfl (by kernel_rfl) (by kernel_rfl) (by kernel_rfl) (fun _ _ _ h => h) (by rfl) hS0 ?hy8 ?rest8
 case hy8 => intro V hV; go_simp; (try with_reducible rfl)
 refine' take_d 8 (some 32) rfl rfl (by kernel_rfl) (by kernel_rfl) (by kernel_rfl) (fun _ _ _ h => h) (by rfl) hS0 ?hy9 ?rest9
 case hy9 => intro V hV; (obtain ⟨hV0, hV1⟩ := hV; have r5 : V.cell? ⟨w.heap.size, 5, none⟩ = some (.int .i64 lo) := (by simp [World.cell?, hV0]); have r6 : V.cell? ⟨w.heap.size, 6, none⟩ = some (.int .i64 hi) := (by simp [World.cell?, hV0]); have r8 : V.cell? ⟨w.heap.size, 8, none⟩ = some (.slice (some ⟨g, 0, none⟩) 1 vc) := (by simp [World.cell?, hV0]); have m0 := hV1 0 _ rfl; have m1 := hV1 1 _ rfl; have m2 := hV1 2 _ rfl; have m3 := hV1 3 _ rfl; have m4 := hV1 4 _ rfl; have m5 := hV1 5 _ rfl; have m6 := hV1 6 _ rfl; have m7 := hV1 7 _ rfl; have m8 := hV1 8 _ rfl); go_simp; (try with_reducible rfl)
 simp only [Act.put, List.setIfInBounds_toArray, List.set_cons_zero, List.set_cons_succ]
 refine wpAnyH_all (rs := [9]) (by kernel_rfl) (by simp) (fun i hmi => ?_)
 obtain rfl : i = 9 := List.mem_singleton.1 hmi
 refine op_call (R := fun u w' => u = .agg (paV RR.1).toArray ∧ WebAt w' B b RR.2 cs ∧ WFr B X w') (f := 57) (some 33) rfl rfl (wanted_none rfl _) (args := #[.pointer (some ⟨b, 0, none⟩), .agg #[.int .i64 (x.kind : Nat), .int .u64 (wd x.q 0 : Nat), .int .u64 (wd x.q 1 : Nat), .int .u64 (wd x.q 2 : Nat), .int .u64 (wd x.q 3 : Nat), .int .i64 x.lo, .int .i64 x.hi, .int .i64 (x.grp : Nat), .slice ua un uc], .int .i64 lo, .int .i64 hi]) (by go_simp; (try with_reducible rfl)) ((HC.out X.drew hBX.drew).mono ?_) ?_
 ·rintro e w' ⟨u, rfl, k0, k1, k2⟩
  exact ⟨u, rfl, k0, k1, ((WFr.of_below ((Below.refl X.heap.size X).drew) (Nat.le_trans hB hBX.size)).trans k2)⟩
 rintro u V ⟨rfl, hwV, hf⟩
 have z0 := hf.same _ _ x0 rfl
 have z1 := hf.same _ _ x1 rfl
 have hfV := (WFr.of_below hBX hB).trans hf
 have hcell : ∀ (k : Nat) (y : Value), (nodeV x (.slice ua un uc))[k]? = some y → V.cell? ⟨g, k, none⟩ = some y := fun k y hy => (World.cell?_of_block (hf.below.block g hg)).trans (hS0.2 k y hy)
 refine And.intro ⟨z0, hcell⟩ ?_
 simp only [Act.put, List.setIfInBounds_toArray, List.set_cons_zero, List.set_cons_succ]
 refine wpAnyH_all (rs := [10]) (by kernel_rfl) (by simp) (fun i hmi => ?_)
 obtain rfl : i = 10 := List.mem_singleton.1 hmi
 refine op_store 81 4 33 (w.heap.size + 1) (paV RR.1) rfl rfl rfl rfl rfl rfl (there_block z1 _ rfl) (by rw [info_part]; rfl) (paV_one _) ?_
 refine And.intro ⟨(setCells_far V (w.heap.size + 1) (by omega) _ _).trans z0, fun k y hy => (World.cell?_of_block (setCells_far V (w.heap.size + 1) (by show g ≠ _; omega) _ _)).trans (hcell k y hy)⟩ ?_
 refine wpAnyH_done (by kernel_rfl) ?_ _
 refine hK1 _ _ ?_
 have w1 := setCells_whole (paV RR.1) z1 rfl
 have w2 := hwV.far z1 rfl 0 (paV RR.1)
 have w3 := hfV.far hB (c := (w.heap.size + 1)) (by omega) 0 (paV RR.1)
 generalize V.setCells (w.heap.size + 1) 0 (paV RR.1) = Z at *
 clear z0 z1 hcell hS0 x0 x1
 go_wp2
 exact bodyPost_ret (part_result (r := 4) rfl rfl w1 rfl) rfl ⟨rfl, w2, w3⟩
end Go.Proofs.Ytiedliahmjiadaa
