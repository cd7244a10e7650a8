/- KA5 -/
import Derived.Test.YtbekghinikjjeaaGreatDoorKA8
import Derived.Test.YtbekghinikjjeaaGreatDoorKA4
import Derived.Test.YtbekghinikjjeaaGreatDoorKFa
import Derived.Test.YtbekghinikjjeaaGreatDoorKA7
import Derived.OwnWalk
set_option maxRecDepth 100000
set_option maxHeartbeats 4000000
namespace Go.Proofs.YtbekghinikjjeaaGreatDoor.smt
open Go.RowKit Go.Proofs.YtbekghinikjjeaaGreatDoor.br
def ByR (W : World) (q : Nat → Bool) (i : Nat) (V : World) : Prop := ∃ gt gn, V.heap[W.heap.size + 1]? = some (.cells (byC i ++ ([.slice (some ⟨gt, 0, none⟩) 1 1, .slice (some ⟨gn, 0, none⟩) 1 1] : List Value)).toArray 164 (0, 0)) ∧ V.heap[gt]? = some (.cells #[.int .u64 (wd q 0 : Nat), .int .u64 (wd q 1 : Nat), .int .u64 (wd q 2 : Nat), .int .u64 (wd q 3 : Nat)] 95) ∧ V.heap[gn]? = some (.cells (nxV (List.replicate 1 0)).toArray 157) ∧ W.heap.size + 1 < gt ∧ W.heap.size + 1 < gn ∧ Below W.heap.size W V
theorem by_rows {W U : World} {q : Nat → Bool} {gt gn : Nat} (hb : U.heap[W.heap.size + 1]? = some (.cells #[.int .i64 0, .bool false, .slice none 0 0, .bool false, .bool false, .bool false, .int .u64 0, .int .u64 0, .int .u64 0, .int .u64 0, .int .u64 0, .int .u64 0, .int .u64 0, .int .u64 0, .bool false, .int .u64 0, .int .u64 0, .int .u64 0, .int .u64 0, .int .u64 0, .int .u64 0, .int .u64 0, .int .u64 0, .bool false, .int .u64 0, .int .u64 0, .int .u64 0, .int .u64 0, .int .u64 0, .int .u64 0, .int .u64 0, .int .u64 0, .bool false, .int .u64 0, .int .u64 0, .int .u64 0, .int .u64 0, .int .u64 0, .int .u64 0, .int .u64 0, .int .u64 0, .slice none 0 0, .slice none 0 0] 164)) (ht : U.heap[gt]? = some (.cells #[.int .u64 (wd q 0 : Nat), .int .u64 (wd q 1 : Nat), .int .u64 (wd q 2 : Nat), .int .u64 (wd q 3 : Nat)] 95)) (hn : U.heap[gn]? = some (.cells (nxV (List.replicate 1 0)).toArray 157)) (g1 : W.heap.size + 1 < gt) (g2 : W.heap.size + 1 < gn) (hB : Below W.heap.size W U) : ByR W q 0 ((U.setCell ⟨W.heap.size + 1, 41, none⟩ (.slice (some ⟨gt, 0, none⟩) 1 1)).setCell ⟨W.heap.size + 1, 42, none⟩ (.slice (some ⟨gn, 0, none⟩) 1 1)) := by
 have h2 := xai _ (W.heap.size + 1) 42 (.slice (some ⟨gn, 0, none⟩) 1 1) (xai U (W.heap.size + 1) 41 (.slice (some ⟨gt, 0, none⟩) 1 1) hb)
 have far : ∀ k, k ≠ W.heap.size + 1 → ((U.setCell ⟨W.heap.size + 1, 41, none⟩ (.slice (some ⟨gt, 0, none⟩) 1 1)).setCell ⟨W.heap.size + 1, 42, none⟩ (.slice (some ⟨gn, 0, none⟩) 1 1)).heap[k]? = U.heap[k]? := fun k hk => (Below.heap_setCell _ ⟨W.heap.size + 1, 42, none⟩ _ k hk).trans (Below.heap_setCell _ ⟨W.heap.size + 1, 41, none⟩ _ k hk)
 exact ⟨gt, gn, h2.trans rfl, (far gt (by omega)).trans ht, (far gn (by omega)).trans hn, g1, g2, (hB.setCell (p := ⟨W.heap.size + 1, 41, none⟩) (by show W.heap.size ≤ W.heap.size + 1; omega) _).setCell (p := ⟨W.heap.size + 1, 42, none⟩) (by show W.heap.size ≤ W.heap.size + 1; omega) _⟩
theorem by_step {W V : World} {q : Nat → Bool} {i : Nat} (hi : i < 4) (h : ByR W q i V) : V.cell? ⟨W.heap.size + 1, 5 + i * 9 + 1, none⟩ = some (.int .u64 0) ∧ V.frozen? ⟨W.heap.size + 1, 5 + i * 9 + 1, none⟩ = false ∧ ∀ m, (((V.drewN m).setCell ⟨W.heap.size + 1, 5 + i * 9 + 1, none⟩ (.int .u64 1)).cell? ⟨W.heap.size + 1, 5 + i * 9 + 5, none⟩ = some (.int .u64 0) ∧ ((V.drewN m).setCell ⟨W.heap.size + 1, 5 + i * 9 + 1, none⟩ (.int .u64 1)).frozen? ⟨W.heap.size + 1, 5 + i * 9 + 5, none⟩ = false ∧ ∀ k, ByR W q (i + 1) ((((V.drewN m).setCell ⟨W.heap.size + 1, 5 + i * 9 + 1, none⟩ (.int .u64 1)).drewN k).setCell ⟨W.heap.size + 1, 5 + i * 9 + 5, none⟩ (.int .u64 1))) := by
 obtain ⟨gt, gn, hb, ht, hn, g1, g2, hB⟩ := h
 have h1 : ∀ m, ((V.drewN m).setCell ⟨W.heap.size + 1, 5 + i * 9 + 1, none⟩ (.int .u64 1)).heap[W.heap.size + 1]? = _ := fun m => xai (V.drewN m) (W.heap.size + 1) (5 + i * 9 + 1) (.int .u64 1) hb
 have hc : i = 0 ∨ i = 1 ∨ i = 2 ∨ i = 3 := by omega
 have far : ∀ m k j, j ≠ W.heap.size + 1 → ((((V.drewN m).setCell ⟨W.heap.size + 1, 5 + i * 9 + 1, none⟩ (.int .u64 1)).drewN k).setCell ⟨W.heap.size + 1, 5 + i * 9 + 5, none⟩ (.int .u64 1)).heap[j]? = V.heap[j]? := fun m k j hj => (Below.heap_setCell _ ⟨W.heap.size + 1, 5 + i * 9 + 5, none⟩ _ j hj).trans (Below.heap_setCell (V.drewN m) ⟨W.heap.size + 1, 5 + i * 9 + 1, none⟩ _ j hj)
 have hBB : ∀ m k, Below W.heap.size W ((((V.drewN m).setCell ⟨W.heap.size + 1, 5 + i * 9 + 1, none⟩ (.int .u64 1)).drewN k).setCell ⟨W.heap.size + 1, 5 + i * 9 + 5, none⟩ (.int .u64 1)) := fun m k =>
  ((hB.trans ⟨rfl, rfl, rfl, Nat.le_refl _, fun _ _ => rfl⟩ : Below W.heap.size W (V.drewN m)).setCell (p := ⟨W.heap.size + 1, 5 + i * 9 + 1, none⟩) (by show W.heap.size ≤ W.heap.size + 1; omega) (.int .u64 1)).trans ((⟨rfl, rfl, rfl, Nat.le_refl _, fun _ _ => rfl⟩ : Below W.heap.size ((V.drewN m).setCell ⟨W.heap.size + 1, 5 + i * 9 + 1, none⟩ (.int .u64 1)) (((V.drewN m).setCell ⟨W.heap.size + 1, 5 + i * 9 + 1, none⟩ (.int .u64 1)).drewN k)).setCell (p := ⟨W.heap.size + 1, 5 + i * 9 + 5, none⟩) (by show W.heap.size ≤ W.heap.size + 1; omega) (.int .u64 1))
 have h2 : ∀ m k, ((((V.drewN m).setCell ⟨W.heap.size + 1, 5 + i * 9 + 1, none⟩ (.int .u64 1)).drewN k).setCell ⟨W.heap.size + 1, 5 + i * 9 + 5, none⟩ (.int .u64 1)).heap[W.heap.size + 1]? = _ := fun m k => xai (((V.drewN m).setCell ⟨W.heap.size + 1, 5 + i * 9 + 1, none⟩ (.int .u64 1)).drewN k) (W.heap.size + 1) (5 + i * 9 + 5) (.int .u64 1) (h1 m)
 have fin : ∀ m k, ByR W q (i + 1) ((((V.drewN m).setCell ⟨W.heap.size + 1, 5 + i * 9 + 1, none⟩ (.int .u64 1)).drewN k).setCell ⟨W.heap.size + 1, 5 + i * 9 + 5, none⟩ (.int .u64 1)) := fun m k => by
  refine ⟨gt, gn, (h2 m k).trans ?_, (far m k gt (by omega)).trans ht, (far m k gn (by omega)).trans hn, g1, g2, hBB m k⟩
  rcases hc with rfl | rfl | rfl | rfl <;> rfl
 refine ⟨?_, by simp [World.frozen?, hb], fun m => ⟨?_, by simp only [World.frozen?, h1 m]; rfl, fin m⟩⟩
 · simp only [World.cell?, hb]
   rcases hc with rfl | rfl | rfl | rfl <;> rfl
 · simp only [World.cell?, h1 m]
   rcases hc with rfl | rfl | rfl | rfl <;> rfl
theorem byC_leaf (t n : Value) : byC 4 ++ ([t, n] : List Value) = ptV (.mk 0 false [] false false leafB [fun _ => false] [0]) (.slice none 0 0) t n := by
 have e0 : wd (Nat.testBit 1) 0 = 1 := by decide +kernel
 have e1 : wd (Nat.testBit 1) 1 = 0 := by decide +kernel
 have e2 : wd (Nat.testBit 1) 2 = 0 := by decide +kernel
 have e3 : wd (Nat.testBit 1) 3 = 0 := by decide +kernel
 have eb : ∀ k, k < 4 → bdV (bat leafB k) = [.bool false, .int .u64 1, .int .u64 0, .int .u64 0, .int .u64 0, .int .u64 1, .int .u64 0, .int .u64 0, .int .u64 0] := fun k hk => by
  have : bat leafB k = ⟨false, 1, 1⟩ := by
   match k, hk with
   | 0, _ => rfl
   | 1, _ => rfl
   | 2, _ => rfl
   | 3, _ => rfl
  rw [this, bdV]
  simp only [e0, e1, e2, e3]
  rfl
 rw [ptV, show (Pt.mk 0 false [] false false leafB [fun _ => false] [0]).bds = leafB from rfl, bsV, eb 0 (by omega), eb 1 (by omega), eb 2 (by omega), eb 3 (by omega)]
 rfl
theorem by_end {W V : World} {q : Nat → Bool} (h : ByR W q 4 V) : PtAt V (fun k => W.heap.size ≤ k ∧ k < V.heap.size) (W.heap.size + 1) (.mk 0 false [] false false leafB [q] [0]) := by
 obtain ⟨gt, gn, hb, ht, hn, g1, g2, hB⟩ := h
 have l1 := (Array.getElem?_eq_some_iff.1 hb).1
 have l2 := (Array.getElem?_eq_some_iff.1 ht).1
 have l3 := (Array.getElem?_eq_some_iff.1 hn).1
 refine .mk _ _ (.slice none 0 0) (.slice (some ⟨gt, 0, none⟩) 1 1) (.slice (some ⟨gn, 0, none⟩) 1 1) [] ⟨by omega, l1⟩ ?_ rfl (World.ownsRow_nil _ _ _ _) ?_ ?_ (fun _ h => nomatch h) (fun g h => by cases h; exact ⟨by show W.heap.size ≤ gt; omega, l2⟩) (fun g h => by cases h; exact ⟨by show W.heap.size ≤ gn; omega, l3⟩) (fun _ _ _ h => nomatch h)
 · rw [hb, byC_leaf]; rfl
 · exact ⟨rfl, .inr ⟨gt, 1, _, rfl, Nat.zero_le _, ht, Nat.le_refl 1, by unfold maxLen; omega, rfl, rfl⟩⟩
 · exact ⟨rfl, .inr ⟨gn, 1, _, rfl, Nat.zero_le _, hn, Nat.le_refl 1, by unfold maxLen; omega, rfl, rfl⟩⟩
theorem lay_byte {W : World} (gp : Nat) (q : Nat → Bool) (lo hi : Int) (va : Option Addr) (nn vc : Nat) (ks : List Tr) :
 Calls Tryz.prog 45 #[.agg #[.int .i64 (1 : Nat), .int .u64 (wd q 0 : Nat), .int .u64 (wd q 1 : Nat), .int .u64 (wd q 2 : Nat), .int .u64 (wd q 3 : Nat), .int .i64 lo, .int .i64 hi, .int .i64 (gp : Nat), .slice va nn vc]] W fun e W' => ∃ b, e = .returned (.pointer (some ⟨b, 0, none⟩)) ∧ PtAt W' (fun k => W.heap.size ≤ k ∧ k < W'.heap.size) b (layT (.mk 1 q lo hi gp ks)) ∧ Below W.heap.size W W' := by
 have hH := ly_head W #[.int .i64 (1 : Nat), .int .u64 (wd q 0 : Nat), .int .u64 (wd q 1 : Nat), .int .u64 (wd q 2 : Nat), .int .u64 (wd q 3 : Nat), .int .i64 lo, .int .i64 hi, .int .i64 (gp : Nat), .slice va nn vc]
 go_enter Tryz.func45, Tryz.ntmps45
 go_upto_region 2 with fail
 have HH := hideT hH
 clear hH
 generalize ((W.alloc (.cells #[.int .i64 (1 : Nat), .int .u64 (wd q 0 : Nat), .int .u64 (wd q 1 : Nat), .int .u64 (wd q 2 : Nat), .int .u64 (wd q 3 : Nat), .int .i64 lo, .int .i64 hi, .int .i64 (gp : Nat), .slice va nn vc] 98)).alloc (.cells #[.int .i64 0, .bool false, .slice none 0 0, .bool false, .bool false, .bool false, .int .u64 0, .int .u64 0, .int .u64 0, .int .u64 0, .int .u64 0, .int .u64 0, .int .u64 0, .int .u64 0, .bool false, .int .u64 0, .int .u64 0, .int .u64 0, .int .u64 0, .int .u64 0, .int .u64 0, .int .u64 0, .int .u64 0, .bool false, .int .u64 0, .int .u64 0, .int .u64 0, .int .u64 0, .int .u64 0, .int .u64 0, .int .u64 0, .int .u64 0, .bool false, .int .u64 0, .int .u64 0, .int .u64 0, .int .u64 0, .int .u64 0, .int .u64 0, .int .u64 0, .int .u64 0, .slice none 0 0, .slice none 0 0] 164)) = X at *
 have n0 : X.cell? ⟨W.heap.size, 0, none⟩ = some (.int .i64 (1 : Nat)) := by simp [World.cell?, HH.out.nd]
 have n1 : X.cell? ⟨W.heap.size, 1, none⟩ = some (.int .u64 (wd q 0 : Nat)) := by simp [World.cell?, HH.out.nd]
 have n2 : X.cell? ⟨W.heap.size, 2, none⟩ = some (.int .u64 (wd q 1 : Nat)) := by simp [World.cell?, HH.out.nd]
 have n3 : X.cell? ⟨W.heap.size, 3, none⟩ = some (.int .u64 (wd q 2 : Nat)) := by simp [World.cell?, HH.out.nd]
 have n4 : X.cell? ⟨W.heap.size, 4, none⟩ = some (.int .u64 (wd q 3 : Nat)) := by simp [World.cell?, HH.out.nd]
 have hb0 : X.heap[W.heap.size + 1]? = some (.cells #[.int .i64 0, .bool false, .slice none 0 0, .bool false, .bool false, .bool false, .int .u64 0, .int .u64 0, .int .u64 0, .int .u64 0, .int .u64 0, .int .u64 0, .int .u64 0, .int .u64 0, .bool false, .int .u64 0, .int .u64 0, .int .u64 0, .int .u64 0, .int .u64 0, .int .u64 0, .int .u64 0, .int .u64 0, .bool false, .int .u64 0, .int .u64 0, .int .u64 0, .int .u64 0, .int .u64 0, .int .u64 0, .int .u64 0, .int .u64 0, .bool false, .int .u64 0, .int .u64 0, .int .u64 0, .int .u64 0, .int .u64 0, .int .u64 0, .int .u64 0, .int .u64 0, .slice none 0 0, .slice none 0 0] 164) := HH.out.ac.blk.trans (by rw [ptV, show (acP 0 false ac0).bds = zeroB from rfl, bs_zero]; rfl)
 have hXs := HH.out.sz
 go_upto_region 10 with fail
 rename_i K10 hK10
 go_cut [] from 36 to 45 (fun wx => Hid (ByR W q 0 wx))
 case first =>
  rename_i J hJ
  have hSof : ∀ V : World, Below X.heap.size X V → (fun V : World => V.cell? ⟨W.heap.size, 1, none⟩ = some (.int .u64 (wd q 0 : Nat)) ∧ V.cell? ⟨W.heap.size, 2, none⟩ = some (.int .u64 (wd q 1 : Nat)) ∧ V.cell? ⟨W.heap.size, 3, none⟩ = some (.int .u64 (wd q 2 : Nat)) ∧ V.cell? ⟨W.heap.size, 4, none⟩ = some (.int .u64 (wd q 3 : Nat))) V := fun V hV => ⟨keep_cell hV n1, keep_cell hV n2, keep_cell hV n3, keep_cell hV n4⟩
  have hfar : ∀ (V : World) (o : Nat) (u : Value), (fun V : World => V.cell? ⟨W.heap.size, 1, none⟩ = some (.int .u64 (wd q 0 : Nat)) ∧ V.cell? ⟨W.heap.size, 2, none⟩ = some (.int .u64 (wd q 1 : Nat)) ∧ V.cell? ⟨W.heap.size, 3, none⟩ = some (.int .u64 (wd q 2 : Nat)) ∧ V.cell? ⟨W.heap.size, 4, none⟩ = some (.int .u64 (wd q 3 : Nat))) V → (fun V : World => V.cell? ⟨W.heap.size, 1, none⟩ = some (.int .u64 (wd q 0 : Nat)) ∧ V.cell? ⟨W.heap.size, 2, none⟩ = some (.int .u64 (wd q 1 : Nat)) ∧ V.cell? ⟨W.heap.size, 3, none⟩ = some (.int .u64 (wd q 2 : Nat)) ∧ V.cell? ⟨W.heap.size, 4, none⟩ = some (.int .u64 (wd q 3 : Nat))) (V.setCell ⟨W.heap.size + 1, o, none⟩ u) := fun V o u h => by
   have hc : ∀ k, (V.setCell ⟨W.heap.size + 1, o, none⟩ u).cell? ⟨W.heap.size, k, none⟩ = V.cell? ⟨W.heap.size, k, none⟩ := fun k => World.cell?_of_block (a := ⟨W.heap.size, k, none⟩) (Below.heap_setCell V _ u W.heap.size (by show W.heap.size ≠ W.heap.size + 1; omega))
   exact ⟨(hc 1).trans h.1, (hc 2).trans h.2.1, (hc 3).trans h.2.2.1, (hc 4).trans h.2.2.2⟩
  have bX : Below X.heap.size X X.drew := (Below.refl _ _).drew
  have hS0 := hSof _ bX
  have hXd : X.drew.heap.size = W.heap.size + 2 := hXs
  have hmk : ∀ V : World, (Instr.makeSlice 130 (.int .i64 1) (.int .i64 1)).run Tryz.prog V = .ok (.slice (some ⟨V.heap.size, 0, none⟩) 1 1) (V.alloc (.cells (nxV (List.replicate 1 0)).toArray 157)) := fun V => make_nx 1 (by omega) V
  refine wp_region_held (S := fun V : World => V.cell? ⟨W.heap.size, 1, none⟩ = some (.int .u64 (wd q 0 : Nat)) ∧ V.cell? ⟨W.heap.size, 2, none⟩ = some (.int .u64 (wd q 1 : Nat)) ∧ V.cell? ⟨W.heap.size, 3, none⟩ = some (.int .u64 (wd q 2 : Nat)) ∧ V.cell? ⟨W.heap.size, 4, none⟩ = some (.int .u64 (wd q 3 : Nat))) (by kernel_rfl) ?_
  refine tq 0 36 hS0 ?_
  refine tq 1 37 hS0 ?_
  refine tq 2 38 hS0 ?_
  refine tq 3 39 hS0 ?_
  simp only [Act.put, List.setIfInBounds_toArray, List.set_cons_zero, List.set_cons_succ]
  refine wpAnyH_all (rs := [4, 5]) (by kernel_rfl) (by simp) (fun i hi => ?_)
  have hc1 : i = 4 ∨ i = 5 := by simpa using hi
  rcases hc1 with rfl | rfl
  · obtain ⟨gt, hgt⟩ : ∃ gt, gt = X.drew.heap.size := ⟨_, rfl⟩
    obtain ⟨U1, hU1⟩ : ∃ U1, U1 = X.drew.alloc (.cells #[.int .u64 (wd q 0 : Nat), .int .u64 (wd q 1 : Nat), .int .u64 (wd q 2 : Nat), .int .u64 (wd q 3 : Nat)] 95) := ⟨_, rfl⟩
    have agt : U1.heap[gt]? = some (.cells #[.int .u64 (wd q 0 : Nat), .int .u64 (wd q 1 : Nat), .int .u64 (wd q 2 : Nat), .int .u64 (wd q 3 : Nat)] 95) := by rw [hU1, hgt]; exact World.alloc_heap_new _ _
    have bgt : Below X.drew.heap.size X.drew U1 := by rw [hU1]; exact (Below.refl _ _).alloc (Nat.le_refl _) _
    have bX2 := bX.trans (bgt.mono bX.size)
    have sgt := hSof _ bX2
    refine op_value (some 40) rfl rfl (by rfl) (v := .slice (some ⟨gt, 0, none⟩) 1 1) (w' := U1) (by rw [hU1, hgt]; clear agt bgt sgt; go_simp; (try with_reducible rfl)) ⟨sgt, ?_⟩
    have bX := bX2
    clear hU1
    simp only [Act.put, List.setIfInBounds_toArray, List.set_cons_zero, List.set_cons_succ]
    refine tq 6 42 sgt ?_
    refine tq 7 43 sgt ?_
    simp only [Act.put, List.setIfInBounds_toArray, List.set_cons_zero, List.set_cons_succ]
    refine wpAnyH_all (rs := [5, 8]) (by kernel_rfl) (by simp) (fun i hi => ?_)
    have hc2 : i = 5 ∨ i = 8 := by simpa using hi
    rcases hc2 with rfl | rfl
    · obtain ⟨gn, hgn⟩ : ∃ gn, gn = U1.heap.size := ⟨_, rfl⟩
      obtain ⟨U2, hU2⟩ : ∃ U2, U2 = U1.alloc (.cells (nxV (List.replicate 1 0)).toArray 157) := ⟨_, rfl⟩
      have agn : U2.heap[gn]? = some (.cells (nxV (List.replicate 1 0)).toArray 157) := by rw [hU2, hgn]; exact World.alloc_heap_new _ _
      have bgn : Below U1.heap.size U1 U2 := by rw [hU2]; exact (Below.refl _ _).alloc (Nat.le_refl _) _
      have bX2 := bX.trans (bgn.mono bX.size)
      have sgn := hSof _ bX2
      refine op_value (some 41) rfl rfl (by rfl) (v := .slice (some ⟨gn, 0, none⟩) 1 1) (w' := U2) (by rw [hU2, hgn]; clear agn bgn sgn; go_simp; (try with_reducible rfl)) ⟨sgn, ?_⟩
      clear hU2
      have aT : U2.heap[gt]? = _ := (bgn.block gt (Array.getElem?_eq_some_iff.1 agt).1).trans agt
      have aN := agn
      have hb2 := (bX2.block (W.heap.size + 1) (by rw [hXs]; omega)).trans hb0
      have hlt : W.heap.size + 1 < gt ∧ W.heap.size + 1 < gn := ⟨by have := bgt.size; have := bgn.size; omega, by have := bgt.size; have := bgn.size; omega⟩
      have c41 : U2.cell? ⟨W.heap.size + 1, 41, none⟩ = some (.slice none 0 0) := by simp only [World.cell?, hb2]; rfl
      have d41 : U2.frozen? ⟨W.heap.size + 1, 41, none⟩ = false := by simp [World.frozen?, hb2]
      have c42 : U2.cell? ⟨W.heap.size + 1, 42, none⟩ = some (.slice none 0 0) := by simp only [World.cell?, hb2]; rfl
      have d42 : U2.frozen? ⟨W.heap.size + 1, 42, none⟩ = false := by simp [World.frozen?, hb2]
      have HBY := hideT (by_rows (q := q) hb2 aT aN hlt.1 hlt.2 (HH.out.b.trans (bX2.mono HH.out.b.size)))
      have hSU := hSof U2 bX2
      clear aT aN hb2 hlt
      clear bX bX2
      simp only [Act.put, List.setIfInBounds_toArray, List.set_cons_zero, List.set_cons_succ]
      refine wpAnyH_all (rs := [8]) (by kernel_rfl) (by simp) (fun i hi => ?_)
      obtain rfl : i = 8 := List.mem_singleton.1 hi
      have hS8 := hfar U2 41 (.slice (some ⟨gt, 0, none⟩) 1 1) hSU
      refine op_skip rfl rfl (by rfl) (w' := U2.setCell ⟨W.heap.size + 1, 41, none⟩ (.slice (some ⟨gt, 0, none⟩) 1 1)) (by go_simp; (try with_reducible rfl)) ⟨hS8, ?_⟩
      simp only [Act.put]
      refine tq 9 44 hS8 ?_
      refine tq 10 45 hS8 ?_
      simp only [Act.put, List.setIfInBounds_toArray, List.set_cons_zero, List.set_cons_succ]
      refine wpAnyH_all (rs := [11]) (by kernel_rfl) (by simp) (fun i hi => ?_)
      obtain rfl : i = 11 := List.mem_singleton.1 hi
      refine op_skip rfl rfl (by rfl) (w' := (U2.setCell ⟨W.heap.size + 1, 41, none⟩ (.slice (some ⟨gt, 0, none⟩) 1 1)).setCell ⟨W.heap.size + 1, 42, none⟩ (.slice (some ⟨gn, 0, none⟩) 1 1)) (by go_simp; (try with_reducible rfl)) ⟨hfar _ 42 _ hS8, ?_⟩
      refine wpAnyH_done (by kernel_rfl) (hJ _ _ ?_) _
      try simp only [Act.put]
      go_meet
      exact HBY
    · have hb1 := (bX.block (W.heap.size + 1) (by rw [hXs]; omega)).trans hb0
      have c41 : U1.cell? ⟨W.heap.size + 1, 41, none⟩ = some (.slice none 0 0) := by simp only [World.cell?, hb1]; rfl
      have d41 : U1.frozen? ⟨W.heap.size + 1, 41, none⟩ = false := by simp [World.frozen?, hb1]
      have hs1 := xai U1 (W.heap.size + 1) 41 (.slice (some ⟨gt, 0, none⟩) 1 1) hb1
      have hS8 := hfar U1 41 (.slice (some ⟨gt, 0, none⟩) 1 1) sgt
      refine op_skip rfl rfl (by rfl) (w' := U1.setCell ⟨W.heap.size + 1, 41, none⟩ (.slice (some ⟨gt, 0, none⟩) 1 1)) (by go_simp; (try with_reducible rfl)) ⟨hS8, ?_⟩
      have gt1 : ((U1.setCell ⟨W.heap.size + 1, 41, none⟩ (.slice (some ⟨gt, 0, none⟩) 1 1))).heap[gt]? = _ := (Below.heap_setCell U1 ⟨W.heap.size + 1, 41, none⟩ _ gt (by show gt ≠ W.heap.size + 1; omega)).trans agt
      have bX : Below W.heap.size W (U1.setCell ⟨W.heap.size + 1, 41, none⟩ (.slice (some ⟨gt, 0, none⟩) 1 1)) := (HH.out.b.trans (bX.mono HH.out.b.size)).setCell (p := ⟨W.heap.size + 1, 41, none⟩) (by show W.heap.size ≤ W.heap.size + 1; omega) _
      have hz1 : W.heap.size + 3 ≤ ((U1.setCell ⟨W.heap.size + 1, 41, none⟩ (.slice (some ⟨gt, 0, none⟩) 1 1))).heap.size := by rw [put_size]; have := (Array.getElem?_eq_some_iff.1 agt).1; omega
      generalize (U1.setCell ⟨W.heap.size + 1, 41, none⟩ (.slice (some ⟨gt, 0, none⟩) 1 1)) = Y at *
      clear c41 d41 hb1 sgt
      simp only [Act.put]
      refine wpAnyH_all (rs := [5]) (by kernel_rfl) (by simp) (fun i hi => ?_)
      obtain rfl : i = 5 := List.mem_singleton.1 hi
      obtain ⟨gn, hgn⟩ : ∃ gn, gn = Y.heap.size := ⟨_, rfl⟩
      obtain ⟨U2, hU2⟩ : ∃ U2, U2 = Y.alloc (.cells (nxV (List.replicate 1 0)).toArray 157) := ⟨_, rfl⟩
      have agn : U2.heap[gn]? = some (.cells (nxV (List.replicate 1 0)).toArray 157) := by rw [hU2, hgn]; exact World.alloc_heap_new _ _
      have bgn : Below Y.heap.size Y U2 := by rw [hU2]; exact (Below.refl _ _).alloc (Nat.le_refl _) _
      have sgn : (fun V : World => V.cell? ⟨W.heap.size, 1, none⟩ = some (.int .u64 (wd q 0 : Nat)) ∧ V.cell? ⟨W.heap.size, 2, none⟩ = some (.int .u64 (wd q 1 : Nat)) ∧ V.cell? ⟨W.heap.size, 3, none⟩ = some (.int .u64 (wd q 2 : Nat)) ∧ V.cell? ⟨W.heap.size, 4, none⟩ = some (.int .u64 (wd q 3 : Nat))) U2 := ⟨keep_cell bgn hS8.1, keep_cell bgn hS8.2.1, keep_cell bgn hS8.2.2.1, keep_cell bgn hS8.2.2.2⟩
      refine op_value (some 41) rfl rfl (by rfl) (v := .slice (some ⟨gn, 0, none⟩) 1 1) (w' := U2) (by rw [hU2, hgn]; clear agn bgn sgn; go_simp; (try with_reducible rfl)) ⟨sgn, ?_⟩
      clear hU2
      have hs2 := (bgn.block (W.heap.size + 1) (by omega)).trans hs1
      have c42 : U2.cell? ⟨W.heap.size + 1, 42, none⟩ = some (.slice none 0 0) := by simp only [World.cell?, hs2]; rfl
      have d42 : U2.frozen? ⟨W.heap.size + 1, 42, none⟩ = false := by simp [World.frozen?, hs2]
      have hs3 := xai U2 (W.heap.size + 1) 42 (.slice (some ⟨gn, 0, none⟩) 1 1) hs2
      have far : ∀ k, k ≠ W.heap.size + 1 → (U2.setCell ⟨W.heap.size + 1, 42, none⟩ (.slice (some ⟨gn, 0, none⟩) 1 1)).heap[k]? = U2.heap[k]? := fun k hk => Below.heap_setCell U2 ⟨W.heap.size + 1, 42, none⟩ _ k hk
      have HBY : Hid (ByR W q 0 (U2.setCell ⟨W.heap.size + 1, 42, none⟩ (.slice (some ⟨gn, 0, none⟩) 1 1))) := hideT ⟨gt, gn, hs3.trans rfl, (far gt (by omega)).trans ((bgn.block gt (by omega)).trans gt1), (far gn (by omega)).trans agn, by omega, by omega, (bX.trans (bgn.mono (by omega))).setCell (p := ⟨W.heap.size + 1, 42, none⟩) (by show W.heap.size ≤ W.heap.size + 1; omega) _⟩
      clear hs1 hs2 hs3 far gt1 bX hz1
      simp only [Act.put, List.setIfInBounds_toArray, List.set_cons_zero, List.set_cons_succ]
      refine tq 9 44 sgn ?_
      refine tq 10 45 sgn ?_
      simp only [Act.put, List.setIfInBounds_toArray, List.set_cons_zero, List.set_cons_succ]
      refine wpAnyH_all (rs := [11]) (by kernel_rfl) (by simp) (fun i hi => ?_)
      obtain rfl : i = 11 := List.mem_singleton.1 hi
      refine op_skip rfl rfl (by rfl) (w' := U2.setCell ⟨W.heap.size + 1, 42, none⟩ (.slice (some ⟨gn, 0, none⟩) 1 1)) (by go_simp; (try with_reducible rfl)) ⟨hfar _ 42 _ sgn, ?_⟩
      refine wpAnyH_done (by kernel_rfl) (hJ _ _ ?_) _
      try simp only [Act.put]
      go_meet
      exact HBY
  · obtain ⟨gn, hgn⟩ : ∃ gn, gn = X.drew.heap.size := ⟨_, rfl⟩
    obtain ⟨U1, hU1⟩ : ∃ U1, U1 = X.drew.alloc (.cells (nxV (List.replicate 1 0)).toArray 157) := ⟨_, rfl⟩
    have agn : U1.heap[gn]? = some (.cells (nxV (List.replicate 1 0)).toArray 157) := by rw [hU1, hgn]; exact World.alloc_heap_new _ _
    have bgn : Below X.drew.heap.size X.drew U1 := by rw [hU1]; exact (Below.refl _ _).alloc (Nat.le_refl _) _
    have bX2 := bX.trans (bgn.mono bX.size)
    have sgn := hSof _ bX2
    refine op_value (some 41) rfl rfl (by rfl) (v := .slice (some ⟨gn, 0, none⟩) 1 1) (w' := U1) (by rw [hU1, hgn]; clear agn bgn sgn; go_simp; (try with_reducible rfl)) ⟨sgn, ?_⟩
    have bX := bX2
    clear hU1
    simp only [Act.put, List.setIfInBounds_toArray, List.set_cons_zero, List.set_cons_succ]
    refine wpAnyH_all (rs := [4]) (by kernel_rfl) (by simp) (fun i hi => ?_)
    obtain rfl : i = 4 := List.mem_singleton.1 hi
    obtain ⟨gt, hgt⟩ : ∃ gt, gt = U1.heap.size := ⟨_, rfl⟩
    obtain ⟨U2, hU2⟩ : ∃ U2, U2 = U1.alloc (.cells #[.int .u64 (wd q 0 : Nat), .int .u64 (wd q 1 : Nat), .int .u64 (wd q 2 : Nat), .int .u64 (wd q 3 : Nat)] 95) := ⟨_, rfl⟩
    have agt : U2.heap[gt]? = some (.cells #[.int .u64 (wd q 0 : Nat), .int .u64 (wd q 1 : Nat), .int .u64 (wd q 2 : Nat), .int .u64 (wd q 3 : Nat)] 95) := by rw [hU2, hgt]; exact World.alloc_heap_new _ _
    have bgt : Below U1.heap.size U1 U2 := by rw [hU2]; exact (Below.refl _ _).alloc (Nat.le_refl _) _
    have bX2 := bX.trans (bgt.mono bX.size)
    have sgt := hSof _ bX2
    refine op_value (some 40) rfl rfl (by rfl) (v := .slice (some ⟨gt, 0, none⟩) 1 1) (w' := U2) (by rw [hU2, hgt]; clear agt bgt sgt; go_simp; (try with_reducible rfl)) ⟨sgt, ?_⟩
    clear hU2
    have aT := agt
    have aN : U2.heap[gn]? = _ := (bgt.block gn (Array.getElem?_eq_some_iff.1 agn).1).trans agn
    have hb2 := (bX2.block (W.heap.size + 1) (by rw [hXs]; omega)).trans hb0
    have hlt : W.heap.size + 1 < gt ∧ W.heap.size + 1 < gn := ⟨by have := bgt.size; have := bgn.size; omega, by have := bgt.size; have := bgn.size; omega⟩
    have c41 : U2.cell? ⟨W.heap.size + 1, 41, none⟩ = some (.slice none 0 0) := by simp only [World.cell?, hb2]; rfl
    have d41 : U2.frozen? ⟨W.heap.size + 1, 41, none⟩ = false := by simp [World.frozen?, hb2]
    have c42 : U2.cell? ⟨W.heap.size + 1, 42, none⟩ = some (.slice none 0 0) := by simp only [World.cell?, hb2]; rfl
    have d42 : U2.frozen? ⟨W.heap.size + 1, 42, none⟩ = false := by simp [World.frozen?, hb2]
    have HBY := hideT (by_rows (q := q) hb2 aT aN hlt.1 hlt.2 (HH.out.b.trans (bX2.mono HH.out.b.size)))
    have hSU := hSof U2 bX2
    clear aT aN hb2 hlt
    clear bX bX2
    simp only [Act.put, List.setIfInBounds_toArray, List.set_cons_zero, List.set_cons_succ]
    refine tq 6 42 hSU ?_
    refine tq 7 43 hSU ?_
    simp only [Act.put, List.setIfInBounds_toArray, List.set_cons_zero, List.set_cons_succ]
    refine wpAnyH_all (rs := [8]) (by kernel_rfl) (by simp) (fun i hi => ?_)
    obtain rfl : i = 8 := List.mem_singleton.1 hi
    have hS8 := hfar U2 41 (.slice (some ⟨gt, 0, none⟩) 1 1) hSU
    refine op_skip rfl rfl (by rfl) (w' := U2.setCell ⟨W.heap.size + 1, 41, none⟩ (.slice (some ⟨gt, 0, none⟩) 1 1)) (by go_simp; (try with_reducible rfl)) ⟨hS8, ?_⟩
    simp only [Act.put]
    refine tq 9 44 hS8 ?_
    refine tq 10 45 hS8 ?_
    simp only [Act.put, List.setIfInBounds_toArray, List.set_cons_zero, List.set_cons_succ]
    refine wpAnyH_all (rs := [11]) (by kernel_rfl) (by simp) (fun i hi => ?_)
    obtain rfl : i = 11 := List.mem_singleton.1 hi
    refine op_skip rfl rfl (by rfl) (w' := (U2.setCell ⟨W.heap.size + 1, 41, none⟩ (.slice (some ⟨gt, 0, none⟩) 1 1)).setCell ⟨W.heap.size + 1, 42, none⟩ (.slice (some ⟨gn, 0, none⟩) 1 1)) (by go_simp; (try with_reducible rfl)) ⟨hfar _ 42 _ hS8, ?_⟩
    refine wpAnyH_done (by kernel_rfl) (hJ _ _ ?_) _
    try simp only [Act.put]
    go_meet
    exact HBY
 case rest =>
 refine hK10 _ _ ?_
 have HC := hideT hcut.out
 clear hcut n0 n1 n2 n3 n4 hb0 hXs hK10 HH
 go_wp2_with fail
 go_loopg [4, 46] 4 (fun fu v4 v46 wr => ∃ i : Nat, v46 = .int .i64 (i : Nat) ∧ i + fu = 4 ∧ Hid (ByR W q i wr))
 case atStart => exact ⟨0, rfl, by omega, hideT HC.out⟩
 case round =>
  obtain ⟨i, rfl, hif, HI⟩ := hrel
  clear HC
  cases gk with
  | zero =>
   obtain rfl : i = 4 := by omega
   go_wp2
   go_ret
   refine ⟨_, rfl, by_end HI.out, ?_⟩
   obtain ⟨gt, gn, hb, ht, hn, g1, g2, hB⟩ := HI.out
   exact hB
  | succ fu =>
   have hi4 : i < 4 := by omega
   have HS := hideT (by_step hi4 HI.out)
   have i1 : (i : Int) < 4 := by omega
   have i2 : (0 : Int) ≤ (i : Int) := by omega
   clear HI
   go_wp2_with fail
   refine (add0_any wr HS.out.1 HS.out.2.1).mono ?_
   rintro e w1 ⟨⟨v, rfl⟩, m, rfl⟩
   have H2 := hideT (HS.out.2.2 m)
   clear HS
   generalize ((wr.drewN m).setCell ⟨W.heap.size + 1, 5 + i * 9 + 1, none⟩ (.int .u64 1)) = Y at *
   go_wp2_with fail
   refine (add0_any Y H2.out.1 H2.out.2.1).mono ?_
   rintro e w2 ⟨⟨v2, rfl⟩, k, rfl⟩
   have H3 := hideT (H2.out.2.2 k)
   clear H2
   generalize ((Y.drewN k).setCell ⟨W.heap.size + 1, 5 + i * 9 + 5, none⟩ (.int .u64 1)) = Z at *
   go_wp2
   go_roundg fu
   case measure => omega
   case rel => exact ⟨i + 1, by go_num, by omega, H3⟩
end Go.Proofs.YtbekghinikjjeaaGreatDoor.smt
namespace Go.Proofs.YtbekghinikjjeaaGreatDoor.smt
open Go.RowKit Go.Proofs.YtbekghinikjjeaaGreatDoor.br
theorem kids_n {W : World} {ok : Nat → Prop} {va : Option Addr} {n vc : Nat} {ts : List Tr} (h : br.Kids W ok (.slice va n vc) ts) : n = ts.length := by
 cases h with
 | mk _ _ vs hl own hok hk =>
  rcases own.2 with ⟨e, h0⟩ | ⟨g, cap, cur, e, _⟩
  · cases e; exact h0.symm
  · cases e; rfl
theorem kids_lt {W : World} {ok : Nat → Prop} {v : Value} {ts : List Tr} (h : br.Kids W ok v ts) : br.Kids W (fun g => ok g ∧ g < W.heap.size) v ts := by
 induction h with
 | mk v ts vs hl own hok hk ih => exact .mk v ts vs hl own (fun g hg => ⟨hok g hg, (owns_blk own hg).2.1⟩) ih
theorem sum_take (l : List Nat) (i : Nat) : (l.take i).sum ≤ l.sum := by
 have := congrArg List.sum (List.take_append_drop i l)
 rw [List.sum_append] at this
 omega
theorem rowA_good {ng : Nat} {ks : List Tr} (b : Bool) (h : LyL ng ks) (hp : posL ks ≤ 256) : ∀ i, i ≤ ks.length → OkA (rowA ks b i) ∧ (rowA ks b i).takes.length ≤ 256 ∧ (rowA ks b i).links.length = i := fun i hi => by
 obtain ⟨d, h1, h2⟩ := layL_ok LayQ.no ks h
 obtain ⟨g1, g2⟩ := addL_good LayQ.no (b := b) ((layL ks).take i) 0 _ (fun p hp => h1 p (List.mem_of_mem_take hp)) (GdA.zero LayQ.no ng d b)
 have h3 := sum_take ((layL ks).map fun p => p.takes.length) i
 rw [← List.map_take] at h3
 refine ⟨g1.ok, ?_, ?_⟩
 · show (((layL ks).take i).foldl (fun (a : Ac) kid => a.add kid false) (⟨b, [], [], []⟩ : Ac)).takes.length ≤ 256
   rw [g2]; show 0 + _ ≤ _; omega
 · rw [show (rowA ks b i).links.length = _ from g1.ln, List.length_take, layL_len]; omega
mutual
theorem lay_any {ng : Nat} : ∀ t : Tr, LyT ng t → LayIH t
 | .mk k q lo hi g kids, h => by
  obtain ⟨hk5, hg, h4, h23, h5, hl, hp, hks⟩ := h
  have ihs := lay_all kids hks
  intro W ok va n vc hk hok hT
  have hn : n = kids.length := kids_n hk
  subst hn
  match k, hk5 with
  | 0, _ => exact lay_row0 g q lo hi va vc hk hok hT ihs hl (rowA_good false hks (by have h9 := hp; simp only [posT] at h9; simpa using h9))
  | 1, _ => exact lay_byte g q lo hi va _ vc kids
  | 2, _ => exact lay_bol g q lo hi va _ vc kids
  | 3, _ => exact lay_eol g q lo hi va _ vc kids
  | 4, _ => exact lay_row4 g q lo hi va vc hk hok hT ihs hl (rowA_good true hks (by have h9 := hp; simp only [posT] at h9; simpa using h9))
  | 5, _ =>
   obtain ⟨⟨c, rfl⟩, l1, l2, l3⟩ := h5 rfl
   obtain ⟨d, hd, hsum⟩ := layL_ok LayQ.no [c] hks
   have hs1 : ((layT c).takes.length : Int) = posL [c] := by simpa [layL] using hsum
   have hpos : posT (.mk 5 q lo hi g [c]) = posL [c] * (wrN lo hi : Nat) := by
    rw [posT, if_neg (by decide), if_pos rfl]
    unfold wrN
    by_cases h0 : 0 ≤ hi
    · rw [if_pos h0, decide_eq_false (by omega), cond_false, Int.toNat_of_nonneg h0]
    · rw [if_neg h0, decide_eq_true (by omega), cond_true]
      by_cases h1 : 0 < lo
      · rw [if_pos h1, show ((max lo.toNat 1 : Nat) : Int) = lo by omega]
      · rw [if_neg h1, show ((max lo.toNat 1 : Nat) : Int) = 1 by omega, Int.mul_one]
   rw [hpos, ← hs1] at hp
   exact lay_rep g q lo hi va vc hk hok hT (ihs c List.mem_cons_self).1 (ihs c List.mem_cons_self).2 l1 l2 l3 (by exact_mod_cast hp)
theorem lay_all {ng : Nat} : ∀ ts : List Tr, LyL ng ts → ∀ x, x ∈ ts → LayIH x ∧ OkP (layT x)
 | [], _, _, h => nomatch h
 | t :: ts, h, x, hx => by
  obtain ⟨h1, h2⟩ : LyT ng t ∧ LyL ng ts := h
  rcases List.mem_cons.1 hx with e | hx
  · rw [e]; exact ⟨lay_any t h1, (lay_ok LayQ.no t h1).1⟩
  · exact lay_all ts h2 x hx
end
end Go.Proofs.YtbekghinikjjeaaGreatDoor.smt
namespace Go.Proofs.YtbekghinikjjeaaGreatDoor.smt
open Go.RowKit Go.Proofs.YtbekghinikjjeaaGreatDoor.br
theorem owns_base {W : World} {B e size n g cap : Nat} {xs : List Value} (h : W.ownsRow 0 e size (.slice (some ⟨g, 0, none⟩) n cap) n xs) (hb : B ≤ g) : W.ownsRow B e size (.slice (some ⟨g, 0, none⟩) n cap) n xs := by
 obtain ⟨hl, h⟩ := h
 refine ⟨hl, ?_⟩
 rcases h with ⟨h, _⟩ | ⟨g', c', cur, e, _, rest⟩
 · cases h
 · cases e; exact .inr ⟨_, _, _, rfl, hb, rest⟩
theorem F2.below {sb gs B : Nat} {X Y : World} (h : F2 sb gs X Y) (h1 : B ≤ sb) (h2 : B ≤ gs) (h3 : B ≤ X.heap.size) : Below B X Y := { os := h.os, tape := h.tape, output := h.output, size := h.size, block := fun k hk => h.same k (by omega) (by omega) (by omega) }
theorem node_cat (ts : List Tr) (u : Value) : nodeA (catT ts) u = .agg #[.int .i64 0, .int .u64 0, .int .u64 0, .int .u64 0, .int .u64 0, .int .i64 0, .int .i64 0, .int .i64 0, u] := by
 show Value.agg #[.int .i64 ((0 : Nat) : Int), .int .u64 (wd xad 0 : Nat), .int .u64 (wd xad 1 : Nat), .int .u64 (wd xad 2 : Nat), .int .u64 (wd xad 3 : Nat), .int .i64 0, .int .i64 0, .int .i64 ((0 : Nat) : Int), u] = _
 have e : ∀ i, wd xad i = 0 := fun i => xaa i
 rw [e 0, e 1, e 2, e 3]
 rfl
theorem match_any {text s : ByteArray} {ts : List Tr} {n frm f h : Nat} {o : Option (List (Int × Int))} (w : World) (hg : Glob w) (hT : Tab w) (ht : parseT text = .ok ts) (hb : (msF .zero ts).back = false) (hn : (msF .zero ts).groups = (n : Int)) (hLy : LyT (n + 1) (catT ts)) (hs : s.size ≤ 1024) (hf : frm ≤ s.size) (hm : matchF f n (catT ts) (bl s) frm = some (o, h)) :
 Calls Tryz.prog 36 #[.string text, .string s, .int .i64 (frm : Nat)] w fun e w' => Below w.heap.size w w' ∧ ∃ v, e = .returned (.tuple #[v, .bool o.isSome, .int .i64 (hz h), .int .i64 0]) ∧ w'.ownsRow w.heap.size 30 2 v (o.getD []).length (spV (o.getD [])) := by
 have hM := mOf_any text w hg
 rw [show ofM text = (msF .zero ts, 0, 0) by unfold ofM; rw [ht]] at hM
 have HH := hideT (And.intro hT (And.intro ht (And.intro hLy hm)))
 have HG := hideT hg
 clear hT ht hLy hm hg
 go_enter Tryz.func36, Tryz.ntmps36
 go_wp2_with fail
 refine hM.mono ?_
 rintro e w1 ⟨rfl, hB1⟩
 have HB1 := hideT hB1
 clear hB1 hM
 have hnb : (msF .zero ts).back = false := hb
 go_upto_region 2 with fail
 have h1 := heap_alloc_new w1 (.cells #[.int .i64 (msF .zero ts).pos, .int .i64 (n : Int), .int .i64 (msF .zero ts).least, .int .i64 (msF .zero ts).most, .bool false, .bool (msF .zero ts).bol, .bool (msF .zero ts).eol] 75)
 have h2 := World.alloc_heap_new (w1.alloc (.cells #[.int .i64 (msF .zero ts).pos, .int .i64 (n : Int), .int .i64 (msF .zero ts).least, .int .i64 (msF .zero ts).most, .bool false, .bool (msF .zero ts).bol, .bool (msF .zero ts).eol] 75)) (.cells #[.int .i64 0, .int .i64 0] 52)
 rw [World.size_alloc] at h2
 have h3 := (Below.heap_alloc (w1.alloc (.cells #[.int .i64 (msF .zero ts).pos, .int .i64 (n : Int), .int .i64 (msF .zero ts).least, .int .i64 (msF .zero ts).most, .bool false, .bool (msF .zero ts).bol, .bool (msF .zero ts).eol] 75)) (.cells #[.int .i64 0, .int .i64 0] 52) w1.heap.size (by rw [World.size_alloc]; omega)).trans h1
 have hB2 : Below w1.heap.size w1 ((w1.alloc (.cells #[.int .i64 (msF .zero ts).pos, .int .i64 (n : Int), .int .i64 (msF .zero ts).least, .int .i64 (msF .zero ts).most, .bool false, .bool (msF .zero ts).bol, .bool (msF .zero ts).eol] 75)).alloc (.cells #[.int .i64 0, .int .i64 0] 52)) := ((Below.refl _ _).alloc (Nat.le_refl _) _).alloc (by rw [World.size_alloc]; omega) _
 clear h1
 generalize ((w1.alloc (.cells #[.int .i64 (msF .zero ts).pos, .int .i64 (n : Int), .int .i64 (msF .zero ts).least, .int .i64 (msF .zero ts).most, .bool false, .bool (msF .zero ts).bol, .bool (msF .zero ts).eol] 75)).alloc (.cells #[.int .i64 0, .int .i64 0] 52)) = X at *
 have c0 : X.cell? ⟨w1.heap.size + 1, 0, none⟩ = some (.int .i64 0) := by simp [World.cell?, h2]
 have c4 : X.cell? ⟨w1.heap.size, 4, none⟩ = some (.bool false) := by simp [World.cell?, h3]
 have c1 : X.cell? ⟨w1.heap.size, 1, none⟩ = some (.int .i64 (n : Int)) := by simp [World.cell?, h3]
 have hX1 := (Array.getElem?_eq_some_iff.1 h2).1
 have HX := hideT (And.intro hX1 (And.intro hB2 c1))
 have s1 : ((1024 : Int) < (s.size : Int)) = False := by rw [eq_iff_iff, iff_false]; omega
 have s2 : (1024 < s.size) = False := by rw [eq_iff_iff, iff_false]; omega
 have s3 : ((frm : Int) < 0) = False := by rw [eq_iff_iff, iff_false]; omega
 have s4 : ((s.size : Int) < (frm : Int)) = False := by rw [eq_iff_iff, iff_false]; omega
 have s5 : (s.size < frm) = False := by rw [eq_iff_iff, iff_false]; omega
 have hpz : text.size ≤ 1073741824 := by
  have h9 := HH.out.2.1
  unfold parseT at h9
  split at h9
  · cases h9
  · omega
 have hP := parse_ok text hpz ts HH.out.2.1 X ((HG.out.below HB1.out (Nat.le_refl _)).below hB2 (Nat.le_refl _))
 have HS := hideT (And.intro hs (And.intro hf hn))
 clear h2 h3 hB2 hX1 hs hf hpz c1 hn hb hnb
 go_wp2_with fail
 refine hP.mono ?_
 rintro e w2 ⟨hB2, a, nn, c, rfl, hk⟩
 have HK := hideT (And.intro hB2 hk)
 clear hB2 hk hP
 go_upto_region 11 with fail
 have h1 := heap_alloc_new w2 (.cells #[.int .i64 0, .int .u64 0, .int .u64 0, .int .u64 0, .int .u64 0, .int .i64 0, .int .i64 0, .int .i64 0, .slice a nn c] 98)
 have hB3 : Below w2.heap.size w2 ((w2.alloc (.cells #[.int .i64 0, .int .u64 0, .int .u64 0, .int .u64 0, .int .u64 0, .int .i64 0, .int .i64 0, .int .i64 0, .slice a nn c] 98)).alloc (.cells #[.int .i64 0, .int .i64 0] 52)) := ((Below.refl _ _).alloc (Nat.le_refl _) _).alloc (by rw [World.size_alloc]; omega) _
 have h3 := (Below.heap_alloc (w2.alloc (.cells #[.int .i64 0, .int .u64 0, .int .u64 0, .int .u64 0, .int .u64 0, .int .i64 0, .int .i64 0, .int .i64 0, .slice a nn c] 98)) (.cells #[.int .i64 0, .int .i64 0] 52) w2.heap.size (by rw [World.size_alloc]; omega)).trans h1
 clear h1
 generalize ((w2.alloc (.cells #[.int .i64 0, .int .u64 0, .int .u64 0, .int .u64 0, .int .u64 0, .int .i64 0, .int .i64 0, .int .i64 0, .slice a nn c] 98)).alloc (.cells #[.int .i64 0, .int .i64 0] 52)) = Y at *
 have y0 : Y.cell? ⟨w2.heap.size, 0, none⟩ = some (.int .i64 0) := by simp [World.cell?, h3]
 have y1 : Y.cell? ⟨w2.heap.size, 1, none⟩ = some (.int .u64 0) := by simp [World.cell?, h3]
 have y2 : Y.cell? ⟨w2.heap.size, 2, none⟩ = some (.int .u64 0) := by simp [World.cell?, h3]
 have y3 : Y.cell? ⟨w2.heap.size, 3, none⟩ = some (.int .u64 0) := by simp [World.cell?, h3]
 have y4 : Y.cell? ⟨w2.heap.size, 4, none⟩ = some (.int .u64 0) := by simp [World.cell?, h3]
 have y5 : Y.cell? ⟨w2.heap.size, 5, none⟩ = some (.int .i64 0) := by simp [World.cell?, h3]
 have y6 : Y.cell? ⟨w2.heap.size, 6, none⟩ = some (.int .i64 0) := by simp [World.cell?, h3]
 have y7 : Y.cell? ⟨w2.heap.size, 7, none⟩ = some (.int .i64 0) := by simp [World.cell?, h3]
 have y8 : Y.cell? ⟨w2.heap.size, 8, none⟩ = some (.slice a nn c) := by simp [World.cell?, h3]
 have hwX : w.heap.size ≤ X.heap.size := Nat.le_trans HB1.out.size HX.out.2.1.size
 have hXY : Below X.heap.size X Y := HK.out.1.trans (hB3.mono HK.out.1.size)
 have hTY : Tab Y := HH.out.1.keep ((hXY.block 0 (Nat.lt_of_lt_of_le HH.out.1.pos hwX)).trans ((HX.out.2.1.block 0 (Nat.lt_of_lt_of_le HH.out.1.pos HB1.out.size)).trans (HB1.out.block 0 HH.out.1.pos)))
 have hlay := lay_any (catT ts) HH.out.2.2.1 Y _ a nn c (xc1 (kids_lt HK.out.2) hB3) (fun g hg => Nat.lt_of_lt_of_le hg.2 hB3.size) hTY
 rw [node_cat] at hlay
 have HY := hideT (And.intro hXY hTY)
 clear h3 hB3 hXY hTY hwX
 go_wp2_with fail
 refine hlay.mono ?_
 rintro e w3 ⟨b, rfl, hpt, hB3⟩
 have HP := hideT (And.intro hpt hB3)
 clear hlay hpt hB3 y0 y1 y2 y3 y4 y5 y6 y7 y8
 have c1 : w3.cell? ⟨w1.heap.size, 1, none⟩ = some (.int .i64 (n : Int)) := keep_cell HP.out.2 (keep_cell HY.out.1 HX.out.2.2)
 have hn9 : n ≤ 9 := by have h9 := (parse_measure text ts HH.out.2.1).2.2.2; have h8 := HS.out.2.2; omega
 have HU := hideT (unmatched_any (n + 1) (by omega) w3)
 go_wp2_with fail
 rw [show ((n : Int) + 1) = ((n + 1 : Nat) : Int) from rfl]
 refine HU.out.mono ?_
 rintro e w4 ⟨rfl, hsp, hB4⟩
 have HQ := hideT (And.intro hsp hB4)
 have HN9 := hideT hn9
 clear HU hsp hB4 c1 hn9
 go_upto_region 13 with fail
 have hz0 : SrAt (w4.alloc (.cells #[.string s, .int .i64 0, .slice none 0 0, .slice (some ⟨w3.heap.size, 0, none⟩) (n + 1) (n + 1)] 132)) w4.heap.size s 0 (.slice none 0 0) (.slice (some ⟨w3.heap.size, 0, none⟩) (n + 1) (n + 1)) := World.alloc_heap_new _ _
 have hB5 : Below w4.heap.size w4 (w4.alloc (.cells #[.string s, .int .i64 0, .slice none 0 0, .slice (some ⟨w3.heap.size, 0, none⟩) (n + 1) (n + 1)] 132)) := (Below.refl _ _).alloc (Nat.le_refl _) _
 generalize (w4.alloc (.cells #[.string s, .int .i64 0, .slice none 0 0, .slice (some ⟨w3.heap.size, 0, none⟩) (n + 1) (n + 1)] 132)) = Z at *
 have hS0 := HP.out.2.size
 have hS1 := HQ.out.2.size
 have hB35 : Below w3.heap.size w3 Z := HQ.out.2.trans (hB5.mono hS1)
 have hpt : PtAt Z (fun k => Y.heap.size ≤ k ∧ k < w3.heap.size) b (layT (catT ts)) := HP.out.1.keep (fun k hk => hB35.block k hk.2) (fun _ h => h)
 have hSw : ∀ g, (fun k => Y.heap.size ≤ k ∧ k < w3.heap.size) g → g < Z.heap.size ∧ g ≠ w4.heap.size := fun g hg => ⟨Nat.lt_of_lt_of_le hg.2 hB35.size, by have := hg.2; omega⟩
 have hTZ : Tab Z := HY.out.2.keep ((hB35.block 0 (Nat.lt_of_lt_of_le HY.out.2.pos hS0)).trans (HP.out.2.block 0 HY.out.2.pos))
 have hlk := lay_ok LayQ.no (catT ts) HH.out.2.2.1
 have hfind := find_any Z hz0 hpt hSw hlk.1 hTZ HS.out.2.1 (by have := HS.out.1; omega)
 have hm2 := HH.out.2.2.2
 unfold matchF at hm2
 rw [bl_len] at hm2
 have hsr := hB5.size
 have hrow : Z.ownsRow w3.heap.size 30 2 (.slice (some ⟨w3.heap.size, 0, none⟩) (n + 1) (n + 1)) (n + 1) (spV (List.replicate (n + 1) (-1, -1))) := owns_keep HQ.out.1 fun g hg => hB5.block g (owns_blk HQ.out.1 hg).2.1
 have HZ := hideT (And.intro hB5 (And.intro hB35 (And.intro hpt (And.intro hSw (And.intro hTZ (And.intro hlk.1 (And.intro hlk.2.2.1 hrow)))))))
 clear hz0 hB5 hB35 hpt hSw hTZ hlk hsr hrow
 generalize hR : findF (layT (catT ts)) (bl s) (s.size + 1 - frm) frm (List.replicate s.size 0, 0) = R at hfind hm2
 obtain ⟨R1, c5⟩ := R
 have hW4 : w.heap.size ≤ w3.heap.size := Nat.le_trans HB1.out.size (Nat.le_trans HX.out.2.1.size (Nat.le_trans HY.out.1.size hS0))
 have hBW : Below w.heap.size w Z := HB1.out.trans ((HX.out.2.1.mono HB1.out.size).trans ((HY.out.1.mono (Nat.le_trans HB1.out.size HX.out.2.1.size)).trans ((HP.out.2.mono (Nat.le_trans HB1.out.size (Nat.le_trans HX.out.2.1.size HY.out.1.size))).trans (HZ.out.2.1.mono hW4))))
 have HBW := hideT (And.intro hBW (And.intro hW4 (And.intro hS0 hS1)))
 clear hBW hW4 hS0 hS1
 cases R1 with
 | none =>
  have HM := hideT hm2
  have HF : Hid (Calls Tryz.prog 47 #[.pointer (some ⟨w4.heap.size, 0, none⟩), .pointer (some ⟨b, 0, none⟩), .int .i64 (frm : Nat)] Z fun e w' => ∃ tv', SrAt w' w4.heap.size s c5 tv' (.slice (some ⟨w3.heap.size, 0, none⟩) (n + 1) (n + 1)) ∧ Fs w4.heap.size Z w' ∧ e = .returned (.tuple #[.agg #[.int .i64 0, .int .i64 0], .bool false])) := hideT hfind
  clear hfind hm2
  go_wp2_with fail
  refine HF.out.mono ?_
  rintro e w5 ⟨tv', hs5, hF5, rfl⟩
  have q1 := hs5.cells.2.1
  have q9 := hs5.lt
  clear hs5
  have HF5 := hideT hF5
  clear hF5 HF
  go_upto_region 15 with fail
  go_quiet (fail)
  go_wp2
  have he : o = none ∧ h = c5 := by
   have h9 : some (none, c5) = some (o, h) := HM.out
   injection h9 with h9
   injection h9 with h1 h2
   exact ⟨h1.symm, h2.symm⟩
  obtain ⟨rfl, rfl⟩ := he
  refine bodyPost_ret (v := .tuple #[.slice none 0 0, .bool false, .int .i64 (hz h), .int .i64 0]) (by simp [results, go_sem]) rfl ⟨?_, _, rfl, World.ownsRow_nil _ _ _ _⟩
  exact HBW.out.1.trans ((HF5.out.below (by have := HBW.out; omega) HBW.out.1.size).trans (((Below.refl w.heap.size w5).alloc (Nat.le_trans HBW.out.1.size HF5.out.size) _).trans ⟨rfl, rfl, rfl, Nat.le_refl _, fun _ _ => rfl⟩))
 | some az =>
  obtain ⟨a0, z0⟩ := az
  have HM := hideT hm2
  have hm3 := find_rng (s.size + 1 - frm) frm (List.replicate s.size 0) 0 a0 z0 (by rw [bl_len]; have := HS.out.2.1; omega) (congrArg Prod.fst hR)
  rw [bl_len] at hm3
  have HF : Hid (Calls Tryz.prog 47 #[.pointer (some ⟨w4.heap.size, 0, none⟩), .pointer (some ⟨b, 0, none⟩), .int .i64 (frm : Nat)] Z fun e w' => ∃ tv', SrAt w' w4.heap.size s c5 tv' (.slice (some ⟨w3.heap.size, 0, none⟩) (n + 1) (n + 1)) ∧ Fs w4.heap.size Z w' ∧ e = .returned (.tuple #[.agg #[.int .i64 (a0 : Nat), .int .i64 (z0 : Nat)], .bool true])) := hideT hfind
  clear hfind hm2
  go_wp2_with fail
  refine HF.out.mono ?_
  rintro e w5 ⟨tv', hs5, hF5, rfl⟩
  have HR := hideT hm3
  clear hm3 HF
  go_upto_region 16 with fail
  have hBV : Below w5.heap.size w5 (w5.alloc (.cells #[.int .i64 (a0 : Nat), .int .i64 (z0 : Nat)] 30)) := (Below.refl _ _).alloc (Nat.le_refl _) _
  have hnV := heap_alloc_new w5 (.cells #[.int .i64 (a0 : Nat), .int .i64 (z0 : Nat)] 30)
  have hsV : SrAt (w5.alloc (.cells #[.int .i64 (a0 : Nat), .int .i64 (z0 : Nat)] 30)) w4.heap.size s c5 tv' (.slice (some ⟨w3.heap.size, 0, none⟩) (n + 1) (n + 1)) := (hBV.block _ hs5.lt).trans hs5
  have hzs := hF5.size
  have h34 : w3.heap.size < w4.heap.size := (owns_blk HQ.out.1 (g := w3.heap.size) rfl).2.1
  have hzz := HZ.out.1.size
  have hnum := HBW.out
  have hrowV : (w5.alloc (.cells #[.int .i64 (a0 : Nat), .int .i64 (z0 : Nat)] 30)).ownsRow w3.heap.size 30 2 (.slice (some ⟨w3.heap.size, 0, none⟩) (n + 1) (n + 1)) (n + 1) (spV (List.replicate (n + 1) (-1, -1))) := owns_keep HZ.out.2.2.2.2.2.2.2 fun g hg => by
   have hgz := (owns_blk HZ.out.2.2.2.2.2.2.2 hg).2.1
   have hg3 : g = w3.heap.size := by injection hg with h9; exact h9.symm
   exact (hBV.block g (by omega)).trans (hF5.same g hgz (by omega))
  generalize (w5.alloc (.cells #[.int .i64 (a0 : Nat), .int .i64 (z0 : Nat)] 30)) = V at *
  have hxl : (0 : Nat) < (List.replicate (n + 1) ((-1 : Int), (-1 : Int))).length := by simp
  have hx0 : (List.replicate (n + 1) ((-1 : Int), (-1 : Int)))[0]? = some (-1, -1) := by simp
  obtain ⟨v0, v1⟩ := spV_get hx0
  obtain ⟨u0, f0⟩ := owns_cell hrowV _ _ v0
  obtain ⟨u1, f1⟩ := owns_cell hrowV _ _ v1
  have o2 := owns_sp hrowV hxl ((a0 : Int), (z0 : Int))
  rw [Nat.zero_mul] at u0 f0 u1 f1 o2
  rw [Nat.zero_add] at u1 f1 o2
  have q3 := hsV.cells.2.2.2.1
  have n0 : V.cell? ⟨w5.heap.size, 0, none⟩ = some (.int .i64 (a0 : Nat)) := by simp [World.cell?, hnV]
  have n1 : V.cell? ⟨w5.heap.size, 1, none⟩ = some (.int .i64 (z0 : Nat)) := by simp [World.cell?, hnV]
  have i1 : (0 : Int) < ((n + 1 : Nat) : Int) := by omega
  have i3 : (0 : Int) < (n : Int) + 1 := by omega
  have fz : ∀ k, k ≠ w3.heap.size → ((V.setCell ⟨w3.heap.size, 0, none⟩ (.int .i64 (a0 : Nat))).setCell ⟨w3.heap.size, 1, none⟩ (.int .i64 (z0 : Nat))).heap[k]? = V.heap[k]? := fun k hk => setCells_far V w3.heap.size hk [.int .i64 (a0 : Nat), .int .i64 (z0 : Nat)] 0
  have hVs := hBV.size
  have hsr5 := hs5.lt
  have HV := hideT (And.intro hF5 (And.intro hBV (And.intro o2 (And.intro fz (And.intro hsV hnV)))))
  have HNUM := hideT (And.intro hzs (And.intro hzz (And.intro hnum (And.intro hVs (And.intro hsr5 h34)))))
  clear hF5 hBV o2 fz hsV hnV hs5 hrowV v0 v1 hxl hx0 hzs hzz hnum hVs hsr5 h34
  go_upto_region 17 with fail
  have hf2 := HV.out
  have hUs : ((V.setCell ⟨w3.heap.size, 0, none⟩ (.int .i64 (a0 : Nat))).setCell ⟨w3.heap.size, 1, none⟩ (.int .i64 (z0 : Nat))).heap.size = V.heap.size := by simp
  have hos : ((V.setCell ⟨w3.heap.size, 0, none⟩ (.int .i64 (a0 : Nat))).setCell ⟨w3.heap.size, 1, none⟩ (.int .i64 (z0 : Nat))).os = V.os ∧ ((V.setCell ⟨w3.heap.size, 0, none⟩ (.int .i64 (a0 : Nat))).setCell ⟨w3.heap.size, 1, none⟩ (.int .i64 (z0 : Nat))).tape = V.tape ∧ ((V.setCell ⟨w3.heap.size, 0, none⟩ (.int .i64 (a0 : Nat))).setCell ⟨w3.heap.size, 1, none⟩ (.int .i64 (z0 : Nat))).output = V.output := ⟨rfl, rfl, rfl⟩
  generalize ((V.setCell ⟨w3.heap.size, 0, none⟩ (.int .i64 (a0 : Nat))).setCell ⟨w3.heap.size, 1, none⟩ (.int .i64 (z0 : Nat))) = U at *
  obtain ⟨hF5, hBV, o2, fz, hsV, hnV⟩ := hf2
  obtain ⟨hzs, hzz, ⟨hBW, hW4, hS0, hS1⟩, hVs, hsr5, h34⟩ := HNUM.out
  obtain ⟨_, hB35, hpt, hSw, hTZ, hokp, hgrp, _⟩ := HZ.out
  have hkeep : ∀ k, k < Z.heap.size → k ≠ w4.heap.size → k ≠ w3.heap.size → U.heap[k]? = Z.heap[k]? := fun k h1 h2 h3 => (fz k h3).trans ((hBV.block k (by omega)).trans (hF5.same k h1 h2))
  have hptU : PtAt U (fun k => Y.heap.size ≤ k ∧ k < w3.heap.size) b (layT (catT ts)) := hpt.keep (fun k hk => hkeep k (by omega) (by omega) (by omega)) (fun _ h => h)
  have hTU : Tab U := hTZ.keep (hkeep 0 (by omega) (by omega) (by have := HY.out.2.pos; omega))
  have hst : StA w4.heap.size w3.heap.size (n + 1) (n + 1) s tv' U ((List.replicate (n + 1) (-1, -1)).set 0 ((a0 : Int), (z0 : Int)), c5) := ⟨(fz _ (by omega)).trans hsV, owns_mono o2 (Nat.zero_le _), by omega⟩
  have hnU := (fz w5.heap.size (by omega)).trans hnV
  have n0 : U.cell? ⟨w5.heap.size, 0, none⟩ = some (.int .i64 (a0 : Nat)) := by simp [World.cell?, hnU]
  have n1 : U.cell? ⟨w5.heap.size, 1, none⟩ = some (.int .i64 (z0 : Nat)) := by simp [World.cell?, hnU]
  obtain ⟨y, hy, hye⟩ := Option.map_eq_some_iff.1 (show Option.map (fun x => (some x.1, x.2)) (settle (bl s) f (layT (catT ts)) a0 z0 ((List.replicate (n + 1) (-1, -1)).set 0 ((a0 : Int), (z0 : Int)), c5)) = some (o, h) from HM.out)
  injection hye with hy1 hy2
  have hset := settle_ok (fun k => Y.heap.size ≤ k ∧ k < w3.heap.size) w4.heap.size w3.heap.size (n + 1) (n + 1) s tv' f U (layT (catT ts)) b a0 z0 _ y hy hokp hgrp hptU (fun g hg => ⟨by omega, by omega, by omega⟩) hTU (by have := HY.out.2.pos; omega) HR.out.2.1 HR.out.2.2 (by have := HS.out.1; omega) hst
  have HU := hideT (show Below w.heap.size w U ∧ w.heap.size ≤ w3.heap.size ∧ w3.heap.size ≤ w4.heap.size ∧ w4.heap.size < U.heap.size from ⟨hBW.trans ((hF5.below (by omega) hBW.size).trans ((hBV.mono (Nat.le_trans hBW.size hzs)).trans { os := hos.1, tape := hos.2.1, output := hos.2.2, size := by omega, block := fun k hk => fz k (by omega) })), hW4, hS1, by omega⟩)
  have HE := hideT (And.intro hy1 hy2)
  clear hkeep hptU hTU hst hnU hy hy1 hy2 hF5 hBV o2 fz hsV hnV hzs hzz hBW hW4 hS0 hS1 hVs hsr5 h34 hB35 hpt hSw hTZ hokp hgrp hUs hos u0 u1 f0 f1 q3
  go_wp2_with fail
  refine hset.mono ?_
  rintro e w6 ⟨⟨v, rfl⟩, hst6, hF6⟩
  have q1 := hst6.sr.cells.2.1
  have q3 := hst6.sr.cells.2.2.2.1
  have HT := hideT (And.intro hst6 hF6)
  clear hst6 hF6 hset n0 n1
  go_upto_region 18 with fail
  go_quiet (fail)
  go_wp2
  obtain ⟨hy1, hy2⟩ := HE.out
  subst hy1
  subst hy2
  refine bodyPost_ret (v := .tuple #[(.slice (some ⟨w3.heap.size, 0, none⟩) (n + 1) (n + 1)), .bool true, .int .i64 (hz y.2), .int .i64 0]) (by simp [results, go_sem]) rfl ⟨?_, _, rfl, ?_⟩
  · exact HU.out.1.trans ((HT.out.2.below (by have := HU.out; omega) (by have := HU.out; omega) (by have := HU.out; omega)).trans ⟨rfl, rfl, rfl, Nat.le_refl _, fun _ _ => rfl⟩)
  · have hr := HT.out.1.row
    have hl := HT.out.1.len
    show World.ownsRow _ _ _ _ _ y.1.length (spV y.1)
    rw [hl]
    exact owns_keep (owns_base hr HU.out.2.1) fun _ _ => rfl
end Go.Proofs.YtbekghinikjjeaaGreatDoor.smt
