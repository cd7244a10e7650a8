/- script: awake. -/
import Derived.Test.YtjfkhlmoppbbgaaGreatDoorKXz1
namespace Go.Proofs.YtjfkhlmoppbbgaaGreatDoor
open Go.RowKit
open scanP scrP tpl ytb

theorem Gl.below {w w' : World} (h : Gl w) (hb : Below w.heap.size w w') : Gl w' := (h.stay (Tch.of (F := fun _ => False) hb) (fun _ h => h.elim))
theorem wl_value {P : Program} {ops : Array Oper} {rest : List Oper} {op : Oper} {a : Act} {w w' : World} {Q : Exit → Act → World → Prop} {v : Value} (hgd : op.guard = none) (hx : (execOp a.eval op).run P w = .ok (.value v) w') (h : wpList P ops Q rest (a.put op.dst v) w') : wpList P ops Q (op :: rest) a w := by
  refine wpList_plain hgd fun K hK => ?_
  unfold Oper.wp
  rw [hx]
  exact hK _ _ h
theorem below_setCells {B : Nat} {X : World} (b : Nat) (hb : B ≤ b) : ∀ (vs : List Value) (W : World) (o : Nat), Below B X W → Below B X (W.setCells b o vs)
  | [], _, _, h => h
  | v :: vs, W, o, h => by
    rw [World.setCells]
    exact below_setCells b hb vs _ _ (h.setCell (p := ⟨b, o, none⟩) hb v)
theorem one_sz (w : World) (o : Obj) : (w.alloc o).heap.size = w.heap.size + 1 := Array.size_push _
theorem two_sz (w : World) (o p : Obj) : ((w.alloc o).alloc p).heap.size = w.heap.size + 1 + 1 := by rw [one_sz, one_sz]
set_option maxRecDepth 100000 in
set_option maxHeartbeats 1000000 in
theorem bld_aw {ev : Operand → Value} {op : Oper} {w : World} {bs : Option Addr} {n m : Nat} (x y z : Operand) (hc : ∀ v, ev (.const v) = v) (ho : op.op = .build 41 #[(0, .const (.int .i64 9)), (1, x), (2, y), (3, .const (.bool true)), (4, .const (.int .u8 115)), (8, .const (.string ⟨#[97]⟩)), (9, z), (10, .const (.int .i64 2)), (11, .const (.bool true)), (12, .const (.bool true))]) (hx : ev x = .agg #[.int .i64 1, .int .i64 2, .string ⟨#[]⟩]) (hy : ev y = .agg #[.int .i64 3, .int .i64 0, .string ⟨#[120]⟩]) (hz : ev z = .slice bs n m) : (execOp ev op).run Tryz.prog w = .ok (.value (.agg #[.int .i64 9, .int .i64 1, .int .i64 2, .string ⟨#[]⟩, .int .i64 3, .int .i64 0, .string ⟨#[120]⟩, .bool true, .int .u8 115, .string ⟨#[]⟩, .string ⟨#[]⟩, .string ⟨#[]⟩, .string ⟨#[97]⟩, .slice bs n m, .int .i64 2, .bool true, .bool true, .string ⟨#[]⟩, .string ⟨#[]⟩])) w := by
  obtain ⟨i0, hi, hz0, hz1, hz2⟩ := info_parts infoCo
  go_simp
  try rfl
theorem bld_as {a : Act} {op : Oper} {w : World} {bs : Option Addr} {n m : Nat} {xs : List Value} (hxs : Hid (xs = coV awC (.slice bs n m))) (x y z : Operand) (ho : op.op = .build 41 #[(0, .const (.int .i64 9)), (1, x), (2, y), (3, .const (.bool true)), (4, .const (.int .u8 115)), (8, .const (.string ⟨#[97]⟩)), (9, z), (10, .const (.int .i64 2)), (11, .const (.bool true)), (12, .const (.bool true))]) (hx : a.eval x = .agg #[.int .i64 1, .int .i64 2, .string ⟨#[]⟩]) (hy : a.eval y = .agg #[.int .i64 3, .int .i64 0, .string ⟨#[120]⟩]) (hz : a.eval z = .slice bs n m) : (execOp a.eval op).run Tryz.prog w = .ok (.value (.agg xs.toArray)) w := by
  rw [hxs.out]
  exact bld_aw x y z (fun _ => rfl) ho hx hy hz
set_option maxRecDepth 100000 in
set_option maxHeartbeats 2000000 in
theorem awake_any (w : World) (hg : Gl w) : Calls Tryz.prog 11 #[] w fun e w' => e = .returned (.bool true) ∧ Below w.heap.size w w' := by
  have H1 := hideT (aw_first w hg)
  have HG := hideT hg
  clear hg
  go_enter Tryz.func11, Tryz.ntmps11
  go_wp2_with fail
  refine H1.out.mono ?_
  rintro e w1 ⟨g, o, cp, pv, rfl, hR, hP, hb1⟩
  have hA1 := (Below.refl w1.heap.size w1).alloc (Nat.le_refl _) (.cells #[.int .i64 0, .int .i64 0] 25)
  have hN1 := heap_alloc_new w1 (.cells #[.int .i64 0, .int .i64 0] 25)
  have H2 := hideT (aw_next (w1.alloc (.cells #[.int .i64 0, .int .i64 0] 25)) ((HG.out.below hb1).below hA1))
  have K1 := hideT (And.intro hR (And.intro hP (And.intro hb1 (And.intro hA1 hN1))))
  clear hR hP hb1 hA1 hN1 H1
  go_wp2_with fail
  refine H2.out.mono ?_
  rintro e w2 ⟨v, rfl, hb2⟩
  obtain ⟨hR, hP, hb1, hA1, hN1⟩ := K1.out
  have hA2 := (Below.refl w2.heap.size w2).alloc (Nat.le_refl _) (.cells #[.int .i64 17, .int .i64 2] 25)
  have n1 := (hb2.block _ (blk_lt hN1)).trans hN1
  have n1' := (hA2.block _ (blk_lt n1)).trans n1
  have q0 : (w2.alloc (.cells #[.int .i64 17, .int .i64 2] 25)).cell? ⟨w1.heap.size, 0, none⟩ = some (.int .i64 0) := by simp only [World.cell?, n1']; rfl
  have hS : Below w1.heap.size w1 w2 := hA1.trans (hb2.mono hA1.size)
  have hS2 : Below w1.heap.size w1 (w2.alloc (.cells #[.int .i64 17, .int .i64 2] 25)) := hS.trans (hA2.mono hS.size)
  have hA3 := (Below.refl (w2.alloc (.cells #[.int .i64 17, .int .i64 2] 25)).heap.size (w2.alloc (.cells #[.int .i64 17, .int .i64 2] 25))).alloc (Nat.le_refl _) (.cells #[.int .i64 (-1), .string ⟨#[98]⟩] 47)
  have hN3 := heap_alloc_new (w2.alloc (.cells #[.int .i64 17, .int .i64 2] 25)) (.cells #[.int .i64 (-1), .string ⟨#[98]⟩] 47)
  rw [one_sz] at hN3
  have hS3 := hS2.trans (hA3.mono hS2.size)
  have e2 := two_sz w2 (.cells #[.int .i64 17, .int .i64 2] 25) (.cells #[.int .i64 (-1), .string ⟨#[98]⟩] 47)
  obtain ⟨xs, hxs⟩ : ∃ xs, xs = coV awC (.slice (some ⟨w2.heap.size + 1, 0, none⟩) 1 1) := ⟨_, rfl⟩
  have O9 := hideT (show xs.toArray.all (·.oneCell') = true by rw [hxs]; exact coV_one _ _ rfl)
  have IN9 := hideT (show (Tryz.prog.info? 41).map (·.size) = some xs.toArray.size by rw [hxs]; exact info_cmd)
  have hN4 := heap_alloc_new ((w2.alloc (.cells #[.int .i64 17, .int .i64 2] 25)).alloc (.cells #[.int .i64 (-1), .string ⟨#[98]⟩] 47)) (.cells #[.int .i64 0, .int .i64 0, .int .i64 0, .string ⟨#[]⟩, .int .i64 0, .int .i64 0, .string ⟨#[]⟩, .bool false, .int .u8 0, .string ⟨#[]⟩, .string ⟨#[]⟩, .string ⟨#[]⟩, .string ⟨#[]⟩, .slice none 0 0, .int .i64 0, .bool false, .bool false, .string ⟨#[]⟩, .string ⟨#[]⟩] 41)
  have hA4 := (Below.refl ((w2.alloc (.cells #[.int .i64 17, .int .i64 2] 25)).alloc (.cells #[.int .i64 (-1), .string ⟨#[98]⟩] 47)).heap.size ((w2.alloc (.cells #[.int .i64 17, .int .i64 2] 25)).alloc (.cells #[.int .i64 (-1), .string ⟨#[98]⟩] 47))).alloc (Nat.le_refl _) (.cells #[.int .i64 0, .int .i64 0, .int .i64 0, .string ⟨#[]⟩, .int .i64 0, .int .i64 0, .string ⟨#[]⟩, .bool false, .int .u8 0, .string ⟨#[]⟩, .string ⟨#[]⟩, .string ⟨#[]⟩, .string ⟨#[]⟩, .slice none 0 0, .int .i64 0, .bool false, .bool false, .string ⟨#[]⟩, .string ⟨#[]⟩] 41)
  rw [e2] at hN4
  have TH9 := there_block (cs := [.int .i64 0, .int .i64 0, .int .i64 0, .string ⟨#[]⟩, .int .i64 0, .int .i64 0, .string ⟨#[]⟩, .bool false, .int .u8 0, .string ⟨#[]⟩, .string ⟨#[]⟩, .string ⟨#[]⟩, .string ⟨#[]⟩, .slice none 0 0, .int .i64 0, .bool false, .bool false, .string ⟨#[]⟩, .string ⟨#[]⟩]) hN4 19 rfl
  have hlen : xs.toArray.size = 19 := by rw [hxs]; rfl
  rw [← hlen] at TH9
  have TH9 := hideT TH9
  have hn4 := setCells_whole (cs := [.int .i64 0, .int .i64 0, .int .i64 0, .string ⟨#[]⟩, .int .i64 0, .int .i64 0, .string ⟨#[]⟩, .bool false, .int .u8 0, .string ⟨#[]⟩, .string ⟨#[]⟩, .string ⟨#[]⟩, .string ⟨#[]⟩, .slice none 0 0, .int .i64 0, .bool false, .bool false, .string ⟨#[]⟩, .string ⟨#[]⟩]) xs hN4 (by rw [hxs]; rfl)
  have hS4 := below_setCells (w2.heap.size + 1 + 1) (by rw [e2]; exact Nat.le_refl _) xs _ 0 hA4
  have hS5 := hS3.trans (hS4.mono hS3.size)
  have hn3 := (hS4.block (w2.heap.size + 1) (by rw [e2]; omega)).trans hN3
  have K2 := hideT (And.intro (range_keep hR (hS5.block g (range_lt hR))) (And.intro (hP.stay hS5 (Nat.le_refl _)) (And.intro (hb1.trans (hS5.mono hb1.size)) (And.intro hn3 hn4))))
  have HX := hideT hxs
  clear hR hP hb1 hA1 hN1 hA2 n1 n1' hS hS2 hS3 hS4 hS5 hA3 hA4 hN3 hN4 hn3 hn4 hb2 K1 H2 HG e2 hlen hxs
  go_wp2_with (first | (refine wl_value rfl (bld_as HX _ _ _ rfl rfl rfl rfl) ?_) | (refine wpList_store_mid rfl 41 _ _ rfl (w2.heap.size + 1 + 1) 0 xs.toArray rfl rfl TH9.out IN9.out O9.out ?_))
  revert K2
  generalize World.setCells _ (w2.heap.size + 1 + 1) 0 xs = W6
  intro K2
  obtain ⟨r1, r2, r3, r4, r5⟩ := K2.out
  have e9 := HX.out
  have r6 : W6.rangeAt (w2.heap.size + 1 + 1) 0 (coV awC (.slice (some ⟨w2.heap.size + 1, 0, none⟩) 1 1)) := by rw [← e9]; exact range_block r5
  have p2 : PRow W6 (.slice (some ⟨w2.heap.size + 1, 0, none⟩) 1 1) awC.ps := .inr ⟨w2.heap.size + 1, 0, 1, rfl, fun i hi => by
    have hi0 : i = 0 := Nat.lt_one_iff.1 hi
    subst hi0
    exact ⟨by simp [World.cell?, r4]; rfl, by simp [World.cell?, r4]; rfl⟩⟩
  have s0 : Below W6.heap.size W6 W6.drew := (Below.refl _ _).drew
  have HS := hideT (same_cmd awC pv (.slice (some ⟨w2.heap.size + 1, 0, none⟩) 1 1) W6.drew (r2.stay s0 (Nat.le_refl _)) (p2.stay s0 (Nat.le_refl _)) (by decide))
  have HR1 := hideT (fun (V : World) (hV : Below W6.heap.size W6 V) => range_keep r1 (hV.block g (range_lt r1)))
  have HR2 := hideT (fun (V : World) (hV : Below W6.heap.size W6 V) => range_keep r6 (hV.block _ (range_lt r6)))
  have HB := hideT r3
  clear r1 r2 r3 r4 r5 r6 p2 K2 e9 HX O9 IN9 TH9 q0
  refine wp_region_held (S := fun V => Below W6.heap.size W6 V) (by kernel_rfl) ?_
  refine' take_d 0 (some 40) rfl rfl (by kernel_rfl) (by kernel_rfl) (by kernel_rfl) (fun _ _ _ h => h) (wanted_none rfl _) s0 ?tk1 ?rs1
  case tk1 => intro V hV; go_simp; (try with_reducible rfl)
  refine' take_d 1 (some 41) rfl rfl (by kernel_rfl) (by kernel_rfl) (by kernel_rfl) (fun _ _ _ h => h) (wanted_none rfl _) s0 ?tk2 ?rs2
  case tk2 => intro V hV; go_simp; (try with_reducible rfl)
  simp only [Act.put, List.setIfInBounds_toArray, List.set_cons_zero, List.set_cons_succ]
  refine' take_d 2 (some 42) rfl rfl (by kernel_rfl) (by kernel_rfl) (by kernel_rfl) (fun _ _ _ h => h) (wanted_none rfl _) s0 ?tk3 ?rs3
  case tk3 => intro V hV; exact load_yield rfl rfl (HR1.out V hV)
  simp only [Act.put, List.setIfInBounds_toArray, List.set_cons_zero, List.set_cons_succ]
  refine' take_d 3 (some 43) rfl rfl (by kernel_rfl) (by kernel_rfl) (by kernel_rfl) (fun _ _ _ h => h) (wanted_none rfl _) s0 ?tk4 ?rs4
  case tk4 => intro V hV; exact load_yield rfl rfl (HR2.out V hV)
  simp only [Act.put, List.setIfInBounds_toArray, List.set_cons_zero, List.set_cons_succ]
  refine wpAnyH_all (rs := [4]) (by kernel_rfl) (by simp) (fun i hi => ?_)
  obtain rfl : i = 4 := List.mem_singleton.1 hi
  refine op_call (some 44) rfl rfl (wanted_none rfl _) (by go_simp; (try with_reducible rfl)) (R := fun v w' => v = .bool true ∧ Below W6.heap.size W6 w') (HS.out.mono (fun e w' h => ⟨_, h.1, rfl, s0.trans (h.2.mono s0.size)⟩)) ?_
  rintro v8 w8 ⟨rfl, hb8⟩
  refine And.intro hb8 ?_
  refine' take_d 5 (some 0) rfl rfl (by kernel_rfl) (by kernel_rfl) (by kernel_rfl) (fun _ _ _ h => h) (wanted_none rfl _) hb8 ?tk5 ?rs5
  case tk5 => intro V hV; go_simp; (try with_reducible rfl)
  refine wpAnyH_done (by kernel_rfl) ?_ _
  simp only [Act.put, List.setIfInBounds_toArray, List.set_cons_zero, List.set_cons_succ]
  have HF := hideT (HB.out.trans (hb8.mono HB.out.size))
  clear hb8 s0 HS HR1 HR2
  go_wp2
  go_ret
  exact ⟨rfl, HF.out⟩
end Go.Proofs.YtjfkhlmoppbbgaaGreatDoor
