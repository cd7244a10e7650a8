/- bre: Same, of a tree and its like. -/
import Derived.Test.YtemgfbidfdhanaaDoorKQf
import Derived.Deep.Cut
import Derived.Lib.QuietBelow
import Derived.Deep.QuietTactic
import Derived.Handy
namespace Go.Proofs.YtemgfbidfdhanaaDoor
open Go.RowKit
open Go.Sort

set_option maxRecDepth 100000 in
set_option maxHeartbeats 4000000 in
theorem same_walk (kd : Nat) (q : Nat → Bool) (lo hi : Int) (gp : Nat) (ks : List Tr) (hlen : ks.length ≤ 1000000) (ih : ∀ x ∈ ks, ∀ (w : World) (ok ok2 : Nat → Prop) (a a2 : Option Addr) (n c n2 c2 : Nat), Kids w ok (.slice a n c) x.kids → Kids w ok2 (.slice a2 n2 c2) x.kids → Calls Tryd.prog 7 #[nodeA x (.slice a n c), nodeA x (.slice a2 n2 c2)] w fun e w' => e = .returned (.bool true) ∧ Below w.heap.size w w')
    (w : World) (ok ok2 : Nat → Prop) (a a2 : Option Addr) (c c2 : Nat) (hk : Kids w ok (.slice a ks.length c) ks) (hk2 : Kids w ok2 (.slice a2 ks.length c2) ks) :
    Calls Tryd.prog 7 #[.agg #[.int .i64 (kd : Nat), .int .u64 (wd q 0 : Nat), .int .u64 (wd q 1 : Nat), .int .u64 (wd q 2 : Nat), .int .u64 (wd q 3 : Nat), .int .i64 lo, .int .i64 hi, .int .i64 (gp : Nat), .slice a ks.length c], .agg #[.int .i64 (kd : Nat), .int .u64 (wd q 0 : Nat), .int .u64 (wd q 1 : Nat), .int .u64 (wd q 2 : Nat), .int .u64 (wd q 3 : Nat), .int .i64 lo, .int .i64 hi, .int .i64 (gp : Nat), .slice a2 ks.length c2]] w fun e w' => e = .returned (.bool true) ∧ Below w.heap.size w w' := by
  have hneq : ∀ w, (binOp .neq 24 (.agg #[.int .u64 (wd q 0 : Nat), .int .u64 (wd q 1 : Nat), .int .u64 (wd q 2 : Nat), .int .u64 (wd q 3 : Nat)]) (.agg #[.int .u64 (wd q 0 : Nat), .int .u64 (wd q 1 : Nat), .int .u64 (wd q 2 : Nat), .int .u64 (wd q 3 : Nat)])).run Tryd.prog w = .ok (.bool false) w := fun w => by rw [run_neq_set, eqB_of (fun _ _ => rfl)]; rfl
  have HA := hideT (And.intro hk (And.intro hk2 ih))
  clear hk hk2 ih
  go_enter Tryd.func7, Tryd.ntmps7
  go_upto_region 1 with fail
  obtain ⟨X, hX⟩ : ∃ X, X = (w.alloc (.cells #[.int .i64 (kd : Nat), .int .u64 (wd q 0 : Nat), .int .u64 (wd q 1 : Nat), .int .u64 (wd q 2 : Nat), .int .u64 (wd q 3 : Nat), .int .i64 lo, .int .i64 hi, .int .i64 (gp : Nat), .slice a ks.length c] 27)).alloc (.cells #[.int .i64 (kd : Nat), .int .u64 (wd q 0 : Nat), .int .u64 (wd q 1 : Nat), .int .u64 (wd q 2 : Nat), .int .u64 (wd q 3 : Nat), .int .i64 lo, .int .i64 hi, .int .i64 (gp : Nat), .slice a2 ks.length c2] 27) := ⟨_, rfl⟩
  have xb1 : X.heap[w.heap.size]? = some (.cells #[.int .i64 (kd : Nat), .int .u64 (wd q 0 : Nat), .int .u64 (wd q 1 : Nat), .int .u64 (wd q 2 : Nat), .int .u64 (wd q 3 : Nat), .int .i64 lo, .int .i64 hi, .int .i64 (gp : Nat), .slice a ks.length c] 27 (0, 0)) := by
    rw [hX, Below.heap_alloc _ _ _ (by simp only [World.size_alloc]; omega)]
    exact heap_alloc_new w _
  have xb2 : X.heap[w.heap.size + 1]? = some (.cells #[.int .i64 (kd : Nat), .int .u64 (wd q 0 : Nat), .int .u64 (wd q 1 : Nat), .int .u64 (wd q 2 : Nat), .int .u64 (wd q 3 : Nat), .int .i64 lo, .int .i64 hi, .int .i64 (gp : Nat), .slice a2 ks.length c2] 27 (0, 0)) := by
    rw [hX, ← World.size_alloc w (.cells #[.int .i64 (kd : Nat), .int .u64 (wd q 0 : Nat), .int .u64 (wd q 1 : Nat), .int .u64 (wd q 2 : Nat), .int .u64 (wd q 3 : Nat), .int .i64 lo, .int .i64 hi, .int .i64 (gp : Nat), .slice a ks.length c] 27)]
    exact heap_alloc_new _ _
  have hBX : Below w.heap.size w X := by
    rw [hX]
    exact ((Below.refl _ _).alloc (Nat.le_refl _) _).alloc (by rw [World.size_alloc]; omega) _
  rw [← hX]
  clear hX
  have z0 : X.cell? ⟨w.heap.size, 0, none⟩ = some (.int .i64 (kd : Nat)) := by simp [World.cell?, xb1]
  have z1 : X.cell? ⟨w.heap.size, 1, none⟩ = some (.int .u64 (wd q 0 : Nat)) := by simp [World.cell?, xb1]
  have z2 : X.cell? ⟨w.heap.size, 2, none⟩ = some (.int .u64 (wd q 1 : Nat)) := by simp [World.cell?, xb1]
  have z3 : X.cell? ⟨w.heap.size, 3, none⟩ = some (.int .u64 (wd q 2 : Nat)) := by simp [World.cell?, xb1]
  have z4 : X.cell? ⟨w.heap.size, 4, none⟩ = some (.int .u64 (wd q 3 : Nat)) := by simp [World.cell?, xb1]
  have z5 : X.cell? ⟨w.heap.size, 5, none⟩ = some (.int .i64 lo) := by simp [World.cell?, xb1]
  have z6 : X.cell? ⟨w.heap.size, 6, none⟩ = some (.int .i64 hi) := by simp [World.cell?, xb1]
  have z7 : X.cell? ⟨w.heap.size, 7, none⟩ = some (.int .i64 (gp : Nat)) := by simp [World.cell?, xb1]
  have z8 : X.cell? ⟨w.heap.size, 8, none⟩ = some (.slice a ks.length c) := by simp [World.cell?, xb1]
  have y0 : X.cell? ⟨w.heap.size + 1, 0, none⟩ = some (.int .i64 (kd : Nat)) := by simp [World.cell?, xb2]
  have y1 : X.cell? ⟨w.heap.size + 1, 1, none⟩ = some (.int .u64 (wd q 0 : Nat)) := by simp [World.cell?, xb2]
  have y2 : X.cell? ⟨w.heap.size + 1, 2, none⟩ = some (.int .u64 (wd q 1 : Nat)) := by simp [World.cell?, xb2]
  have y3 : X.cell? ⟨w.heap.size + 1, 3, none⟩ = some (.int .u64 (wd q 2 : Nat)) := by simp [World.cell?, xb2]
  have y4 : X.cell? ⟨w.heap.size + 1, 4, none⟩ = some (.int .u64 (wd q 3 : Nat)) := by simp [World.cell?, xb2]
  have y5 : X.cell? ⟨w.heap.size + 1, 5, none⟩ = some (.int .i64 lo) := by simp [World.cell?, xb2]
  have y6 : X.cell? ⟨w.heap.size + 1, 6, none⟩ = some (.int .i64 hi) := by simp [World.cell?, xb2]
  have y7 : X.cell? ⟨w.heap.size + 1, 7, none⟩ = some (.int .i64 (gp : Nat)) := by simp [World.cell?, xb2]
  have y8 : X.cell? ⟨w.heap.size + 1, 8, none⟩ = some (.slice a2 ks.length c2) := by simp [World.cell?, xb2]
  have HX := hideT (And.intro xb1 (And.intro xb2 hBX))
  clear xb1 xb2 hBX
  go_wp2_with fail
  go_loopw [5] (fun iv wr => ∃ k : Nat, k ≤ ks.length ∧ iv = .int .i64 k ∧ wr.heap[w.heap.size]? = some (.cells #[.int .i64 (kd : Nat), .int .u64 (wd q 0 : Nat), .int .u64 (wd q 1 : Nat), .int .u64 (wd q 2 : Nat), .int .u64 (wd q 3 : Nat), .int .i64 lo, .int .i64 hi, .int .i64 (gp : Nat), .slice a ks.length c] 27 (0, 0)) ∧ wr.heap[w.heap.size + 1]? = some (.cells #[.int .i64 (kd : Nat), .int .u64 (wd q 0 : Nat), .int .u64 (wd q 1 : Nat), .int .u64 (wd q 2 : Nat), .int .u64 (wd q 3 : Nat), .int .i64 lo, .int .i64 hi, .int .i64 (gp : Nat), .slice a2 ks.length c2] 27 (0, 0)) ∧ Below w.heap.size w wr) (fun iv _ => (ks.length - intOf iv).toNat)
  case atStart => exact ⟨0, by omega, rfl, HX.out⟩
  case round =>
    clear HX z0 y0 z1 y1 z2 y2 z3 y3 z4 y4 z5 y5 z6 y6 z7 y7 z8 y8
    obtain ⟨k, hk1, rfl, gb1, gb2, gB⟩ := hrel
    have z8 : wr.cell? ⟨w.heap.size, 8, none⟩ = some (.slice a ks.length c) := by simp [World.cell?, gb1]
    have y8 : wr.cell? ⟨w.heap.size + 1, 8, none⟩ = some (.slice a2 ks.length c2) := by simp [World.cell?, gb2]
    by_cases hlt : k < ks.length
    · obtain ⟨g, c', u, he, _, _, hcell, hku⟩ := kids_at (kids_below HA.out.1 gB) (i := k) (List.getElem?_eq_getElem hlt)
      obtain rfl : a = some ⟨g, 0, none⟩ := by injection he
      obtain ⟨ua, uc, rfl⟩ := kids_shape hku
      obtain ⟨g2, c2', u2, he2, _, _, hcell2, hku2⟩ := kids_at (kids_below HA.out.2.1 gB) (i := k) (List.getElem?_eq_getElem hlt)
      obtain rfl : a2 = some ⟨g2, 0, none⟩ := by injection he2
      obtain ⟨ua2, uc2, rfl⟩ := kids_shape hku2
      have hic : ∀ d os, Calls Tryd.prog 7 #[nodeA ks[k] (.slice ua ks[k].kids.length uc), nodeA ks[k] (.slice ua2 ks[k].kids.length uc2)] (grow (redrawn wr d) os) fun e w'' => e = .returned (.bool true) ∧ ∃ p : Regrown, w'' = grow (redrawn wr p.d) p.os := fun d os => Calls.regrown_of (HA.out.2.2 ks[k] (List.getElem_mem hlt) _ ok ok2 ua ua2 _ uc _ uc2 (kids_below hku (below_regrown wr d os)) (kids_below hku2 (below_regrown wr d os)))
      have z8 := fun d os => cell_regrown z8 d os
      have y8 := fun d os => cell_regrown y8 d os
      have p0 := fun d os => cell_regrown (hcell 0 _ rfl).1 d os
      have r0 := fun d os => cell_regrown (hcell2 0 _ rfl).1 d os
      have p1 := fun d os => cell_regrown (hcell 1 _ rfl).1 d os
      have r1 := fun d os => cell_regrown (hcell2 1 _ rfl).1 d os
      have p2 := fun d os => cell_regrown (hcell 2 _ rfl).1 d os
      have r2 := fun d os => cell_regrown (hcell2 2 _ rfl).1 d os
      have p3 := fun d os => cell_regrown (hcell 3 _ rfl).1 d os
      have r3 := fun d os => cell_regrown (hcell2 3 _ rfl).1 d os
      have p4 := fun d os => cell_regrown (hcell 4 _ rfl).1 d os
      have r4 := fun d os => cell_regrown (hcell2 4 _ rfl).1 d os
      have p5 := fun d os => cell_regrown (hcell 5 _ rfl).1 d os
      have r5 := fun d os => cell_regrown (hcell2 5 _ rfl).1 d os
      have p6 := fun d os => cell_regrown (hcell 6 _ rfl).1 d os
      have r6 := fun d os => cell_regrown (hcell2 6 _ rfl).1 d os
      have p7 := fun d os => cell_regrown (hcell 7 _ rfl).1 d os
      have r7 := fun d os => cell_regrown (hcell2 7 _ rfl).1 d os
      have p8 := fun d os => cell_regrown (hcell 8 _ rfl).1 d os
      have r8 := fun d os => cell_regrown (hcell2 8 _ rfl).1 d os
      simp only [Nat.add_zero] at p0 r0
      have k3 : (k : Int) < (ks.length : Int) := by omega
      have k4 : (0 : Int) ≤ (k : Int) := by omega
      have k5 : IntKind.i64.wrap ((k : Int) + 1) = (k : Int) + 1 := by rw [IntKind.wrap_i64]; omega
      have HC := hideT (And.intro hic (And.intro gb1 (And.intro gb2 gB)))
      clear hcell hku he hcell2 hku2 he2 hic gb1 gb2 gB
      go_wp2_with fail
      refine wp_region_quiet_below (by kernel_rfl) (by kernel_rfl) ?_
      repeat (quiet_step (with_reducible exact HC.out.1 _ _))
      refine wpQuiet_nil ?_
      intro _ hw'
      obtain ⟨⟨dq, osq⟩, hw''⟩ := hw'
      subst hw''
      have hbr := below_regrown wr dq osq
      have HD := hideT (And.intro ((hbr.block _ (Array.getElem?_eq_some_iff.1 HC.out.2.1).1).trans HC.out.2.1) (And.intro ((hbr.block _ (Array.getElem?_eq_some_iff.1 HC.out.2.2.1).1).trans HC.out.2.2.1) (HC.out.2.2.2.trans (hbr.mono HC.out.2.2.2.size))))
      clear hbr z8 y8 p0 r0 p1 r1 p2 r2 p3 r3 p4 r4 p5 r5 p6 r6 p7 r7 p8 r8
      go_wp2
      exact ⟨⟨k + 1, by omega, by go_num, HD.out.1, HD.out.2.1, HD.out.2.2⟩, by simp [intOf]; omega⟩
    · obtain rfl : k = ks.length := by omega
      have k3 : ¬ (ks.length : Int) < (ks.length : Int) := by omega
      have HB := hideT gB
      clear gb1 gb2 gB
      go_wp2
      go_ret
      exact ⟨rfl, HB.out⟩

theorem same_any : ∀ (m : Nat) (t : Tr), SizeOf.sizeOf t < m → smallT t → ∀ (w : World) (ok ok2 : Nat → Prop) (a a2 : Option Addr) (n c n2 c2 : Nat), Kids w ok (.slice a n c) t.kids → Kids w ok2 (.slice a2 n2 c2) t.kids → Calls Tryd.prog 7 #[nodeA t (.slice a n c), nodeA t (.slice a2 n2 c2)] w fun e w' => e = .returned (.bool true) ∧ Below w.heap.size w w'
  | 0, t, h, _, _, _, _, _, _, _, _, _, _, _, _ => absurd h (Nat.not_lt_zero _)
  | m + 1, t, h, hsm, w, ok, ok2, a, a2, n, c, n2, c2, hk, hk2 => by
    have hn : n = t.kids.length := by
      obtain ⟨a', c', he⟩ := kids_shape hk
      injection he
    have hn2 : n2 = t.kids.length := by
      obtain ⟨a', c', he⟩ := kids_shape hk2
      injection he
    subst hn hn2
    have ih := fun x hx => same_any m x (by have := kids_size (t := t) hx; omega) (small_mem _ (smallT_pos t hsm).2.2.2 x hx)
    have hl := (smallT_pos t hsm).2.2.1.2
    obtain ⟨kd, q, lo, hi, gp, ks⟩ := t
    exact same_walk kd q lo hi gp ks hl ih w ok ok2 a a2 c c2 hk hk2
end Go.Proofs.YtemgfbidfdhanaaDoor
