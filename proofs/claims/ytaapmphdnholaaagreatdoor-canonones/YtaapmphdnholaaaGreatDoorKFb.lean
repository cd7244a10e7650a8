/- bre: Same, of any two trees. -/
import Derived.Test.YtaapmphdnholaaaGreatDoorKWx
import Derived.Test.YtaapmphdnholaaaGreatDoorKCy
import Derived.Test.YtaapmphdnholaaaGreatDoorKDp
set_option maxRecDepth 100000
set_option maxHeartbeats 4000000
namespace Go.Proofs.YtaapmphdnholaaaGreatDoor
open Go.RowKit
open Go.Sort
mutual
def smT : Tr → Tr → Bool
 | .mk k q lo hi g ks, .mk k' q' lo' hi' g' ks' => decide (k = k') && eqB q q' && decide (lo = lo') && decide (hi = hi') && decide (g = g') && smL ks ks'
def smL : List Tr → List Tr → Bool
 | [], [] => true
 | t :: ts, u :: us => smT t u && smL ts us
 | _, _ => false
end
theorem nfq_eqB (q q' : Nat → Bool) : eqB q q' = true ↔ nfq q = nfq q' := by
 rw [xff]
 constructor
 ·intro h
  funext n
  unfold nfq
  by_cases c : n < 256
  ·rw [h n c]
  ·rw [decide_eq_false c, Bool.and_false, Bool.and_false]
 ·intro h n hn
  have := congrFun h n
  unfold nfq at this
  rwa [decide_eq_true hn, Bool.and_true, Bool.and_true] at this
mutual
theorem xth : ∀ t u : Tr, smT t u = true ↔ nfT t = nfT u
 | .mk k q lo hi g ks, .mk k' q' lo' hi' g' ks' => by
  simp only [smT, nfT, Bool.and_eq_true, decide_eq_true_eq, Tr.mk.injEq, nfq_eqB, xti ks ks', and_assoc]
theorem xti : ∀ ts us : List Tr, smL ts us = true ↔ nfL ts = nfL us
 | [], [] => by simp [smL, nfL]
 | [], _ :: _ => by simp [smL, nfL]
 | _ :: _, [] => by simp [smL, nfL]
 | t :: ts, u :: us => by simp only [smL, nfL, Bool.and_eq_true, xth t u, xti ts us, List.cons.injEq]
end
theorem xtj : ∀ ts us : List Tr, ts.length ≠ us.length → smL ts us = false
 | [], [], h => absurd rfl h
 | [], _ :: _, _ => rfl
 | _ :: _, [], _ => rfl
 | t :: ts, u :: us, h => by
  rw [smL, xtj ts us (fun e => h (by simp [e])), Bool.and_false]
theorem smL_at : ∀ (ts us : List Tr) (i : Nat) (h1 : i < ts.length) (h2 : i < us.length), smT ts[i] us[i] = false → smL ts us = false
 | [], _, _, h1, _, _ => absurd h1 (Nat.not_lt_zero _)
 | _ :: _, [], _, _, h2, _ => absurd h2 (Nat.not_lt_zero _)
 | t :: ts, u :: us, 0, _, _, h => by
  simp only [List.getElem_cons_zero] at h
  rw [smL, h, Bool.false_and]
 | t :: ts, u :: us, i + 1, h1, h2, h => by
  simp only [List.getElem_cons_succ] at h
  rw [smL, smL_at ts us i (by simpa using h1) (by simpa using h2) h, Bool.and_false]
theorem xtk : ∀ (ts us : List Tr), ts.length = us.length → (∀ (i : Nat) (h1 : i < ts.length) (h2 : i < us.length), smT ts[i] us[i] = true) → smL ts us = true
 | [], [], _, _ => rfl
 | [], _ :: _, h, _ => by simp at h
 | _ :: _, [], h, _ => by simp at h
 | t :: ts, u :: us, h, hi => by
  rw [smL, Bool.and_eq_true]
  exact ⟨hi 0 (by simp) (by simp), xtk ts us (by simpa using h) (fun i h1 h2 => by
   have h3 := hi (i + 1) (by simpa using h1) (by simpa using h2)
   simp only [List.getElem_cons_succ] at h3
   exact h3)⟩
theorem xtl (kd : Nat) (q : Nat → Bool) (lo : Int) (hi : Int) (gp : Nat) (kd2 : Nat) (q2 : Nat → Bool) (lo2 : Int) (hi2 : Int) (gp2 : Nat) (a a2 : Option Addr) (m c m2 c2 : Nat) (h : kd ≠ kd2) (w : World) : Calls Tryz.prog 9 #[.agg #[.int .i64 kd, .int .u64 (wd q 0), .int .u64 (wd q 1), .int .u64 (wd q 2), .int .u64 (wd q 3), .int .i64 lo, .int .i64 hi, .int .i64 gp, .slice a m c], .agg #[.int .i64 kd2, .int .u64 (wd q2 0), .int .u64 (wd q2 1), .int .u64 (wd q2 2), .int .u64 (wd q2 3), .int .i64 lo2, .int .i64 hi2, .int .i64 gp2, .slice a2 m2 c2]] w fun e w' => e = .returned (.bool false) ∧ Below w.heap.size w w' := by
 have k1 : ((kd : Int) != (kd2 : Int)) = true := by rw [bne_iff_ne]; omega
 have k2 : ((kd : Int) == (kd2 : Int)) = false := by rw [beq_eq_false_iff_ne]; omega
 clear h
 go_enter Tryz.func9, Tryz.ntmps9
 go_upto_region 1 with fail
 obtain ⟨X, hX⟩ : ∃ X, X = (w.alloc (.cells #[.int .i64 kd, .int .u64 (wd q 0), .int .u64 (wd q 1), .int .u64 (wd q 2), .int .u64 (wd q 3), .int .i64 lo, .int .i64 hi, .int .i64 gp, .slice a m c] 36)).alloc (.cells #[.int .i64 kd2, .int .u64 (wd q2 0), .int .u64 (wd q2 1), .int .u64 (wd q2 2), .int .u64 (wd q2 3), .int .i64 lo2, .int .i64 hi2, .int .i64 gp2, .slice a2 m2 c2] 36) := ⟨_, rfl⟩
 have xb1 : X.heap[w.heap.size]? = some (.cells #[.int .i64 kd, .int .u64 (wd q 0), .int .u64 (wd q 1), .int .u64 (wd q 2), .int .u64 (wd q 3), .int .i64 lo, .int .i64 hi, .int .i64 gp, .slice a m c] 36) := by
  rw [hX, Below.heap_alloc _ _ _ (by simp only [World.size_alloc]; omega)]
  exact heap_alloc_new w _
 have xb2 : X.heap[w.heap.size + 1]? = some (.cells #[.int .i64 kd2, .int .u64 (wd q2 0), .int .u64 (wd q2 1), .int .u64 (wd q2 2), .int .u64 (wd q2 3), .int .i64 lo2, .int .i64 hi2, .int .i64 gp2, .slice a2 m2 c2] 36) := by
  rw [hX, ← World.size_alloc w (.cells #[.int .i64 kd, .int .u64 (wd q 0), .int .u64 (wd q 1), .int .u64 (wd q 2), .int .u64 (wd q 3), .int .i64 lo, .int .i64 hi, .int .i64 gp, .slice a m c] 36)]
  exact heap_alloc_new _ _
 have hBX : Below w.heap.size w X := by
  rw [hX]
  exact ((Below.refl _ _).alloc (Nat.le_refl _) _).alloc (by rw [World.size_alloc]; omega) _
 rw [← hX]
 clear hX
 have z0 : X.cell? ⟨w.heap.size, 0, none⟩ = some (.int .i64 kd) := by simp [World.cell?, xb1]
 have z1 : X.cell? ⟨w.heap.size, 1, none⟩ = some (.int .u64 (wd q 0)) := by simp [World.cell?, xb1]
 have z2 : X.cell? ⟨w.heap.size, 2, none⟩ = some (.int .u64 (wd q 1)) := by simp [World.cell?, xb1]
 have z3 : X.cell? ⟨w.heap.size, 3, none⟩ = some (.int .u64 (wd q 2)) := by simp [World.cell?, xb1]
 have z4 : X.cell? ⟨w.heap.size, 4, none⟩ = some (.int .u64 (wd q 3)) := by simp [World.cell?, xb1]
 have z5 : X.cell? ⟨w.heap.size, 5, none⟩ = some (.int .i64 lo) := by simp [World.cell?, xb1]
 have z6 : X.cell? ⟨w.heap.size, 6, none⟩ = some (.int .i64 hi) := by simp [World.cell?, xb1]
 have z7 : X.cell? ⟨w.heap.size, 7, none⟩ = some (.int .i64 gp) := by simp [World.cell?, xb1]
 have z8 : X.cell? ⟨w.heap.size, 8, none⟩ = some (.slice a m c) := by simp [World.cell?, xb1]
 have y0 : X.cell? ⟨w.heap.size + 1, 0, none⟩ = some (.int .i64 kd2) := by simp [World.cell?, xb2]
 have y1 : X.cell? ⟨w.heap.size + 1, 1, none⟩ = some (.int .u64 (wd q2 0)) := by simp [World.cell?, xb2]
 have y2 : X.cell? ⟨w.heap.size + 1, 2, none⟩ = some (.int .u64 (wd q2 1)) := by simp [World.cell?, xb2]
 have y3 : X.cell? ⟨w.heap.size + 1, 3, none⟩ = some (.int .u64 (wd q2 2)) := by simp [World.cell?, xb2]
 have y4 : X.cell? ⟨w.heap.size + 1, 4, none⟩ = some (.int .u64 (wd q2 3)) := by simp [World.cell?, xb2]
 have y5 : X.cell? ⟨w.heap.size + 1, 5, none⟩ = some (.int .i64 lo2) := by simp [World.cell?, xb2]
 have y6 : X.cell? ⟨w.heap.size + 1, 6, none⟩ = some (.int .i64 hi2) := by simp [World.cell?, xb2]
 have y7 : X.cell? ⟨w.heap.size + 1, 7, none⟩ = some (.int .i64 gp2) := by simp [World.cell?, xb2]
 have y8 : X.cell? ⟨w.heap.size + 1, 8, none⟩ = some (.slice a2 m2 c2) := by simp [World.cell?, xb2]
 have HX := xab hBX
 clear xb1 xb2 hBX
 go_wp2
 go_ret
 exact ⟨rfl, HX.out⟩
theorem same_set (kd : Nat) (q : Nat → Bool) (lo : Int) (hi : Int) (gp : Nat) (q2 : Nat → Bool) (lo2 : Int) (hi2 : Int) (gp2 : Nat) (a a2 : Option Addr) (m c m2 c2 : Nat) (h : eqB q q2 = false) (w : World) : Calls Tryz.prog 9 #[.agg #[.int .i64 kd, .int .u64 (wd q 0), .int .u64 (wd q 1), .int .u64 (wd q 2), .int .u64 (wd q 3), .int .i64 lo, .int .i64 hi, .int .i64 gp, .slice a m c], .agg #[.int .i64 kd, .int .u64 (wd q2 0), .int .u64 (wd q2 1), .int .u64 (wd q2 2), .int .u64 (wd q2 3), .int .i64 lo2, .int .i64 hi2, .int .i64 gp2, .slice a2 m2 c2]] w fun e w' => e = .returned (.bool false) ∧ Below w.heap.size w w' := by
 have hneq : ∀ w, (binOp .neq 33 (.agg #[.int .u64 (wd q 0), .int .u64 (wd q 1), .int .u64 (wd q 2), .int .u64 (wd q 3)]) (.agg #[.int .u64 (wd q2 0), .int .u64 (wd q2 1), .int .u64 (wd q2 2), .int .u64 (wd q2 3)])).run Tryz.prog w = .ok (.bool true) w := fun w => by rw [xcx, h]; rfl
 clear h
 go_enter Tryz.func9, Tryz.ntmps9
 go_upto_region 1 with fail
 obtain ⟨X, hX⟩ : ∃ X, X = (w.alloc (.cells #[.int .i64 kd, .int .u64 (wd q 0), .int .u64 (wd q 1), .int .u64 (wd q 2), .int .u64 (wd q 3), .int .i64 lo, .int .i64 hi, .int .i64 gp, .slice a m c] 36)).alloc (.cells #[.int .i64 kd, .int .u64 (wd q2 0), .int .u64 (wd q2 1), .int .u64 (wd q2 2), .int .u64 (wd q2 3), .int .i64 lo2, .int .i64 hi2, .int .i64 gp2, .slice a2 m2 c2] 36) := ⟨_, rfl⟩
 have xb1 : X.heap[w.heap.size]? = some (.cells #[.int .i64 kd, .int .u64 (wd q 0), .int .u64 (wd q 1), .int .u64 (wd q 2), .int .u64 (wd q 3), .int .i64 lo, .int .i64 hi, .int .i64 gp, .slice a m c] 36) := by
  rw [hX, Below.heap_alloc _ _ _ (by simp only [World.size_alloc]; omega)]
  exact heap_alloc_new w _
 have xb2 : X.heap[w.heap.size + 1]? = some (.cells #[.int .i64 kd, .int .u64 (wd q2 0), .int .u64 (wd q2 1), .int .u64 (wd q2 2), .int .u64 (wd q2 3), .int .i64 lo2, .int .i64 hi2, .int .i64 gp2, .slice a2 m2 c2] 36) := by
  rw [hX, ← World.size_alloc w (.cells #[.int .i64 kd, .int .u64 (wd q 0), .int .u64 (wd q 1), .int .u64 (wd q 2), .int .u64 (wd q 3), .int .i64 lo, .int .i64 hi, .int .i64 gp, .slice a m c] 36)]
  exact heap_alloc_new _ _
 have hBX : Below w.heap.size w X := by
  rw [hX]
  exact ((Below.refl _ _).alloc (Nat.le_refl _) _).alloc (by rw [World.size_alloc]; omega) _
 rw [← hX]
 clear hX
 have z0 : X.cell? ⟨w.heap.size, 0, none⟩ = some (.int .i64 kd) := by simp [World.cell?, xb1]
 have z1 : X.cell? ⟨w.heap.size, 1, none⟩ = some (.int .u64 (wd q 0)) := by simp [World.cell?, xb1]
 have z2 : X.cell? ⟨w.heap.size, 2, none⟩ = some (.int .u64 (wd q 1)) := by simp [World.cell?, xb1]
 have z3 : X.cell? ⟨w.heap.size, 3, none⟩ = some (.int .u64 (wd q 2)) := by simp [World.cell?, xb1]
 have z4 : X.cell? ⟨w.heap.size, 4, none⟩ = some (.int .u64 (wd q 3)) := by simp [World.cell?, xb1]
 have z5 : X.cell? ⟨w.heap.size, 5, none⟩ = some (.int .i64 lo) := by simp [World.cell?, xb1]
 have z6 : X.cell? ⟨w.heap.size, 6, none⟩ = some (.int .i64 hi) := by simp [World.cell?, xb1]
 have z7 : X.cell? ⟨w.heap.size, 7, none⟩ = some (.int .i64 gp) := by simp [World.cell?, xb1]
 have z8 : X.cell? ⟨w.heap.size, 8, none⟩ = some (.slice a m c) := by simp [World.cell?, xb1]
 have y0 : X.cell? ⟨w.heap.size + 1, 0, none⟩ = some (.int .i64 kd) := by simp [World.cell?, xb2]
 have y1 : X.cell? ⟨w.heap.size + 1, 1, none⟩ = some (.int .u64 (wd q2 0)) := by simp [World.cell?, xb2]
 have y2 : X.cell? ⟨w.heap.size + 1, 2, none⟩ = some (.int .u64 (wd q2 1)) := by simp [World.cell?, xb2]
 have y3 : X.cell? ⟨w.heap.size + 1, 3, none⟩ = some (.int .u64 (wd q2 2)) := by simp [World.cell?, xb2]
 have y4 : X.cell? ⟨w.heap.size + 1, 4, none⟩ = some (.int .u64 (wd q2 3)) := by simp [World.cell?, xb2]
 have y5 : X.cell? ⟨w.heap.size + 1, 5, none⟩ = some (.int .i64 lo2) := by simp [World.cell?, xb2]
 have y6 : X.cell? ⟨w.heap.size + 1, 6, none⟩ = some (.int .i64 hi2) := by simp [World.cell?, xb2]
 have y7 : X.cell? ⟨w.heap.size + 1, 7, none⟩ = some (.int .i64 gp2) := by simp [World.cell?, xb2]
 have y8 : X.cell? ⟨w.heap.size + 1, 8, none⟩ = some (.slice a2 m2 c2) := by simp [World.cell?, xb2]
 have HX := xab hBX
 clear xb1 xb2 hBX
 go_wp2
 go_ret
 exact ⟨rfl, HX.out⟩
theorem same_lo (kd : Nat) (q : Nat → Bool) (lo : Int) (hi : Int) (gp : Nat) (lo2 : Int) (hi2 : Int) (gp2 : Nat) (a a2 : Option Addr) (m c m2 c2 : Nat) (h : lo ≠ lo2) (w : World) : Calls Tryz.prog 9 #[.agg #[.int .i64 kd, .int .u64 (wd q 0), .int .u64 (wd q 1), .int .u64 (wd q 2), .int .u64 (wd q 3), .int .i64 lo, .int .i64 hi, .int .i64 gp, .slice a m c], .agg #[.int .i64 kd, .int .u64 (wd q 0), .int .u64 (wd q 1), .int .u64 (wd q 2), .int .u64 (wd q 3), .int .i64 lo2, .int .i64 hi2, .int .i64 gp2, .slice a2 m2 c2]] w fun e w' => e = .returned (.bool false) ∧ Below w.heap.size w w' := by
 have hneq : ∀ w, (binOp .neq 33 (.agg #[.int .u64 (wd q 0), .int .u64 (wd q 1), .int .u64 (wd q 2), .int .u64 (wd q 3)]) (.agg #[.int .u64 (wd q 0), .int .u64 (wd q 1), .int .u64 (wd q 2), .int .u64 (wd q 3)])).run Tryz.prog w = .ok (.bool false) w := fun w => by rw [xcx, xku (fun _ _ => rfl)]; rfl
 have k1 : (lo != lo2) = true := by rw [bne_iff_ne]; exact h
 have k2 : (lo == lo2) = false := by rw [beq_eq_false_iff_ne]; exact h
 clear h
 go_enter Tryz.func9, Tryz.ntmps9
 go_upto_region 1 with fail
 obtain ⟨X, hX⟩ : ∃ X, X = (w.alloc (.cells #[.int .i64 kd, .int .u64 (wd q 0), .int .u64 (wd q 1), .int .u64 (wd q 2), .int .u64 (wd q 3), .int .i64 lo, .int .i64 hi, .int .i64 gp, .slice a m c] 36)).alloc (.cells #[.int .i64 kd, .int .u64 (wd q 0), .int .u64 (wd q 1), .int .u64 (wd q 2), .int .u64 (wd q 3), .int .i64 lo2, .int .i64 hi2, .int .i64 gp2, .slice a2 m2 c2] 36) := ⟨_, rfl⟩
 have xb1 : X.heap[w.heap.size]? = some (.cells #[.int .i64 kd, .int .u64 (wd q 0), .int .u64 (wd q 1), .int .u64 (wd q 2), .int .u64 (wd q 3), .int .i64 lo, .int .i64 hi, .int .i64 gp, .slice a m c] 36) := by
  rw [hX, Below.heap_alloc _ _ _ (by simp only [World.size_alloc]; omega)]
  exact heap_alloc_new w _
 have xb2 : X.heap[w.heap.size + 1]? = some (.cells #[.int .i64 kd, .int .u64 (wd q 0), .int .u64 (wd q 1), .int .u64 (wd q 2), .int .u64 (wd q 3), .int .i64 lo2, .int .i64 hi2, .int .i64 gp2, .slice a2 m2 c2] 36) := by
  rw [hX, ← World.size_alloc w (.cells #[.int .i64 kd, .int .u64 (wd q 0), .int .u64 (wd q 1), .int .u64 (wd q 2), .int .u64 (wd q 3), .int .i64 lo, .int .i64 hi, .int .i64 gp, .slice a m c] 36)]
  exact heap_alloc_new _ _
 have hBX : Below w.heap.size w X := by
  rw [hX]
  exact ((Below.refl _ _).alloc (Nat.le_refl _) _).alloc (by rw [World.size_alloc]; omega) _
 rw [← hX]
 clear hX
 have z0 : X.cell? ⟨w.heap.size, 0, none⟩ = some (.int .i64 kd) := by simp [World.cell?, xb1]
 have z1 : X.cell? ⟨w.heap.size, 1, none⟩ = some (.int .u64 (wd q 0)) := by simp [World.cell?, xb1]
 have z2 : X.cell? ⟨w.heap.size, 2, none⟩ = some (.int .u64 (wd q 1)) := by simp [World.cell?, xb1]
 have z3 : X.cell? ⟨w.heap.size, 3, none⟩ = some (.int .u64 (wd q 2)) := by simp [World.cell?, xb1]
 have z4 : X.cell? ⟨w.heap.size, 4, none⟩ = some (.int .u64 (wd q 3)) := by simp [World.cell?, xb1]
 have z5 : X.cell? ⟨w.heap.size, 5, none⟩ = some (.int .i64 lo) := by simp [World.cell?, xb1]
 have z6 : X.cell? ⟨w.heap.size, 6, none⟩ = some (.int .i64 hi) := by simp [World.cell?, xb1]
 have z7 : X.cell? ⟨w.heap.size, 7, none⟩ = some (.int .i64 gp) := by simp [World.cell?, xb1]
 have z8 : X.cell? ⟨w.heap.size, 8, none⟩ = some (.slice a m c) := by simp [World.cell?, xb1]
 have y0 : X.cell? ⟨w.heap.size + 1, 0, none⟩ = some (.int .i64 kd) := by simp [World.cell?, xb2]
 have y1 : X.cell? ⟨w.heap.size + 1, 1, none⟩ = some (.int .u64 (wd q 0)) := by simp [World.cell?, xb2]
 have y2 : X.cell? ⟨w.heap.size + 1, 2, none⟩ = some (.int .u64 (wd q 1)) := by simp [World.cell?, xb2]
 have y3 : X.cell? ⟨w.heap.size + 1, 3, none⟩ = some (.int .u64 (wd q 2)) := by simp [World.cell?, xb2]
 have y4 : X.cell? ⟨w.heap.size + 1, 4, none⟩ = some (.int .u64 (wd q 3)) := by simp [World.cell?, xb2]
 have y5 : X.cell? ⟨w.heap.size + 1, 5, none⟩ = some (.int .i64 lo2) := by simp [World.cell?, xb2]
 have y6 : X.cell? ⟨w.heap.size + 1, 6, none⟩ = some (.int .i64 hi2) := by simp [World.cell?, xb2]
 have y7 : X.cell? ⟨w.heap.size + 1, 7, none⟩ = some (.int .i64 gp2) := by simp [World.cell?, xb2]
 have y8 : X.cell? ⟨w.heap.size + 1, 8, none⟩ = some (.slice a2 m2 c2) := by simp [World.cell?, xb2]
 have HX := xab hBX
 clear xb1 xb2 hBX
 go_wp2
 go_ret
 exact ⟨rfl, HX.out⟩
theorem same_hi (kd : Nat) (q : Nat → Bool) (lo : Int) (hi : Int) (gp : Nat) (hi2 : Int) (gp2 : Nat) (a a2 : Option Addr) (m c m2 c2 : Nat) (h : hi ≠ hi2) (w : World) : Calls Tryz.prog 9 #[.agg #[.int .i64 kd, .int .u64 (wd q 0), .int .u64 (wd q 1), .int .u64 (wd q 2), .int .u64 (wd q 3), .int .i64 lo, .int .i64 hi, .int .i64 gp, .slice a m c], .agg #[.int .i64 kd, .int .u64 (wd q 0), .int .u64 (wd q 1), .int .u64 (wd q 2), .int .u64 (wd q 3), .int .i64 lo, .int .i64 hi2, .int .i64 gp2, .slice a2 m2 c2]] w fun e w' => e = .returned (.bool false) ∧ Below w.heap.size w w' := by
 have hneq : ∀ w, (binOp .neq 33 (.agg #[.int .u64 (wd q 0), .int .u64 (wd q 1), .int .u64 (wd q 2), .int .u64 (wd q 3)]) (.agg #[.int .u64 (wd q 0), .int .u64 (wd q 1), .int .u64 (wd q 2), .int .u64 (wd q 3)])).run Tryz.prog w = .ok (.bool false) w := fun w => by rw [xcx, xku (fun _ _ => rfl)]; rfl
 have k1 : (hi != hi2) = true := by rw [bne_iff_ne]; exact h
 have k2 : (hi == hi2) = false := by rw [beq_eq_false_iff_ne]; exact h
 clear h
 go_enter Tryz.func9, Tryz.ntmps9
 go_upto_region 1 with fail
 obtain ⟨X, hX⟩ : ∃ X, X = (w.alloc (.cells #[.int .i64 kd, .int .u64 (wd q 0), .int .u64 (wd q 1), .int .u64 (wd q 2), .int .u64 (wd q 3), .int .i64 lo, .int .i64 hi, .int .i64 gp, .slice a m c] 36)).alloc (.cells #[.int .i64 kd, .int .u64 (wd q 0), .int .u64 (wd q 1), .int .u64 (wd q 2), .int .u64 (wd q 3), .int .i64 lo, .int .i64 hi2, .int .i64 gp2, .slice a2 m2 c2] 36) := ⟨_, rfl⟩
 have xb1 : X.heap[w.heap.size]? = some (.cells #[.int .i64 kd, .int .u64 (wd q 0), .int .u64 (wd q 1), .int .u64 (wd q 2), .int .u64 (wd q 3), .int .i64 lo, .int .i64 hi, .int .i64 gp, .slice a m c] 36) := by
  rw [hX, Below.heap_alloc _ _ _ (by simp only [World.size_alloc]; omega)]
  exact heap_alloc_new w _
 have xb2 : X.heap[w.heap.size + 1]? = some (.cells #[.int .i64 kd, .int .u64 (wd q 0), .int .u64 (wd q 1), .int .u64 (wd q 2), .int .u64 (wd q 3), .int .i64 lo, .int .i64 hi2, .int .i64 gp2, .slice a2 m2 c2] 36) := by
  rw [hX, ← World.size_alloc w (.cells #[.int .i64 kd, .int .u64 (wd q 0), .int .u64 (wd q 1), .int .u64 (wd q 2), .int .u64 (wd q 3), .int .i64 lo, .int .i64 hi, .int .i64 gp, .slice a m c] 36)]
  exact heap_alloc_new _ _
 have hBX : Below w.heap.size w X := by
  rw [hX]
  exact ((Below.refl _ _).alloc (Nat.le_refl _) _).alloc (by rw [World.size_alloc]; omega) _
 rw [← hX]
 clear hX
 have z0 : X.cell? ⟨w.heap.size, 0, none⟩ = some (.int .i64 kd) := by simp [World.cell?, xb1]
 have z1 : X.cell? ⟨w.heap.size, 1, none⟩ = some (.int .u64 (wd q 0)) := by simp [World.cell?, xb1]
 have z2 : X.cell? ⟨w.heap.size, 2, none⟩ = some (.int .u64 (wd q 1)) := by simp [World.cell?, xb1]
 have z3 : X.cell? ⟨w.heap.size, 3, none⟩ = some (.int .u64 (wd q 2)) := by simp [World.cell?, xb1]
 have z4 : X.cell? ⟨w.heap.size, 4, none⟩ = some (.int .u64 (wd q 3)) := by simp [World.cell?, xb1]
 have z5 : X.cell? ⟨w.heap.size, 5, none⟩ = some (.int .i64 lo) := by simp [World.cell?, xb1]
 have z6 : X.cell? ⟨w.heap.size, 6, none⟩ = some (.int .i64 hi) := by simp [World.cell?, xb1]
 have z7 : X.cell? ⟨w.heap.size, 7, none⟩ = some (.int .i64 gp) := by simp [World.cell?, xb1]
 have z8 : X.cell? ⟨w.heap.size, 8, none⟩ = some (.slice a m c) := by simp [World.cell?, xb1]
 have y0 : X.cell? ⟨w.heap.size + 1, 0, none⟩ = some (.int .i64 kd) := by simp [World.cell?, xb2]
 have y1 : X.cell? ⟨w.heap.size + 1, 1, none⟩ = some (.int .u64 (wd q 0)) := by simp [World.cell?, xb2]
 have y2 : X.cell? ⟨w.heap.size + 1, 2, none⟩ = some (.int .u64 (wd q 1)) := by simp [World.cell?, xb2]
 have y3 : X.cell? ⟨w.heap.size + 1, 3, none⟩ = some (.int .u64 (wd q 2)) := by simp [World.cell?, xb2]
 have y4 : X.cell? ⟨w.heap.size + 1, 4, none⟩ = some (.int .u64 (wd q 3)) := by simp [World.cell?, xb2]
 have y5 : X.cell? ⟨w.heap.size + 1, 5, none⟩ = some (.int .i64 lo) := by simp [World.cell?, xb2]
 have y6 : X.cell? ⟨w.heap.size + 1, 6, none⟩ = some (.int .i64 hi2) := by simp [World.cell?, xb2]
 have y7 : X.cell? ⟨w.heap.size + 1, 7, none⟩ = some (.int .i64 gp2) := by simp [World.cell?, xb2]
 have y8 : X.cell? ⟨w.heap.size + 1, 8, none⟩ = some (.slice a2 m2 c2) := by simp [World.cell?, xb2]
 have HX := xab hBX
 clear xb1 xb2 hBX
 go_wp2
 go_ret
 exact ⟨rfl, HX.out⟩
theorem same_grp (kd : Nat) (q : Nat → Bool) (lo : Int) (hi : Int) (gp : Nat) (gp2 : Nat) (a a2 : Option Addr) (m c m2 c2 : Nat) (h : gp ≠ gp2) (w : World) : Calls Tryz.prog 9 #[.agg #[.int .i64 kd, .int .u64 (wd q 0), .int .u64 (wd q 1), .int .u64 (wd q 2), .int .u64 (wd q 3), .int .i64 lo, .int .i64 hi, .int .i64 gp, .slice a m c], .agg #[.int .i64 kd, .int .u64 (wd q 0), .int .u64 (wd q 1), .int .u64 (wd q 2), .int .u64 (wd q 3), .int .i64 lo, .int .i64 hi, .int .i64 gp2, .slice a2 m2 c2]] w fun e w' => e = .returned (.bool false) ∧ Below w.heap.size w w' := by
 have hneq : ∀ w, (binOp .neq 33 (.agg #[.int .u64 (wd q 0), .int .u64 (wd q 1), .int .u64 (wd q 2), .int .u64 (wd q 3)]) (.agg #[.int .u64 (wd q 0), .int .u64 (wd q 1), .int .u64 (wd q 2), .int .u64 (wd q 3)])).run Tryz.prog w = .ok (.bool false) w := fun w => by rw [xcx, xku (fun _ _ => rfl)]; rfl
 have k1 : ((gp : Int) != (gp2 : Int)) = true := by rw [bne_iff_ne]; omega
 have k2 : ((gp : Int) == (gp2 : Int)) = false := by rw [beq_eq_false_iff_ne]; omega
 clear h
 go_enter Tryz.func9, Tryz.ntmps9
 go_upto_region 1 with fail
 obtain ⟨X, hX⟩ : ∃ X, X = (w.alloc (.cells #[.int .i64 kd, .int .u64 (wd q 0), .int .u64 (wd q 1), .int .u64 (wd q 2), .int .u64 (wd q 3), .int .i64 lo, .int .i64 hi, .int .i64 gp, .slice a m c] 36)).alloc (.cells #[.int .i64 kd, .int .u64 (wd q 0), .int .u64 (wd q 1), .int .u64 (wd q 2), .int .u64 (wd q 3), .int .i64 lo, .int .i64 hi, .int .i64 gp2, .slice a2 m2 c2] 36) := ⟨_, rfl⟩
 have xb1 : X.heap[w.heap.size]? = some (.cells #[.int .i64 kd, .int .u64 (wd q 0), .int .u64 (wd q 1), .int .u64 (wd q 2), .int .u64 (wd q 3), .int .i64 lo, .int .i64 hi, .int .i64 gp, .slice a m c] 36) := by
  rw [hX, Below.heap_alloc _ _ _ (by simp only [World.size_alloc]; omega)]
  exact heap_alloc_new w _
 have xb2 : X.heap[w.heap.size + 1]? = some (.cells #[.int .i64 kd, .int .u64 (wd q 0), .int .u64 (wd q 1), .int .u64 (wd q 2), .int .u64 (wd q 3), .int .i64 lo, .int .i64 hi, .int .i64 gp2, .slice a2 m2 c2] 36) := by
  rw [hX, ← World.size_alloc w (.cells #[.int .i64 kd, .int .u64 (wd q 0), .int .u64 (wd q 1), .int .u64 (wd q 2), .int .u64 (wd q 3), .int .i64 lo, .int .i64 hi, .int .i64 gp, .slice a m c] 36)]
  exact heap_alloc_new _ _
 have hBX : Below w.heap.size w X := by
  rw [hX]
  exact ((Below.refl _ _).alloc (Nat.le_refl _) _).alloc (by rw [World.size_alloc]; omega) _
 rw [← hX]
 clear hX
 have z0 : X.cell? ⟨w.heap.size, 0, none⟩ = some (.int .i64 kd) := by simp [World.cell?, xb1]
 have z1 : X.cell? ⟨w.heap.size, 1, none⟩ = some (.int .u64 (wd q 0)) := by simp [World.cell?, xb1]
 have z2 : X.cell? ⟨w.heap.size, 2, none⟩ = some (.int .u64 (wd q 1)) := by simp [World.cell?, xb1]
 have z3 : X.cell? ⟨w.heap.size, 3, none⟩ = some (.int .u64 (wd q 2)) := by simp [World.cell?, xb1]
 have z4 : X.cell? ⟨w.heap.size, 4, none⟩ = some (.int .u64 (wd q 3)) := by simp [World.cell?, xb1]
 have z5 : X.cell? ⟨w.heap.size, 5, none⟩ = some (.int .i64 lo) := by simp [World.cell?, xb1]
 have z6 : X.cell? ⟨w.heap.size, 6, none⟩ = some (.int .i64 hi) := by simp [World.cell?, xb1]
 have z7 : X.cell? ⟨w.heap.size, 7, none⟩ = some (.int .i64 gp) := by simp [World.cell?, xb1]
 have z8 : X.cell? ⟨w.heap.size, 8, none⟩ = some (.slice a m c) := by simp [World.cell?, xb1]
 have y0 : X.cell? ⟨w.heap.size + 1, 0, none⟩ = some (.int .i64 kd) := by simp [World.cell?, xb2]
 have y1 : X.cell? ⟨w.heap.size + 1, 1, none⟩ = some (.int .u64 (wd q 0)) := by simp [World.cell?, xb2]
 have y2 : X.cell? ⟨w.heap.size + 1, 2, none⟩ = some (.int .u64 (wd q 1)) := by simp [World.cell?, xb2]
 have y3 : X.cell? ⟨w.heap.size + 1, 3, none⟩ = some (.int .u64 (wd q 2)) := by simp [World.cell?, xb2]
 have y4 : X.cell? ⟨w.heap.size + 1, 4, none⟩ = some (.int .u64 (wd q 3)) := by simp [World.cell?, xb2]
 have y5 : X.cell? ⟨w.heap.size + 1, 5, none⟩ = some (.int .i64 lo) := by simp [World.cell?, xb2]
 have y6 : X.cell? ⟨w.heap.size + 1, 6, none⟩ = some (.int .i64 hi) := by simp [World.cell?, xb2]
 have y7 : X.cell? ⟨w.heap.size + 1, 7, none⟩ = some (.int .i64 gp2) := by simp [World.cell?, xb2]
 have y8 : X.cell? ⟨w.heap.size + 1, 8, none⟩ = some (.slice a2 m2 c2) := by simp [World.cell?, xb2]
 have HX := xab hBX
 clear xb1 xb2 hBX
 go_wp2
 go_ret
 exact ⟨rfl, HX.out⟩
theorem same_len (kd : Nat) (q : Nat → Bool) (lo : Int) (hi : Int) (gp : Nat)  (a a2 : Option Addr) (m c m2 c2 : Nat) (h : m ≠ m2) (w : World) : Calls Tryz.prog 9 #[.agg #[.int .i64 kd, .int .u64 (wd q 0), .int .u64 (wd q 1), .int .u64 (wd q 2), .int .u64 (wd q 3), .int .i64 lo, .int .i64 hi, .int .i64 gp, .slice a m c], .agg #[.int .i64 kd, .int .u64 (wd q 0), .int .u64 (wd q 1), .int .u64 (wd q 2), .int .u64 (wd q 3), .int .i64 lo, .int .i64 hi, .int .i64 gp, .slice a2 m2 c2]] w fun e w' => e = .returned (.bool false) ∧ Below w.heap.size w w' := by
 have hneq : ∀ w, (binOp .neq 33 (.agg #[.int .u64 (wd q 0), .int .u64 (wd q 1), .int .u64 (wd q 2), .int .u64 (wd q 3)]) (.agg #[.int .u64 (wd q 0), .int .u64 (wd q 1), .int .u64 (wd q 2), .int .u64 (wd q 3)])).run Tryz.prog w = .ok (.bool false) w := fun w => by rw [xcx, xku (fun _ _ => rfl)]; rfl
 have k1 : ((m : Int) != (m2 : Int)) = true := by rw [bne_iff_ne]; omega
 have k2 : ((m : Int) == (m2 : Int)) = false := by rw [beq_eq_false_iff_ne]; omega
 clear h
 go_enter Tryz.func9, Tryz.ntmps9
 go_upto_region 1 with fail
 obtain ⟨X, hX⟩ : ∃ X, X = (w.alloc (.cells #[.int .i64 kd, .int .u64 (wd q 0), .int .u64 (wd q 1), .int .u64 (wd q 2), .int .u64 (wd q 3), .int .i64 lo, .int .i64 hi, .int .i64 gp, .slice a m c] 36)).alloc (.cells #[.int .i64 kd, .int .u64 (wd q 0), .int .u64 (wd q 1), .int .u64 (wd q 2), .int .u64 (wd q 3), .int .i64 lo, .int .i64 hi, .int .i64 gp, .slice a2 m2 c2] 36) := ⟨_, rfl⟩
 have xb1 : X.heap[w.heap.size]? = some (.cells #[.int .i64 kd, .int .u64 (wd q 0), .int .u64 (wd q 1), .int .u64 (wd q 2), .int .u64 (wd q 3), .int .i64 lo, .int .i64 hi, .int .i64 gp, .slice a m c] 36) := by
  rw [hX, Below.heap_alloc _ _ _ (by simp only [World.size_alloc]; omega)]
  exact heap_alloc_new w _
 have xb2 : X.heap[w.heap.size + 1]? = some (.cells #[.int .i64 kd, .int .u64 (wd q 0), .int .u64 (wd q 1), .int .u64 (wd q 2), .int .u64 (wd q 3), .int .i64 lo, .int .i64 hi, .int .i64 gp, .slice a2 m2 c2] 36) := by
  rw [hX, ← World.size_alloc w (.cells #[.int .i64 kd, .int .u64 (wd q 0), .int .u64 (wd q 1), .int .u64 (wd q 2), .int .u64 (wd q 3), .int .i64 lo, .int .i64 hi, .int .i64 gp, .slice a m c] 36)]
  exact heap_alloc_new _ _
 have hBX : Below w.heap.size w X := by
  rw [hX]
  exact ((Below.refl _ _).alloc (Nat.le_refl _) _).alloc (by rw [World.size_alloc]; omega) _
 rw [← hX]
 clear hX
 have z0 : X.cell? ⟨w.heap.size, 0, none⟩ = some (.int .i64 kd) := by simp [World.cell?, xb1]
 have z1 : X.cell? ⟨w.heap.size, 1, none⟩ = some (.int .u64 (wd q 0)) := by simp [World.cell?, xb1]
 have z2 : X.cell? ⟨w.heap.size, 2, none⟩ = some (.int .u64 (wd q 1)) := by simp [World.cell?, xb1]
 have z3 : X.cell? ⟨w.heap.size, 3, none⟩ = some (.int .u64 (wd q 2)) := by simp [World.cell?, xb1]
 have z4 : X.cell? ⟨w.heap.size, 4, none⟩ = some (.int .u64 (wd q 3)) := by simp [World.cell?, xb1]
 have z5 : X.cell? ⟨w.heap.size, 5, none⟩ = some (.int .i64 lo) := by simp [World.cell?, xb1]
 have z6 : X.cell? ⟨w.heap.size, 6, none⟩ = some (.int .i64 hi) := by simp [World.cell?, xb1]
 have z7 : X.cell? ⟨w.heap.size, 7, none⟩ = some (.int .i64 gp) := by simp [World.cell?, xb1]
 have z8 : X.cell? ⟨w.heap.size, 8, none⟩ = some (.slice a m c) := by simp [World.cell?, xb1]
 have y0 : X.cell? ⟨w.heap.size + 1, 0, none⟩ = some (.int .i64 kd) := by simp [World.cell?, xb2]
 have y1 : X.cell? ⟨w.heap.size + 1, 1, none⟩ = some (.int .u64 (wd q 0)) := by simp [World.cell?, xb2]
 have y2 : X.cell? ⟨w.heap.size + 1, 2, none⟩ = some (.int .u64 (wd q 1)) := by simp [World.cell?, xb2]
 have y3 : X.cell? ⟨w.heap.size + 1, 3, none⟩ = some (.int .u64 (wd q 2)) := by simp [World.cell?, xb2]
 have y4 : X.cell? ⟨w.heap.size + 1, 4, none⟩ = some (.int .u64 (wd q 3)) := by simp [World.cell?, xb2]
 have y5 : X.cell? ⟨w.heap.size + 1, 5, none⟩ = some (.int .i64 lo) := by simp [World.cell?, xb2]
 have y6 : X.cell? ⟨w.heap.size + 1, 6, none⟩ = some (.int .i64 hi) := by simp [World.cell?, xb2]
 have y7 : X.cell? ⟨w.heap.size + 1, 7, none⟩ = some (.int .i64 gp) := by simp [World.cell?, xb2]
 have y8 : X.cell? ⟨w.heap.size + 1, 8, none⟩ = some (.slice a2 m2 c2) := by simp [World.cell?, xb2]
 have HX := xab hBX
 clear xb1 xb2 hBX
 go_wp2
 go_ret
 exact ⟨rfl, HX.out⟩
theorem xtm (kd : Nat) (q : Nat → Bool) (lo hi : Int) (gp : Nat) (ks ks2 : List Tr) (hlen : ks.length ≤ 1000000) (hll : ks2.length = ks.length) (ih : ∀ x ∈ ks, ∀ (y : Tr) (w : World) (ok ok2 : Nat → Prop) (a a2 : Option Addr) (n c n2 c2 : Nat), Kids w ok (.slice a n c) x.kids → Kids w ok2 (.slice a2 n2 c2) y.kids → Calls Tryz.prog 9 #[xcm x (.slice a n c), xcm y (.slice a2 n2 c2)] w fun e w' => e = .returned (.bool (smT x y)) ∧ Below w.heap.size w w')
  (w : World) (ok ok2 : Nat → Prop) (a a2 : Option Addr) (c c2 : Nat) (hk : Kids w ok (.slice a ks.length c) ks) (hk2 : Kids w ok2 (.slice a2 ks.length c2) ks2) :
  Calls Tryz.prog 9 #[.agg #[.int .i64 kd, .int .u64 (wd q 0), .int .u64 (wd q 1), .int .u64 (wd q 2), .int .u64 (wd q 3), .int .i64 lo, .int .i64 hi, .int .i64 gp, .slice a ks.length c], .agg #[.int .i64 kd, .int .u64 (wd q 0), .int .u64 (wd q 1), .int .u64 (wd q 2), .int .u64 (wd q 3), .int .i64 lo, .int .i64 hi, .int .i64 gp, .slice a2 ks.length c2]] w fun e w' => e = .returned (.bool (smL ks ks2)) ∧ Below w.heap.size w w' := by
 have hneq : ∀ w, (binOp .neq 33 (.agg #[.int .u64 (wd q 0), .int .u64 (wd q 1), .int .u64 (wd q 2), .int .u64 (wd q 3)]) (.agg #[.int .u64 (wd q 0), .int .u64 (wd q 1), .int .u64 (wd q 2), .int .u64 (wd q 3)])).run Tryz.prog w = .ok (.bool false) w := fun w => by rw [xcx, xku (fun _ _ => rfl)]; rfl
 have HA := xab (And.intro hk (And.intro hk2 ih))
 clear hk hk2 ih
 go_enter Tryz.func9, Tryz.ntmps9
 go_upto_region 1 with fail
 obtain ⟨X, hX⟩ : ∃ X, X = (w.alloc (.cells #[.int .i64 kd, .int .u64 (wd q 0), .int .u64 (wd q 1), .int .u64 (wd q 2), .int .u64 (wd q 3), .int .i64 lo, .int .i64 hi, .int .i64 gp, .slice a ks.length c] 36)).alloc (.cells #[.int .i64 kd, .int .u64 (wd q 0), .int .u64 (wd q 1), .int .u64 (wd q 2), .int .u64 (wd q 3), .int .i64 lo, .int .i64 hi, .int .i64 gp, .slice a2 ks.length c2] 36) := ⟨_, rfl⟩
 have xb1 : X.heap[w.heap.size]? = some (.cells #[.int .i64 kd, .int .u64 (wd q 0), .int .u64 (wd q 1), .int .u64 (wd q 2), .int .u64 (wd q 3), .int .i64 lo, .int .i64 hi, .int .i64 gp, .slice a ks.length c] 36) := by
  rw [hX, Below.heap_alloc _ _ _ (by simp only [World.size_alloc]; omega)]
  exact heap_alloc_new w _
 have xb2 : X.heap[w.heap.size + 1]? = some (.cells #[.int .i64 kd, .int .u64 (wd q 0), .int .u64 (wd q 1), .int .u64 (wd q 2), .int .u64 (wd q 3), .int .i64 lo, .int .i64 hi, .int .i64 gp, .slice a2 ks.length c2] 36) := by
  rw [hX, ← World.size_alloc w (.cells #[.int .i64 kd, .int .u64 (wd q 0), .int .u64 (wd q 1), .int .u64 (wd q 2), .int .u64 (wd q 3), .int .i64 lo, .int .i64 hi, .int .i64 gp, .slice a ks.length c] 36)]
  exact heap_alloc_new _ _
 have hBX : Below w.heap.size w X := by
  rw [hX]
  exact ((Below.refl _ _).alloc (Nat.le_refl _) _).alloc (by rw [World.size_alloc]; omega) _
 rw [← hX]
 clear hX
 have z0 : X.cell? ⟨w.heap.size, 0, none⟩ = some (.int .i64 kd) := by simp [World.cell?, xb1]
 have z1 : X.cell? ⟨w.heap.size, 1, none⟩ = some (.int .u64 (wd q 0)) := by simp [World.cell?, xb1]
 have z2 : X.cell? ⟨w.heap.size, 2, none⟩ = some (.int .u64 (wd q 1)) := by simp [World.cell?, xb1]
 have z3 : X.cell? ⟨w.heap.size, 3, none⟩ = some (.int .u64 (wd q 2)) := by simp [World.cell?, xb1]
 have z4 : X.cell? ⟨w.heap.size, 4, none⟩ = some (.int .u64 (wd q 3)) := by simp [World.cell?, xb1]
 have z5 : X.cell? ⟨w.heap.size, 5, none⟩ = some (.int .i64 lo) := by simp [World.cell?, xb1]
 have z6 : X.cell? ⟨w.heap.size, 6, none⟩ = some (.int .i64 hi) := by simp [World.cell?, xb1]
 have z7 : X.cell? ⟨w.heap.size, 7, none⟩ = some (.int .i64 gp) := by simp [World.cell?, xb1]
 have z8 : X.cell? ⟨w.heap.size, 8, none⟩ = some (.slice a ks.length c) := by simp [World.cell?, xb1]
 have y0 : X.cell? ⟨w.heap.size + 1, 0, none⟩ = some (.int .i64 kd) := by simp [World.cell?, xb2]
 have y1 : X.cell? ⟨w.heap.size + 1, 1, none⟩ = some (.int .u64 (wd q 0)) := by simp [World.cell?, xb2]
 have y2 : X.cell? ⟨w.heap.size + 1, 2, none⟩ = some (.int .u64 (wd q 1)) := by simp [World.cell?, xb2]
 have y3 : X.cell? ⟨w.heap.size + 1, 3, none⟩ = some (.int .u64 (wd q 2)) := by simp [World.cell?, xb2]
 have y4 : X.cell? ⟨w.heap.size + 1, 4, none⟩ = some (.int .u64 (wd q 3)) := by simp [World.cell?, xb2]
 have y5 : X.cell? ⟨w.heap.size + 1, 5, none⟩ = some (.int .i64 lo) := by simp [World.cell?, xb2]
 have y6 : X.cell? ⟨w.heap.size + 1, 6, none⟩ = some (.int .i64 hi) := by simp [World.cell?, xb2]
 have y7 : X.cell? ⟨w.heap.size + 1, 7, none⟩ = some (.int .i64 gp) := by simp [World.cell?, xb2]
 have y8 : X.cell? ⟨w.heap.size + 1, 8, none⟩ = some (.slice a2 ks.length c2) := by simp [World.cell?, xb2]
 have HX := xab (And.intro xb1 (And.intro xb2 hBX))
 clear xb1 xb2 hBX
 go_wp2_with fail
 go_loopw [5] (fun iv wr => ∃ k : Nat, k ≤ ks.length ∧ iv = .int .i64 k ∧ (∀ (i : Nat) (h1 : i < ks.length) (h2 : i < ks2.length), i < k → smT ks[i] ks2[i] = true) ∧ wr.heap[w.heap.size]? = some (.cells #[.int .i64 kd, .int .u64 (wd q 0), .int .u64 (wd q 1), .int .u64 (wd q 2), .int .u64 (wd q 3), .int .i64 lo, .int .i64 hi, .int .i64 gp, .slice a ks.length c] 36) ∧ wr.heap[w.heap.size + 1]? = some (.cells #[.int .i64 kd, .int .u64 (wd q 0), .int .u64 (wd q 1), .int .u64 (wd q 2), .int .u64 (wd q 3), .int .i64 lo, .int .i64 hi, .int .i64 gp, .slice a2 ks.length c2] 36) ∧ Below w.heap.size w wr) (fun iv _ => (ks.length - intOf iv).toNat)
 case atStart => exact ⟨0, by omega, rfl, fun i _ _ h => absurd h (Nat.not_lt_zero _), HX.out⟩
 case round =>
  clear HX z0 y0 z1 y1 z2 y2 z3 y3 z4 y4 z5 y5 z6 y6 z7 y7 z8 y8
  obtain ⟨k, hk1, rfl, hsm, gb1, gb2, gB⟩ := hrel
  have z8 : wr.cell? ⟨w.heap.size, 8, none⟩ = some (.slice a ks.length c) := by simp [World.cell?, gb1]
  have y8 : wr.cell? ⟨w.heap.size + 1, 8, none⟩ = some (.slice a2 ks.length c2) := by simp [World.cell?, gb2]
  by_cases hlt : k < ks.length
  ·have hlt2 : k < ks2.length := by omega
   obtain ⟨g, c', u, he, _, _, hcell, hku⟩ := xhx (xbu HA.out.1 gB) (i := k) (List.getElem?_eq_getElem hlt)
   obtain rfl : a = some ⟨g, 0, none⟩ := by injection he
   obtain ⟨ua, uc, rfl⟩ := xba hku
   obtain ⟨g2, c2', u2, he2, _, _, hcell2, hku2⟩ := xhx (xbu HA.out.2.1 gB) (i := k) (List.getElem?_eq_getElem hlt2)
   obtain rfl : a2 = some ⟨g2, 0, none⟩ := by injection he2
   obtain ⟨ua2, uc2, rfl⟩ := xba hku2
   have hic : ∀ d os, Calls Tryz.prog 9 #[xcm ks[k] (.slice ua ks[k].kids.length uc), xcm ks2[k] (.slice ua2 ks2[k].kids.length uc2)] (grow (redrawn wr d) os) fun e w'' => e = .returned (.bool (smT ks[k] ks2[k])) ∧ ∃ p : Regrown, w'' = grow (redrawn wr p.d) p.os := fun d os => Calls.regrown_of (HA.out.2.2 ks[k] (List.getElem_mem hlt) ks2[k] _ ok ok2 ua ua2 _ uc _ uc2 (xbu hku (below_regrown wr d os)) (xbu hku2 (below_regrown wr d os)))
   have z8 := fun d os => cell_regrown z8 d os
   have y8 := fun d os => cell_regrown y8 d os
   have p0 := fun d os => cell_regrown (hcell 0 _ rfl).1 d os
   have r0 := fun d os => cell_regrown (hcell2 0 _ rfl).1 d os
   have p1 := fun d os => cell_regrown (hcell 1 _ rfl).1 d os
   have r1 := fun d os => cell_regrown (hcell2 1 _ rfl).1 d os
   have p2 := fun d os => cell_regrown (hcell 2 _ rfl).1 d os
   have r2 := fun d os => cell_regrown (hcell2 2 _ rfl).1 d os
   have p3 := fun d os => cell_regrown (hcell 3 _ rfl).1 d os
   have r3 := fun d os => cell_regrown (hcell2 3 _ rfl).1 d os
   have p4 := fun d os => cell_regrown (hcell 4 _ rfl).1 d os
   have r4 := fun d os => cell_regrown (hcell2 4 _ rfl).1 d os
   have p5 := fun d os => cell_regrown (hcell 5 _ rfl).1 d os
   have r5 := fun d os => cell_regrown (hcell2 5 _ rfl).1 d os
   have p6 := fun d os => cell_regrown (hcell 6 _ rfl).1 d os
   have r6 := fun d os => cell_regrown (hcell2 6 _ rfl).1 d os
   have p7 := fun d os => cell_regrown (hcell 7 _ rfl).1 d os
   have r7 := fun d os => cell_regrown (hcell2 7 _ rfl).1 d os
   have p8 := fun d os => cell_regrown (hcell 8 _ rfl).1 d os
   have r8 := fun d os => cell_regrown (hcell2 8 _ rfl).1 d os
   simp only [Nat.add_zero] at p0 r0
   have k3 : (k : Int) < (ks.length : Int) := by omega
   have k4 : (0 : Int) ≤ (k : Int) := by omega
   have k5 : IntKind.i64.wrap ((k : Int) + 1) = (k : Int) + 1 := by rw [IntKind.wrap_i64]; omega
   have hsm := xab hsm
   have HC := xab (And.intro hic (And.intro gb1 (And.intro gb2 gB)))
   clear hcell hku he hcell2 hku2 he2 hic gb1 gb2 gB
   go_wp2_with fail
   refine wp_region_quiet_below (by kernel_rfl) (by kernel_rfl) ?_
   repeat (quiet_step (with_reducible exact HC.out.1 _ _))
   refine wpQuiet_nil ?_
   intro _ hw'
   obtain ⟨⟨dq, osq⟩, hw''⟩ := hw'
   subst hw''
   have hbr := below_regrown wr dq osq
   have HD := xab (And.intro ((hbr.block _ (Array.getElem?_eq_some_iff.1 HC.out.2.1).1).trans HC.out.2.1) (And.intro ((hbr.block _ (Array.getElem?_eq_some_iff.1 HC.out.2.2.1).1).trans HC.out.2.2.1) (HC.out.2.2.2.trans (hbr.mono HC.out.2.2.2.size))))
   clear hbr z8 y8 p0 r0 p1 r1 p2 r2 p3 r3 p4 r4 p5 r5 p6 r6 p7 r7 p8 r8
   cases hb : smT ks[k] ks2[k]
   ·have HR := xab (smL_at ks ks2 k hlt hlt2 hb)
    go_wp2
    go_ret
    exact ⟨by rw [HR.out]; rfl, HD.out.2.2⟩
   ·go_wp2
    exact ⟨⟨k + 1, by omega, by go_num, fun i h1 h2 h3 => by
     by_cases e : i = k
     ·subst e; exact hb
     ·exact hsm.out i h1 h2 (by omega), HD.out.1, HD.out.2.1, HD.out.2.2⟩, by simp [intOf]; omega⟩
  ·obtain rfl : k = ks.length := by omega
   have k3 : ¬ (ks.length : Int) < (ks.length : Int) := by omega
   have HB := xab gB
   have HR := xab (xtk ks ks2 hll.symm (fun i h1 h2 => hsm i h1 h2 h1))
   clear gb1 gb2 gB
   go_wp2
   go_ret
   exact ⟨by rw [HR.out]; rfl, HB.out⟩
theorem xtn {q q2 : Nat → Bool} (h : eqB q q2 = true) (i : Nat) (hi : i < 4) : wd q2 i = wd q i := xef _ _ _ (fun j hj => (((xff q q2).1 h) _ (by omega)).symm)
theorem xo5 : ∀ (m : Nat) (t : Tr), SizeOf.sizeOf t < m → xck t → ∀ (y : Tr) (w : World) (ok ok2 : Nat → Prop) (a a2 : Option Addr) (n c n2 c2 : Nat), Kids w ok (.slice a n c) t.kids → Kids w ok2 (.slice a2 n2 c2) y.kids → Calls Tryz.prog 9 #[xcm t (.slice a n c), xcm y (.slice a2 n2 c2)] w fun e w' => e = .returned (.bool (smT t y)) ∧ Below w.heap.size w w'
 | 0, t, h, _, _, _, _, _, _, _, _, _, _, _, _, _ => absurd h (Nat.not_lt_zero _)
 | m + 1, t, h, hsm, y, w, ok, ok2, a, a2, n, c, n2, c2, hk, hk2 => by
  have hn : n = t.kids.length := by
   obtain ⟨a', c', he⟩ := xba hk
   injection he
  have hn2 : n2 = y.kids.length := by
   obtain ⟨a', c', he⟩ := xba hk2
   injection he
  subst hn hn2
  have ih := fun x hx => xo5 m x (by have := xh0 (t := t) hx; omega) (xcb _ (xbt t hsm).2.2.2 x hx)
  have hl := (xbt t hsm).2.2.1.2
  obtain ⟨kd, q, lo, hi, gp, ks⟩ := t
  obtain ⟨kd2, q2, lo2, hi2, gp2, ks2⟩ := y
  simp only [Tr.kids] at hk hk2 hl ih
  unfold smT
  by_cases c1 : kd = kd2
  ·subst c1
   cases c2 : eqB q q2
   ·rw [Bool.and_false, Bool.false_and, Bool.false_and, Bool.false_and, Bool.false_and]
    exact same_set kd q lo hi gp q2 lo2 hi2 gp2 _ _ _ _ _ _ c2 w
   ·have hw : ∀ i, i < 4 → wd q2 i = wd q i := fun i hi => xtn c2 i hi
    simp only [xcm, Tr.q, Tr.kind, Tr.lo, Tr.hi, Tr.grp, Tr.kids]
    rw [hw 0 (by omega), hw 1 (by omega), hw 2 (by omega), hw 3 (by omega)]
    by_cases c3 : lo = lo2
    ·subst c3
     by_cases c4 : hi = hi2
     ·subst c4
      by_cases c5 : gp = gp2
      ·subst c5
       simp only [decide_true, Bool.true_and]
       by_cases c6 : ks2.length = ks.length
       ·rw [c6] at hk2 ⊢
        exact xtm kd q lo hi gp ks ks2 hl c6 ih w ok ok2 a a2 c _ hk hk2
       ·rw [xtj ks ks2 (fun e => c6 e.symm)]
        exact same_len kd q lo hi gp _ _ _ _ _ _ (fun e => c6 e.symm) w
      ·rw [decide_eq_false c5, Bool.and_false, Bool.false_and]
       exact same_grp kd q lo hi gp gp2 _ _ _ _ _ _ c5 w
     ·rw [decide_eq_false c4, Bool.and_false, Bool.false_and, Bool.false_and]
      exact same_hi kd q lo hi gp hi2 gp2 _ _ _ _ _ _ c4 w
    ·rw [decide_eq_false c3, Bool.and_false, Bool.false_and, Bool.false_and, Bool.false_and]
     exact same_lo kd q lo hi gp lo2 hi2 gp2 _ _ _ _ _ _ c3 w
  ·rw [decide_eq_false c1, Bool.false_and, Bool.false_and, Bool.false_and, Bool.false_and, Bool.false_and]
   exact xtl kd q lo hi gp kd2 q2 lo2 hi2 gp2 _ _ _ _ _ _ c1 w
open Go.RowKit Go.Shelf
theorem xo6 (s : ByteArray) (w : World) (hg : Glob w) : Calls Tryz.prog 8 #[.string s] w fun e w' => Below w.heap.size w w' ∧ ∃ a n c, e = .returned (.tuple #[.agg #[.int .i64 0, .int .u64 0, .int .u64 0, .int .u64 0, .int .u64 0, .int .i64 0, .int .i64 0, .int .i64 0, .slice a n c], .int .i64 (xb8 s).2.1, .int .i64 ((xb8 s).2.2 : Nat)]) ∧ ∀ ts, xav s = .ok ts → Kids w' (fun g => w.heap.size ≤ g) (.slice a n c) ts := by
 cases hp : xav s with
 | ok ts =>
  have e : xb8 s = (wrL stC ts, 0, 0) := by unfold xb8; rw [hp]
  rw [e]
  refine (doc_ok s ts hp w hg).mono ?_
  rintro e w' ⟨hb, a, n, c, he, hk⟩
  exact ⟨hb, a, n, c, he, fun us h => by injection h with h; rw [← h]; exact hk⟩
 | error x =>
  obtain ⟨er, p⟩ := x
  have e : xb8 s = ([], er, p) := by unfold xb8; rw [hp]
  rw [e]
  refine (doc_err s er p hp w hg).mono ?_
  rintro e w' ⟨hb, he⟩
  exact ⟨hb, none, 0, 0, he, fun us h => by cases h⟩
abbrev Two (x y : ByteArray) (W : World) (v1 v2 : Value) : Prop :=
 Calls Tryz.prog 9 #[.agg #[.int .i64 0, .int .u64 0, .int .u64 0, .int .u64 0, .int .u64 0, .int .i64 0, .int .i64 0, .int .i64 0, v1], .agg #[.int .i64 0, .int .u64 0, .int .u64 0, .int .u64 0, .int .u64 0, .int .i64 0, .int .i64 0, .int .i64 0, v2]] W fun e w' => e = .returned (.bool (decide (x = y))) ∧ Below W.heap.size W w'
theorem xto {x y : ByteArray} (h : ¬ x = y) : ¬ x.toList = y.toList := fun e => h ((xb0 (l := y.toList) (by rw [e]; simp)).trans (xb0 (s := y) (l := y.toList) (by simp)).symm)
theorem str_eq {l m : List UInt8} : (⟨l.toArray⟩ : ByteArray) = ⟨m.toArray⟩ ↔ l = m := by
 constructor
 ·intro h
  have h2 := congrArg (fun s : ByteArray => s.data.toList) h
  simpa using h2
 ·rintro rfl
  rfl
theorem two_of {a b : ByteArray} (h1 : (xb8 a).2.1 = 0) (h2 : (xb8 b).2.1 = 0) (hl : (xb8 a).1.length ≤ 512) {W : World} {a1 a2 : Option Addr} {n1 c1 n2 c2 : Nat} {ok ok2 : Nat → Prop} (hk1 : ∀ ts, xav a = .ok ts → Kids W ok (.slice a1 n1 c1) ts) (hk2 : ∀ ts, xav b = .ok ts → Kids W ok2 (.slice a2 n2 c2) ts) : Two ⟨(xb8 a).1.toArray⟩ ⟨(xb8 b).1.toArray⟩ W (.slice a1 n1 c1) (.slice a2 n2 c2) := by
 cases hp : xav a with
 | error x => 
  obtain ⟨er, p⟩ := x
  have e : xb8 a = ([], er, p) := by unfold xb8; rw [hp]
  rw [e] at h1
  exact absurd h1 (xfn a er p hp).1
 | ok ts =>
  cases hq : xav b with
  | error x =>
   obtain ⟨er, p⟩ := x
   have e : xb8 b = ([], er, p) := by unfold xb8; rw [hq]
   rw [e] at h2
   exact absurd h2 (xfn b er p hq).1
  | ok us =>
   have e1 : xb8 a = (wrL stC ts, 0, 0) := by unfold xb8; rw [hp]
   have e2 : xb8 b = (wrL stC us, 0, 0) := by unfold xb8; rw [hq]
   rw [e1] at hl ⊢
   rw [e2]
   have hs := xo5 _ (catT ts) (Nat.lt_succ_self _) (xh1 a ts hp) (catT us) W ok ok2 a1 a2 n1 c1 n2 c2 (hk1 ts hp) (hk2 us hq)
   have hb : smT (catT ts) (catT us) = decide ((⟨(wrL stC ts).toArray⟩ : ByteArray) = ⟨(wrL stC us).toArray⟩) := by
    rw [Bool.eq_iff_iff, xth, decide_eq_true_eq, str_eq, xqg hp hq hl]
    simp [catT, nfT]
   rw [hb] at hs
   exact hs
namespace ones
theorem core (a b : ByteArray) (x y : ByteArray) (E1 E2 : Int) (P1 P2 : Nat) (w : World)
  (HW : Hid (Calls Tryz.prog 7 #[] w fun e w' => e = .returned (.bool true) ∧ Below w.heap.size w w'))
  (HA : Hid (∀ W, Below w.heap.size w W → Calls Tryz.prog 5 #[.string a] W fun e w' => e = .returned (.tuple #[.string x, .agg #[.int .i64 E1, .int .i64 P1]]) ∧ Below W.heap.size W w'))
  (HB : Hid (∀ W, Below w.heap.size w W → Calls Tryz.prog 5 #[.string b] W fun e w' => e = .returned (.tuple #[.string y, .agg #[.int .i64 E2, .int .i64 P2]]) ∧ Below W.heap.size W w'))
  (DA : Hid (∀ W, Below w.heap.size w W → Calls Tryz.prog 8 #[.string a] W fun e w' => Below W.heap.size W w' ∧ ∃ a' n c, e = .returned (.tuple #[.agg #[.int .i64 0, .int .u64 0, .int .u64 0, .int .u64 0, .int .u64 0, .int .i64 0, .int .i64 0, .int .i64 0, .slice a' n c], .int .i64 E1, .int .i64 P1]) ∧ Hid (∀ ts, xav a = .ok ts → Kids w' (fun g => W.heap.size ≤ g) (.slice a' n c) ts)))
  (DB : Hid (∀ W, Below w.heap.size w W → Calls Tryz.prog 8 #[.string b] W fun e w' => Below W.heap.size W w' ∧ ∃ a' n c, e = .returned (.tuple #[.agg #[.int .i64 0, .int .u64 0, .int .u64 0, .int .u64 0, .int .u64 0, .int .i64 0, .int .i64 0, .int .i64 0, .slice a' n c], .int .i64 E2, .int .i64 P2]) ∧ Hid (∀ ts, xav b = .ok ts → Kids w' (fun g => W.heap.size ≤ g) (.slice a' n c) ts)))
  (HT : Hid (E1 = 0 → E2 = 0 → x.size ≤ 512 → ∀ (W : World) (ok ok2 : Nat → Prop) (a1 a2 : Option Addr) (n1 c1 n2 c2 : Nat), (∀ ts, xav a = .ok ts → Kids W ok (.slice a1 n1 c1) ts) → (∀ ts, xav b = .ok ts → Kids W ok2 (.slice a2 n2 c2) ts) → Two x y W (.slice a1 n1 c1) (.slice a2 n2 c2))) :
  Calls Tryz.prog 4 #[.string a, .string b] w fun e w' => e = .returned (.bool true) ∧ Below w.heap.size w w' := by
 go_enter Tryz.func4, Tryz.ntmps4
 go_wp2_with fail
 refine HW.out.mono ?_
 rintro e w0 ⟨rfl, hb0⟩
 have B0 := xab hb0
 clear hb0
 go_wp2_with fail
 refine (HA.out _ B0.out).mono ?_
 rintro e w1 ⟨rfl, hb1⟩
 have B1 := xab (B0.out.trans (hb1.mono B0.out.size))
 clear hb1
 go_wp2_with fail
 have B1a := xab (B1.out.alloc B1.out.size (.cells #[.int .i64 E1, .int .i64 P1] 24))
 refine (HB.out _ B1a.out).mono ?_
 rintro e w2 ⟨rfl, hb2⟩
 have B2 := xab (And.intro (B1a.out.trans (hb2.mono B1a.out.size)) ((hb2.block w1.heap.size (by rw [World.size_alloc]; omega)).trans (heap_alloc_new w1 (.cells #[.int .i64 E1, .int .i64 P1] 24))))
 clear hb2
 go_wp2_with fail
 have B2a := xab (B2.out.1.alloc B2.out.1.size (.cells #[.int .i64 E2, .int .i64 P2] 24))
 refine (DA.out _ B2a.out).mono ?_
 rintro e w3 ⟨hb3, a1, n1, c1, rfl, K1⟩
 have B3 := xab (And.intro (B2a.out.trans (hb3.mono B2a.out.size)) (And.intro ((hb3.block w1.heap.size (by have := (Array.getElem?_eq_some_iff.1 B2.out.2).1; rw [World.size_alloc]; omega)).trans ((Below.heap_alloc w2 _ _ (Array.getElem?_eq_some_iff.1 B2.out.2).1).trans B2.out.2)) ((hb3.block w2.heap.size (by rw [World.size_alloc]; omega)).trans (heap_alloc_new w2 (.cells #[.int .i64 E2, .int .i64 P2] 24)))))
 clear hb3
 go_wp2_with fail
 have B3a := xab (B3.out.1.alloc B3.out.1.size (.cells #[.int .i64 0, .int .u64 0, .int .u64 0, .int .u64 0, .int .u64 0, .int .i64 0, .int .i64 0, .int .i64 0, .slice a1 n1 c1] 36))
 refine (DB.out _ B3a.out).mono ?_
 rintro e w4 ⟨hb4, a2, n2, c2, rfl, K2⟩
 have hl1 := (Array.getElem?_eq_some_iff.1 B3.out.2.1).1
 have hl2 := (Array.getElem?_eq_some_iff.1 B3.out.2.2).1
 have hs3 : (w3.alloc (.cells #[.int .i64 0, .int .u64 0, .int .u64 0, .int .u64 0, .int .u64 0, .int .i64 0, .int .i64 0, .int .i64 0, .slice a1 n1 c1] 36)).heap.size = w3.heap.size + 1 := World.size_alloc w3 _
 have q1 := (hb4.block w1.heap.size (by omega)).trans ((Below.heap_alloc w3 (.cells #[.int .i64 0, .int .u64 0, .int .u64 0, .int .u64 0, .int .u64 0, .int .i64 0, .int .i64 0, .int .i64 0, .slice a1 n1 c1] 36) _ hl1).trans B3.out.2.1)
 have q2 := (hb4.block w2.heap.size (by omega)).trans ((Below.heap_alloc w3 (.cells #[.int .i64 0, .int .u64 0, .int .u64 0, .int .u64 0, .int .u64 0, .int .i64 0, .int .i64 0, .int .i64 0, .slice a1 n1 c1] 36) _ hl2).trans B3.out.2.2)
 have q3 := (hb4.block w3.heap.size (by omega)).trans (heap_alloc_new w3 (.cells #[.int .i64 0, .int .u64 0, .int .u64 0, .int .u64 0, .int .u64 0, .int .i64 0, .int .i64 0, .int .i64 0, .slice a1 n1 c1] 36))
 have hB4 := B3a.out.trans (hb4.mono B3a.out.size)
 have hk1 : Below w3.heap.size w3 w4 := ((Below.refl w3.heap.size w3).alloc (Nat.le_refl _) (.cells #[.int .i64 0, .int .u64 0, .int .u64 0, .int .u64 0, .int .u64 0, .int .i64 0, .int .i64 0, .int .i64 0, .slice a1 n1 c1] 36)).trans (hb4.mono (by omega))
 have cl : ∀ (o : Obj) (g : Nat) (cs : Array Value) (ty : TypeId) (k : Nat) (u : Value), w4.heap[g]? = some (.cells cs ty (0, 0)) → cs[k]? = some u → (w4.alloc o).cell? ⟨g, k, none⟩ = some u := fun o g cs ty k u hg hu => by
  have h3 : (w4.alloc o).heap[g]? = some (.cells cs ty (0, 0)) := (Below.heap_alloc w4 o _ (Array.getElem?_eq_some_iff.1 hg).1).trans hg
  generalize w4.alloc o = X at h3 ⊢
  simp [World.cell?, h3, hu]
 have f0 : ∀ o, (w4.alloc o).cell? ⟨w1.heap.size, 0, none⟩ = some (.int .i64 E1) := fun o => cl o _ _ _ 0 _ q1 rfl
 have g0 : ∀ o, (w4.alloc o).cell? ⟨w2.heap.size, 0, none⟩ = some (.int .i64 E2) := fun o => cl o _ _ _ 0 _ q2 rfl
 have t0 : ∀ o, (w4.alloc o).cell? ⟨w3.heap.size, 0, none⟩ = some (.int .i64 0) := fun o => cl o _ _ _ 0 _ q3 rfl
 have t1 : ∀ o, (w4.alloc o).cell? ⟨w3.heap.size, 1, none⟩ = some (.int .u64 0) := fun o => cl o _ _ _ 1 _ q3 rfl
 have t2 : ∀ o, (w4.alloc o).cell? ⟨w3.heap.size, 2, none⟩ = some (.int .u64 0) := fun o => cl o _ _ _ 2 _ q3 rfl
 have t3 : ∀ o, (w4.alloc o).cell? ⟨w3.heap.size, 3, none⟩ = some (.int .u64 0) := fun o => cl o _ _ _ 3 _ q3 rfl
 have t4 : ∀ o, (w4.alloc o).cell? ⟨w3.heap.size, 4, none⟩ = some (.int .u64 0) := fun o => cl o _ _ _ 4 _ q3 rfl
 have t5 : ∀ o, (w4.alloc o).cell? ⟨w3.heap.size, 5, none⟩ = some (.int .i64 0) := fun o => cl o _ _ _ 5 _ q3 rfl
 have t6 : ∀ o, (w4.alloc o).cell? ⟨w3.heap.size, 6, none⟩ = some (.int .i64 0) := fun o => cl o _ _ _ 6 _ q3 rfl
 have t7 : ∀ o, (w4.alloc o).cell? ⟨w3.heap.size, 7, none⟩ = some (.int .i64 0) := fun o => cl o _ _ _ 7 _ q3 rfl
 have t8 : ∀ o, (w4.alloc o).cell? ⟨w3.heap.size, 8, none⟩ = some (.slice a1 n1 c1) := fun o => cl o _ _ _ 8 _ q3 rfl
 have HF := xab (fun o => hB4.alloc hB4.size o)
 have HK := xab (fun (o : Obj) => And.intro (fun ts h => xbu (K1.out ts h) (hk1.alloc hk1.size o)) (fun ts h => xbu (K2.out ts h) ((Below.refl w4.heap.size w4).alloc (Nat.le_refl _) o)))
 clear q1 q2 q3 hB4 hk1 hb4 hl1 hl2 hs3 cl
 by_cases e1 : E1 = 0
 ·by_cases e2 : E2 = 0
  ·by_cases l1 : x.size ≤ 512
   ·by_cases l2 : y.size ≤ 512
    ·have HS := xab (fun o => HT.out e1 e2 l1 (w4.alloc o) _ _ a1 a2 n1 c1 n2 c2 (HK.out o).1 (HK.out o).2)
     subst e1 e2
     have m1 : ¬ (512 : Int) < (x.size : Int) := by omega
     have m2 : ¬ (512 : Int) < (y.size : Int) := by omega
     clear l1 l2
     go_wp2_with fail
     refine Calls.mono (HS.out _) ?_
     rintro e w5 ⟨rfl, hb5⟩
     have HE := xab ((HF.out _).trans (hb5.mono (HF.out _).size))
     clear hb5
     by_cases hxy : x = y
     ·subst hxy
      rw [decide_eq_true rfl]
      go_wp2
      go_ret
      exact ⟨by simp, HE.out⟩
     ·have k1 : (x.toList == y.toList) = false := by rw [beq_eq_false_iff_ne]; exact xto hxy
      have HN := xab (xto hxy)
      rw [decide_eq_false hxy]
      go_wp2
      go_ret
      exact ⟨by first | rfl | simp | simpa using HN.out, HE.out⟩
    ·subst e1 e2
     have m1 : ¬ (512 : Int) < (x.size : Int) := by omega
     have m2 : (512 : Int) < (y.size : Int) := by omega
     clear l1 l2
     go_wp2
     go_ret
     exact ⟨rfl, HF.out _⟩
   ·subst e1 e2
    have m1 : (512 : Int) < (x.size : Int) := by omega
    clear l1
    go_wp2
    go_ret
    exact ⟨rfl, HF.out _⟩
  ·have k1 : (E2 == 0) = false := by rw [beq_eq_false_iff_ne]; exact e2
   have k2 : (E2 != 0) = true := by rw [bne_iff_ne]; exact e2
   subst e1
   clear e2
   go_wp2
   go_ret
   exact ⟨rfl, HF.out _⟩
 ·have k1 : (E1 == 0) = false := by rw [beq_eq_false_iff_ne]; exact e1
  have k2 : (E1 != 0) = true := by rw [bne_iff_ne]; exact e1
  by_cases e2 : E2 = 0
  ·subst e2
   clear e1
   go_wp2
   go_ret
   exact ⟨rfl, HF.out _⟩
  ·have k3 : (E2 == 0) = false := by rw [beq_eq_false_iff_ne]; exact e2
   have k4 : (E2 != 0) = true := by rw [bne_iff_ne]; exact e2
   clear e1 e2
   go_wp2
   go_ret
   exact ⟨rfl, HF.out _⟩
theorem walk (a b : ByteArray) (w : World) (hg : Glob w) (ht : Tab w) : Calls Tryz.prog 4 #[.string a, .string b] w fun e w' => e = .returned (.bool true) ∧ Below w.heap.size w w' := by
 have hG := fun (W : World) (h : Below w.heap.size w W) => hg.below h (Nat.le_refl _)
 have hT := fun (W : World) (h : Below w.heap.size w W) => ht.below h (Nat.le_refl _)
 exact core a b ⟨(xb8 a).1.toArray⟩ ⟨(xb8 b).1.toArray⟩ (xb8 a).2.1 (xb8 b).2.1 (xb8 a).2.2 (xb8 b).2.2 w (xab (xqp w hg ht))
  (xab fun W h => xdm a W (hG W h) (hT W h)) (xab fun W h => xdm b W (hG W h) (hT W h))
  (xab fun W h => xo6 a W (hG W h)) (xab fun W h => xo6 b W (hG W h))
  (xab fun h1 h2 hl W ok ok2 a1 a2 n1 c1 n2 c2 k1 k2 => two_of h1 h2 (by rw [xc7] at hl; exact hl) k1 k2)
end ones
end Go.Proofs.YtaapmphdnholaaaGreatDoor
