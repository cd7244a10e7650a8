/- measure: ofTree, for any tree whose numbers fit. -/
import Derived.Test.YtolpakpdkheanaaKMd
set_option maxRecDepth 100000
set_option maxHeartbeats 4000000
namespace Go.Proofs.Ytolpakpdkheanaa.br
open Go.RowKit
mutual
def fitT : Tr → Prop
 | .mk k q lo hi g kids => FitM (msT (.mk k q lo hi g kids)) ∧ (k = 5 → 0 ≤ lo ∧ lo ≤ 255) ∧ kids.length ≤ 1000000 ∧ fitF .zero kids
def fitF : Ms → List Tr → Prop
 | m, [] => FitM m
 | m, t :: ts => FitM m ∧ fitT t ∧ fitF (m.both (msT t)) ts
end
theorem xd5 (t : Tr) (h : fitT t) : FitM (msT t) ∧ (t.kind = 5 → 0 ≤ t.lo ∧ t.lo ≤ 255) ∧ t.kids.length ≤ 1000000 ∧ fitF .zero t.kids := by
 obtain ⟨k, q, lo, hi, g, kids⟩ := t
 exact h
theorem xh9 : ∀ (ts : List Tr) (m : Ms), fitF m ts → ∀ t ∈ ts, fitT t
 | t :: ts, m, h, x, hx => by
  rcases List.mem_cons.1 hx with rfl | hx
  ·exact h.2.1
  ·exact xh9 ts _ h.2.2 x hx
theorem xju : ∀ (ts : List Tr) (m : Ms) (k : Nat), fitF m ts → FitM (msF m (ts.take k))
 | [], m, k, h => by rw [List.take_nil]; simp only [msF]; exact h
 | t :: ts, m, 0, h => by simp only [List.take_zero, msF]; exact h.1
 | t :: ts, m, k + 1, h => by simp only [List.take_succ_cons, msF]; exact xju ts _ k h.2.2
theorem xlc (t : Tr) (hfit : fitT t) (ih : ∀ x ∈ t.kids, ∀ (w : World) (ok : Nat → Prop) (a : Option Addr) (n c : Nat), Kids w ok (.slice a n c) x.kids → Calls Try.prog 28 #[nodeA x (.slice a n c)] w fun e w' => e = .returned (.agg (msT x).arr) ∧ Below w.heap.size w w')
  (w : World) (ok : Nat → Prop) (a : Option Addr) (c : Nat) (hk : Kids w ok (.slice a t.kids.length c) t.kids) :
  Calls Try.prog 28 #[nodeA t (.slice a t.kids.length c)] w fun e w' => e = .returned (.agg (msT t).arr) ∧ Below w.heap.size w w' := by
 have htg : ∀ W, Below w.heap.size w W → Calls Try.prog 53 #[.slice a t.kids.length c] W fun e w' => e = .returned (.agg (msF .zero t.kids).arr) ∧ Below W.heap.size W w' := fun W hW =>
  xh8 t.kids (xd5 t hfit).2.2.1 (fun k _ => xju _ _ k (xd5 t hfit).2.2.2) ih (fun x hx => (xd5 x (xh9 _ _ (xd5 t hfit).2.2.2 x hx)).1) W ok a c (xc1 hk hW)
 have hfm := (xd5 t hfit).1
 have hlo := (xd5 t hfit).2.1
 obtain ⟨kd, q, lo, hi, gp, ks⟩ := t
 simp only [Tr.kids, Tr.kind, Tr.lo] at htg hlo
 have HA := xbj htg
 clear hk ih hfit htg
 show Calls Try.prog 28 #[.agg #[.int .i64 kd, .int .u64 (wd q 0), .int .u64 (wd q 1), .int .u64 (wd q 2), .int .u64 (wd q 3), .int .i64 lo, .int .i64 hi, .int .i64 gp, .slice a ks.length c]] w _
 by_cases c1 : kd = 1
 ·subst c1
  have hE : Hid (msT (.mk 1 q lo hi gp ks) = ⟨1, 0, 1, 1, false, false, false⟩) := xbj (by simp [msT])
  clear hfm hlo
  go_enter Try.func28, Try.ntmps28
  go_wp2
  refine bodyPost_ret (by simp [results, Try.results28, go_sem]; try rfl) rfl ?_
  exact ⟨by rw [hE.out], ((Below.refl _ _).alloc (Nat.le_refl _) _).alloc (by rw [World.size_alloc]; omega) _⟩
 by_cases c2 : kd = 2
 ·subst c2
  have hE : Hid (msT (.mk 2 q lo hi gp ks) = ⟨0, 0, 0, 0, false, true, false⟩) := xbj (by simp [msT])
  clear hfm hlo
  go_enter Try.func28, Try.ntmps28
  go_wp2
  refine bodyPost_ret (by simp [results, Try.results28, go_sem]; try rfl) rfl ?_
  exact ⟨by rw [hE.out], ((Below.refl _ _).alloc (Nat.le_refl _) _).alloc (by rw [World.size_alloc]; omega) _⟩
 by_cases c3 : kd = 3
 ·subst c3
  have hE : Hid (msT (.mk 3 q lo hi gp ks) = ⟨0, 0, 0, 0, false, false, true⟩) := xbj (by simp [msT])
  clear hfm hlo
  go_enter Try.func28, Try.ntmps28
  go_wp2
  refine bodyPost_ret (by simp [results, Try.results28, go_sem]; try rfl) rfl ?_
  exact ⟨by rw [hE.out], ((Below.refl _ _).alloc (Nat.le_refl _) _).alloc (by rw [World.size_alloc]; omega) _⟩
 by_cases c6 : kd = 6
 ·subst c6
  have hE : Hid (msT (.mk 6 q lo hi gp ks) = ⟨1, 0, 0, -1, true, false, false⟩) := xbj (by simp [msT])
  clear hfm hlo
  go_enter Try.func28, Try.ntmps28
  go_wp2
  refine bodyPost_ret (by simp [results, Try.results28, go_sem]; try rfl) rfl ?_
  exact ⟨by rw [hE.out], ((Below.refl _ _).alloc (Nat.le_refl _) _).alloc (by rw [World.size_alloc]; omega) _⟩
 have e1 : ((kd : Int) == 1) = false := by rw [beq_eq_false_iff_ne]; omega
 have e2 : ((kd : Int) == 2) = false := by rw [beq_eq_false_iff_ne]; omega
 have e3 : ((kd : Int) == 3) = false := by rw [beq_eq_false_iff_ne]; omega
 have e6 : ((kd : Int) == 6) = false := by rw [beq_eq_false_iff_ne]; omega
 go_enter Try.func28, Try.ntmps28
 go_upto_region 10 with fail
 obtain ⟨X, hX⟩ : ∃ X, X = (w.alloc (.cells #[.int .i64 kd, .int .u64 (wd q 0), .int .u64 (wd q 1), .int .u64 (wd q 2), .int .u64 (wd q 3), .int .i64 lo, .int .i64 hi, .int .i64 gp, .slice a ks.length c] 41)).alloc (.cells #[.int .i64 0, .int .i64 0, .int .i64 0, .int .i64 0, .bool false, .bool false, .bool false] 50) := ⟨_, rfl⟩
 have hXs : X.heap.size = w.heap.size + 1 + 1 := by rw [hX, World.size_alloc, World.size_alloc]
 have xb1 : X.heap[w.heap.size]? = some (.cells #[.int .i64 kd, .int .u64 (wd q 0), .int .u64 (wd q 1), .int .u64 (wd q 2), .int .u64 (wd q 3), .int .i64 lo, .int .i64 hi, .int .i64 gp, .slice a ks.length c] 41) := by
  rw [hX, Below.heap_alloc _ _ _ (by rw [World.size_alloc]; omega)]
  exact heap_alloc_new w _
 have xb2 : X.heap[w.heap.size + 1]? = some (.cells #[.int .i64 0, .int .i64 0, .int .i64 0, .int .i64 0, .bool false, .bool false, .bool false] 50) := by
  rw [hX, ← World.size_alloc w (.cells #[.int .i64 kd, .int .u64 (wd q 0), .int .u64 (wd q 1), .int .u64 (wd q 2), .int .u64 (wd q 3), .int .i64 lo, .int .i64 hi, .int .i64 gp, .slice a ks.length c] 41)]
  exact heap_alloc_new _ _
 have hBX : Below w.heap.size w X := by
  rw [hX]
  exact ((Below.refl _ _).alloc (Nat.le_refl _) _).alloc (by rw [World.size_alloc]; omega) _
 rw [← hX]
 clear hX
 have y0 : X.cell? ⟨w.heap.size, 0, none⟩ = some (.int .i64 kd) := by simp [World.cell?, xb1]
 have y5 : X.cell? ⟨w.heap.size, 5, none⟩ = some (.int .i64 lo) := by simp [World.cell?, xb1]
 have y6 : X.cell? ⟨w.heap.size, 6, none⟩ = some (.int .i64 hi) := by simp [World.cell?, xb1]
 have y8 : X.cell? ⟨w.heap.size, 8, none⟩ = some (.slice a ks.length c) := by simp [World.cell?, xb1]
 have HX := xbj (And.intro xb1 (And.intro xb2 (And.intro hBX hXs)))
 clear xb1 xb2 hBX hXs
 go_wp2_with fail
 refine (HA.out X HX.out.2.2.1).mono ?_
 rintro e w2 ⟨rfl, hb2⟩
 obtain ⟨A, hA⟩ : ∃ A, A = msF .zero ks := ⟨_, rfl⟩
 rw [← hA]
 clear y0 y5 y6 y8
 obtain ⟨V, hV⟩ : ∃ V, V = w2.alloc (.cells A.arr 50) := ⟨_, rfl⟩
 have hsz := hb2.size
 have hXs := HX.out.2.2.2
 have v1 : V.heap[w.heap.size]? = some (.cells #[.int .i64 kd, .int .u64 (wd q 0), .int .u64 (wd q 1), .int .u64 (wd q 2), .int .u64 (wd q 3), .int .i64 lo, .int .i64 hi, .int .i64 gp, .slice a ks.length c] 41) := by rw [hV, Below.heap_alloc _ _ _ (by omega), hb2.block _ (by omega)]; exact HX.out.1
 have v2 : V.heap[w.heap.size + 1]? = some (.cells #[.int .i64 0, .int .i64 0, .int .i64 0, .int .i64 0, .bool false, .bool false, .bool false] 50) := by rw [hV, Below.heap_alloc _ _ _ (by omega), hb2.block _ (by omega)]; exact HX.out.2.1
 have v3 : V.heap[w2.heap.size]? = some (.cells A.arr 50 (0, 0)) := by rw [hV]; exact heap_alloc_new w2 _
 have hBV : Below w.heap.size w V := by rw [hV]; exact (HX.out.2.2.1.trans (hb2.mono (by omega))).alloc (by omega) _
 have hVs : V.heap.size = w2.heap.size + 1 := by rw [hV, World.size_alloc]
 have y0 : V.cell? ⟨w.heap.size, 0, none⟩ = some (.int .i64 kd) := by simp [World.cell?, v1]
 have y5 : V.cell? ⟨w.heap.size, 5, none⟩ = some (.int .i64 lo) := by simp [World.cell?, v1]
 have y6 : V.cell? ⟨w.heap.size, 6, none⟩ = some (.int .i64 hi) := by simp [World.cell?, v1]
 have z0 : V.cell? ⟨w2.heap.size, 0, none⟩ = some (.int .i64 A.pos) := by simp [World.cell?, v3]
 have f0 : V.frozen? ⟨w2.heap.size, 0, none⟩ = false := by simp [World.frozen?, v3]
 have z1 : V.cell? ⟨w2.heap.size, 1, none⟩ = some (.int .i64 A.groups) := by simp [World.cell?, v3]
 have f1 : V.frozen? ⟨w2.heap.size, 1, none⟩ = false := by simp [World.frozen?, v3]
 have z2 : V.cell? ⟨w2.heap.size, 2, none⟩ = some (.int .i64 A.least) := by simp [World.cell?, v3]
 have f2 : V.frozen? ⟨w2.heap.size, 2, none⟩ = false := by simp [World.frozen?, v3]
 have z3 : V.cell? ⟨w2.heap.size, 3, none⟩ = some (.int .i64 A.most) := by simp [World.cell?, v3]
 have f3 : V.frozen? ⟨w2.heap.size, 3, none⟩ = false := by simp [World.frozen?, v3]
 have z4 : V.cell? ⟨w2.heap.size, 4, none⟩ = some (.bool A.back) := by simp [World.cell?, v3]
 have f4 : V.frozen? ⟨w2.heap.size, 4, none⟩ = false := by simp [World.frozen?, v3]
 have z5 : V.cell? ⟨w2.heap.size, 5, none⟩ = some (.bool A.bol) := by simp [World.cell?, v3]
 have f5 : V.frozen? ⟨w2.heap.size, 5, none⟩ = false := by simp [World.frozen?, v3]
 have z6 : V.cell? ⟨w2.heap.size, 6, none⟩ = some (.bool A.eol) := by simp [World.cell?, v3]
 have f6 : V.frozen? ⟨w2.heap.size, 6, none⟩ = false := by simp [World.frozen?, v3]
 have r0 : V.cell? ⟨w.heap.size + 1, 0, none⟩ = some (.int .i64 0) := by simp [World.cell?, v2]
 have s0 : V.frozen? ⟨w.heap.size + 1, 0, none⟩ = false := by simp [World.frozen?, v2]
 have r1 : V.cell? ⟨w.heap.size + 1, 1, none⟩ = some (.int .i64 0) := by simp [World.cell?, v2]
 have s1 : V.frozen? ⟨w.heap.size + 1, 1, none⟩ = false := by simp [World.frozen?, v2]
 have r2 : V.cell? ⟨w.heap.size + 1, 2, none⟩ = some (.int .i64 0) := by simp [World.cell?, v2]
 have s2 : V.frozen? ⟨w.heap.size + 1, 2, none⟩ = false := by simp [World.frozen?, v2]
 have r3 : V.cell? ⟨w.heap.size + 1, 3, none⟩ = some (.int .i64 0) := by simp [World.cell?, v2]
 have s3 : V.frozen? ⟨w.heap.size + 1, 3, none⟩ = false := by simp [World.frozen?, v2]
 have r4 : V.cell? ⟨w.heap.size + 1, 4, none⟩ = some (.bool false) := by simp [World.cell?, v2]
 have s4 : V.frozen? ⟨w.heap.size + 1, 4, none⟩ = false := by simp [World.frozen?, v2]
 have r5 : V.cell? ⟨w.heap.size + 1, 5, none⟩ = some (.bool false) := by simp [World.cell?, v2]
 have s5 : V.frozen? ⟨w.heap.size + 1, 5, none⟩ = false := by simp [World.frozen?, v2]
 have r6 : V.cell? ⟨w.heap.size + 1, 6, none⟩ = some (.bool false) := by simp [World.cell?, v2]
 have s6 : V.frozen? ⟨w.heap.size + 1, 6, none⟩ = false := by simp [World.frozen?, v2]
 have hne2 : (w2.heap.size = w.heap.size + 1) = False := eq_false (by omega)
 have hne3 : (w.heap.size + 1 = w2.heap.size) = False := eq_false (by omega)
 have hne4 : (w.heap.size = w2.heap.size) = False := eq_false (by omega)
 have hne5 : (w2.heap.size = w.heap.size) = False := eq_false (by omega)
 have HH := xbj (And.intro hA (And.intro v1 (And.intro v2 (And.intro v3 (And.intro hBV (And.intro hsz (And.intro hXs (And.intro hb2 hfm))))))))
 clear hA v1 v2 v3 hBV hsz hXs hb2 hfm
 go_upto_region 11 with fail
 rw [← hV]
 clear hV
 obtain ⟨hA, v1, v2, v3, hBV, hsz, hXs, hb2, hfm⟩ := HH.out
 clear HH
 by_cases c4 : kd = 4
 ·have e4 : ((kd : Int) == 4) = true := by rw [beq_iff_eq]; omega
  have hE : msT (.mk kd q lo hi gp ks) = (msF .zero ks).grp := by rw [c4]; simp [msT]
  rw [hE] at hfm
  have HE := xbj hE
  clear hE hlo c4
  have k1 : IntKind.i64.wrap (A.groups + 1) = A.groups + 1 := by
   rw [← hA] at hfm
   have := hfm.2.1
   have h2 : A.grp.groups = A.groups + 1 := rfl
   rw [IntKind.wrap_i64]; omega
  have HD := xbj (And.intro v2 (And.intro v3 (And.intro hBV (And.intro hA (And.intro hsz hXs)))))
  clear v1 v2 v3 hBV hA hsz hXs hfm hb2
  go_wp2
  obtain ⟨Y, hY⟩ : ∃ Y, Y = (((((((V.setCell ⟨w2.heap.size, 1, none⟩ (.int .i64 (A.groups + 1))).setCell ⟨w.heap.size + 1, 0, none⟩ (.int .i64 A.pos)).setCell ⟨w.heap.size + 1, 1, none⟩ (.int .i64 (A.groups + 1))).setCell ⟨w.heap.size + 1, 2, none⟩ (.int .i64 A.least)).setCell ⟨w.heap.size + 1, 3, none⟩ (.int .i64 A.most)).setCell ⟨w.heap.size + 1, 4, none⟩ (.bool A.back)).setCell ⟨w.heap.size + 1, 5, none⟩ (.bool A.bol)).setCell ⟨w.heap.size + 1, 6, none⟩ (.bool A.eol) := ⟨_, rfl⟩
  have yb : Y.heap[w.heap.size + 1]? = some (.cells (⟨A.pos, (A.groups + 1), A.least, A.most, A.back, A.bol, A.eol⟩ : Ms).arr 50 (0, 0)) := by rw [hY]; exact xd4 (m0 := .zero) ⟨A.pos, (A.groups + 1), A.least, A.most, A.back, A.bol, A.eol⟩ ((put_far V _ _ _ (by have := HD.out.2.2.2.2.1; have := HD.out.2.2.2.2.2; omega)).trans HD.out.1)
  have yB : Below w.heap.size w Y := by rw [hY]; exact xbs (HD.out.2.2.1.setCell (p := ⟨w2.heap.size, 1, none⟩) (by have := HD.out.2.2.2.2.1; have := HD.out.2.2.2.2.2; show w.heap.size ≤ w2.heap.size; omega) _) (by omega) ⟨A.pos, (A.groups + 1), A.least, A.most, A.back, A.bol, A.eol⟩
  rw [← hY]
  clear hY
  have o0 : Y.cell? ⟨w.heap.size + 1, 0, none⟩ = some (.int .i64 A.pos) := by simp [World.cell?, yb]
  have o1 : Y.cell? ⟨w.heap.size + 1, 1, none⟩ = some (.int .i64 ((A.groups + 1))) := by simp [World.cell?, yb]
  have o2 : Y.cell? ⟨w.heap.size + 1, 2, none⟩ = some (.int .i64 A.least) := by simp [World.cell?, yb]
  have o3 : Y.cell? ⟨w.heap.size + 1, 3, none⟩ = some (.int .i64 A.most) := by simp [World.cell?, yb]
  have o4 : Y.cell? ⟨w.heap.size + 1, 4, none⟩ = some (.bool A.back) := by simp [World.cell?, yb]
  have o5 : Y.cell? ⟨w.heap.size + 1, 5, none⟩ = some (.bool A.bol) := by simp [World.cell?, yb]
  have o6 : Y.cell? ⟨w.heap.size + 1, 6, none⟩ = some (.bool A.eol) := by simp [World.cell?, yb]
  refine bodyPost_ret (by simp [results, Try.results28, go_sem, o0, o1, o2, o3, o4, o5, o6]; try rfl) rfl ?_
  exact ⟨by rw [HE.out, ← HD.out.2.2.2.1]; rfl, yB⟩
 have e4 : ((kd : Int) == 4) = false := by rw [beq_eq_false_iff_ne]; omega
 by_cases c5 : kd = 5
 ·have e5 : ((kd : Int) == 5) = true := by rw [beq_iff_eq]; omega
  have hE : msT (.mk kd q lo hi gp ks) = (msF .zero ks).rep lo hi := by rw [c5]; simp [msT]
  rw [hE] at hfm
  have HE := xbj hE
  have hlo' := hlo c5
  clear hE hlo c4 c5
  have hrp := fun W => xjt A lo hi hlo' (by rw [← hA] at hfm; have h := hfm.1; have h2 : (A.rep lo hi).pos = A.pos * wrM lo hi := rfl; rw [h2] at h; omega) (by rw [← hA] at hfm; have h := hfm.2.2.1; have h2 : (A.rep lo hi).least = A.least * lo := rfl; rw [h2] at h; omega) (by rw [← hA] at hfm; have h := hfm.2.2.2; have h2 : (A.rep lo hi).most = xdh hi A.most := rfl; rw [h2] at h; omega) W
  have HD := xbj (And.intro v2 (And.intro v3 (And.intro hBV (And.intro hA (And.intro hsz (And.intro hXs hrp))))))
  clear v1 v2 v3 hBV hA hsz hXs hfm hb2 hrp
  go_wp2_with fail
  refine (HD.out.2.2.2.2.2.2 V).mono ?_
  rintro e w3 ⟨rfl, hb3⟩
  obtain ⟨M, hM⟩ : ∃ M, M = A.rep lo hi := ⟨_, rfl⟩
  rw [← hM]
  have hsz3 := hb3.size
  have u2 : w3.heap[w.heap.size + 1]? = some (.cells #[.int .i64 0, .int .i64 0, .int .i64 0, .int .i64 0, .bool false, .bool false, .bool false] 50) := by have := HD.out.2.2.2.2.1; have := HD.out.2.2.2.2.2.1; rw [hb3.block _ (by omega)]; exact HD.out.1
  have u3 : w3.heap[w2.heap.size]? = some (.cells A.arr 50 (0, 0)) := by rw [hb3.block _ (by omega)]; exact HD.out.2.1
  have hB3 : Below w.heap.size w w3 := by have := HD.out.2.2.2.2.1; have := HD.out.2.2.2.2.2.1; exact HD.out.2.2.1.trans (hb3.mono (by omega))
  clear y0 y5 y6 z0 f0 r0 s0 z1 f1 r1 s1 z2 f2 r2 s2 z3 f3 r3 s3 z4 f4 r4 s4 z5 f5 r5 s5 z6 f6 r6 s6
  have z0 : w3.cell? ⟨w2.heap.size, 0, none⟩ = some (.int .i64 A.pos) := by simp [World.cell?, u3]
  have f0 : w3.frozen? ⟨w2.heap.size, 0, none⟩ = false := by simp [World.frozen?, u3]
  have r0 : w3.cell? ⟨w.heap.size + 1, 0, none⟩ = some (.int .i64 0) := by simp [World.cell?, u2]
  have s0 : w3.frozen? ⟨w.heap.size + 1, 0, none⟩ = false := by simp [World.frozen?, u2]
  have z1 : w3.cell? ⟨w2.heap.size, 1, none⟩ = some (.int .i64 A.groups) := by simp [World.cell?, u3]
  have f1 : w3.frozen? ⟨w2.heap.size, 1, none⟩ = false := by simp [World.frozen?, u3]
  have r1 : w3.cell? ⟨w.heap.size + 1, 1, none⟩ = some (.int .i64 0) := by simp [World.cell?, u2]
  have s1 : w3.frozen? ⟨w.heap.size + 1, 1, none⟩ = false := by simp [World.frozen?, u2]
  have z2 : w3.cell? ⟨w2.heap.size, 2, none⟩ = some (.int .i64 A.least) := by simp [World.cell?, u3]
  have f2 : w3.frozen? ⟨w2.heap.size, 2, none⟩ = false := by simp [World.frozen?, u3]
  have r2 : w3.cell? ⟨w.heap.size + 1, 2, none⟩ = some (.int .i64 0) := by simp [World.cell?, u2]
  have s2 : w3.frozen? ⟨w.heap.size + 1, 2, none⟩ = false := by simp [World.frozen?, u2]
  have z3 : w3.cell? ⟨w2.heap.size, 3, none⟩ = some (.int .i64 A.most) := by simp [World.cell?, u3]
  have f3 : w3.frozen? ⟨w2.heap.size, 3, none⟩ = false := by simp [World.frozen?, u3]
  have r3 : w3.cell? ⟨w.heap.size + 1, 3, none⟩ = some (.int .i64 0) := by simp [World.cell?, u2]
  have s3 : w3.frozen? ⟨w.heap.size + 1, 3, none⟩ = false := by simp [World.frozen?, u2]
  have z4 : w3.cell? ⟨w2.heap.size, 4, none⟩ = some (.bool A.back) := by simp [World.cell?, u3]
  have f4 : w3.frozen? ⟨w2.heap.size, 4, none⟩ = false := by simp [World.frozen?, u3]
  have r4 : w3.cell? ⟨w.heap.size + 1, 4, none⟩ = some (.bool false) := by simp [World.cell?, u2]
  have s4 : w3.frozen? ⟨w.heap.size + 1, 4, none⟩ = false := by simp [World.frozen?, u2]
  have z5 : w3.cell? ⟨w2.heap.size, 5, none⟩ = some (.bool A.bol) := by simp [World.cell?, u3]
  have f5 : w3.frozen? ⟨w2.heap.size, 5, none⟩ = false := by simp [World.frozen?, u3]
  have r5 : w3.cell? ⟨w.heap.size + 1, 5, none⟩ = some (.bool false) := by simp [World.cell?, u2]
  have s5 : w3.frozen? ⟨w.heap.size + 1, 5, none⟩ = false := by simp [World.frozen?, u2]
  have z6 : w3.cell? ⟨w2.heap.size, 6, none⟩ = some (.bool A.eol) := by simp [World.cell?, u3]
  have f6 : w3.frozen? ⟨w2.heap.size, 6, none⟩ = false := by simp [World.frozen?, u3]
  have r6 : w3.cell? ⟨w.heap.size + 1, 6, none⟩ = some (.bool false) := by simp [World.cell?, u2]
  have s6 : w3.frozen? ⟨w.heap.size + 1, 6, none⟩ = false := by simp [World.frozen?, u2]
  have HU := xbj (And.intro u2 (And.intro u3 (And.intro hB3 hM)))
  clear u2 u3 hB3 hM hb3 hsz3
  go_upto_region 16 with fail
  obtain ⟨U, hU⟩ : ∃ U, U = ((((((w3.setCell ⟨w2.heap.size, 0, none⟩ (.int .i64 M.pos)).setCell ⟨w2.heap.size, 1, none⟩ (.int .i64 M.groups)).setCell ⟨w2.heap.size, 2, none⟩ (.int .i64 M.least)).setCell ⟨w2.heap.size, 3, none⟩ (.int .i64 M.most)).setCell ⟨w2.heap.size, 4, none⟩ (.bool M.back)).setCell ⟨w2.heap.size, 5, none⟩ (.bool M.bol)).setCell ⟨w2.heap.size, 6, none⟩ (.bool M.eol) := ⟨_, rfl⟩
  have uU : U.heap[w.heap.size + 1]? = some (.cells Ms.zero.arr 50 (0, 0)) := by rw [hU]; exact (xh7 w3 M (by have := HD.out.2.2.2.2.1; have := HD.out.2.2.2.2.2.1; omega)).trans HU.out.1
  have bU : Below w.heap.size w U := by rw [hU]; exact xbs HU.out.2.2.1 (by have := HD.out.2.2.2.2.1; have := HD.out.2.2.2.2.2.1; omega) M
  have uM : U.heap[w2.heap.size]? = some (.cells M.arr 50 (0, 0)) := by rw [hU]; exact xd4 M HU.out.2.1
  rw [← hU]
  clear hU z0 f0 r0 s0 z1 f1 r1 s1 z2 f2 r2 s2 z3 f3 r3 s3 z4 f4 r4 s4 z5 f5 r5 s5 z6 f6 r6 s6
  have z0 : U.cell? ⟨w2.heap.size, 0, none⟩ = some (.int .i64 M.pos) := by simp [World.cell?, uM]
  have r0 : U.cell? ⟨w.heap.size + 1, 0, none⟩ = some (.int .i64 0) := by simp [World.cell?, uU, Ms.zero]
  have s0 : U.frozen? ⟨w.heap.size + 1, 0, none⟩ = false := by simp [World.frozen?, uU]
  have z1 : U.cell? ⟨w2.heap.size, 1, none⟩ = some (.int .i64 M.groups) := by simp [World.cell?, uM]
  have r1 : U.cell? ⟨w.heap.size + 1, 1, none⟩ = some (.int .i64 0) := by simp [World.cell?, uU, Ms.zero]
  have s1 : U.frozen? ⟨w.heap.size + 1, 1, none⟩ = false := by simp [World.frozen?, uU]
  have z2 : U.cell? ⟨w2.heap.size, 2, none⟩ = some (.int .i64 M.least) := by simp [World.cell?, uM]
  have r2 : U.cell? ⟨w.heap.size + 1, 2, none⟩ = some (.int .i64 0) := by simp [World.cell?, uU, Ms.zero]
  have s2 : U.frozen? ⟨w.heap.size + 1, 2, none⟩ = false := by simp [World.frozen?, uU]
  have z3 : U.cell? ⟨w2.heap.size, 3, none⟩ = some (.int .i64 M.most) := by simp [World.cell?, uM]
  have r3 : U.cell? ⟨w.heap.size + 1, 3, none⟩ = some (.int .i64 0) := by simp [World.cell?, uU, Ms.zero]
  have s3 : U.frozen? ⟨w.heap.size + 1, 3, none⟩ = false := by simp [World.frozen?, uU]
  have z4 : U.cell? ⟨w2.heap.size, 4, none⟩ = some (.bool M.back) := by simp [World.cell?, uM]
  have r4 : U.cell? ⟨w.heap.size + 1, 4, none⟩ = some (.bool false) := by simp [World.cell?, uU, Ms.zero]
  have s4 : U.frozen? ⟨w.heap.size + 1, 4, none⟩ = false := by simp [World.frozen?, uU]
  have z5 : U.cell? ⟨w2.heap.size, 5, none⟩ = some (.bool M.bol) := by simp [World.cell?, uM]
  have r5 : U.cell? ⟨w.heap.size + 1, 5, none⟩ = some (.bool false) := by simp [World.cell?, uU, Ms.zero]
  have s5 : U.frozen? ⟨w.heap.size + 1, 5, none⟩ = false := by simp [World.frozen?, uU]
  have z6 : U.cell? ⟨w2.heap.size, 6, none⟩ = some (.bool M.eol) := by simp [World.cell?, uM]
  have r6 : U.cell? ⟨w.heap.size + 1, 6, none⟩ = some (.bool false) := by simp [World.cell?, uU, Ms.zero]
  have s6 : U.frozen? ⟨w.heap.size + 1, 6, none⟩ = false := by simp [World.frozen?, uU]
  have HV := xbj (And.intro uM (And.intro uU bU))
  clear uM uU bU
  go_wp2
  obtain ⟨Y, hY⟩ : ∃ Y, Y = ((((((U.setCell ⟨w.heap.size + 1, 0, none⟩ (.int .i64 M.pos)).setCell ⟨w.heap.size + 1, 1, none⟩ (.int .i64 M.groups)).setCell ⟨w.heap.size + 1, 2, none⟩ (.int .i64 M.least)).setCell ⟨w.heap.size + 1, 3, none⟩ (.int .i64 M.most)).setCell ⟨w.heap.size + 1, 4, none⟩ (.bool M.back)).setCell ⟨w.heap.size + 1, 5, none⟩ (.bool M.bol)).setCell ⟨w.heap.size + 1, 6, none⟩ (.bool M.eol) := ⟨_, rfl⟩
  have yb : Y.heap[w.heap.size + 1]? = some (.cells M.arr 50 (0, 0)) := by rw [hY]; exact xd4 M HV.out.2.1
  have yB : Below w.heap.size w Y := by rw [hY]; exact xbs HV.out.2.2 (by omega) M
  rw [← hY]
  clear hY
  have o0 : Y.cell? ⟨w.heap.size + 1, 0, none⟩ = some (.int .i64 M.pos) := by simp [World.cell?, yb]
  have o1 : Y.cell? ⟨w.heap.size + 1, 1, none⟩ = some (.int .i64 M.groups) := by simp [World.cell?, yb]
  have o2 : Y.cell? ⟨w.heap.size + 1, 2, none⟩ = some (.int .i64 M.least) := by simp [World.cell?, yb]
  have o3 : Y.cell? ⟨w.heap.size + 1, 3, none⟩ = some (.int .i64 M.most) := by simp [World.cell?, yb]
  have o4 : Y.cell? ⟨w.heap.size + 1, 4, none⟩ = some (.bool M.back) := by simp [World.cell?, yb]
  have o5 : Y.cell? ⟨w.heap.size + 1, 5, none⟩ = some (.bool M.bol) := by simp [World.cell?, yb]
  have o6 : Y.cell? ⟨w.heap.size + 1, 6, none⟩ = some (.bool M.eol) := by simp [World.cell?, yb]
  refine bodyPost_ret (by simp [results, Try.results28, go_sem, o0, o1, o2, o3, o4, o5, o6]; try rfl) rfl ?_
  exact ⟨by rw [HE.out, ← HD.out.2.2.2.1, ← HU.out.2.2.2], yB⟩
 have e5 : ((kd : Int) == 5) = false := by rw [beq_eq_false_iff_ne]; omega
 have hE : msT (.mk kd q lo hi gp ks) = msF .zero ks := by simp [msT, c1, c2, c3, c4, c5, c6]
 have HE := xbj hE
 clear hE hlo
 have HD := xbj (And.intro v2 (And.intro v3 (And.intro hBV (And.intro hA (And.intro hsz hXs)))))
 clear v1 v2 v3 hBV hA hsz hXs hfm hb2
 go_wp2
 obtain ⟨Y, hY⟩ : ∃ Y, Y = (((((((V).setCell ⟨w.heap.size + 1, 0, none⟩ (.int .i64 A.pos)).setCell ⟨w.heap.size + 1, 1, none⟩ (.int .i64 A.groups)).setCell ⟨w.heap.size + 1, 2, none⟩ (.int .i64 A.least)).setCell ⟨w.heap.size + 1, 3, none⟩ (.int .i64 A.most)).setCell ⟨w.heap.size + 1, 4, none⟩ (.bool A.back)).setCell ⟨w.heap.size + 1, 5, none⟩ (.bool A.bol)).setCell ⟨w.heap.size + 1, 6, none⟩ (.bool A.eol) := ⟨_, rfl⟩
 have yb : Y.heap[w.heap.size + 1]? = some (.cells (⟨A.pos, A.groups, A.least, A.most, A.back, A.bol, A.eol⟩ : Ms).arr 50 (0, 0)) := by rw [hY]; exact xd4 (m0 := .zero) ⟨A.pos, A.groups, A.least, A.most, A.back, A.bol, A.eol⟩ (HD.out.1)
 have yB : Below w.heap.size w Y := by rw [hY]; exact xbs (HD.out.2.2.1) (by omega) ⟨A.pos, A.groups, A.least, A.most, A.back, A.bol, A.eol⟩
 rw [← hY]
 clear hY
 have o0 : Y.cell? ⟨w.heap.size + 1, 0, none⟩ = some (.int .i64 A.pos) := by simp [World.cell?, yb]
 have o1 : Y.cell? ⟨w.heap.size + 1, 1, none⟩ = some (.int .i64 A.groups) := by simp [World.cell?, yb]
 have o2 : Y.cell? ⟨w.heap.size + 1, 2, none⟩ = some (.int .i64 A.least) := by simp [World.cell?, yb]
 have o3 : Y.cell? ⟨w.heap.size + 1, 3, none⟩ = some (.int .i64 A.most) := by simp [World.cell?, yb]
 have o4 : Y.cell? ⟨w.heap.size + 1, 4, none⟩ = some (.bool A.back) := by simp [World.cell?, yb]
 have o5 : Y.cell? ⟨w.heap.size + 1, 5, none⟩ = some (.bool A.bol) := by simp [World.cell?, yb]
 have o6 : Y.cell? ⟨w.heap.size + 1, 6, none⟩ = some (.bool A.eol) := by simp [World.cell?, yb]
 refine bodyPost_ret (by simp [results, Try.results28, go_sem, o0, o1, o2, o3, o4, o5, o6]; try rfl) rfl ?_
 exact ⟨by rw [HE.out, ← HD.out.2.2.2.1], yB⟩
theorem xha : ∀ (m : Nat) (t : Tr), SizeOf.sizeOf t < m → fitT t → ∀ (w : World) (ok : Nat → Prop) (a : Option Addr) (n c : Nat), Kids w ok (.slice a n c) t.kids →
  Calls Try.prog 28 #[nodeA t (.slice a n c)] w fun e w' => e = .returned (.agg (msT t).arr) ∧ Below w.heap.size w w'
 | 0, t, h, _, _, _, _, _, _, _ => absurd h (Nat.not_lt_zero _)
 | m + 1, t, h, hft, w, ok, a, n, c, hk => by
  have hn : n = t.kids.length := by
   obtain ⟨a', c', he⟩ := xey hk
   injection he
  subst hn
  exact xlc t hft (fun x hx => xha m x (by have := xp3 hx; omega) (xh9 _ _ (xd5 t hft).2.2.2 x hx)) w ok a c hk
end Go.Proofs.Ytolpakpdkheanaa.br
