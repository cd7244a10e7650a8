/- bre: Same, of a tree and its like. -/
import Derived.Test.YtgpciekpmdihnaaKQf
import Derived.Test.YtgpciekpmdihnaaKDm
import Derived.Test.YtgpciekpmdihnaaKQt
import Derived.Deep.Cut
import Derived.Lib.QuietBelow
import Derived.Deep.QuietTactic
import Derived.Handy
namespace Go.Proofs.Ytgpciekpmdihnaa
open Go.RowKit
open Go.Sort
set_option maxRecDepth 100000 in
set_option maxHeartbeats 4000000 in
theorem same_walk (kd : Nat) (q : Nat → Bool) (lo hi : Int) (gp : Nat) (ks : List Tr) (hlen : ks.length ≤ 1000000) (ih : ∀ x ∈ ks, ∀ (w : World) (ok ok2 : Nat → Prop) (a a2 : Option Addr) (n c n2 c2 : Nat), Kids w ok (.slice a n c) x.kids → Kids w ok2 (.slice a2 n2 c2) x.kids → Calls Try.prog 12 #[nodeA x (.slice a n c), nodeA x (.slice a2 n2 c2)] w fun e w' => e = .returned (.bool true) ∧ Below w.heap.size w w')
    (w : World) (ok ok2 : Nat → Prop) (a a2 : Option Addr) (c c2 : Nat) (hk : Kids w ok (.slice a ks.length c) ks) (hk2 : Kids w ok2 (.slice a2 ks.length c2) ks) :
    Calls Try.prog 12 #[.agg #[.int .i64 (kd : Nat), .int .u64 (wd q 0 : Nat), .int .u64 (wd q 1 : Nat), .int .u64 (wd q 2 : Nat), .int .u64 (wd q 3 : Nat), .int .i64 lo, .int .i64 hi, .int .i64 (gp : Nat), .slice a ks.length c], .agg #[.int .i64 (kd : Nat), .int .u64 (wd q 0 : Nat), .int .u64 (wd q 1 : Nat), .int .u64 (wd q 2 : Nat), .int .u64 (wd q 3 : Nat), .int .i64 lo, .int .i64 hi, .int .i64 (gp : Nat), .slice a2 ks.length c2]] w fun e w' => e = .returned (.bool true) ∧ Below w.heap.size w w' := by
  have hneq : ∀ w, (binOp .neq 24 (.agg #[.int .u64 (wd q 0 : Nat), .int .u64 (wd q 1 : Nat), .int .u64 (wd q 2 : Nat), .int .u64 (wd q 3 : Nat)]) (.agg #[.int .u64 (wd q 0 : Nat), .int .u64 (wd q 1 : Nat), .int .u64 (wd q 2 : Nat), .int .u64 (wd q 3 : Nat)])).run Try.prog w = .ok (.bool false) w := fun w => by rw [run_neq_set, eqB_of (fun _ _ => rfl)]; rfl
  have HA := hideT (And.intro hk (And.intro hk2 ih))
  clear hk hk2 ih
  go_enter Try.func12, Try.ntmps12
  go_upto_region 1 with fail
  obtain ⟨X, hX⟩ : ∃ X, X = (w.alloc (.cells #[.int .i64 (kd : Nat), .int .u64 (wd q 0 : Nat), .int .u64 (wd q 1 : Nat), .int .u64 (wd q 2 : Nat), .int .u64 (wd q 3 : Nat), .int .i64 lo, .int .i64 hi, .int .i64 (gp : Nat), .slice a ks.length c] 27)).alloc (.cells #[.int .i64 (kd : Nat), .int .u64 (wd q 0 : Nat), .int .u64 (wd q 1 : Nat), .int .u64 (wd q 2 : Nat), .int .u64 (wd q 3 : Nat), .int .i64 lo, .int .i64 hi, .int .i64 (gp : Nat), .slice a2 ks.length c2] 27) := ⟨_, rfl⟩
  have xb1 : X.heap[w.heap.size]? = some (.cells #[.int .i64 (kd : Nat), .int .u64 (wd q 0 : Nat), .int .u64 (wd q 1 : Nat), .int .u64 (wd q 2 : Nat), .int .u64 (wd q 3 : Nat), .int .i64 lo, .int .i64 hi, .int .i64 (gp : Nat), .slice a ks.length c] 27 (0, 0)) := by
    rw [hX, Below.heap_alloc _ _ _ (by simp only [World.size_alloc]; omega)]
    exact heap_alloc_new w _
  have xb2 : X.heap[w.heap.size + 1]? = some (.cells #[.int .i64 (kd : Nat), .int .u64 (wd q 0 : Nat), .int .u64 (wd q 1 : Nat), .int .u64 (wd q 2 : Nat), .int .u64 (wd q 3 : Nat), .int .i64 lo, .int .i64 hi, .int .i64 (gp : Nat), .slice a2 ks.length c2] 27 (0, 0)) := by
    rw [hX, ← World.size_alloc w (.cells #[.int .i64 (kd : Nat), .int .u64 (wd q 0 : Nat), .int .u64 (wd q 1 : Nat), .int .u64 (wd q 2 : Nat), .int .u64 (wd q 3 : Nat), .int .i64 lo, .int .i64 hi, .int .i64 (gp : Nat), .slice a ks.length c] 27)]
    exact heap_alloc_new _ _
  have hBX : Below w.heap.size w X := by
    rw [hX]
    exact ((Below.refl _ _).alloc (Nat.le_refl _) _).alloc (by rw [World.size_alloc]; omega) _
  rw [← hX]
  clear hX
  have z0 : X.cell? ⟨w.heap.size, 0, none⟩ = some (.int .i64 (kd : Nat)) := by simp [World.cell?, xb1]
  have z1 : X.cell? ⟨w.heap.size, 1, none⟩ = some (.int .u64 (wd q 0 : Nat)) := by simp [World.cell?, xb1]
  have z2 : X.cell? ⟨w.heap.size, 2, none⟩ = some (.int .u64 (wd q 1 : Nat)) := by simp [World.cell?, xb1]
  have z3 : X.cell? ⟨w.heap.size, 3, none⟩ = some (.int .u64 (wd q 2 : Nat)) := by simp [World.cell?, xb1]
  have z4 : X.cell? ⟨w.heap.size, 4, none⟩ = some (.int .u64 (wd q 3 : Nat)) := by simp [World.cell?, xb1]
  have z5 : X.cell? ⟨w.heap.size, 5, none⟩ = some (.int .i64 lo) := by simp [World.cell?, xb1]
  have z6 : X.cell? ⟨w.heap.size, 6, none⟩ = some (.int .i64 hi) := by simp [World.cell?, xb1]
  have z7 : X.cell? ⟨w.heap.size, 7, none⟩ = some (.int .i64 (gp : Nat)) := by simp [World.cell?, xb1]
  have z8 : X.cell? ⟨w.heap.size, 8, none⟩ = some (.slice a ks.length c) := by simp [World.cell?, xb1]
  have y0 : X.cell? ⟨w.heap.size + 1, 0, none⟩ = some (.int .i64 (kd : Nat)) := by simp [World.cell?, xb2]
  have y1 : X.cell? ⟨w.heap.size + 1, 1, none⟩ = some (.int .u64 (wd q 0 : Nat)) := by simp [World.cell?, xb2]
  have y2 : X.cell? ⟨w.heap.size + 1, 2, none⟩ = some (.int .u64 (wd q 1 : Nat)) := by simp [World.cell?, xb2]
  have y3 : X.cell? ⟨w.heap.size + 1, 3, none⟩ = some (.int .u64 (wd q 2 : Nat)) := by simp [World.cell?, xb2]
  have y4 : X.cell? ⟨w.heap.size + 1, 4, none⟩ = some (.int .u64 (wd q 3 : Nat)) := by simp [World.cell?, xb2]
  have y5 : X.cell? ⟨w.heap.size + 1, 5, none⟩ = some (.int .i64 lo) := by simp [World.cell?, xb2]
  have y6 : X.cell? ⟨w.heap.size + 1, 6, none⟩ = some (.int .i64 hi) := by simp [World.cell?, xb2]
  have y7 : X.cell? ⟨w.heap.size + 1, 7, none⟩ = some (.int .i64 (gp : Nat)) := by simp [World.cell?, xb2]
  have y8 : X.cell? ⟨w.heap.size + 1, 8, none⟩ = some (.slice a2 ks.length c2) := by simp [World.cell?, xb2]
  have HX := hideT (And.intro xb1 (And.intro xb2 hBX))
  clear xb1 xb2 hBX
  go_wp2_with fail
  go_loopw [5] (fun iv wr => ∃ k : Nat, k ≤ ks.length ∧ iv = .int .i64 k ∧ wr.heap[w.heap.size]? = some (.cells #[.int .i64 (kd : Nat), .int .u64 (wd q 0 : Nat), .int .u64 (wd q 1 : Nat), .int .u64 (wd q 2 : Nat), .int .u64 (wd q 3 : Nat), .int .i64 lo, .int .i64 hi, .int .i64 (gp : Nat), .slice a ks.length c] 27 (0, 0)) ∧ wr.heap[w.heap.size + 1]? = some (.cells #[.int .i64 (kd : Nat), .int .u64 (wd q 0 : Nat), .int .u64 (wd q 1 : Nat), .int .u64 (wd q 2 : Nat), .int .u64 (wd q 3 : Nat), .int .i64 lo, .int .i64 hi, .int .i64 (gp : Nat), .slice a2 ks.length c2] 27 (0, 0)) ∧ Below w.heap.size w wr) (fun iv _ => (ks.length - intOf iv).toNat)
  case atStart => exact ⟨0, by omega, rfl, HX.out⟩
  case round =>
    clear HX z0 y0 z1 y1 z2 y2 z3 y3 z4 y4 z5 y5 z6 y6 z7 y7 z8 y8
    obtain ⟨k, hk1, rfl, gb1, gb2, gB⟩ := hrel
    have z8 : wr.cell? ⟨w.heap.size, 8, none⟩ = some (.slice a ks.length c) := by simp [World.cell?, gb1]
    have y8 : wr.cell? ⟨w.heap.size + 1, 8, none⟩ = some (.slice a2 ks.length c2) := by simp [World.cell?, gb2]
    by_cases hlt : k < ks.length
    · obtain ⟨g, c', u, he, _, _, hcell, hku⟩ := kids_at (kids_below HA.out.1 gB) (i := k) (List.getElem?_eq_getElem hlt)
      obtain rfl : a = some ⟨g, 0, none⟩ := by injection he
      obtain ⟨ua, uc, rfl⟩ := kids_shape hku
      obtain ⟨g2, c2', u2, he2, _, _, hcell2, hku2⟩ := kids_at (kids_below HA.out.2.1 gB) (i := k) (List.getElem?_eq_getElem hlt)
      obtain rfl : a2 = some ⟨g2, 0, none⟩ := by injection he2
      obtain ⟨ua2, uc2, rfl⟩ := kids_shape hku2
      have hic : ∀ d os, Calls Try.prog 12 #[nodeA ks[k] (.slice ua ks[k].kids.length uc), nodeA ks[k] (.slice ua2 ks[k].kids.length uc2)] (grow (redrawn wr d) os) fun e w'' => e = .returned (.bool true) ∧ ∃ p : Regrown, w'' = grow (redrawn wr p.d) p.os := fun d os => Calls.regrown_of (HA.out.2.2 ks[k] (List.getElem_mem hlt) _ ok ok2 ua ua2 _ uc _ uc2 (kids_below hku (below_regrown wr d os)) (kids_below hku2 (below_regrown wr d os)))
      have z8 := fun d os => cell_regrown z8 d os
      have y8 := fun d os => cell_regrown y8 d os
      have p0 := fun d os => cell_regrown (hcell 0 _ rfl).1 d os
      have r0 := fun d os => cell_regrown (hcell2 0 _ rfl).1 d os
      have p1 := fun d os => cell_regrown (hcell 1 _ rfl).1 d os
      have r1 := fun d os => cell_regrown (hcell2 1 _ rfl).1 d os
      have p2 := fun d os => cell_regrown (hcell 2 _ rfl).1 d os
      have r2 := fun d os => cell_regrown (hcell2 2 _ rfl).1 d os
      have p3 := fun d os => cell_regrown (hcell 3 _ rfl).1 d os
      have r3 := fun d os => cell_regrown (hcell2 3 _ rfl).1 d os
      have p4 := fun d os => cell_regrown (hcell 4 _ rfl).1 d os
      have r4 := fun d os => cell_regrown (hcell2 4 _ rfl).1 d os
      have p5 := fun d os => cell_regrown (hcell 5 _ rfl).1 d os
      have r5 := fun d os => cell_regrown (hcell2 5 _ rfl).1 d os
      have p6 := fun d os => cell_regrown (hcell 6 _ rfl).1 d os
      have r6 := fun d os => cell_regrown (hcell2 6 _ rfl).1 d os
      have p7 := fun d os => cell_regrown (hcell 7 _ rfl).1 d os
      have r7 := fun d os => cell_regrown (hcell2 7 _ rfl).1 d os
      have p8 := fun d os => cell_regrown (hcell 8 _ rfl).1 d os
      have r8 := fun d os => cell_regrown (hcell2 8 _ rfl).1 d os
      simp only [Nat.add_zero] at p0 r0
      have k3 : (k : Int) < (ks.length : Int) := by omega
      have k4 : (0 : Int) ≤ (k : Int) := by omega
      have k5 : IntKind.i64.wrap ((k : Int) + 1) = (k : Int) + 1 := by rw [IntKind.wrap_i64]; omega
      have HC := hideT (And.intro hic (And.intro gb1 (And.intro gb2 gB)))
      clear hcell hku he hcell2 hku2 he2 hic gb1 gb2 gB
      go_wp2_with fail
      refine wp_region_quiet_below (by kernel_rfl) (by kernel_rfl) ?_
      repeat (quiet_step (with_reducible exact HC.out.1 _ _))
      refine wpQuiet_nil ?_
      intro _ hw'
      obtain ⟨⟨dq, osq⟩, hw''⟩ := hw'
      subst hw''
      have hbr := below_regrown wr dq osq
      have HD := hideT (And.intro ((hbr.block _ (Array.getElem?_eq_some_iff.1 HC.out.2.1).1).trans HC.out.2.1) (And.intro ((hbr.block _ (Array.getElem?_eq_some_iff.1 HC.out.2.2.1).1).trans HC.out.2.2.1) (HC.out.2.2.2.trans (hbr.mono HC.out.2.2.2.size))))
      clear hbr z8 y8 p0 r0 p1 r1 p2 r2 p3 r3 p4 r4 p5 r5 p6 r6 p7 r7 p8 r8
      go_wp2
      exact ⟨⟨k + 1, by omega, by go_num, HD.out.1, HD.out.2.1, HD.out.2.2⟩, by simp [intOf]; omega⟩
    · obtain rfl : k = ks.length := by omega
      have k3 : ¬ (ks.length : Int) < (ks.length : Int) := by omega
      have HB := hideT gB
      clear gb1 gb2 gB
      go_wp2
      go_ret
      exact ⟨rfl, HB.out⟩
theorem same_any : ∀ (m : Nat) (t : Tr), SizeOf.sizeOf t < m → smallT t → ∀ (w : World) (ok ok2 : Nat → Prop) (a a2 : Option Addr) (n c n2 c2 : Nat), Kids w ok (.slice a n c) t.kids → Kids w ok2 (.slice a2 n2 c2) t.kids → Calls Try.prog 12 #[nodeA t (.slice a n c), nodeA t (.slice a2 n2 c2)] w fun e w' => e = .returned (.bool true) ∧ Below w.heap.size w w'
  | 0, t, h, _, _, _, _, _, _, _, _, _, _, _, _ => absurd h (Nat.not_lt_zero _)
  | m + 1, t, h, hsm, w, ok, ok2, a, a2, n, c, n2, c2, hk, hk2 => by
    have hn : n = t.kids.length := by
      obtain ⟨a', c', he⟩ := kids_shape hk
      injection he
    have hn2 : n2 = t.kids.length := by
      obtain ⟨a', c', he⟩ := kids_shape hk2
      injection he
    subst hn hn2
    have ih := fun x hx => same_any m x (by have := kids_size (t := t) hx; omega) (small_mem _ (smallT_pos t hsm).2.2.2 x hx)
    have hl := (smallT_pos t hsm).2.2.1.2
    obtain ⟨kd, q, lo, hi, gp, ks⟩ := t
    exact same_walk kd q lo hi gp ks hl ih w ok ok2 a a2 c c2 hk hk2
end Go.Proofs.Ytgpciekpmdihnaa
/- BreParses: the walk. -/
namespace Go.Proofs.Ytgpciekpmdihnaa
open Go.RowKit
open Go.Sort
theorem breDoc_any (s : ByteArray) (w : World) (hg : Glob w) : Calls Try.prog 10 #[.string s] w (DocPost s w) := by
  by_cases h : s.size ≤ 512
  · exact breDoc_short s h w hg
  · exact docParse_long s (by omega) w
theorem doc_ok (s : ByteArray) (ts : List Tr) (h : parseT s = .ok ts) (w : World) (hg : Glob w) : Calls Try.prog 10 #[.string s] w fun e w' => Below w.heap.size w w' ∧ ∃ a n c, e = .returned (.tuple #[.agg #[.int .i64 0, .int .u64 0, .int .u64 0, .int .u64 0, .int .u64 0, .int .i64 0, .int .i64 0, .int .i64 0, .slice a n c], .int .i64 0, .int .i64 0]) ∧ Kids w' (fun g => w.heap.size ≤ g) (.slice a n c) ts := by
  refine (breDoc_any s w hg).mono ?_
  rintro e w' ⟨hB, ⟨er, p, h1, _⟩ | ⟨us, a, n, c, h1, h2, h3⟩⟩
  · rw [h] at h1; cases h1
  · rw [h] at h1
    cases h1
    exact ⟨hB, a, n, c, h2, h3⟩
theorem doc_err (s : ByteArray) (er : Int) (p : Nat) (h : parseT s = .error (er, p)) (w : World) (hg : Glob w) : Calls Try.prog 10 #[.string s] w fun e w' => Below w.heap.size w w' ∧ e = .returned (.tuple #[.agg #[.int .i64 0, .int .u64 0, .int .u64 0, .int .u64 0, .int .u64 0, .int .i64 0, .int .i64 0, .int .i64 0, .slice none 0 0], .int .i64 er, .int .i64 (p : Nat)]) := by
  refine (breDoc_any s w hg).mono ?_
  rintro e w' ⟨hB, ⟨er', p', h1, h2⟩ | ⟨us, a, n, c, h1, _⟩⟩
  · rw [h] at h1
    cases h1
    exact ⟨hB, h2⟩
  · rw [h] at h1; cases h1
set_option maxRecDepth 100000 in
theorem cat_node (ts : List Tr) (u : Value) : nodeA (catT ts) u = .agg #[.int .i64 0, .int .u64 0, .int .u64 0, .int .u64 0, .int .u64 0, .int .i64 0, .int .i64 0, .int .i64 0, u] := rfl
namespace parses
set_option maxRecDepth 100000 in
set_option maxHeartbeats 4000000 in
theorem walk (s : ByteArray) (w : World) (hg : Glob w) : Calls Try.prog 3 #[.string s] w fun e w' => e = .returned (.bool true) ∧ Below w.heap.size w w' := by
  have heq := run_equal_fault
  cases hp : parseT s with
  | ok ts =>
    have hs : s.size ≤ 1073741824 := by
      have h9 := hp
      unfold parseT at h9
      split at h9
      · cases h9
      · omega
    have hsm := parse_small s ts hp
    go_enter Try.func3, Try.ntmps3
    go_wp2_with fail
    refine (parse_ok s hs ts hp w hg).mono ?_
    rintro e w1 ⟨hB1, a, n, c, rfl, hk⟩
    have hg1 := hg.below hB1 (Nat.le_refl _)
    obtain ⟨X, hX⟩ : ∃ X, X = (w1.alloc (.cells #[.int .i64 0, .int .u64 0, .int .u64 0, .int .u64 0, .int .u64 0, .int .i64 0, .int .i64 0, .int .i64 0, .slice a n c] 27)).alloc (.cells #[.int .i64 0, .int .i64 0] 30) := ⟨_, rfl⟩
    have hBX : Below w1.heap.size w1 X := by rw [hX]; exact ((Below.refl _ _).alloc (Nat.le_refl _) _).alloc (by rw [World.size_alloc]; omega) _
    have hsX : X.heap.size = w1.heap.size + 1 + 1 := by rw [hX, World.size_alloc, World.size_alloc]
    have X1 : X.heap[w1.heap.size]? = some (.cells #[.int .i64 0, .int .u64 0, .int .u64 0, .int .u64 0, .int .u64 0, .int .i64 0, .int .i64 0, .int .i64 0, .slice a n c] 27 (0, 0)) := by
      rw [hX, Below.heap_alloc _ _ _ (by rw [World.size_alloc]; omega)]
      exact heap_alloc_new w1 _
    have X2 : X.heap[w1.heap.size + 1]? = some (.cells #[.int .i64 0, .int .i64 0] 30 (0, 0)) := by
      rw [hX, ← World.size_alloc w1 (.cells #[.int .i64 0, .int .u64 0, .int .u64 0, .int .u64 0, .int .u64 0, .int .i64 0, .int .i64 0, .int .i64 0, .slice a n c] 27)]
      exact heap_alloc_new _ _
    have hgX := hg1.below hBX (Nat.le_refl _)
    have hkX := kids_below hk hBX
    go_wp2_with fail
    rw [← hX]
    clear hX
    refine (doc_ok s ts hp X hgX).mono ?_
    rintro e w2 ⟨hB2, a2, n2, c2, rfl, hk2⟩
    have hkX2 := kids_below hkX hB2
    have hs2 := hB2.size
    have x1 := (hB2.block w1.heap.size (by omega)).trans X1
    have x2 := (hB2.block (w1.heap.size + 1) (by omega)).trans X2
    obtain ⟨V, hV⟩ : ∃ V, V = w2.alloc (.cells #[.int .i64 0, .int .u64 0, .int .u64 0, .int .u64 0, .int .u64 0, .int .i64 0, .int .i64 0, .int .i64 0, .slice a2 n2 c2] 27) := ⟨_, rfl⟩
    have hBV : Below w2.heap.size w2 V := by rw [hV]; exact (Below.refl _ _).alloc (Nat.le_refl _) _
    have hVs : V.heap.size = w2.heap.size + 1 := by rw [hV, World.size_alloc]
    have v3 : V.heap[w2.heap.size]? = some (.cells #[.int .i64 0, .int .u64 0, .int .u64 0, .int .u64 0, .int .u64 0, .int .i64 0, .int .i64 0, .int .i64 0, .slice a2 n2 c2] 27 (0, 0)) := by rw [hV]; exact heap_alloc_new w2 _
    have v1 := (hBV.block w1.heap.size (by omega)).trans x1
    have v2 := (hBV.block (w1.heap.size + 1) (by omega)).trans x2
    have hBw := below_next (below_next (below_next hB1 hBX) hB2) hBV
    have hgV := hg.below hBw (Nat.le_refl _)
    go_wp2_with fail
    rw [← hV]
    clear hV
    refine (awake_any V hgV).mono ?_
    rintro e w3 ⟨rfl, hB3⟩
    have hs3 := hB3.size
    have y1 := (hB3.block w1.heap.size (by omega)).trans v1
    have y2 := (hB3.block (w1.heap.size + 1) (by omega)).trans v2
    have y3 := (hB3.block w2.heap.size (by omega)).trans v3
    have hsame := same_any _ (catT ts) (Nat.lt_succ_self _) hsm w3 _ _ a a2 n c n2 c2 (kids_below (kids_below hkX2 hBV) hB3) (kids_below (kids_below hk2 hBV) hB3)
    rw [cat_node, cat_node] at hsame
    clear hk hk2 hkX hkX2
    have HB := hideT (And.intro (below_next hBw hB3) y2)
    have g0 : w3.cell? ⟨w1.heap.size, 0, none⟩ = some (.int .i64 0) := by simp [World.cell?, y1]
    have h0 : w3.cell? ⟨w2.heap.size, 0, none⟩ = some (.int .i64 0) := by simp [World.cell?, y3]
    have g1 : w3.cell? ⟨w1.heap.size, 1, none⟩ = some (.int .u64 0) := by simp [World.cell?, y1]
    have h1 : w3.cell? ⟨w2.heap.size, 1, none⟩ = some (.int .u64 0) := by simp [World.cell?, y3]
    have g2 : w3.cell? ⟨w1.heap.size, 2, none⟩ = some (.int .u64 0) := by simp [World.cell?, y1]
    have h2 : w3.cell? ⟨w2.heap.size, 2, none⟩ = some (.int .u64 0) := by simp [World.cell?, y3]
    have g3 : w3.cell? ⟨w1.heap.size, 3, none⟩ = some (.int .u64 0) := by simp [World.cell?, y1]
    have h3 : w3.cell? ⟨w2.heap.size, 3, none⟩ = some (.int .u64 0) := by simp [World.cell?, y3]
    have g4 : w3.cell? ⟨w1.heap.size, 4, none⟩ = some (.int .u64 0) := by simp [World.cell?, y1]
    have h4 : w3.cell? ⟨w2.heap.size, 4, none⟩ = some (.int .u64 0) := by simp [World.cell?, y3]
    have g5 : w3.cell? ⟨w1.heap.size, 5, none⟩ = some (.int .i64 0) := by simp [World.cell?, y1]
    have h5 : w3.cell? ⟨w2.heap.size, 5, none⟩ = some (.int .i64 0) := by simp [World.cell?, y3]
    have g6 : w3.cell? ⟨w1.heap.size, 6, none⟩ = some (.int .i64 0) := by simp [World.cell?, y1]
    have h6 : w3.cell? ⟨w2.heap.size, 6, none⟩ = some (.int .i64 0) := by simp [World.cell?, y3]
    have g7 : w3.cell? ⟨w1.heap.size, 7, none⟩ = some (.int .i64 0) := by simp [World.cell?, y1]
    have h7 : w3.cell? ⟨w2.heap.size, 7, none⟩ = some (.int .i64 0) := by simp [World.cell?, y3]
    have g8 : w3.cell? ⟨w1.heap.size, 8, none⟩ = some (.slice a n c) := by simp [World.cell?, y1]
    have h8 : w3.cell? ⟨w2.heap.size, 8, none⟩ = some (.slice a2 n2 c2) := by simp [World.cell?, y3]
    clear y1 y3 y2 v1 v2 v3 x1 x2 hBV hBw hgV hB1 hBX hB2 hB3 hs3 hVs
    go_wp2_with fail
    refine hsame.mono ?_
    rintro e w4 ⟨rfl, hB4⟩
    have q2 := (hB4.block (w1.heap.size + 1) (Array.getElem?_eq_some_iff.1 HB.out.2).1).trans HB.out.2
    have f0 : w4.cell? ⟨w1.heap.size + 1, 0, none⟩ = some (.int .i64 0) := by simp [World.cell?, q2]
    have f1 : w4.cell? ⟨w1.heap.size + 1, 1, none⟩ = some (.int .i64 0) := by simp [World.cell?, q2]
    have HE := hideT (below_next HB.out.1 hB4)
    clear q2 hB4 hsame g0 h0 g1 h1 g2 h2 g3 h3 g4 h4 g5 h5 g6 h6 g7 h7 g8 h8
    go_wp2
    go_ret
    exact ⟨rfl, HE.out⟩
  | error x =>
    obtain ⟨er, p⟩ := x
    go_enter Try.func3, Try.ntmps3
    go_wp2_with fail
    refine (parse_fault s er p hp w hg).mono ?_
    rintro e w1 ⟨rfl, hB1⟩
    have hg1 := hg.below hB1 (Nat.le_refl _)
    obtain ⟨X, hX⟩ : ∃ X, X = (w1.alloc (.cells #[.int .i64 0, .int .u64 0, .int .u64 0, .int .u64 0, .int .u64 0, .int .i64 0, .int .i64 0, .int .i64 0, .slice none 0 0] 27)).alloc (.cells #[.int .i64 er, .int .i64 (p : Nat)] 30) := ⟨_, rfl⟩
    have hBX : Below w1.heap.size w1 X := by rw [hX]; exact ((Below.refl _ _).alloc (Nat.le_refl _) _).alloc (by rw [World.size_alloc]; omega) _
    have hsX : X.heap.size = w1.heap.size + 1 + 1 := by rw [hX, World.size_alloc, World.size_alloc]
    have X1 : X.heap[w1.heap.size]? = some (.cells #[.int .i64 0, .int .u64 0, .int .u64 0, .int .u64 0, .int .u64 0, .int .i64 0, .int .i64 0, .int .i64 0, .slice none 0 0] 27 (0, 0)) := by
      rw [hX, Below.heap_alloc _ _ _ (by rw [World.size_alloc]; omega)]
      exact heap_alloc_new w1 _
    have X2 : X.heap[w1.heap.size + 1]? = some (.cells #[.int .i64 er, .int .i64 (p : Nat)] 30 (0, 0)) := by
      rw [hX, ← World.size_alloc w1 (.cells #[.int .i64 0, .int .u64 0, .int .u64 0, .int .u64 0, .int .u64 0, .int .i64 0, .int .i64 0, .int .i64 0, .slice none 0 0] 27)]
      exact heap_alloc_new _ _
    have hgX := hg1.below hBX (Nat.le_refl _)
    go_wp2_with fail
    rw [← hX]
    clear hX
    refine (doc_err s er p hp X hgX).mono ?_
    rintro e w2 ⟨hB2, rfl⟩
    have hs2 := hB2.size
    have x1 := (hB2.block w1.heap.size (by omega)).trans X1
    have x2 := (hB2.block (w1.heap.size + 1) (by omega)).trans X2
    obtain ⟨V, hV⟩ : ∃ V, V = w2.alloc (.cells #[.int .i64 0, .int .u64 0, .int .u64 0, .int .u64 0, .int .u64 0, .int .i64 0, .int .i64 0, .int .i64 0, .slice none 0 0] 27) := ⟨_, rfl⟩
    have hBV : Below w2.heap.size w2 V := by rw [hV]; exact (Below.refl _ _).alloc (Nat.le_refl _) _
    have hVs : V.heap.size = w2.heap.size + 1 := by rw [hV, World.size_alloc]
    have v3 : V.heap[w2.heap.size]? = some (.cells #[.int .i64 0, .int .u64 0, .int .u64 0, .int .u64 0, .int .u64 0, .int .i64 0, .int .i64 0, .int .i64 0, .slice none 0 0] 27 (0, 0)) := by rw [hV]; exact heap_alloc_new w2 _
    have v1 := (hBV.block w1.heap.size (by omega)).trans x1
    have v2 := (hBV.block (w1.heap.size + 1) (by omega)).trans x2
    have hBw := below_next (below_next (below_next hB1 hBX) hB2) hBV
    have hgV := hg.below hBw (Nat.le_refl _)
    go_wp2_with fail
    rw [← hV]
    clear hV
    refine (awake_any V hgV).mono ?_
    rintro e w3 ⟨rfl, hB3⟩
    have hs3 := hB3.size
    have y1 := (hB3.block w1.heap.size (by omega)).trans v1
    have y2 := (hB3.block (w1.heap.size + 1) (by omega)).trans v2
    have y3 := (hB3.block w2.heap.size (by omega)).trans v3
    have hsame := same_zero w3
    have HB := hideT (And.intro (below_next hBw hB3) y2)
    have g0 : w3.cell? ⟨w1.heap.size, 0, none⟩ = some (.int .i64 0) := by simp [World.cell?, y1]
    have h0 : w3.cell? ⟨w2.heap.size, 0, none⟩ = some (.int .i64 0) := by simp [World.cell?, y3]
    have g1 : w3.cell? ⟨w1.heap.size, 1, none⟩ = some (.int .u64 0) := by simp [World.cell?, y1]
    have h1 : w3.cell? ⟨w2.heap.size, 1, none⟩ = some (.int .u64 0) := by simp [World.cell?, y3]
    have g2 : w3.cell? ⟨w1.heap.size, 2, none⟩ = some (.int .u64 0) := by simp [World.cell?, y1]
    have h2 : w3.cell? ⟨w2.heap.size, 2, none⟩ = some (.int .u64 0) := by simp [World.cell?, y3]
    have g3 : w3.cell? ⟨w1.heap.size, 3, none⟩ = some (.int .u64 0) := by simp [World.cell?, y1]
    have h3 : w3.cell? ⟨w2.heap.size, 3, none⟩ = some (.int .u64 0) := by simp [World.cell?, y3]
    have g4 : w3.cell? ⟨w1.heap.size, 4, none⟩ = some (.int .u64 0) := by simp [World.cell?, y1]
    have h4 : w3.cell? ⟨w2.heap.size, 4, none⟩ = some (.int .u64 0) := by simp [World.cell?, y3]
    have g5 : w3.cell? ⟨w1.heap.size, 5, none⟩ = some (.int .i64 0) := by simp [World.cell?, y1]
    have h5 : w3.cell? ⟨w2.heap.size, 5, none⟩ = some (.int .i64 0) := by simp [World.cell?, y3]
    have g6 : w3.cell? ⟨w1.heap.size, 6, none⟩ = some (.int .i64 0) := by simp [World.cell?, y1]
    have h6 : w3.cell? ⟨w2.heap.size, 6, none⟩ = some (.int .i64 0) := by simp [World.cell?, y3]
    have g7 : w3.cell? ⟨w1.heap.size, 7, none⟩ = some (.int .i64 0) := by simp [World.cell?, y1]
    have h7 : w3.cell? ⟨w2.heap.size, 7, none⟩ = some (.int .i64 0) := by simp [World.cell?, y3]
    have g8 : w3.cell? ⟨w1.heap.size, 8, none⟩ = some (.slice none 0 0) := by simp [World.cell?, y1]
    have h8 : w3.cell? ⟨w2.heap.size, 8, none⟩ = some (.slice none 0 0) := by simp [World.cell?, y3]
    clear y1 y3 y2 v1 v2 v3 x1 x2 hBV hBw hgV hB1 hBX hB2 hB3 hs3 hVs
    go_wp2_with fail
    refine hsame.mono ?_
    rintro e w4 ⟨rfl, hB4⟩
    have q2 := (hB4.block (w1.heap.size + 1) (Array.getElem?_eq_some_iff.1 HB.out.2).1).trans HB.out.2
    have f0 : w4.cell? ⟨w1.heap.size + 1, 0, none⟩ = some (.int .i64 er) := by simp [World.cell?, q2]
    have f1 : w4.cell? ⟨w1.heap.size + 1, 1, none⟩ = some (.int .i64 (p : Nat)) := by simp [World.cell?, q2]
    have HE := hideT (below_next HB.out.1 hB4)
    clear q2 hB4 hsame g0 h0 g1 h1 g2 h2 g3 h3 g4 h4 g5 h5 g6 h6 g7 h7 g8 h8
    go_wp2
    go_ret
    exact ⟨rfl, HE.out⟩
end parses
end Go.Proofs.Ytgpciekpmdihnaa
