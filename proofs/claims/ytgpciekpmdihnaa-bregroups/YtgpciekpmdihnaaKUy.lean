/- bre: kinds, of a tree and its like with groups numbered higher. -/
import Derived.Test.YtgpciekpmdihnaaKQf
import Derived.Test.YtgpciekpmdihnaaKUx
import Derived.Test.YtgpciekpmdihnaaKDp
import Derived.Deep.Cut
import Derived.Lib.QuietBelow
import Derived.Deep.QuietTactic
import Derived.Handy
namespace Go.Proofs.Ytgpciekpmdihnaa
open Go.RowKit
open Go.Sort
theorem hgL_at (d : Nat) : ∀ (ts : List Tr) (k : Nat) (h : k < ts.length), (hgL d ts)[k]? = some (hgT d ts[k])
  | t :: ts, 0, _ => by simp only [hgL]; rfl
  | t :: ts, k + 1, h => by
    simp only [hgL, List.getElem?_cons_succ, List.getElem_cons_succ]
    exact hgL_at d ts k (by simpa using h)
set_option maxRecDepth 100000 in
set_option maxHeartbeats 4000000 in
theorem kinds_walk (kd : Nat) (q : Nat → Bool) (lo hi : Int) (gp gp2 : Nat) (ks js : List Tr) (hjs : js.length = ks.length) (hlen : ks.length ≤ 1000000) (ih : ∀ (k : Nat) (hk : k < ks.length) (hj : k < js.length), ∀ (w : World) (ok ok2 : Nat → Prop) (a a2 : Option Addr) (n c n2 c2 : Nat), Kids w ok (.slice a n c) js[k].kids → Kids w ok2 (.slice a2 n2 c2) ks[k].kids → Calls Try.prog 14 #[nodeA js[k] (.slice a n c), nodeA ks[k] (.slice a2 n2 c2)] w fun e w' => e = .returned (.bool true) ∧ Below w.heap.size w w')
    (w : World) (ok ok2 : Nat → Prop) (a a2 : Option Addr) (c c2 : Nat) (hk : Kids w ok (.slice a ks.length c) js) (hk2 : Kids w ok2 (.slice a2 ks.length c2) ks) :
    Calls Try.prog 14 #[.agg #[.int .i64 (kd : Nat), .int .u64 (wd q 0 : Nat), .int .u64 (wd q 1 : Nat), .int .u64 (wd q 2 : Nat), .int .u64 (wd q 3 : Nat), .int .i64 lo, .int .i64 hi, .int .i64 (gp : Nat), .slice a ks.length c], .agg #[.int .i64 (kd : Nat), .int .u64 (wd q 0 : Nat), .int .u64 (wd q 1 : Nat), .int .u64 (wd q 2 : Nat), .int .u64 (wd q 3 : Nat), .int .i64 lo, .int .i64 hi, .int .i64 (gp2 : Nat), .slice a2 ks.length c2]] w fun e w' => e = .returned (.bool true) ∧ Below w.heap.size w w' := by
  have hneq : ∀ w, (binOp .neq 24 (.agg #[.int .u64 (wd q 0 : Nat), .int .u64 (wd q 1 : Nat), .int .u64 (wd q 2 : Nat), .int .u64 (wd q 3 : Nat)]) (.agg #[.int .u64 (wd q 0 : Nat), .int .u64 (wd q 1 : Nat), .int .u64 (wd q 2 : Nat), .int .u64 (wd q 3 : Nat)])).run Try.prog w = .ok (.bool false) w := fun w => by rw [run_neq_set, eqB_of (fun _ _ => rfl)]; rfl
  have HA := hideT (And.intro hk (And.intro hk2 ih))
  clear hk hk2 ih
  go_enter Try.func14, Try.ntmps14
  go_upto_region 1 with fail
  obtain ⟨X, hX⟩ : ∃ X, X = (w.alloc (.cells #[.int .i64 (kd : Nat), .int .u64 (wd q 0 : Nat), .int .u64 (wd q 1 : Nat), .int .u64 (wd q 2 : Nat), .int .u64 (wd q 3 : Nat), .int .i64 lo, .int .i64 hi, .int .i64 (gp : Nat), .slice a ks.length c] 27)).alloc (.cells #[.int .i64 (kd : Nat), .int .u64 (wd q 0 : Nat), .int .u64 (wd q 1 : Nat), .int .u64 (wd q 2 : Nat), .int .u64 (wd q 3 : Nat), .int .i64 lo, .int .i64 hi, .int .i64 (gp2 : Nat), .slice a2 ks.length c2] 27) := ⟨_, rfl⟩
  have xb1 : X.heap[w.heap.size]? = some (.cells #[.int .i64 (kd : Nat), .int .u64 (wd q 0 : Nat), .int .u64 (wd q 1 : Nat), .int .u64 (wd q 2 : Nat), .int .u64 (wd q 3 : Nat), .int .i64 lo, .int .i64 hi, .int .i64 (gp : Nat), .slice a ks.length c] 27 (0, 0)) := by
    rw [hX, Below.heap_alloc _ _ _ (by simp only [World.size_alloc]; omega)]
    exact heap_alloc_new w _
  have xb2 : X.heap[w.heap.size + 1]? = some (.cells #[.int .i64 (kd : Nat), .int .u64 (wd q 0 : Nat), .int .u64 (wd q 1 : Nat), .int .u64 (wd q 2 : Nat), .int .u64 (wd q 3 : Nat), .int .i64 lo, .int .i64 hi, .int .i64 (gp2 : Nat), .slice a2 ks.length c2] 27 (0, 0)) := by
    rw [hX, ← World.size_alloc w (.cells #[.int .i64 (kd : Nat), .int .u64 (wd q 0 : Nat), .int .u64 (wd q 1 : Nat), .int .u64 (wd q 2 : Nat), .int .u64 (wd q 3 : Nat), .int .i64 lo, .int .i64 hi, .int .i64 (gp : Nat), .slice a ks.length c] 27)]
    exact heap_alloc_new _ _
  have hBX : Below w.heap.size w X := by
    rw [hX]
    exact ((Below.refl _ _).alloc (Nat.le_refl _) _).alloc (by rw [World.size_alloc]; omega) _
  rw [← hX]
  clear hX
  have z0 : X.cell? ⟨w.heap.size, 0, none⟩ = some (.int .i64 (kd : Nat)) := by simp [World.cell?, xb1]
  have z1 : X.cell? ⟨w.heap.size, 1, none⟩ = some (.int .u64 (wd q 0 : Nat)) := by simp [World.cell?, xb1]
  have z2 : X.cell? ⟨w.heap.size, 2, none⟩ = some (.int .u64 (wd q 1 : Nat)) := by simp [World.cell?, xb1]
  have z3 : X.cell? ⟨w.heap.size, 3, none⟩ = some (.int .u64 (wd q 2 : Nat)) := by simp [World.cell?, xb1]
  have z4 : X.cell? ⟨w.heap.size, 4, none⟩ = some (.int .u64 (wd q 3 : Nat)) := by simp [World.cell?, xb1]
  have z5 : X.cell? ⟨w.heap.size, 5, none⟩ = some (.int .i64 lo) := by simp [World.cell?, xb1]
  have z6 : X.cell? ⟨w.heap.size, 6, none⟩ = some (.int .i64 hi) := by simp [World.cell?, xb1]
  have z7 : X.cell? ⟨w.heap.size, 7, none⟩ = some (.int .i64 (gp : Nat)) := by simp [World.cell?, xb1]
  have z8 : X.cell? ⟨w.heap.size, 8, none⟩ = some (.slice a ks.length c) := by simp [World.cell?, xb1]
  have y0 : X.cell? ⟨w.heap.size + 1, 0, none⟩ = some (.int .i64 (kd : Nat)) := by simp [World.cell?, xb2]
  have y1 : X.cell? ⟨w.heap.size + 1, 1, none⟩ = some (.int .u64 (wd q 0 : Nat)) := by simp [World.cell?, xb2]
  have y2 : X.cell? ⟨w.heap.size + 1, 2, none⟩ = some (.int .u64 (wd q 1 : Nat)) := by simp [World.cell?, xb2]
  have y3 : X.cell? ⟨w.heap.size + 1, 3, none⟩ = some (.int .u64 (wd q 2 : Nat)) := by simp [World.cell?, xb2]
  have y4 : X.cell? ⟨w.heap.size + 1, 4, none⟩ = some (.int .u64 (wd q 3 : Nat)) := by simp [World.cell?, xb2]
  have y5 : X.cell? ⟨w.heap.size + 1, 5, none⟩ = some (.int .i64 lo) := by simp [World.cell?, xb2]
  have y6 : X.cell? ⟨w.heap.size + 1, 6, none⟩ = some (.int .i64 hi) := by simp [World.cell?, xb2]
  have y7 : X.cell? ⟨w.heap.size + 1, 7, none⟩ = some (.int .i64 (gp2 : Nat)) := by simp [World.cell?, xb2]
  have y8 : X.cell? ⟨w.heap.size + 1, 8, none⟩ = some (.slice a2 ks.length c2) := by simp [World.cell?, xb2]
  have HX := hideT (And.intro xb1 (And.intro xb2 hBX))
  clear xb1 xb2 hBX
  go_wp2_with fail
  go_loopw [44] (fun iv wr => ∃ k : Nat, k ≤ ks.length ∧ iv = .int .i64 k ∧ wr.heap[w.heap.size]? = some (.cells #[.int .i64 (kd : Nat), .int .u64 (wd q 0 : Nat), .int .u64 (wd q 1 : Nat), .int .u64 (wd q 2 : Nat), .int .u64 (wd q 3 : Nat), .int .i64 lo, .int .i64 hi, .int .i64 (gp : Nat), .slice a ks.length c] 27 (0, 0)) ∧ wr.heap[w.heap.size + 1]? = some (.cells #[.int .i64 (kd : Nat), .int .u64 (wd q 0 : Nat), .int .u64 (wd q 1 : Nat), .int .u64 (wd q 2 : Nat), .int .u64 (wd q 3 : Nat), .int .i64 lo, .int .i64 hi, .int .i64 (gp2 : Nat), .slice a2 ks.length c2] 27 (0, 0)) ∧ Below w.heap.size w wr) (fun iv _ => (ks.length - intOf iv).toNat)
  case atStart => exact ⟨0, by omega, rfl, HX.out⟩
  case round =>
    clear HX z0 y0 z1 y1 z2 y2 z3 y3 z4 y4 z5 y5 z6 y6 z7 y7 z8 y8
    obtain ⟨k, hk1, rfl, gb1, gb2, gB⟩ := hrel
    have z8 : wr.cell? ⟨w.heap.size, 8, none⟩ = some (.slice a ks.length c) := by simp [World.cell?, gb1]
    have y8 : wr.cell? ⟨w.heap.size + 1, 8, none⟩ = some (.slice a2 ks.length c2) := by simp [World.cell?, gb2]
    by_cases hlt : k < ks.length
    · have hlt2 : k < js.length := by omega
      obtain ⟨g, c', u, he, _, _, hcell, hku⟩ := kids_at (kids_below HA.out.1 gB) (i := k) (List.getElem?_eq_getElem hlt2)
      obtain rfl : a = some ⟨g, 0, none⟩ := by injection he
      obtain ⟨ua, uc, rfl⟩ := kids_shape hku
      obtain ⟨g2, c2', u2, he2, _, _, hcell2, hku2⟩ := kids_at (kids_below HA.out.2.1 gB) (i := k) (List.getElem?_eq_getElem hlt)
      obtain rfl : a2 = some ⟨g2, 0, none⟩ := by injection he2
      obtain ⟨ua2, uc2, rfl⟩ := kids_shape hku2
      have hic : ∀ d os, Calls Try.prog 14 #[nodeA js[k] (.slice ua js[k].kids.length uc), nodeA ks[k] (.slice ua2 ks[k].kids.length uc2)] (grow (redrawn wr d) os) fun e w'' => e = .returned (.bool true) ∧ ∃ p : Regrown, w'' = grow (redrawn wr p.d) p.os := fun d os => Calls.regrown_of (HA.out.2.2 k hlt hlt2 _ ok ok2 ua ua2 _ uc _ uc2 (kids_below hku (below_regrown wr d os)) (kids_below hku2 (below_regrown wr d os)))
      have z8 := fun d os => cell_regrown z8 d os
      have y8 := fun d os => cell_regrown y8 d os
      have p0 := fun d os => cell_regrown (hcell 0 _ rfl).1 d os
      have r0 := fun d os => cell_regrown (hcell2 0 _ rfl).1 d os
      have p1 := fun d os => cell_regrown (hcell 1 _ rfl).1 d os
      have r1 := fun d os => cell_regrown (hcell2 1 _ rfl).1 d os
      have p2 := fun d os => cell_regrown (hcell 2 _ rfl).1 d os
      have r2 := fun d os => cell_regrown (hcell2 2 _ rfl).1 d os
      have p3 := fun d os => cell_regrown (hcell 3 _ rfl).1 d os
      have r3 := fun d os => cell_regrown (hcell2 3 _ rfl).1 d os
      have p4 := fun d os => cell_regrown (hcell 4 _ rfl).1 d os
      have r4 := fun d os => cell_regrown (hcell2 4 _ rfl).1 d os
      have p5 := fun d os => cell_regrown (hcell 5 _ rfl).1 d os
      have r5 := fun d os => cell_regrown (hcell2 5 _ rfl).1 d os
      have p6 := fun d os => cell_regrown (hcell 6 _ rfl).1 d os
      have r6 := fun d os => cell_regrown (hcell2 6 _ rfl).1 d os
      have p7 := fun d os => cell_regrown (hcell 7 _ rfl).1 d os
      have r7 := fun d os => cell_regrown (hcell2 7 _ rfl).1 d os
      have p8 := fun d os => cell_regrown (hcell 8 _ rfl).1 d os
      have r8 := fun d os => cell_regrown (hcell2 8 _ rfl).1 d os
      simp only [Nat.add_zero] at p0 r0
      have k3 : (k : Int) < (ks.length : Int) := by omega
      have k4 : (0 : Int) ≤ (k : Int) := by omega
      have k5 : IntKind.i64.wrap ((k : Int) + 1) = (k : Int) + 1 := by rw [IntKind.wrap_i64]; omega
      have HC := hideT (And.intro hic (And.intro gb1 (And.intro gb2 gB)))
      clear hcell hku he hcell2 hku2 he2 hic gb1 gb2 gB
      go_wp2_with fail
      refine wp_region_quiet_below (by kernel_rfl) (by kernel_rfl) ?_
      repeat (quiet_step (with_reducible exact HC.out.1 _ _))
      refine wpQuiet_nil ?_
      intro _ hw'
      obtain ⟨⟨dq, osq⟩, hw''⟩ := hw'
      subst hw''
      have hbr := below_regrown wr dq osq
      have HD := hideT (And.intro ((hbr.block _ (Array.getElem?_eq_some_iff.1 HC.out.2.1).1).trans HC.out.2.1) (And.intro ((hbr.block _ (Array.getElem?_eq_some_iff.1 HC.out.2.2.1).1).trans HC.out.2.2.1) (HC.out.2.2.2.trans (hbr.mono HC.out.2.2.2.size))))
      clear hbr z8 y8 p0 r0 p1 r1 p2 r2 p3 r3 p4 r4 p5 r5 p6 r6 p7 r7 p8 r8
      go_wp2
      exact ⟨⟨k + 1, by omega, by go_num, HD.out.1, HD.out.2.1, HD.out.2.2⟩, by simp [intOf]; omega⟩
    · obtain rfl : k = ks.length := by omega
      have k3 : ¬ (ks.length : Int) < (ks.length : Int) := by omega
      have HB := hideT gB
      clear gb1 gb2 gB
      go_wp2
      go_ret
      exact ⟨rfl, HB.out⟩
theorem hgT_kids (d : Nat) (t : Tr) : (hgT d t).kids = hgL d t.kids := by
  obtain ⟨kd, q, lo, hi, gp, ks⟩ := t
  simp only [hgT, Tr.kids]
theorem kinds_any (d : Nat) : ∀ (m : Nat) (t : Tr), SizeOf.sizeOf t < m → smallT t → ∀ (w : World) (ok ok2 : Nat → Prop) (a a2 : Option Addr) (n c n2 c2 : Nat), Kids w ok (.slice a n c) (hgT d t).kids → Kids w ok2 (.slice a2 n2 c2) t.kids → Calls Try.prog 14 #[nodeA (hgT d t) (.slice a n c), nodeA t (.slice a2 n2 c2)] w fun e w' => e = .returned (.bool true) ∧ Below w.heap.size w w'
  | 0, t, h, _, _, _, _, _, _, _, _, _, _, _, _ => absurd h (Nat.not_lt_zero _)
  | m + 1, t, h, hsm, w, ok, ok2, a, a2, n, c, n2, c2, hk, hk2 => by
    rw [hgT_kids] at hk
    have hn : n = t.kids.length := by
      obtain ⟨a', c', he⟩ := kids_shape hk
      rw [hgL_len] at he
      injection he
    have hn2 : n2 = t.kids.length := by
      obtain ⟨a', c', he⟩ := kids_shape hk2
      injection he
    subst hn hn2
    have ih := fun x hx => kinds_any d m x (by have := kids_size (t := t) hx; omega) (small_mem _ (smallT_pos t hsm).2.2.2 x hx)
    have ih2 : ∀ (k : Nat) (h1 : k < t.kids.length) (h2 : k < (hgL d t.kids).length), ∀ (w : World) (ok ok2 : Nat → Prop) (a a2 : Option Addr) (n c n2 c2 : Nat), Kids w ok (.slice a n c) (hgL d t.kids)[k].kids → Kids w ok2 (.slice a2 n2 c2) t.kids[k].kids → Calls Try.prog 14 #[nodeA (hgL d t.kids)[k] (.slice a n c), nodeA t.kids[k] (.slice a2 n2 c2)] w fun e w' => e = .returned (.bool true) ∧ Below w.heap.size w w' := fun k h1 h2 => by
      have e := hgL_at d t.kids k h1
      rw [List.getElem?_eq_getElem h2] at e
      injection e with e
      rw [e]
      exact ih _ (List.getElem_mem h1)
    have hl := (smallT_pos t hsm).2.2.1.2
    obtain ⟨kd, q, lo, hi, gp, ks⟩ := t
    exact kinds_walk kd q lo hi _ gp ks (hgL d ks) (hgL_len d ks) hl ih2 w ok ok2 a a2 c c2 hk hk2
end Go.Proofs.Ytgpciekpmdihnaa
/- BreGroups: the walk. -/
namespace Go.Proofs.Ytgpciekpmdihnaa
open Go.RowKit
open Go.Sort
theorem runA_ne (s : ByteArray) : ∀ (f i k : Nat) (P : Ps) (e : Int) (p : Nat), s.size - i ≤ f → runA s i k P = .error (e, p) → e ≠ 0
  | 0, i, k, P, e, p, hf, hr => by
    rw [runA_end s i k P (by omega)] at hr
    cases hr
  | f + 1, i, k, P, e, p, hf, hr => by
    by_cases hi : i < s.size
    · by_cases h0 : (P.take (tokenT s i k)).1 = 0
      · have h1 := take_kind hi h0
        rw [runA_step hi h0] at hr
        exact runA_ne s f _ _ _ e p (by omega) hr
      · rw [runA_err hi h0] at hr
        cases hr
        exact h0
    · rw [runA_end s i k P (by omega)] at hr
      cases hr
theorem parse_ne {s : ByteArray} {e : Int} {p : Nat} (h : parseT s = .error (e, p)) : e ≠ 0 := by
  by_cases hs : s.size ≤ 512
  · rw [parseT_run s hs] at h
    cases hr : runA s 0 4 Ps.start with
    | error x =>
      obtain ⟨e', p'⟩ := x
      rw [hr] at h
      cases h
      exact runA_ne s _ 0 4 _ e p (Nat.le_refl _) hr
    | ok Q =>
      rw [hr] at h
      unfold finT at h
      by_cases c : Q.outer.length = 0
      · simp only [c, if_true] at h
        cases h
      · simp only [c, if_false] at h
        cases h
        show (10 : Int) ≠ 0
        omega
  · unfold parseT at h
    rw [if_pos (by omega)] at h
    cases h
    show (2 : Int) ≠ 0
    omega
namespace groups
set_option maxRecDepth 100000 in
set_option maxHeartbeats 4000000 in
theorem walk_ee (a b : ByteArray) {ea : Int} {pa : Nat} (hp : parseT a = .error (ea, pa)) {eb : Int} {pb : Nat} (hq : parseT b = .error (eb, pb)) (w : World) (hg : Glob w) : Calls Try.prog 4 #[.string a, .string b] w fun e w' => e = .returned (.bool true) ∧ Below w.heap.size w w' := by
  have hne : (ea != 0) = true := by rw [bne_iff_ne]; exact parse_ne hp
  go_enter Try.func4, Try.ntmps4
  go_wp2_with fail
  refine (awake_any w hg).mono ?_
  rintro e w0 ⟨rfl, hBX0⟩
  have hg0 := hg.below hBX0 (Nat.le_refl _)
  go_wp2_with fail
  refine (doc_err a ea pa hp w0 hg0).mono ?_
  rintro e w1 ⟨hB1, rfl⟩
  have hBw1 := below_next hBX0 hB1
  obtain ⟨X1, hX1⟩ : ∃ X1, X1 = w1.alloc (.cells #[.int .i64 0, .int .u64 0, .int .u64 0, .int .u64 0, .int .u64 0, .int .i64 0, .int .i64 0, .int .i64 0, .slice none 0 0] 27) := ⟨_, rfl⟩
  have hBY1 : Below w1.heap.size w1 X1 := by rw [hX1]; exact (Below.refl _ _).alloc (Nat.le_refl _) _
  have hBX1 := below_next hBw1 hBY1
  have hs1 : X1.heap.size = w1.heap.size + 1 := by rw [hX1, World.size_alloc]
  have hgX1 := hg.below hBX1 (Nat.le_refl _)
  have b1 : X1.heap[w1.heap.size]? = some (.cells #[.int .i64 0, .int .u64 0, .int .u64 0, .int .u64 0, .int .u64 0, .int .i64 0, .int .i64 0, .int .i64 0, .slice none 0 0] 27 (0, 0)) := by rw [hX1]; exact heap_alloc_new w1 _
  go_wp2_with fail
  rw [← hX1]
  clear hX1
  refine (doc_err b eb pb hq X1 hgX1).mono ?_
  rintro e w2 ⟨hB2, rfl⟩
  have hBw2 := below_next hBX1 hB2
  obtain ⟨X2, hX2⟩ : ∃ X2, X2 = w2.alloc (.cells #[.int .i64 0, .int .u64 0, .int .u64 0, .int .u64 0, .int .u64 0, .int .i64 0, .int .i64 0, .int .i64 0, .slice none 0 0] 27) := ⟨_, rfl⟩
  have hBY2 : Below w2.heap.size w2 X2 := by rw [hX2]; exact (Below.refl _ _).alloc (Nat.le_refl _) _
  have hBX2 := below_next hBw2 hBY2
  have hs2 : X2.heap.size = w2.heap.size + 1 := by rw [hX2, World.size_alloc]
  have hgX2 := hg.below hBX2 (Nat.le_refl _)
  have b2 : X2.heap[w2.heap.size]? = some (.cells #[.int .i64 0, .int .u64 0, .int .u64 0, .int .u64 0, .int .u64 0, .int .i64 0, .int .i64 0, .int .i64 0, .slice none 0 0] 27 (0, 0)) := by rw [hX2]; exact heap_alloc_new w2 _
  have HB := hideT hBX2
  clear hBX2 hBY2 hBw2 hB2 hBX1 hBY1 hBw1 hB1 hBX0 hgX2 hgX1 b1 b2 hs1 hs2
  go_wp2_with fail
  rw [← hX2]
  clear hX2
  refine wp_region_quiet_below (by kernel_rfl) (by kernel_rfl) ?_
  repeat (quiet_step (fail))
  refine wpQuiet_nil ?_
  intro _ hw'
  obtain ⟨⟨dq, osq⟩, hw''⟩ := hw'
  subst hw''
  have HE := hideT (HB.out.trans ((below_regrown X2 dq osq).mono HB.out.size))
  go_wp2
  go_ret
  exact ⟨rfl, HE.out⟩
set_option maxRecDepth 100000 in
set_option maxHeartbeats 4000000 in
theorem walk_eo (a b : ByteArray) {ea : Int} {pa : Nat} (hp : parseT a = .error (ea, pa)) {ys : List Tr} (hq : parseT b = .ok ys) (w : World) (hg : Glob w) : Calls Try.prog 4 #[.string a, .string b] w fun e w' => e = .returned (.bool true) ∧ Below w.heap.size w w' := by
  have hne : (ea != 0) = true := by rw [bne_iff_ne]; exact parse_ne hp
  go_enter Try.func4, Try.ntmps4
  go_wp2_with fail
  refine (awake_any w hg).mono ?_
  rintro e w0 ⟨rfl, hBX0⟩
  have hg0 := hg.below hBX0 (Nat.le_refl _)
  go_wp2_with fail
  refine (doc_err a ea pa hp w0 hg0).mono ?_
  rintro e w1 ⟨hB1, rfl⟩
  have hBw1 := below_next hBX0 hB1
  obtain ⟨X1, hX1⟩ : ∃ X1, X1 = w1.alloc (.cells #[.int .i64 0, .int .u64 0, .int .u64 0, .int .u64 0, .int .u64 0, .int .i64 0, .int .i64 0, .int .i64 0, .slice none 0 0] 27) := ⟨_, rfl⟩
  have hBY1 : Below w1.heap.size w1 X1 := by rw [hX1]; exact (Below.refl _ _).alloc (Nat.le_refl _) _
  have hBX1 := below_next hBw1 hBY1
  have hs1 : X1.heap.size = w1.heap.size + 1 := by rw [hX1, World.size_alloc]
  have hgX1 := hg.below hBX1 (Nat.le_refl _)
  have b1 : X1.heap[w1.heap.size]? = some (.cells #[.int .i64 0, .int .u64 0, .int .u64 0, .int .u64 0, .int .u64 0, .int .i64 0, .int .i64 0, .int .i64 0, .slice none 0 0] 27 (0, 0)) := by rw [hX1]; exact heap_alloc_new w1 _
  go_wp2_with fail
  rw [← hX1]
  clear hX1
  refine (doc_ok b ys hq X1 hgX1).mono ?_
  rintro e w2 ⟨hB2, ya, yn, yc, rfl, hk2⟩
  have hBw2 := below_next hBX1 hB2
  obtain ⟨X2, hX2⟩ : ∃ X2, X2 = w2.alloc (.cells #[.int .i64 0, .int .u64 0, .int .u64 0, .int .u64 0, .int .u64 0, .int .i64 0, .int .i64 0, .int .i64 0, .slice ya yn yc] 27) := ⟨_, rfl⟩
  have hBY2 : Below w2.heap.size w2 X2 := by rw [hX2]; exact (Below.refl _ _).alloc (Nat.le_refl _) _
  have hBX2 := below_next hBw2 hBY2
  have hs2 : X2.heap.size = w2.heap.size + 1 := by rw [hX2, World.size_alloc]
  have hgX2 := hg.below hBX2 (Nat.le_refl _)
  have b2 : X2.heap[w2.heap.size]? = some (.cells #[.int .i64 0, .int .u64 0, .int .u64 0, .int .u64 0, .int .u64 0, .int .i64 0, .int .i64 0, .int .i64 0, .slice ya yn yc] 27 (0, 0)) := by rw [hX2]; exact heap_alloc_new w2 _
  have HB := hideT hBX2
  clear hBX2 hBY2 hBw2 hB2 hBX1 hBY1 hBw1 hB1 hBX0 hgX2 hgX1 b1 b2 hs1 hs2
  go_wp2_with fail
  rw [← hX2]
  clear hX2
  refine wp_region_quiet_below (by kernel_rfl) (by kernel_rfl) ?_
  repeat (quiet_step (fail))
  refine wpQuiet_nil ?_
  intro _ hw'
  obtain ⟨⟨dq, osq⟩, hw''⟩ := hw'
  subst hw''
  have HE := hideT (HB.out.trans ((below_regrown X2 dq osq).mono HB.out.size))
  go_wp2
  go_ret
  exact ⟨rfl, HE.out⟩
set_option maxRecDepth 100000 in
set_option maxHeartbeats 4000000 in
theorem walk_oe (a b : ByteArray) {xs : List Tr} (hp : parseT a = .ok xs) {eb : Int} {pb : Nat} (hq : parseT b = .error (eb, pb)) (w : World) (hg : Glob w) : Calls Try.prog 4 #[.string a, .string b] w fun e w' => e = .returned (.bool true) ∧ Below w.heap.size w w' := by
  have hne : (eb != 0) = true := by rw [bne_iff_ne]; exact parse_ne hq
  go_enter Try.func4, Try.ntmps4
  go_wp2_with fail
  refine (awake_any w hg).mono ?_
  rintro e w0 ⟨rfl, hBX0⟩
  have hg0 := hg.below hBX0 (Nat.le_refl _)
  go_wp2_with fail
  refine (doc_ok a xs hp w0 hg0).mono ?_
  rintro e w1 ⟨hB1, xa, xn, xc, rfl, hk1⟩
  have hBw1 := below_next hBX0 hB1
  obtain ⟨X1, hX1⟩ : ∃ X1, X1 = w1.alloc (.cells #[.int .i64 0, .int .u64 0, .int .u64 0, .int .u64 0, .int .u64 0, .int .i64 0, .int .i64 0, .int .i64 0, .slice xa xn xc] 27) := ⟨_, rfl⟩
  have hBY1 : Below w1.heap.size w1 X1 := by rw [hX1]; exact (Below.refl _ _).alloc (Nat.le_refl _) _
  have hBX1 := below_next hBw1 hBY1
  have hs1 : X1.heap.size = w1.heap.size + 1 := by rw [hX1, World.size_alloc]
  have hgX1 := hg.below hBX1 (Nat.le_refl _)
  have b1 : X1.heap[w1.heap.size]? = some (.cells #[.int .i64 0, .int .u64 0, .int .u64 0, .int .u64 0, .int .u64 0, .int .i64 0, .int .i64 0, .int .i64 0, .slice xa xn xc] 27 (0, 0)) := by rw [hX1]; exact heap_alloc_new w1 _
  go_wp2_with fail
  rw [← hX1]
  clear hX1
  refine (doc_err b eb pb hq X1 hgX1).mono ?_
  rintro e w2 ⟨hB2, rfl⟩
  have hBw2 := below_next hBX1 hB2
  obtain ⟨X2, hX2⟩ : ∃ X2, X2 = w2.alloc (.cells #[.int .i64 0, .int .u64 0, .int .u64 0, .int .u64 0, .int .u64 0, .int .i64 0, .int .i64 0, .int .i64 0, .slice none 0 0] 27) := ⟨_, rfl⟩
  have hBY2 : Below w2.heap.size w2 X2 := by rw [hX2]; exact (Below.refl _ _).alloc (Nat.le_refl _) _
  have hBX2 := below_next hBw2 hBY2
  have hs2 : X2.heap.size = w2.heap.size + 1 := by rw [hX2, World.size_alloc]
  have hgX2 := hg.below hBX2 (Nat.le_refl _)
  have b2 : X2.heap[w2.heap.size]? = some (.cells #[.int .i64 0, .int .u64 0, .int .u64 0, .int .u64 0, .int .u64 0, .int .i64 0, .int .i64 0, .int .i64 0, .slice none 0 0] 27 (0, 0)) := by rw [hX2]; exact heap_alloc_new w2 _
  have HB := hideT hBX2
  clear hBX2 hBY2 hBw2 hB2 hBX1 hBY1 hBw1 hB1 hBX0 hgX2 hgX1 b1 b2 hs1 hs2
  go_wp2_with fail
  rw [← hX2]
  clear hX2
  refine wp_region_quiet_below (by kernel_rfl) (by kernel_rfl) ?_
  repeat (quiet_step (fail))
  refine wpQuiet_nil ?_
  intro _ hw'
  obtain ⟨⟨dq, osq⟩, hw''⟩ := hw'
  subst hw''
  have HE := hideT (HB.out.trans ((below_regrown X2 dq osq).mono HB.out.size))
  go_wp2
  go_ret
  exact ⟨rfl, HE.out⟩
set_option maxRecDepth 100000 in
set_option maxHeartbeats 4000000 in
theorem walk_long (a b : ByteArray) {xs ys : List Tr} (hp : parseT a = .ok xs) (hq : parseT b = .ok ys) (hlong : 500 < (a.size : Int) + (b.size : Int)) (w : World) (hg : Glob w) : Calls Try.prog 4 #[.string a, .string b] w fun e w' => e = .returned (.bool true) ∧ Below w.heap.size w w' := by
  have za := (parse_run hp).1
  have zb := (parse_run hq).1
  have k1 : IntKind.i64.wrap ((a.size : Int) + (b.size : Int)) = (a.size : Int) + (b.size : Int) := by rw [IntKind.wrap_i64]; omega
  have sx := parse_small a xs hp
  have sy := parse_small b ys hq
  have k2 : IntKind.i64.wrap (posL xs + posL ys) = posL xs + posL ys := by
    have h1 := smallT_pos _ sx
    have h2 := smallT_pos _ sy
    rw [pos_cat] at h1 h2
    rw [IntKind.wrap_i64]
    omega
  go_enter Try.func4, Try.ntmps4
  go_wp2_with fail
  refine (awake_any w hg).mono ?_
  rintro e w0 ⟨rfl, hBX0⟩
  have hg0 := hg.below hBX0 (Nat.le_refl _)
  go_wp2_with fail
  refine (doc_ok a xs hp w0 hg0).mono ?_
  rintro e w1 ⟨hB1, xa, xn, xc, rfl, hk1⟩
  have hBw1 := below_next hBX0 hB1
  obtain ⟨X1, hX1⟩ : ∃ X1, X1 = w1.alloc (.cells #[.int .i64 0, .int .u64 0, .int .u64 0, .int .u64 0, .int .u64 0, .int .i64 0, .int .i64 0, .int .i64 0, .slice xa xn xc] 27) := ⟨_, rfl⟩
  have hBY1 : Below w1.heap.size w1 X1 := by rw [hX1]; exact (Below.refl _ _).alloc (Nat.le_refl _) _
  have hBX1 := below_next hBw1 hBY1
  have hs1 : X1.heap.size = w1.heap.size + 1 := by rw [hX1, World.size_alloc]
  have hgX1 := hg.below hBX1 (Nat.le_refl _)
  have b1 : X1.heap[w1.heap.size]? = some (.cells #[.int .i64 0, .int .u64 0, .int .u64 0, .int .u64 0, .int .u64 0, .int .i64 0, .int .i64 0, .int .i64 0, .slice xa xn xc] 27 (0, 0)) := by rw [hX1]; exact heap_alloc_new w1 _
  go_wp2_with fail
  rw [← hX1]
  clear hX1
  refine (doc_ok b ys hq X1 hgX1).mono ?_
  rintro e w2 ⟨hB2, ya, yn, yc, rfl, hk2⟩
  have hBw2 := below_next hBX1 hB2
  obtain ⟨X2, hX2⟩ : ∃ X2, X2 = w2.alloc (.cells #[.int .i64 0, .int .u64 0, .int .u64 0, .int .u64 0, .int .u64 0, .int .i64 0, .int .i64 0, .int .i64 0, .slice ya yn yc] 27) := ⟨_, rfl⟩
  have hBY2 : Below w2.heap.size w2 X2 := by rw [hX2]; exact (Below.refl _ _).alloc (Nat.le_refl _) _
  have hBX2 := below_next hBw2 hBY2
  have hs2 : X2.heap.size = w2.heap.size + 1 := by rw [hX2, World.size_alloc]
  have hgX2 := hg.below hBX2 (Nat.le_refl _)
  have b2 : X2.heap[w2.heap.size]? = some (.cells #[.int .i64 0, .int .u64 0, .int .u64 0, .int .u64 0, .int .u64 0, .int .i64 0, .int .i64 0, .int .i64 0, .slice ya yn yc] 27 (0, 0)) := by rw [hX2]; exact heap_alloc_new w2 _
  have l2 := hB2.size
  have b12 := (hBY2.block w1.heap.size (by omega)).trans ((hB2.block w1.heap.size (by omega)).trans b1)
  have p0 : X2.cell? ⟨w1.heap.size, 0, none⟩ = some (.int .i64 0) := by simp [World.cell?, b12]
  have p1 : X2.cell? ⟨w1.heap.size, 1, none⟩ = some (.int .u64 0) := by simp [World.cell?, b12]
  have p2 : X2.cell? ⟨w1.heap.size, 2, none⟩ = some (.int .u64 0) := by simp [World.cell?, b12]
  have p3 : X2.cell? ⟨w1.heap.size, 3, none⟩ = some (.int .u64 0) := by simp [World.cell?, b12]
  have p4 : X2.cell? ⟨w1.heap.size, 4, none⟩ = some (.int .u64 0) := by simp [World.cell?, b12]
  have p5 : X2.cell? ⟨w1.heap.size, 5, none⟩ = some (.int .i64 0) := by simp [World.cell?, b12]
  have p6 : X2.cell? ⟨w1.heap.size, 6, none⟩ = some (.int .i64 0) := by simp [World.cell?, b12]
  have p7 : X2.cell? ⟨w1.heap.size, 7, none⟩ = some (.int .i64 0) := by simp [World.cell?, b12]
  have p8 : X2.cell? ⟨w1.heap.size, 8, none⟩ = some (.slice xa xn xc) := by simp [World.cell?, b12]
  have q0 : X2.cell? ⟨w2.heap.size, 0, none⟩ = some (.int .i64 0) := by simp [World.cell?, b2]
  have q1 : X2.cell? ⟨w2.heap.size, 1, none⟩ = some (.int .u64 0) := by simp [World.cell?, b2]
  have q2 : X2.cell? ⟨w2.heap.size, 2, none⟩ = some (.int .u64 0) := by simp [World.cell?, b2]
  have q3 : X2.cell? ⟨w2.heap.size, 3, none⟩ = some (.int .u64 0) := by simp [World.cell?, b2]
  have q4 : X2.cell? ⟨w2.heap.size, 4, none⟩ = some (.int .u64 0) := by simp [World.cell?, b2]
  have q5 : X2.cell? ⟨w2.heap.size, 5, none⟩ = some (.int .i64 0) := by simp [World.cell?, b2]
  have q6 : X2.cell? ⟨w2.heap.size, 6, none⟩ = some (.int .i64 0) := by simp [World.cell?, b2]
  have q7 : X2.cell? ⟨w2.heap.size, 7, none⟩ = some (.int .i64 0) := by simp [World.cell?, b2]
  have q8 : X2.cell? ⟨w2.heap.size, 8, none⟩ = some (.slice ya yn yc) := by simp [World.cell?, b2]
  have hka := kids_below (kids_below (kids_below hk1 hBY1) hB2) hBY2
  have hkb := kids_below hk2 hBY2
  have hx : ∀ d os, Calls Try.prog 13 #[.agg #[.int .i64 0, .int .u64 0, .int .u64 0, .int .u64 0, .int .u64 0, .int .i64 0, .int .i64 0, .int .i64 0, .slice xa xn xc]] (grow (redrawn X2 d) os) fun e w'' => e = .returned (.int .i64 (posL xs)) ∧ ∃ p : Regrown, w'' = grow (redrawn X2 p.d) p.os := fun d os => by
    have h := pos_any _ (catT xs) (Nat.lt_succ_self _) sx (grow (redrawn X2 d) os) _ xa xn xc (kids_below hka (below_regrown X2 d os))
    rw [cat_node, pos_cat] at h
    exact Calls.regrown_of h
  have hy : ∀ d os, Calls Try.prog 13 #[.agg #[.int .i64 0, .int .u64 0, .int .u64 0, .int .u64 0, .int .u64 0, .int .i64 0, .int .i64 0, .int .i64 0, .slice ya yn yc]] (grow (redrawn X2 d) os) fun e w'' => e = .returned (.int .i64 (posL ys)) ∧ ∃ p : Regrown, w'' = grow (redrawn X2 p.d) p.os := fun d os => by
    have h := pos_any _ (catT ys) (Nat.lt_succ_self _) sy (grow (redrawn X2 d) os) _ ya yn yc (kids_below hkb (below_regrown X2 d os))
    rw [cat_node, pos_cat] at h
    exact Calls.regrown_of h
  have p0 := fun d os => cell_regrown p0 d os
  have q0 := fun d os => cell_regrown q0 d os
  have p1 := fun d os => cell_regrown p1 d os
  have q1 := fun d os => cell_regrown q1 d os
  have p2 := fun d os => cell_regrown p2 d os
  have q2 := fun d os => cell_regrown q2 d os
  have p3 := fun d os => cell_regrown p3 d os
  have q3 := fun d os => cell_regrown q3 d os
  have p4 := fun d os => cell_regrown p4 d os
  have q4 := fun d os => cell_regrown q4 d os
  have p5 := fun d os => cell_regrown p5 d os
  have q5 := fun d os => cell_regrown q5 d os
  have p6 := fun d os => cell_regrown p6 d os
  have q6 := fun d os => cell_regrown q6 d os
  have p7 := fun d os => cell_regrown p7 d os
  have q7 := fun d os => cell_regrown q7 d os
  have p8 := fun d os => cell_regrown p8 d os
  have q8 := fun d os => cell_regrown q8 d os
  have HB := hideT (And.intro hBX2 (And.intro hx hy))
  clear hBX2 hBY2 hBw2 hB2 hBX1 hBY1 hBw1 hB1 hBX0 hgX2 hgX1 b1 b2 hs1 hs2 hka hkb hx hy b12 l2 hk1 hk2 sx sy
  go_wp2_with fail
  rw [← hX2]
  clear hX2
  refine wp_region_quiet_below (by kernel_rfl) (by kernel_rfl) ?_
  repeat (quiet_step (first | with_reducible exact HB.out.2.1 _ _ | with_reducible exact HB.out.2.2 _ _))
  refine wpQuiet_nil ?_
  intro _ hw'
  obtain ⟨⟨dq, osq⟩, hw''⟩ := hw'
  subst hw''
  have HE := hideT (HB.out.1.trans ((below_regrown X2 dq osq).mono HB.out.1.size))
  clear p0 q0 p1 q1 p2 q2 p3 q3 p4 q4 p5 q5 p6 q6 p7 q7 p8 q8
  go_wp2
  go_ret
  exact ⟨rfl, HE.out⟩
set_option maxRecDepth 100000 in
set_option maxHeartbeats 4000000 in
theorem walk_wide (a b : ByteArray) {xs ys : List Tr} (hp : parseT a = .ok xs) (hq : parseT b = .ok ys) (hlong : ¬ 500 < (a.size : Int) + (b.size : Int)) (hwide : 256 < posL xs + posL ys) (w : World) (hg : Glob w) : Calls Try.prog 4 #[.string a, .string b] w fun e w' => e = .returned (.bool true) ∧ Below w.heap.size w w' := by
  have za := (parse_run hp).1
  have zb := (parse_run hq).1
  have k1 : IntKind.i64.wrap ((a.size : Int) + (b.size : Int)) = (a.size : Int) + (b.size : Int) := by rw [IntKind.wrap_i64]; omega
  have sx := parse_small a xs hp
  have sy := parse_small b ys hq
  have k2 : IntKind.i64.wrap (posL xs + posL ys) = posL xs + posL ys := by
    have h1 := smallT_pos _ sx
    have h2 := smallT_pos _ sy
    rw [pos_cat] at h1 h2
    rw [IntKind.wrap_i64]
    omega
  go_enter Try.func4, Try.ntmps4
  go_wp2_with fail
  refine (awake_any w hg).mono ?_
  rintro e w0 ⟨rfl, hBX0⟩
  have hg0 := hg.below hBX0 (Nat.le_refl _)
  go_wp2_with fail
  refine (doc_ok a xs hp w0 hg0).mono ?_
  rintro e w1 ⟨hB1, xa, xn, xc, rfl, hk1⟩
  have hBw1 := below_next hBX0 hB1
  obtain ⟨X1, hX1⟩ : ∃ X1, X1 = w1.alloc (.cells #[.int .i64 0, .int .u64 0, .int .u64 0, .int .u64 0, .int .u64 0, .int .i64 0, .int .i64 0, .int .i64 0, .slice xa xn xc] 27) := ⟨_, rfl⟩
  have hBY1 : Below w1.heap.size w1 X1 := by rw [hX1]; exact (Below.refl _ _).alloc (Nat.le_refl _) _
  have hBX1 := below_next hBw1 hBY1
  have hs1 : X1.heap.size = w1.heap.size + 1 := by rw [hX1, World.size_alloc]
  have hgX1 := hg.below hBX1 (Nat.le_refl _)
  have b1 : X1.heap[w1.heap.size]? = some (.cells #[.int .i64 0, .int .u64 0, .int .u64 0, .int .u64 0, .int .u64 0, .int .i64 0, .int .i64 0, .int .i64 0, .slice xa xn xc] 27 (0, 0)) := by rw [hX1]; exact heap_alloc_new w1 _
  go_wp2_with fail
  rw [← hX1]
  clear hX1
  refine (doc_ok b ys hq X1 hgX1).mono ?_
  rintro e w2 ⟨hB2, ya, yn, yc, rfl, hk2⟩
  have hBw2 := below_next hBX1 hB2
  obtain ⟨X2, hX2⟩ : ∃ X2, X2 = w2.alloc (.cells #[.int .i64 0, .int .u64 0, .int .u64 0, .int .u64 0, .int .u64 0, .int .i64 0, .int .i64 0, .int .i64 0, .slice ya yn yc] 27) := ⟨_, rfl⟩
  have hBY2 : Below w2.heap.size w2 X2 := by rw [hX2]; exact (Below.refl _ _).alloc (Nat.le_refl _) _
  have hBX2 := below_next hBw2 hBY2
  have hs2 : X2.heap.size = w2.heap.size + 1 := by rw [hX2, World.size_alloc]
  have hgX2 := hg.below hBX2 (Nat.le_refl _)
  have b2 : X2.heap[w2.heap.size]? = some (.cells #[.int .i64 0, .int .u64 0, .int .u64 0, .int .u64 0, .int .u64 0, .int .i64 0, .int .i64 0, .int .i64 0, .slice ya yn yc] 27 (0, 0)) := by rw [hX2]; exact heap_alloc_new w2 _
  have l2 := hB2.size
  have b12 := (hBY2.block w1.heap.size (by omega)).trans ((hB2.block w1.heap.size (by omega)).trans b1)
  have p0 : X2.cell? ⟨w1.heap.size, 0, none⟩ = some (.int .i64 0) := by simp [World.cell?, b12]
  have p1 : X2.cell? ⟨w1.heap.size, 1, none⟩ = some (.int .u64 0) := by simp [World.cell?, b12]
  have p2 : X2.cell? ⟨w1.heap.size, 2, none⟩ = some (.int .u64 0) := by simp [World.cell?, b12]
  have p3 : X2.cell? ⟨w1.heap.size, 3, none⟩ = some (.int .u64 0) := by simp [World.cell?, b12]
  have p4 : X2.cell? ⟨w1.heap.size, 4, none⟩ = some (.int .u64 0) := by simp [World.cell?, b12]
  have p5 : X2.cell? ⟨w1.heap.size, 5, none⟩ = some (.int .i64 0) := by simp [World.cell?, b12]
  have p6 : X2.cell? ⟨w1.heap.size, 6, none⟩ = some (.int .i64 0) := by simp [World.cell?, b12]
  have p7 : X2.cell? ⟨w1.heap.size, 7, none⟩ = some (.int .i64 0) := by simp [World.cell?, b12]
  have p8 : X2.cell? ⟨w1.heap.size, 8, none⟩ = some (.slice xa xn xc) := by simp [World.cell?, b12]
  have q0 : X2.cell? ⟨w2.heap.size, 0, none⟩ = some (.int .i64 0) := by simp [World.cell?, b2]
  have q1 : X2.cell? ⟨w2.heap.size, 1, none⟩ = some (.int .u64 0) := by simp [World.cell?, b2]
  have q2 : X2.cell? ⟨w2.heap.size, 2, none⟩ = some (.int .u64 0) := by simp [World.cell?, b2]
  have q3 : X2.cell? ⟨w2.heap.size, 3, none⟩ = some (.int .u64 0) := by simp [World.cell?, b2]
  have q4 : X2.cell? ⟨w2.heap.size, 4, none⟩ = some (.int .u64 0) := by simp [World.cell?, b2]
  have q5 : X2.cell? ⟨w2.heap.size, 5, none⟩ = some (.int .i64 0) := by simp [World.cell?, b2]
  have q6 : X2.cell? ⟨w2.heap.size, 6, none⟩ = some (.int .i64 0) := by simp [World.cell?, b2]
  have q7 : X2.cell? ⟨w2.heap.size, 7, none⟩ = some (.int .i64 0) := by simp [World.cell?, b2]
  have q8 : X2.cell? ⟨w2.heap.size, 8, none⟩ = some (.slice ya yn yc) := by simp [World.cell?, b2]
  have hka := kids_below (kids_below (kids_below hk1 hBY1) hB2) hBY2
  have hkb := kids_below hk2 hBY2
  have hx : ∀ d os, Calls Try.prog 13 #[.agg #[.int .i64 0, .int .u64 0, .int .u64 0, .int .u64 0, .int .u64 0, .int .i64 0, .int .i64 0, .int .i64 0, .slice xa xn xc]] (grow (redrawn X2 d) os) fun e w'' => e = .returned (.int .i64 (posL xs)) ∧ ∃ p : Regrown, w'' = grow (redrawn X2 p.d) p.os := fun d os => by
    have h := pos_any _ (catT xs) (Nat.lt_succ_self _) sx (grow (redrawn X2 d) os) _ xa xn xc (kids_below hka (below_regrown X2 d os))
    rw [cat_node, pos_cat] at h
    exact Calls.regrown_of h
  have hy : ∀ d os, Calls Try.prog 13 #[.agg #[.int .i64 0, .int .u64 0, .int .u64 0, .int .u64 0, .int .u64 0, .int .i64 0, .int .i64 0, .int .i64 0, .slice ya yn yc]] (grow (redrawn X2 d) os) fun e w'' => e = .returned (.int .i64 (posL ys)) ∧ ∃ p : Regrown, w'' = grow (redrawn X2 p.d) p.os := fun d os => by
    have h := pos_any _ (catT ys) (Nat.lt_succ_self _) sy (grow (redrawn X2 d) os) _ ya yn yc (kids_below hkb (below_regrown X2 d os))
    rw [cat_node, pos_cat] at h
    exact Calls.regrown_of h
  have p0 := fun d os => cell_regrown p0 d os
  have q0 := fun d os => cell_regrown q0 d os
  have p1 := fun d os => cell_regrown p1 d os
  have q1 := fun d os => cell_regrown q1 d os
  have p2 := fun d os => cell_regrown p2 d os
  have q2 := fun d os => cell_regrown q2 d os
  have p3 := fun d os => cell_regrown p3 d os
  have q3 := fun d os => cell_regrown q3 d os
  have p4 := fun d os => cell_regrown p4 d os
  have q4 := fun d os => cell_regrown q4 d os
  have p5 := fun d os => cell_regrown p5 d os
  have q5 := fun d os => cell_regrown q5 d os
  have p6 := fun d os => cell_regrown p6 d os
  have q6 := fun d os => cell_regrown q6 d os
  have p7 := fun d os => cell_regrown p7 d os
  have q7 := fun d os => cell_regrown q7 d os
  have p8 := fun d os => cell_regrown p8 d os
  have q8 := fun d os => cell_regrown q8 d os
  have HB := hideT (And.intro hBX2 (And.intro hx hy))
  clear hBX2 hBY2 hBw2 hB2 hBX1 hBY1 hBw1 hB1 hBX0 hgX2 hgX1 b1 b2 hs1 hs2 hka hkb hx hy b12 l2 hk1 hk2 sx sy
  go_wp2_with fail
  rw [← hX2]
  clear hX2
  refine wp_region_quiet_below (by kernel_rfl) (by kernel_rfl) ?_
  repeat (quiet_step (first | with_reducible exact HB.out.2.1 _ _ | with_reducible exact HB.out.2.2 _ _))
  refine wpQuiet_nil ?_
  intro _ hw'
  obtain ⟨⟨dq, osq⟩, hw''⟩ := hw'
  subst hw''
  have HE := hideT (HB.out.1.trans ((below_regrown X2 dq osq).mono HB.out.1.size))
  clear p0 q0 p1 q1 p2 q2 p3 q3 p4 q4 p5 q5 p6 q6 p7 q7 p8 q8
  go_wp2
  go_ret
  exact ⟨rfl, HE.out⟩
end groups
end Go.Proofs.Ytgpciekpmdihnaa
/- BreGroups: the walk, on. -/
namespace Go.Proofs.Ytgpciekpmdihnaa
open Go.RowKit
open Go.Sort
namespace groups
set_option maxRecDepth 100000 in
set_option maxHeartbeats 4000000 in
theorem walk_bad (a b : ByteArray) {xs ys : List Tr} (hp : parseT a = .ok xs) (hq : parseT b = .ok ys) (hlong : ¬ 500 < (a.size : Int) + (b.size : Int)) (hwide : ¬ 256 < posL xs + posL ys) {er : Int} {p : Nat} (hr : parseT (brk2 a b) = .error (er, p)) (her : er = 11 ∨ er = 4 ∨ er = 13) (w : World) (hg : Glob w) : Calls Try.prog 4 #[.string a, .string b] w fun e w' => e = .returned (.bool true) ∧ Below w.heap.size w w' := by
  have za := (parse_run hp).1
  have zb := (parse_run hq).1
  have k1 : IntKind.i64.wrap ((a.size : Int) + (b.size : Int)) = (a.size : Int) + (b.size : Int) := by rw [IntKind.wrap_i64]; omega
  have sx := parse_small a xs hp
  have sy := parse_small b ys hq
  have k2 : IntKind.i64.wrap (posL xs + posL ys) = posL xs + posL ys := by
    have h1 := smallT_pos _ sx
    have h2 := smallT_pos _ sy
    rw [pos_cat] at h1 h2
    rw [IntKind.wrap_i64]
    omega
  go_enter Try.func4, Try.ntmps4
  go_wp2_with fail
  refine (awake_any w hg).mono ?_
  rintro e w0 ⟨rfl, hBX0⟩
  have hg0 := hg.below hBX0 (Nat.le_refl _)
  go_wp2_with fail
  refine (doc_ok a xs hp w0 hg0).mono ?_
  rintro e w1 ⟨hB1, xa, xn, xc, rfl, hk1⟩
  have hBw1 := below_next hBX0 hB1
  obtain ⟨X1, hX1⟩ : ∃ X1, X1 = w1.alloc (.cells #[.int .i64 0, .int .u64 0, .int .u64 0, .int .u64 0, .int .u64 0, .int .i64 0, .int .i64 0, .int .i64 0, .slice xa xn xc] 27) := ⟨_, rfl⟩
  have hBY1 : Below w1.heap.size w1 X1 := by rw [hX1]; exact (Below.refl _ _).alloc (Nat.le_refl _) _
  have hBX1 := below_next hBw1 hBY1
  have hs1 : X1.heap.size = w1.heap.size + 1 := by rw [hX1, World.size_alloc]
  have hgX1 := hg.below hBX1 (Nat.le_refl _)
  have b1 : X1.heap[w1.heap.size]? = some (.cells #[.int .i64 0, .int .u64 0, .int .u64 0, .int .u64 0, .int .u64 0, .int .i64 0, .int .i64 0, .int .i64 0, .slice xa xn xc] 27 (0, 0)) := by rw [hX1]; exact heap_alloc_new w1 _
  go_wp2_with fail
  rw [← hX1]
  clear hX1
  refine (doc_ok b ys hq X1 hgX1).mono ?_
  rintro e w2 ⟨hB2, ya, yn, yc, rfl, hk2⟩
  have hBw2 := below_next hBX1 hB2
  obtain ⟨X2, hX2⟩ : ∃ X2, X2 = w2.alloc (.cells #[.int .i64 0, .int .u64 0, .int .u64 0, .int .u64 0, .int .u64 0, .int .i64 0, .int .i64 0, .int .i64 0, .slice ya yn yc] 27) := ⟨_, rfl⟩
  have hBY2 : Below w2.heap.size w2 X2 := by rw [hX2]; exact (Below.refl _ _).alloc (Nat.le_refl _) _
  have hBX2 := below_next hBw2 hBY2
  have hs2 : X2.heap.size = w2.heap.size + 1 := by rw [hX2, World.size_alloc]
  have hgX2 := hg.below hBX2 (Nat.le_refl _)
  have b2 : X2.heap[w2.heap.size]? = some (.cells #[.int .i64 0, .int .u64 0, .int .u64 0, .int .u64 0, .int .u64 0, .int .i64 0, .int .i64 0, .int .i64 0, .slice ya yn yc] 27 (0, 0)) := by rw [hX2]; exact heap_alloc_new w2 _
  have l2 := hB2.size
  have b12 := (hBY2.block w1.heap.size (by omega)).trans ((hB2.block w1.heap.size (by omega)).trans b1)
  have p0 : X2.cell? ⟨w1.heap.size, 0, none⟩ = some (.int .i64 0) := by simp [World.cell?, b12]
  have p1 : X2.cell? ⟨w1.heap.size, 1, none⟩ = some (.int .u64 0) := by simp [World.cell?, b12]
  have p2 : X2.cell? ⟨w1.heap.size, 2, none⟩ = some (.int .u64 0) := by simp [World.cell?, b12]
  have p3 : X2.cell? ⟨w1.heap.size, 3, none⟩ = some (.int .u64 0) := by simp [World.cell?, b12]
  have p4 : X2.cell? ⟨w1.heap.size, 4, none⟩ = some (.int .u64 0) := by simp [World.cell?, b12]
  have p5 : X2.cell? ⟨w1.heap.size, 5, none⟩ = some (.int .i64 0) := by simp [World.cell?, b12]
  have p6 : X2.cell? ⟨w1.heap.size, 6, none⟩ = some (.int .i64 0) := by simp [World.cell?, b12]
  have p7 : X2.cell? ⟨w1.heap.size, 7, none⟩ = some (.int .i64 0) := by simp [World.cell?, b12]
  have p8 : X2.cell? ⟨w1.heap.size, 8, none⟩ = some (.slice xa xn xc) := by simp [World.cell?, b12]
  have q0 : X2.cell? ⟨w2.heap.size, 0, none⟩ = some (.int .i64 0) := by simp [World.cell?, b2]
  have q1 : X2.cell? ⟨w2.heap.size, 1, none⟩ = some (.int .u64 0) := by simp [World.cell?, b2]
  have q2 : X2.cell? ⟨w2.heap.size, 2, none⟩ = some (.int .u64 0) := by simp [World.cell?, b2]
  have q3 : X2.cell? ⟨w2.heap.size, 3, none⟩ = some (.int .u64 0) := by simp [World.cell?, b2]
  have q4 : X2.cell? ⟨w2.heap.size, 4, none⟩ = some (.int .u64 0) := by simp [World.cell?, b2]
  have q5 : X2.cell? ⟨w2.heap.size, 5, none⟩ = some (.int .i64 0) := by simp [World.cell?, b2]
  have q6 : X2.cell? ⟨w2.heap.size, 6, none⟩ = some (.int .i64 0) := by simp [World.cell?, b2]
  have q7 : X2.cell? ⟨w2.heap.size, 7, none⟩ = some (.int .i64 0) := by simp [World.cell?, b2]
  have q8 : X2.cell? ⟨w2.heap.size, 8, none⟩ = some (.slice ya yn yc) := by simp [World.cell?, b2]
  have hka := kids_below (kids_below (kids_below hk1 hBY1) hB2) hBY2
  have hkb := kids_below hk2 hBY2
  have hx : ∀ d os, Calls Try.prog 13 #[.agg #[.int .i64 0, .int .u64 0, .int .u64 0, .int .u64 0, .int .u64 0, .int .i64 0, .int .i64 0, .int .i64 0, .slice xa xn xc]] (grow (redrawn X2 d) os) fun e w'' => e = .returned (.int .i64 (posL xs)) ∧ ∃ p : Regrown, w'' = grow (redrawn X2 p.d) p.os := fun d os => by
    have h := pos_any _ (catT xs) (Nat.lt_succ_self _) sx (grow (redrawn X2 d) os) _ xa xn xc (kids_below hka (below_regrown X2 d os))
    rw [cat_node, pos_cat] at h
    exact Calls.regrown_of h
  have hy : ∀ d os, Calls Try.prog 13 #[.agg #[.int .i64 0, .int .u64 0, .int .u64 0, .int .u64 0, .int .u64 0, .int .i64 0, .int .i64 0, .int .i64 0, .slice ya yn yc]] (grow (redrawn X2 d) os) fun e w'' => e = .returned (.int .i64 (posL ys)) ∧ ∃ p : Regrown, w'' = grow (redrawn X2 p.d) p.os := fun d os => by
    have h := pos_any _ (catT ys) (Nat.lt_succ_self _) sy (grow (redrawn X2 d) os) _ ya yn yc (kids_below hkb (below_regrown X2 d os))
    rw [cat_node, pos_cat] at h
    exact Calls.regrown_of h
  have p0 := fun d os => cell_regrown p0 d os
  have q0 := fun d os => cell_regrown q0 d os
  have p1 := fun d os => cell_regrown p1 d os
  have q1 := fun d os => cell_regrown q1 d os
  have p2 := fun d os => cell_regrown p2 d os
  have q2 := fun d os => cell_regrown q2 d os
  have p3 := fun d os => cell_regrown p3 d os
  have q3 := fun d os => cell_regrown q3 d os
  have p4 := fun d os => cell_regrown p4 d os
  have q4 := fun d os => cell_regrown q4 d os
  have p5 := fun d os => cell_regrown p5 d os
  have q5 := fun d os => cell_regrown q5 d os
  have p6 := fun d os => cell_regrown p6 d os
  have q6 := fun d os => cell_regrown q6 d os
  have p7 := fun d os => cell_regrown p7 d os
  have q7 := fun d os => cell_regrown q7 d os
  have p8 := fun d os => cell_regrown p8 d os
  have q8 := fun d os => cell_regrown q8 d os
  have HK := hideT (And.intro b12 (And.intro b2 (And.intro hka hkb)))
  have HB := hideT (And.intro hBX2 (And.intro hx hy))
  clear hBX2 hBY2 hBw2 hB2 hBX1 hBY1 hBw1 hB1 hBX0 hgX2 hgX1 b1 b2 hs1 hs2 hka hkb hx hy b12 l2 hk1 hk2 sx sy
  go_wp2_with fail
  rw [← hX2]
  clear hX2
  refine wp_region_quiet_below (by kernel_rfl) (by kernel_rfl) ?_
  repeat (quiet_step (first | with_reducible exact HB.out.2.1 _ _ | with_reducible exact HB.out.2.2 _ _))
  refine wpQuiet_nil ?_
  intro _ hw'
  obtain ⟨⟨dq, osq⟩, hw''⟩ := hw'
  subst hw''
  obtain ⟨W, hW⟩ : ∃ W, W = grow (redrawn X2 dq) osq := ⟨_, rfl⟩
  have hBW := below_regrown X2 dq osq
  rw [← hW] at hBW ⊢
  clear hW p0 q0 p1 q1 p2 q2 p3 q3 p4 q4 p5 q5 p6 q6 p7 q7 p8 q8
  have hBw : Below w.heap.size w W := HB.out.1.trans (hBW.mono HB.out.1.size)
  have bx := (hBW.block _ (Array.getElem?_eq_some_iff.1 HK.out.1).1).trans HK.out.1
  have bY := (hBW.block _ (Array.getElem?_eq_some_iff.1 HK.out.2.1).1).trans HK.out.2.1
  have kx := kids_below HK.out.2.2.1 hBW
  have ky := kids_below HK.out.2.2.2 hBW
  have hgW := hg.below hBw (Nat.le_refl _)
  clear HB HK hBW
  have hsz := brk2_size a b
  go_wp2_with fail
  refine (parse_fault (brk2 a b) er p hr W hgW).mono ?_
  rintro e w3 ⟨rfl, hB3⟩
  have hBw3 := below_next hBw hB3
  obtain ⟨X3, hX3⟩ : ∃ X3, X3 = (w3.alloc (.cells #[.int .i64 0, .int .u64 0, .int .u64 0, .int .u64 0, .int .u64 0, .int .i64 0, .int .i64 0, .int .i64 0, .slice none 0 0] 27)).alloc (.cells #[.int .i64 er, .int .i64 (p : Nat)] 30) := ⟨_, rfl⟩
  have f0 : X3.cell? ⟨w3.heap.size + 1, 0, none⟩ = some (.int .i64 er) := by
    rw [hX3]
    exact (new_cell (w3.alloc _) _ 30 _ (World.size_alloc _ _) 0 _ rfl).1
  have HE : Hid (Below w.heap.size w X3) := hideT (by rw [hX3]; exact (hBw3.alloc hBw3.size _).alloc (by rw [World.size_alloc]; have := hBw3.size; omega) _)
  rw [hX3] at f0 HE
  clear hX3 hBw3 hBw hB3 bx bY kx ky hgW
  rcases her with rfl | rfl | rfl
  all_goals
    go_wp2
    go_ret
    exact ⟨rfl, HE.out⟩
end groups
end Go.Proofs.Ytgpciekpmdihnaa
/- BreGroups: the walk, on. -/
namespace Go.Proofs.Ytgpciekpmdihnaa
open Go.RowKit
open Go.Sort
namespace groups
set_option maxRecDepth 100000 in
set_option maxHeartbeats 4000000 in
theorem walk_good (a b : ByteArray) {xs ys : List Tr} (hp : parseT a = .ok xs) (hq : parseT b = .ok ys) (hlong : ¬ 500 < (a.size : Int) + (b.size : Int)) (hwide : ¬ 256 < posL xs + posL ys) {d : Nat} (hr : parseT (brk2 a b) = .ok [groupT 1 (hgL 1 xs), groupT d (hgL d ys)]) (w : World) (hg : Glob w) : Calls Try.prog 4 #[.string a, .string b] w fun e w' => e = .returned (.bool true) ∧ Below w.heap.size w w' := by
  have za := (parse_run hp).1
  have zb := (parse_run hq).1
  have k1 : IntKind.i64.wrap ((a.size : Int) + (b.size : Int)) = (a.size : Int) + (b.size : Int) := by rw [IntKind.wrap_i64]; omega
  have sx := parse_small a xs hp
  have sy := parse_small b ys hq
  have k2 : IntKind.i64.wrap (posL xs + posL ys) = posL xs + posL ys := by
    have h1 := smallT_pos _ sx
    have h2 := smallT_pos _ sy
    rw [pos_cat] at h1 h2
    rw [IntKind.wrap_i64]
    omega
  go_enter Try.func4, Try.ntmps4
  go_wp2_with fail
  refine (awake_any w hg).mono ?_
  rintro e w0 ⟨rfl, hBX0⟩
  have hg0 := hg.below hBX0 (Nat.le_refl _)
  go_wp2_with fail
  refine (doc_ok a xs hp w0 hg0).mono ?_
  rintro e w1 ⟨hB1, xa, xn, xc, rfl, hk1⟩
  have hBw1 := below_next hBX0 hB1
  obtain ⟨X1, hX1⟩ : ∃ X1, X1 = w1.alloc (.cells #[.int .i64 0, .int .u64 0, .int .u64 0, .int .u64 0, .int .u64 0, .int .i64 0, .int .i64 0, .int .i64 0, .slice xa xn xc] 27) := ⟨_, rfl⟩
  have hBY1 : Below w1.heap.size w1 X1 := by rw [hX1]; exact (Below.refl _ _).alloc (Nat.le_refl _) _
  have hBX1 := below_next hBw1 hBY1
  have hs1 : X1.heap.size = w1.heap.size + 1 := by rw [hX1, World.size_alloc]
  have hgX1 := hg.below hBX1 (Nat.le_refl _)
  have b1 : X1.heap[w1.heap.size]? = some (.cells #[.int .i64 0, .int .u64 0, .int .u64 0, .int .u64 0, .int .u64 0, .int .i64 0, .int .i64 0, .int .i64 0, .slice xa xn xc] 27 (0, 0)) := by rw [hX1]; exact heap_alloc_new w1 _
  go_wp2_with fail
  rw [← hX1]
  clear hX1
  refine (doc_ok b ys hq X1 hgX1).mono ?_
  rintro e w2 ⟨hB2, ya, yn, yc, rfl, hk2⟩
  have hBw2 := below_next hBX1 hB2
  obtain ⟨X2, hX2⟩ : ∃ X2, X2 = w2.alloc (.cells #[.int .i64 0, .int .u64 0, .int .u64 0, .int .u64 0, .int .u64 0, .int .i64 0, .int .i64 0, .int .i64 0, .slice ya yn yc] 27) := ⟨_, rfl⟩
  have hBY2 : Below w2.heap.size w2 X2 := by rw [hX2]; exact (Below.refl _ _).alloc (Nat.le_refl _) _
  have hBX2 := below_next hBw2 hBY2
  have hs2 : X2.heap.size = w2.heap.size + 1 := by rw [hX2, World.size_alloc]
  have hgX2 := hg.below hBX2 (Nat.le_refl _)
  have b2 : X2.heap[w2.heap.size]? = some (.cells #[.int .i64 0, .int .u64 0, .int .u64 0, .int .u64 0, .int .u64 0, .int .i64 0, .int .i64 0, .int .i64 0, .slice ya yn yc] 27 (0, 0)) := by rw [hX2]; exact heap_alloc_new w2 _
  have l2 := hB2.size
  have b12 := (hBY2.block w1.heap.size (by omega)).trans ((hB2.block w1.heap.size (by omega)).trans b1)
  have p0 : X2.cell? ⟨w1.heap.size, 0, none⟩ = some (.int .i64 0) := by simp [World.cell?, b12]
  have p1 : X2.cell? ⟨w1.heap.size, 1, none⟩ = some (.int .u64 0) := by simp [World.cell?, b12]
  have p2 : X2.cell? ⟨w1.heap.size, 2, none⟩ = some (.int .u64 0) := by simp [World.cell?, b12]
  have p3 : X2.cell? ⟨w1.heap.size, 3, none⟩ = some (.int .u64 0) := by simp [World.cell?, b12]
  have p4 : X2.cell? ⟨w1.heap.size, 4, none⟩ = some (.int .u64 0) := by simp [World.cell?, b12]
  have p5 : X2.cell? ⟨w1.heap.size, 5, none⟩ = some (.int .i64 0) := by simp [World.cell?, b12]
  have p6 : X2.cell? ⟨w1.heap.size, 6, none⟩ = some (.int .i64 0) := by simp [World.cell?, b12]
  have p7 : X2.cell? ⟨w1.heap.size, 7, none⟩ = some (.int .i64 0) := by simp [World.cell?, b12]
  have p8 : X2.cell? ⟨w1.heap.size, 8, none⟩ = some (.slice xa xn xc) := by simp [World.cell?, b12]
  have q0 : X2.cell? ⟨w2.heap.size, 0, none⟩ = some (.int .i64 0) := by simp [World.cell?, b2]
  have q1 : X2.cell? ⟨w2.heap.size, 1, none⟩ = some (.int .u64 0) := by simp [World.cell?, b2]
  have q2 : X2.cell? ⟨w2.heap.size, 2, none⟩ = some (.int .u64 0) := by simp [World.cell?, b2]
  have q3 : X2.cell? ⟨w2.heap.size, 3, none⟩ = some (.int .u64 0) := by simp [World.cell?, b2]
  have q4 : X2.cell? ⟨w2.heap.size, 4, none⟩ = some (.int .u64 0) := by simp [World.cell?, b2]
  have q5 : X2.cell? ⟨w2.heap.size, 5, none⟩ = some (.int .i64 0) := by simp [World.cell?, b2]
  have q6 : X2.cell? ⟨w2.heap.size, 6, none⟩ = some (.int .i64 0) := by simp [World.cell?, b2]
  have q7 : X2.cell? ⟨w2.heap.size, 7, none⟩ = some (.int .i64 0) := by simp [World.cell?, b2]
  have q8 : X2.cell? ⟨w2.heap.size, 8, none⟩ = some (.slice ya yn yc) := by simp [World.cell?, b2]
  have hka := kids_below (kids_below (kids_below hk1 hBY1) hB2) hBY2
  have hkb := kids_below hk2 hBY2
  have hx : ∀ d os, Calls Try.prog 13 #[.agg #[.int .i64 0, .int .u64 0, .int .u64 0, .int .u64 0, .int .u64 0, .int .i64 0, .int .i64 0, .int .i64 0, .slice xa xn xc]] (grow (redrawn X2 d) os) fun e w'' => e = .returned (.int .i64 (posL xs)) ∧ ∃ p : Regrown, w'' = grow (redrawn X2 p.d) p.os := fun d os => by
    have h := pos_any _ (catT xs) (Nat.lt_succ_self _) sx (grow (redrawn X2 d) os) _ xa xn xc (kids_below hka (below_regrown X2 d os))
    rw [cat_node, pos_cat] at h
    exact Calls.regrown_of h
  have hy : ∀ d os, Calls Try.prog 13 #[.agg #[.int .i64 0, .int .u64 0, .int .u64 0, .int .u64 0, .int .u64 0, .int .i64 0, .int .i64 0, .int .i64 0, .slice ya yn yc]] (grow (redrawn X2 d) os) fun e w'' => e = .returned (.int .i64 (posL ys)) ∧ ∃ p : Regrown, w'' = grow (redrawn X2 p.d) p.os := fun d os => by
    have h := pos_any _ (catT ys) (Nat.lt_succ_self _) sy (grow (redrawn X2 d) os) _ ya yn yc (kids_below hkb (below_regrown X2 d os))
    rw [cat_node, pos_cat] at h
    exact Calls.regrown_of h
  have p0 := fun d os => cell_regrown p0 d os
  have q0 := fun d os => cell_regrown q0 d os
  have p1 := fun d os => cell_regrown p1 d os
  have q1 := fun d os => cell_regrown q1 d os
  have p2 := fun d os => cell_regrown p2 d os
  have q2 := fun d os => cell_regrown q2 d os
  have p3 := fun d os => cell_regrown p3 d os
  have q3 := fun d os => cell_regrown q3 d os
  have p4 := fun d os => cell_regrown p4 d os
  have q4 := fun d os => cell_regrown q4 d os
  have p5 := fun d os => cell_regrown p5 d os
  have q5 := fun d os => cell_regrown q5 d os
  have p6 := fun d os => cell_regrown p6 d os
  have q6 := fun d os => cell_regrown q6 d os
  have p7 := fun d os => cell_regrown p7 d os
  have q7 := fun d os => cell_regrown q7 d os
  have p8 := fun d os => cell_regrown p8 d os
  have q8 := fun d os => cell_regrown q8 d os
  have HK := hideT (And.intro b12 (And.intro b2 (And.intro hka hkb)))
  have HB := hideT (And.intro hBX2 (And.intro hx hy))
  clear hBX2 hBY2 hBw2 hB2 hBX1 hBY1 hBw1 hB1 hBX0 hgX2 hgX1 b1 b2 hs1 hs2 hka hkb hx hy b12 l2 hk1 hk2 sx sy
  go_wp2_with fail
  rw [← hX2]
  clear hX2
  refine wp_region_quiet_below (by kernel_rfl) (by kernel_rfl) ?_
  repeat (quiet_step (first | with_reducible exact HB.out.2.1 _ _ | with_reducible exact HB.out.2.2 _ _))
  refine wpQuiet_nil ?_
  intro _ hw'
  obtain ⟨⟨dq, osq⟩, hw''⟩ := hw'
  subst hw''
  obtain ⟨W, hW⟩ : ∃ W, W = grow (redrawn X2 dq) osq := ⟨_, rfl⟩
  have hBW := below_regrown X2 dq osq
  rw [← hW] at hBW ⊢
  clear hW p0 q0 p1 q1 p2 q2 p3 q3 p4 q4 p5 q5 p6 q6 p7 q7 p8 q8
  have hBw : Below w.heap.size w W := HB.out.1.trans (hBW.mono HB.out.1.size)
  have bx := (hBW.block _ (Array.getElem?_eq_some_iff.1 HK.out.1).1).trans HK.out.1
  have bY := (hBW.block _ (Array.getElem?_eq_some_iff.1 HK.out.2.1).1).trans HK.out.2.1
  have kx := kids_below HK.out.2.2.1 hBW
  have ky := kids_below HK.out.2.2.2 hBW
  have hgW := hg.below hBw (Nat.le_refl _)
  clear HB HK hBW
  have hsz := brk2_size a b
  go_wp2_with fail
  refine (parse_ok (brk2 a b) (by omega) _ hr W hgW).mono ?_
  rintro e w3 ⟨hB3, ta, tn, tc, rfl, hk3⟩
  have hBw3 := below_next hBw hB3
  obtain ⟨X3, hX3⟩ : ∃ X3, X3 = (w3.alloc (.cells #[.int .i64 0, .int .u64 0, .int .u64 0, .int .u64 0, .int .u64 0, .int .i64 0, .int .i64 0, .int .i64 0, .slice ta tn tc] 27)).alloc (.cells #[.int .i64 0, .int .i64 0] 30) := ⟨_, rfl⟩
  have hBY3 : Below w3.heap.size w3 X3 := by rw [hX3]; exact ((Below.refl _ _).alloc (Nat.le_refl _) _).alloc (by rw [World.size_alloc]; omega) _
  have f0 : X3.cell? ⟨w3.heap.size + 1, 0, none⟩ = some (.int .i64 0) := by
    rw [hX3]
    exact (new_cell (w3.alloc _) _ 30 _ (World.size_alloc _ _) 0 _ rfl).1
  have t8 : X3.cell? ⟨w3.heap.size, 8, none⟩ = some (.slice ta tn tc) := by
    rw [hX3, World.cell?_of_block (a := ⟨w3.heap.size, 8, none⟩) (Below.heap_alloc _ _ w3.heap.size (by rw [World.size_alloc]; omega))]
    exact (new_cell w3 _ 27 _ rfl 8 _ rfl).1
  obtain ⟨g, c, u0, he, _, _, n0, ku0⟩ := kids_at (kids_below hk3 hBY3) (i := 0) rfl
  obtain ⟨g', c', u1, he', _, _, n1, ku1⟩ := kids_at (kids_below hk3 hBY3) (i := 1) rfl
  obtain ⟨rfl, rfl, rfl⟩ : ta = some ⟨g, 0, none⟩ ∧ tn = 2 ∧ tc = c := by
    injection he with x y z
    exact ⟨x, y, z⟩
  obtain rfl : g = g' := by
    injection he' with x y z
    injection x with x
    injection x with x
  obtain ⟨h0, c0, v0, hu0, _, _, m0, kv0⟩ := kids_at ku0 (i := 0) rfl
  obtain rfl : u0 = .slice (some ⟨h0, 0, none⟩) 1 c0 := hu0
  obtain ⟨h1, c1, v1, hu1, _, _, m1, kv1⟩ := kids_at ku1 (i := 0) rfl
  obtain rfl : u1 = .slice (some ⟨h1, 0, none⟩) 1 c1 := hu1
  obtain ⟨va, vc, rfl⟩ := kids_shape kv0
  obtain ⟨va1, vc1, rfl⟩ := kids_shape kv1
  rw [nodeV_group] at n0 n1
  rw [nodeV_cat] at m0 m1
  have a0 : X3.cell? ⟨g, 0, none⟩ = some (.int .i64 4) := (n0 0 _ rfl).1
  have a7 : X3.cell? ⟨g, 7, none⟩ = some (.int .i64 1) := (n0 7 _ rfl).1
  have a8 : X3.cell? ⟨g, 8, none⟩ = some (.slice (some ⟨h0, 0, none⟩) 1 c0) := (n0 8 _ rfl).1
  have a9 : X3.cell? ⟨g, 9, none⟩ = some (.int .i64 4) := (n1 0 _ rfl).1
  have a17 : X3.cell? ⟨g, 17, none⟩ = some (.slice (some ⟨h1, 0, none⟩) 1 c1) := (n1 8 _ rfl).1
  have l3 := hB3.size
  have bx3 := (hBY3.block w1.heap.size (by have := (Array.getElem?_eq_some_iff.1 bx).1; omega)).trans ((hB3.block w1.heap.size (Array.getElem?_eq_some_iff.1 bx).1).trans bx)
  have by3 := (hBY3.block w2.heap.size (by have := (Array.getElem?_eq_some_iff.1 bY).1; omega)).trans ((hB3.block w2.heap.size (Array.getElem?_eq_some_iff.1 bY).1).trans bY)
  have r0 : X3.cell? ⟨h0, 0, none⟩ = some (.int .i64 0) := (m0 0 _ rfl).1
  have s0 : X3.cell? ⟨h1, 0, none⟩ = some (.int .i64 0) := (m1 0 _ rfl).1
  have r1 : X3.cell? ⟨h0, 1, none⟩ = some (.int .u64 0) := (m0 1 _ rfl).1
  have s1 : X3.cell? ⟨h1, 1, none⟩ = some (.int .u64 0) := (m1 1 _ rfl).1
  have r2 : X3.cell? ⟨h0, 2, none⟩ = some (.int .u64 0) := (m0 2 _ rfl).1
  have s2 : X3.cell? ⟨h1, 2, none⟩ = some (.int .u64 0) := (m1 2 _ rfl).1
  have r3 : X3.cell? ⟨h0, 3, none⟩ = some (.int .u64 0) := (m0 3 _ rfl).1
  have s3 : X3.cell? ⟨h1, 3, none⟩ = some (.int .u64 0) := (m1 3 _ rfl).1
  have r4 : X3.cell? ⟨h0, 4, none⟩ = some (.int .u64 0) := (m0 4 _ rfl).1
  have s4 : X3.cell? ⟨h1, 4, none⟩ = some (.int .u64 0) := (m1 4 _ rfl).1
  have r5 : X3.cell? ⟨h0, 5, none⟩ = some (.int .i64 0) := (m0 5 _ rfl).1
  have s5 : X3.cell? ⟨h1, 5, none⟩ = some (.int .i64 0) := (m1 5 _ rfl).1
  have r6 : X3.cell? ⟨h0, 6, none⟩ = some (.int .i64 0) := (m0 6 _ rfl).1
  have s6 : X3.cell? ⟨h1, 6, none⟩ = some (.int .i64 0) := (m1 6 _ rfl).1
  have r7 : X3.cell? ⟨h0, 7, none⟩ = some (.int .i64 0) := (m0 7 _ rfl).1
  have s7 : X3.cell? ⟨h1, 7, none⟩ = some (.int .i64 0) := (m1 7 _ rfl).1
  have r8 : X3.cell? ⟨h0, 8, none⟩ = some (.slice va (catT (hgL 1 xs)).kids.length vc) := (m0 8 _ rfl).1
  have s8 : X3.cell? ⟨h1, 8, none⟩ = some (.slice va1 (catT (hgL d ys)).kids.length vc1) := (m1 8 _ rfl).1
  have p0 : X3.cell? ⟨w1.heap.size, 0, none⟩ = some (.int .i64 0) := by simp [World.cell?, bx3]
  have p1 : X3.cell? ⟨w1.heap.size, 1, none⟩ = some (.int .u64 0) := by simp [World.cell?, bx3]
  have p2 : X3.cell? ⟨w1.heap.size, 2, none⟩ = some (.int .u64 0) := by simp [World.cell?, bx3]
  have p3 : X3.cell? ⟨w1.heap.size, 3, none⟩ = some (.int .u64 0) := by simp [World.cell?, bx3]
  have p4 : X3.cell? ⟨w1.heap.size, 4, none⟩ = some (.int .u64 0) := by simp [World.cell?, bx3]
  have p5 : X3.cell? ⟨w1.heap.size, 5, none⟩ = some (.int .i64 0) := by simp [World.cell?, bx3]
  have p6 : X3.cell? ⟨w1.heap.size, 6, none⟩ = some (.int .i64 0) := by simp [World.cell?, bx3]
  have p7 : X3.cell? ⟨w1.heap.size, 7, none⟩ = some (.int .i64 0) := by simp [World.cell?, bx3]
  have p8 : X3.cell? ⟨w1.heap.size, 8, none⟩ = some (.slice xa xn xc) := by simp [World.cell?, bx3]
  have q0 : X3.cell? ⟨w2.heap.size, 0, none⟩ = some (.int .i64 0) := by simp [World.cell?, by3]
  have q1 : X3.cell? ⟨w2.heap.size, 1, none⟩ = some (.int .u64 0) := by simp [World.cell?, by3]
  have q2 : X3.cell? ⟨w2.heap.size, 2, none⟩ = some (.int .u64 0) := by simp [World.cell?, by3]
  have q3 : X3.cell? ⟨w2.heap.size, 3, none⟩ = some (.int .u64 0) := by simp [World.cell?, by3]
  have q4 : X3.cell? ⟨w2.heap.size, 4, none⟩ = some (.int .u64 0) := by simp [World.cell?, by3]
  have q5 : X3.cell? ⟨w2.heap.size, 5, none⟩ = some (.int .i64 0) := by simp [World.cell?, by3]
  have q6 : X3.cell? ⟨w2.heap.size, 6, none⟩ = some (.int .i64 0) := by simp [World.cell?, by3]
  have q7 : X3.cell? ⟨w2.heap.size, 7, none⟩ = some (.int .i64 0) := by simp [World.cell?, by3]
  have q8 : X3.cell? ⟨w2.heap.size, 8, none⟩ = some (.slice ya yn yc) := by simp [World.cell?, by3]
  have kx3 := kids_below (kids_below kx hB3) hBY3
  have ky3 := kids_below (kids_below ky hB3) hBY3
  have HE : Hid (Below w.heap.size w X3) := hideT (below_next hBw3 hBY3)
  have HK := hideT (And.intro kv0 (And.intro kv1 (And.intro kx3 ky3)))
  clear hBw3 hBw hB3 hBY3 bx bY kx ky kx3 ky3 hgW hk3 he he' n0 n1 m0 m1 ku0 ku1 kv0 kv1 bx3 by3 l3
  have sx := parse_small a xs hp
  have sy := parse_small b ys hq
  have hx : ∀ d9 os, Calls Try.prog 14 #[.agg #[.int .i64 0, .int .u64 0, .int .u64 0, .int .u64 0, .int .u64 0, .int .i64 0, .int .i64 0, .int .i64 0, .slice va (catT (hgL 1 xs)).kids.length vc], .agg #[.int .i64 0, .int .u64 0, .int .u64 0, .int .u64 0, .int .u64 0, .int .i64 0, .int .i64 0, .int .i64 0, .slice xa xn xc]] (grow (redrawn X3 d9) os) fun e w'' => e = .returned (.bool true) ∧ ∃ p : Regrown, w'' = grow (redrawn X3 p.d) p.os := fun d9 os => by
    have h := kinds_any 1 _ (catT xs) (Nat.lt_succ_self _) sx (grow (redrawn X3 d9) os) _ _ va xa (catT (hgL 1 xs)).kids.length vc xn xc (by rw [hgT_cat]; exact kids_below HK.out.1 (below_regrown X3 d9 os)) (kids_below HK.out.2.2.1 (below_regrown X3 d9 os))
    rw [hgT_cat, cat_node, cat_node] at h
    exact Calls.regrown_of h
  have hy : ∀ d9 os, Calls Try.prog 14 #[.agg #[.int .i64 0, .int .u64 0, .int .u64 0, .int .u64 0, .int .u64 0, .int .i64 0, .int .i64 0, .int .i64 0, .slice va1 (catT (hgL d ys)).kids.length vc1], .agg #[.int .i64 0, .int .u64 0, .int .u64 0, .int .u64 0, .int .u64 0, .int .i64 0, .int .i64 0, .int .i64 0, .slice ya yn yc]] (grow (redrawn X3 d9) os) fun e w'' => e = .returned (.bool true) ∧ ∃ p : Regrown, w'' = grow (redrawn X3 p.d) p.os := fun d9 os => by
    have h := kinds_any d _ (catT ys) (Nat.lt_succ_self _) sy (grow (redrawn X3 d9) os) _ _ va1 ya (catT (hgL d ys)).kids.length vc1 yn yc (by rw [hgT_cat]; exact kids_below HK.out.2.1 (below_regrown X3 d9 os)) (kids_below HK.out.2.2.2 (below_regrown X3 d9 os))
    rw [hgT_cat, cat_node, cat_node] at h
    exact Calls.regrown_of h
  have HC := hideT (And.intro hx hy)
  clear hx hy sx sy HK
  have Qt8 := fun d os => cell_regrown t8 d os
  have Qa0 := fun d os => cell_regrown a0 d os
  have Qa7 := fun d os => cell_regrown a7 d os
  have Qa8 := fun d os => cell_regrown a8 d os
  have Qa9 := fun d os => cell_regrown a9 d os
  have Qa17 := fun d os => cell_regrown a17 d os
  have Qr0 := fun d os => cell_regrown r0 d os
  have Qs0 := fun d os => cell_regrown s0 d os
  have Qp0 := fun d os => cell_regrown p0 d os
  have Qq0 := fun d os => cell_regrown q0 d os
  have Qr1 := fun d os => cell_regrown r1 d os
  have Qs1 := fun d os => cell_regrown s1 d os
  have Qp1 := fun d os => cell_regrown p1 d os
  have Qq1 := fun d os => cell_regrown q1 d os
  have Qr2 := fun d os => cell_regrown r2 d os
  have Qs2 := fun d os => cell_regrown s2 d os
  have Qp2 := fun d os => cell_regrown p2 d os
  have Qq2 := fun d os => cell_regrown q2 d os
  have Qr3 := fun d os => cell_regrown r3 d os
  have Qs3 := fun d os => cell_regrown s3 d os
  have Qp3 := fun d os => cell_regrown p3 d os
  have Qq3 := fun d os => cell_regrown q3 d os
  have Qr4 := fun d os => cell_regrown r4 d os
  have Qs4 := fun d os => cell_regrown s4 d os
  have Qp4 := fun d os => cell_regrown p4 d os
  have Qq4 := fun d os => cell_regrown q4 d os
  have Qr5 := fun d os => cell_regrown r5 d os
  have Qs5 := fun d os => cell_regrown s5 d os
  have Qp5 := fun d os => cell_regrown p5 d os
  have Qq5 := fun d os => cell_regrown q5 d os
  have Qr6 := fun d os => cell_regrown r6 d os
  have Qs6 := fun d os => cell_regrown s6 d os
  have Qp6 := fun d os => cell_regrown p6 d os
  have Qq6 := fun d os => cell_regrown q6 d os
  have Qr7 := fun d os => cell_regrown r7 d os
  have Qs7 := fun d os => cell_regrown s7 d os
  have Qp7 := fun d os => cell_regrown p7 d os
  have Qq7 := fun d os => cell_regrown q7 d os
  have Qr8 := fun d os => cell_regrown r8 d os
  have Qs8 := fun d os => cell_regrown s8 d os
  have Qp8 := fun d os => cell_regrown p8 d os
  have Qq8 := fun d os => cell_regrown q8 d os
  rw [hX3] at f0 t8 a8 a17
  clear a0 a7 a9 r0 s0 p0 q0 r1 s1 p1 q1 r2 s2 p2 q2 r3 s3 p3 q3 r4 s4 p4 q4 r5 s5 p5 q5 r6 s6 p6 q6 r7 s7 p7 q7 r8 s8 p8 q8
  go_wp2_with fail
  rw [← hX3]
  clear hX3 f0 t8 a8 a17
  refine wp_region_quiet_below (by kernel_rfl) (by kernel_rfl) ?_
  repeat (quiet_step (first | with_reducible exact HC.out.1 _ _ | with_reducible exact HC.out.2 _ _))
  refine wpQuiet_nil ?_
  intro _ hw9
  obtain ⟨⟨dq9, osq9⟩, hw10⟩ := hw9
  subst hw10
  have HF := hideT (HE.out.trans ((below_regrown X3 dq9 osq9).mono HE.out.size))
  clear Qt8 Qa0 Qa7 Qa8 Qa9 Qa17 Qr0 Qs0 Qp0 Qq0 Qr1 Qs1 Qp1 Qq1 Qr2 Qs2 Qp2 Qq2 Qr3 Qs3 Qp3 Qq3 Qr4 Qs4 Qp4 Qq4 Qr5 Qs5 Qp5 Qq5 Qr6 Qs6 Qp6 Qq6 Qr7 Qs7 Qp7 Qq7 Qr8 Qs8 Qp8 Qq8 HC HE
  go_wp2
  go_ret
  exact ⟨rfl, HF.out⟩
end groups
end Go.Proofs.Ytgpciekpmdihnaa
/- BreGroups: the walk, of every two texts. -/
namespace Go.Proofs.Ytgpciekpmdihnaa
open Go.RowKit
open Go.Sort
namespace groups
theorem walk (a b : ByteArray) (w : World) (hg : Glob w) : Calls Try.prog 4 #[.string a, .string b] w fun e w' => e = .returned (.bool true) ∧ Below w.heap.size w w' := by
  cases hp : parseT a with
  | error x =>
    obtain ⟨ea, pa⟩ := x
    cases hq : parseT b with
    | error y => exact walk_ee a b hp hq w hg
    | ok ys => exact walk_eo a b hp hq w hg
  | ok xs =>
    cases hq : parseT b with
    | error y =>
      obtain ⟨eb, pb⟩ := y
      exact walk_oe a b hp hq w hg
    | ok ys =>
      by_cases hlong : 500 < (a.size : Int) + (b.size : Int)
      · exact walk_long a b hp hq hlong w hg
      · by_cases hwide : 256 < posL xs + posL ys
        · exact walk_wide a b hp hq hlong hwide w hg
        · rcases groups_two hp hq (by omega) with ⟨er, p, hr, her⟩ | ⟨d, hr⟩
          · exact walk_bad a b hp hq hlong hwide hr her w hg
          · exact walk_good a b hp hq hlong hwide hr w hg
end groups
end Go.Proofs.Ytgpciekpmdihnaa
