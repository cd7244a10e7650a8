/- bre: shaped: what its walks want. -/
import Derived.Test.YtooanbbnjiogaaaKQf
import Derived.Deep.RegionWith
import Derived.Deep.Cut
import Derived.Handy
namespace Go.Proofs.Ytooanbbnjiogaaa
open Go.RowKit

/-- Ten bools. -/
abbrev boolsA (c : Nat → Bool) : Array Value := #[.bool (c 0), .bool (c 1), .bool (c 2), .bool (c 3), .bool (c 4), .bool (c 5), .bool (c 6), .bool (c 7), .bool (c 8), .bool (c 9)]

/-- What shaped answers. -/
abbrev shA (s : Sh) : Ending := .returned (.tuple #[.int .i64 (s.1 : Nat), .agg (boolsA s.2), .bool true])

theorem eql_zero (w : World) : (binOp .eql 24 (.agg #[.int .u64 0, .int .u64 0, .int .u64 0, .int .u64 0]) (.agg #[.int .u64 0, .int .u64 0, .int .u64 0, .int .u64 0])).run Try.prog w = .ok (.bool true) w := by
  rw [run_eql_words]; rfl

/-- Ten bools written. -/
abbrev put10 (W : World) (b : Nat) (c : Nat → Bool) : World := ((((((((((W.setCell ⟨b, 0, none⟩ (.bool (c 0))).setCell ⟨b, 1, none⟩ (.bool (c 1))).setCell ⟨b, 2, none⟩ (.bool (c 2))).setCell ⟨b, 3, none⟩ (.bool (c 3))).setCell ⟨b, 4, none⟩ (.bool (c 4))).setCell ⟨b, 5, none⟩ (.bool (c 5))).setCell ⟨b, 6, none⟩ (.bool (c 6))).setCell ⟨b, 7, none⟩ (.bool (c 7))).setCell ⟨b, 8, none⟩ (.bool (c 8))).setCell ⟨b, 9, none⟩ (.bool (c 9)))
theorem put10_at {W : World} {b : Nat} {c0 : Nat → Bool} (c : Nat → Bool) (h : W.heap[b]? = some (.cells (boolsA c0) 38 (0, 0))) : (put10 W b c).heap[b]? = some (.cells (boolsA c) 38 (0, 0)) := by
  have h0 := put_same W b 0 (.bool (c 0)) h
  have h1 := put_same _ b 1 (.bool (c 1)) h0
  have h2 := put_same _ b 2 (.bool (c 2)) h1
  have h3 := put_same _ b 3 (.bool (c 3)) h2
  have h4 := put_same _ b 4 (.bool (c 4)) h3
  have h5 := put_same _ b 5 (.bool (c 5)) h4
  have h6 := put_same _ b 6 (.bool (c 6)) h5
  have h7 := put_same _ b 7 (.bool (c 7)) h6
  have h8 := put_same _ b 8 (.bool (c 8)) h7
  have h9 := put_same _ b 9 (.bool (c 9)) h8
  exact h9.trans (by simp)
theorem put10_far (W : World) {b : Nat} (c : Nat → Bool) {j : Nat} (h : j ≠ b) : (put10 W b c).heap[j]? = W.heap[j]? := by
  exact (put_far _ b 9 _ h).trans ((put_far _ b 8 _ h).trans ((put_far _ b 7 _ h).trans ((put_far _ b 6 _ h).trans ((put_far _ b 5 _ h).trans ((put_far _ b 4 _ h).trans ((put_far _ b 3 _ h).trans ((put_far _ b 2 _ h).trans ((put_far _ b 1 _ h).trans (put_far _ b 0 _ h)))))))))
theorem put10_below {B : Nat} {a W : World} (h : Below B a W) {b : Nat} (hb : B ≤ b) (c : Nat → Bool) : Below B a (put10 W b c) :=
  ((((((((((h.setCell (p := ⟨b, 0, none⟩) hb _).setCell (p := ⟨b, 1, none⟩) hb _).setCell (p := ⟨b, 2, none⟩) hb _).setCell (p := ⟨b, 3, none⟩) hb _).setCell (p := ⟨b, 4, none⟩) hb _).setCell (p := ⟨b, 5, none⟩) hb _).setCell (p := ⟨b, 6, none⟩) hb _).setCell (p := ⟨b, 7, none⟩) hb _).setCell (p := ⟨b, 8, none⟩) hb _).setCell (p := ⟨b, 9, none⟩) hb _)

theorem drew_heap (V : World) : V.drew.heap = V.heap := rfl
theorem put10_drew {W : World} {b : Nat} {c0 : Nat → Bool} (c : Nat → Bool) (h : W.heap[b]? = some (.cells (boolsA c0) 38 (0, 0))) : (put10 W b c).drew.heap[b]? = some (.cells (boolsA c) 38 (0, 0)) := by
  rw [drew_heap]; exact put10_at c h
theorem put10c {W : World} {b : Nat} (h : W.heap[b]? = some (.cells #[.bool false, .bool false, .bool false, .bool false, .bool false, .bool false, .bool false, .bool false, .bool false, .bool false] 38 (0, 0))) : W.heap[b]? = some (.cells (boolsA fun _ => false) 38 (0, 0)) := h

/-- One of ten bools set. -/
theorem bools_shut (s : Sh) (g : Nat) (hg : g ≤ 9) : (boolsA s.2).setIfInBounds g (.bool true) = boolsA (s.shut g).2 := by
  have : g = 0 ∨ g = 1 ∨ g = 2 ∨ g = 3 ∨ g = 4 ∨ g = 5 ∨ g = 6 ∨ g = 7 ∨ g = 8 ∨ g = 9 := by omega
  rcases this with rfl | rfl | rfl | rfl | rfl | rfl | rfl | rfl | rfl | rfl <;> simp [Sh.shut]
theorem bools_get (c : Nat → Bool) (g : Nat) (hg : g ≤ 9) : (boolsA c)[g]? = some (.bool (c g)) := by
  have : g = 0 ∨ g = 1 ∨ g = 2 ∨ g = 3 ∨ g = 4 ∨ g = 5 ∨ g = 6 ∨ g = 7 ∨ g = 8 ∨ g = 9 := by omega
  rcases this with rfl | rfl | rfl | rfl | rfl | rfl | rfl | rfl | rfl | rfl <;> rfl
end Go.Proofs.Ytooanbbnjiogaaa

/- bre: shaped: a part without parts. -/
namespace Go.Proofs.Ytooanbbnjiogaaa
open Go.RowKit

set_option maxRecDepth 100000 in
set_option maxHeartbeats 4000000 in
theorem shaped_byte (q : Nat → Bool) (s : Sh) (w : World) (a : Option Addr) (c : Nat) :
    Calls Try.prog 13 #[.agg #[.int .i64 1, .int .u64 (wd q 0 : Nat), .int .u64 (wd q 1 : Nat), .int .u64 (wd q 2 : Nat), .int .u64 (wd q 3 : Nat), .int .i64 0, .int .i64 0, .int .i64 0, .slice a 0 c], .int .i64 (s.1 : Nat), .agg (boolsA s.2)] w fun e w' => e = shA s ∧ Below w.heap.size w w' := by
  have heq := eql_zero
  obtain ⟨g0, cl⟩ := s
  go_enter Try.func13, Try.ntmps13
  go_upto_region 1 with fail
  obtain ⟨X, hX⟩ : ∃ X, X = ((w.alloc (.cells #[.int .i64 1, .int .u64 (wd q 0 : Nat), .int .u64 (wd q 1 : Nat), .int .u64 (wd q 2 : Nat), .int .u64 (wd q 3 : Nat), .int .i64 0, .int .i64 0, .int .i64 0, .slice a 0 c] 27)).alloc (.cells (boolsA cl) 38)).alloc (.cells #[.bool false, .bool false, .bool false, .bool false, .bool false, .bool false, .bool false, .bool false, .bool false, .bool false] 38) := ⟨_, rfl⟩
  have xb1 : X.heap[w.heap.size]? = some (.cells #[.int .i64 1, .int .u64 (wd q 0 : Nat), .int .u64 (wd q 1 : Nat), .int .u64 (wd q 2 : Nat), .int .u64 (wd q 3 : Nat), .int .i64 0, .int .i64 0, .int .i64 0, .slice a 0 c] 27 (0, 0)) := by
    rw [hX, Below.heap_alloc _ _ _ (by simp only [World.size_alloc]; omega), Below.heap_alloc _ _ _ (by simp only [World.size_alloc]; omega)]
    exact heap_alloc_new w _
  have nw := fun (W : World) (ob : Obj) (H : Nat) (hH : W.heap.size = H) => (show (W.alloc ob).heap[H]? = some ob from hH ▸ heap_alloc_new W ob)
  have xb2 : X.heap[w.heap.size + 1]? = some (.cells (boolsA cl) 38 (0, 0)) := by
    rw [hX, Below.heap_alloc _ _ _ (by simp only [World.size_alloc]; omega)]
    exact nw _ _ _ (by simp only [World.size_alloc])
  have xb3 : X.heap[w.heap.size + 1 + 1]? = some (.cells #[.bool false, .bool false, .bool false, .bool false, .bool false, .bool false, .bool false, .bool false, .bool false, .bool false] 38 (0, 0)) := by
    rw [hX]
    exact nw _ _ _ (by simp only [World.size_alloc])
  have hBX : Below w.heap.size w X := by
    rw [hX]
    exact (((Below.refl _ _).alloc (Nat.le_refl _) _).alloc (by rw [World.size_alloc]; omega) _).alloc (by simp only [World.size_alloc]; omega) _
  rw [← hX]
  clear hX nw
  have z0 : X.cell? ⟨w.heap.size, 0, none⟩ = some (.int .i64 1) := by simp [World.cell?, xb1]
  have z1 : X.cell? ⟨w.heap.size, 1, none⟩ = some (.int .u64 (wd q 0 : Nat)) := by simp [World.cell?, xb1]
  have z2 : X.cell? ⟨w.heap.size, 2, none⟩ = some (.int .u64 (wd q 1 : Nat)) := by simp [World.cell?, xb1]
  have z3 : X.cell? ⟨w.heap.size, 3, none⟩ = some (.int .u64 (wd q 2 : Nat)) := by simp [World.cell?, xb1]
  have z4 : X.cell? ⟨w.heap.size, 4, none⟩ = some (.int .u64 (wd q 3 : Nat)) := by simp [World.cell?, xb1]
  have z5 : X.cell? ⟨w.heap.size, 5, none⟩ = some (.int .i64 0) := by simp [World.cell?, xb1]
  have z6 : X.cell? ⟨w.heap.size, 6, none⟩ = some (.int .i64 0) := by simp [World.cell?, xb1]
  have z7 : X.cell? ⟨w.heap.size, 7, none⟩ = some (.int .i64 0) := by simp [World.cell?, xb1]
  have z8 : X.cell? ⟨w.heap.size, 8, none⟩ = some (.slice a 0 c) := by simp [World.cell?, xb1]
  have HX := hideT (And.intro xb1 (And.intro xb2 (And.intro xb3 hBX)))
  clear xb1 xb2 xb3 hBX
  go_wp2_with fail
  go_loopw [1, 9, 10] (fun gv okv iv wr => gv = .int .i64 (g0 : Nat) ∧ okv = .bool true ∧ iv = .int .i64 0 ∧ wr.heap[w.heap.size]? = some (.cells #[.int .i64 1, .int .u64 (wd q 0 : Nat), .int .u64 (wd q 1 : Nat), .int .u64 (wd q 2 : Nat), .int .u64 (wd q 3 : Nat), .int .i64 0, .int .i64 0, .int .i64 0, .slice a 0 c] 27 (0, 0)) ∧ wr.heap[w.heap.size + 1]? = some (.cells (boolsA cl) 38 (0, 0)) ∧ wr.heap[w.heap.size + 1 + 1]? = some (.cells #[.bool false, .bool false, .bool false, .bool false, .bool false, .bool false, .bool false, .bool false, .bool false, .bool false] 38 (0, 0)) ∧ Below w.heap.size w wr) (fun _ _ _ _ => 0)
  case atStart => exact ⟨rfl, rfl, rfl, HX.out.1, HX.out.2.1, HX.out.2.2.1, HX.out.2.2.2⟩
  case round =>
    clear HX z0 z1 z2 z3 z4 z5 z6 z7 z8
    obtain ⟨rfl, rfl, rfl, gb1, gb2, gb3, gB⟩ := hrel
    have z0 : wr.cell? ⟨w.heap.size, 0, none⟩ = some (.int .i64 1) := by simp [World.cell?, gb1]
    have z7 : wr.cell? ⟨w.heap.size, 7, none⟩ = some (.int .i64 0) := by simp [World.cell?, gb1]
    have z8 : wr.cell? ⟨w.heap.size, 8, none⟩ = some (.slice a 0 c) := by simp [World.cell?, gb1]
    have e0 : wr.cell? ⟨w.heap.size + 1, 0, none⟩ = some (.bool (cl 0)) := by simp [World.cell?, gb2]
    have f0 : wr.frozen? ⟨w.heap.size + 1, 0, none⟩ = false := by simp [World.frozen?, gb2]
    have e1 : wr.cell? ⟨w.heap.size + 1, 1, none⟩ = some (.bool (cl 1)) := by simp [World.cell?, gb2]
    have f1 : wr.frozen? ⟨w.heap.size + 1, 1, none⟩ = false := by simp [World.frozen?, gb2]
    have e2 : wr.cell? ⟨w.heap.size + 1, 2, none⟩ = some (.bool (cl 2)) := by simp [World.cell?, gb2]
    have f2 : wr.frozen? ⟨w.heap.size + 1, 2, none⟩ = false := by simp [World.frozen?, gb2]
    have e3 : wr.cell? ⟨w.heap.size + 1, 3, none⟩ = some (.bool (cl 3)) := by simp [World.cell?, gb2]
    have f3 : wr.frozen? ⟨w.heap.size + 1, 3, none⟩ = false := by simp [World.frozen?, gb2]
    have e4 : wr.cell? ⟨w.heap.size + 1, 4, none⟩ = some (.bool (cl 4)) := by simp [World.cell?, gb2]
    have f4 : wr.frozen? ⟨w.heap.size + 1, 4, none⟩ = false := by simp [World.frozen?, gb2]
    have e5 : wr.cell? ⟨w.heap.size + 1, 5, none⟩ = some (.bool (cl 5)) := by simp [World.cell?, gb2]
    have f5 : wr.frozen? ⟨w.heap.size + 1, 5, none⟩ = false := by simp [World.frozen?, gb2]
    have e6 : wr.cell? ⟨w.heap.size + 1, 6, none⟩ = some (.bool (cl 6)) := by simp [World.cell?, gb2]
    have f6 : wr.frozen? ⟨w.heap.size + 1, 6, none⟩ = false := by simp [World.frozen?, gb2]
    have e7 : wr.cell? ⟨w.heap.size + 1, 7, none⟩ = some (.bool (cl 7)) := by simp [World.cell?, gb2]
    have f7 : wr.frozen? ⟨w.heap.size + 1, 7, none⟩ = false := by simp [World.frozen?, gb2]
    have e8 : wr.cell? ⟨w.heap.size + 1, 8, none⟩ = some (.bool (cl 8)) := by simp [World.cell?, gb2]
    have f8 : wr.frozen? ⟨w.heap.size + 1, 8, none⟩ = false := by simp [World.frozen?, gb2]
    have e9 : wr.cell? ⟨w.heap.size + 1, 9, none⟩ = some (.bool (cl 9)) := by simp [World.cell?, gb2]
    have f9 : wr.frozen? ⟨w.heap.size + 1, 9, none⟩ = false := by simp [World.frozen?, gb2]
    have h0 : wr.cell? ⟨w.heap.size + 1 + 1, 0, none⟩ = some (.bool false) := by simp [World.cell?, gb3]
    have i0 : wr.frozen? ⟨w.heap.size + 1 + 1, 0, none⟩ = false := by simp [World.frozen?, gb3]
    have h1 : wr.cell? ⟨w.heap.size + 1 + 1, 1, none⟩ = some (.bool false) := by simp [World.cell?, gb3]
    have i1 : wr.frozen? ⟨w.heap.size + 1 + 1, 1, none⟩ = false := by simp [World.frozen?, gb3]
    have h2 : wr.cell? ⟨w.heap.size + 1 + 1, 2, none⟩ = some (.bool false) := by simp [World.cell?, gb3]
    have i2 : wr.frozen? ⟨w.heap.size + 1 + 1, 2, none⟩ = false := by simp [World.frozen?, gb3]
    have h3 : wr.cell? ⟨w.heap.size + 1 + 1, 3, none⟩ = some (.bool false) := by simp [World.cell?, gb3]
    have i3 : wr.frozen? ⟨w.heap.size + 1 + 1, 3, none⟩ = false := by simp [World.frozen?, gb3]
    have h4 : wr.cell? ⟨w.heap.size + 1 + 1, 4, none⟩ = some (.bool false) := by simp [World.cell?, gb3]
    have i4 : wr.frozen? ⟨w.heap.size + 1 + 1, 4, none⟩ = false := by simp [World.frozen?, gb3]
    have h5 : wr.cell? ⟨w.heap.size + 1 + 1, 5, none⟩ = some (.bool false) := by simp [World.cell?, gb3]
    have i5 : wr.frozen? ⟨w.heap.size + 1 + 1, 5, none⟩ = false := by simp [World.frozen?, gb3]
    have h6 : wr.cell? ⟨w.heap.size + 1 + 1, 6, none⟩ = some (.bool false) := by simp [World.cell?, gb3]
    have i6 : wr.frozen? ⟨w.heap.size + 1 + 1, 6, none⟩ = false := by simp [World.frozen?, gb3]
    have h7 : wr.cell? ⟨w.heap.size + 1 + 1, 7, none⟩ = some (.bool false) := by simp [World.cell?, gb3]
    have i7 : wr.frozen? ⟨w.heap.size + 1 + 1, 7, none⟩ = false := by simp [World.frozen?, gb3]
    have h8 : wr.cell? ⟨w.heap.size + 1 + 1, 8, none⟩ = some (.bool false) := by simp [World.cell?, gb3]
    have i8 : wr.frozen? ⟨w.heap.size + 1 + 1, 8, none⟩ = false := by simp [World.frozen?, gb3]
    have h9 : wr.cell? ⟨w.heap.size + 1 + 1, 9, none⟩ = some (.bool false) := by simp [World.cell?, gb3]
    have i9 : wr.frozen? ⟨w.heap.size + 1 + 1, 9, none⟩ = false := by simp [World.frozen?, gb3]
    have HB := hideT (And.intro gb3 gB)
    clear gb1 gb2 gb3 gB
    go_wp2_with fail
    go_region
    obtain ⟨Y, hY⟩ : ∃ Y, Y = ((((((((((wr.setCell ⟨w.heap.size + 1 + 1, 0, none⟩ (.bool (cl 0))).setCell ⟨w.heap.size + 1 + 1, 1, none⟩ (.bool (cl 1))).setCell ⟨w.heap.size + 1 + 1, 2, none⟩ (.bool (cl 2))).setCell ⟨w.heap.size + 1 + 1, 3, none⟩ (.bool (cl 3))).setCell ⟨w.heap.size + 1 + 1, 4, none⟩ (.bool (cl 4))).setCell ⟨w.heap.size + 1 + 1, 5, none⟩ (.bool (cl 5))).setCell ⟨w.heap.size + 1 + 1, 6, none⟩ (.bool (cl 6))).setCell ⟨w.heap.size + 1 + 1, 7, none⟩ (.bool (cl 7))).setCell ⟨w.heap.size + 1 + 1, 8, none⟩ (.bool (cl 8))).setCell ⟨w.heap.size + 1 + 1, 9, none⟩ (.bool (cl 9))).drew := ⟨_, rfl⟩
    have yb : Y.heap[w.heap.size + 1 + 1]? = some (.cells (boolsA cl) 38 (0, 0)) := by rw [hY]; exact put10_drew (W := wr) cl (put10c HB.out.1)
    have yB : Below w.heap.size w Y := by rw [hY]; exact (put10_below (HB.out.2) (by omega) cl).drew
    rw [← hY]
    clear e0 f0 h0 i0 e1 f1 h1 i1 e2 f2 h2 i2 e3 f3 h3 i3 e4 f4 h4 i4 e5 f5 h5 i5 e6 f6 h6 i6 e7 f7 h7 i7 e8 f8 h8 i8 e9 f9 h9 i9
    clear hY
    have v0 : Y.cell? ⟨w.heap.size + 1 + 1, 0, none⟩ = some (.bool (cl 0)) := by simp [World.cell?, yb]
    have v1 : Y.cell? ⟨w.heap.size + 1 + 1, 1, none⟩ = some (.bool (cl 1)) := by simp [World.cell?, yb]
    have v2 : Y.cell? ⟨w.heap.size + 1 + 1, 2, none⟩ = some (.bool (cl 2)) := by simp [World.cell?, yb]
    have v3 : Y.cell? ⟨w.heap.size + 1 + 1, 3, none⟩ = some (.bool (cl 3)) := by simp [World.cell?, yb]
    have v4 : Y.cell? ⟨w.heap.size + 1 + 1, 4, none⟩ = some (.bool (cl 4)) := by simp [World.cell?, yb]
    have v5 : Y.cell? ⟨w.heap.size + 1 + 1, 5, none⟩ = some (.bool (cl 5)) := by simp [World.cell?, yb]
    have v6 : Y.cell? ⟨w.heap.size + 1 + 1, 6, none⟩ = some (.bool (cl 6)) := by simp [World.cell?, yb]
    have v7 : Y.cell? ⟨w.heap.size + 1 + 1, 7, none⟩ = some (.bool (cl 7)) := by simp [World.cell?, yb]
    have v8 : Y.cell? ⟨w.heap.size + 1 + 1, 8, none⟩ = some (.bool (cl 8)) := by simp [World.cell?, yb]
    have v9 : Y.cell? ⟨w.heap.size + 1 + 1, 9, none⟩ = some (.bool (cl 9)) := by simp [World.cell?, yb]
    clear yb
    go_wp2
    refine bodyPost_ret (by simp [results, Try.results13, go_sem, v0, v1, v2, v3, v4, v5, v6, v7, v8, v9]; try rfl) rfl ?_
    exact ⟨rfl, yB⟩
set_option maxRecDepth 100000 in
set_option maxHeartbeats 4000000 in
theorem shaped_bol (s : Sh) (w : World) (a : Option Addr) (c : Nat) :
    Calls Try.prog 13 #[.agg #[.int .i64 2, .int .u64 0, .int .u64 0, .int .u64 0, .int .u64 0, .int .i64 0, .int .i64 0, .int .i64 0, .slice a 0 c], .int .i64 (s.1 : Nat), .agg (boolsA s.2)] w fun e w' => e = shA s ∧ Below w.heap.size w w' := by
  have heq := eql_zero
  obtain ⟨g0, cl⟩ := s
  go_enter Try.func13, Try.ntmps13
  go_upto_region 1 with fail
  obtain ⟨X, hX⟩ : ∃ X, X = ((w.alloc (.cells #[.int .i64 2, .int .u64 0, .int .u64 0, .int .u64 0, .int .u64 0, .int .i64 0, .int .i64 0, .int .i64 0, .slice a 0 c] 27)).alloc (.cells (boolsA cl) 38)).alloc (.cells #[.bool false, .bool false, .bool false, .bool false, .bool false, .bool false, .bool false, .bool false, .bool false, .bool false] 38) := ⟨_, rfl⟩
  have xb1 : X.heap[w.heap.size]? = some (.cells #[.int .i64 2, .int .u64 0, .int .u64 0, .int .u64 0, .int .u64 0, .int .i64 0, .int .i64 0, .int .i64 0, .slice a 0 c] 27 (0, 0)) := by
    rw [hX, Below.heap_alloc _ _ _ (by simp only [World.size_alloc]; omega), Below.heap_alloc _ _ _ (by simp only [World.size_alloc]; omega)]
    exact heap_alloc_new w _
  have nw := fun (W : World) (ob : Obj) (H : Nat) (hH : W.heap.size = H) => (show (W.alloc ob).heap[H]? = some ob from hH ▸ heap_alloc_new W ob)
  have xb2 : X.heap[w.heap.size + 1]? = some (.cells (boolsA cl) 38 (0, 0)) := by
    rw [hX, Below.heap_alloc _ _ _ (by simp only [World.size_alloc]; omega)]
    exact nw _ _ _ (by simp only [World.size_alloc])
  have xb3 : X.heap[w.heap.size + 1 + 1]? = some (.cells #[.bool false, .bool false, .bool false, .bool false, .bool false, .bool false, .bool false, .bool false, .bool false, .bool false] 38 (0, 0)) := by
    rw [hX]
    exact nw _ _ _ (by simp only [World.size_alloc])
  have hBX : Below w.heap.size w X := by
    rw [hX]
    exact (((Below.refl _ _).alloc (Nat.le_refl _) _).alloc (by rw [World.size_alloc]; omega) _).alloc (by simp only [World.size_alloc]; omega) _
  rw [← hX]
  clear hX nw
  have z0 : X.cell? ⟨w.heap.size, 0, none⟩ = some (.int .i64 2) := by simp [World.cell?, xb1]
  have z1 : X.cell? ⟨w.heap.size, 1, none⟩ = some (.int .u64 0) := by simp [World.cell?, xb1]
  have z2 : X.cell? ⟨w.heap.size, 2, none⟩ = some (.int .u64 0) := by simp [World.cell?, xb1]
  have z3 : X.cell? ⟨w.heap.size, 3, none⟩ = some (.int .u64 0) := by simp [World.cell?, xb1]
  have z4 : X.cell? ⟨w.heap.size, 4, none⟩ = some (.int .u64 0) := by simp [World.cell?, xb1]
  have z5 : X.cell? ⟨w.heap.size, 5, none⟩ = some (.int .i64 0) := by simp [World.cell?, xb1]
  have z6 : X.cell? ⟨w.heap.size, 6, none⟩ = some (.int .i64 0) := by simp [World.cell?, xb1]
  have z7 : X.cell? ⟨w.heap.size, 7, none⟩ = some (.int .i64 0) := by simp [World.cell?, xb1]
  have z8 : X.cell? ⟨w.heap.size, 8, none⟩ = some (.slice a 0 c) := by simp [World.cell?, xb1]
  have HX := hideT (And.intro xb1 (And.intro xb2 (And.intro xb3 hBX)))
  clear xb1 xb2 xb3 hBX
  go_wp2_with fail
  go_loopw [1, 9, 10] (fun gv okv iv wr => gv = .int .i64 (g0 : Nat) ∧ okv = .bool true ∧ iv = .int .i64 0 ∧ wr.heap[w.heap.size]? = some (.cells #[.int .i64 2, .int .u64 0, .int .u64 0, .int .u64 0, .int .u64 0, .int .i64 0, .int .i64 0, .int .i64 0, .slice a 0 c] 27 (0, 0)) ∧ wr.heap[w.heap.size + 1]? = some (.cells (boolsA cl) 38 (0, 0)) ∧ wr.heap[w.heap.size + 1 + 1]? = some (.cells #[.bool false, .bool false, .bool false, .bool false, .bool false, .bool false, .bool false, .bool false, .bool false, .bool false] 38 (0, 0)) ∧ Below w.heap.size w wr) (fun _ _ _ _ => 0)
  case atStart => exact ⟨rfl, rfl, rfl, HX.out.1, HX.out.2.1, HX.out.2.2.1, HX.out.2.2.2⟩
  case round =>
    clear HX z0 z1 z2 z3 z4 z5 z6 z7 z8
    obtain ⟨rfl, rfl, rfl, gb1, gb2, gb3, gB⟩ := hrel
    have z0 : wr.cell? ⟨w.heap.size, 0, none⟩ = some (.int .i64 2) := by simp [World.cell?, gb1]
    have z7 : wr.cell? ⟨w.heap.size, 7, none⟩ = some (.int .i64 0) := by simp [World.cell?, gb1]
    have z8 : wr.cell? ⟨w.heap.size, 8, none⟩ = some (.slice a 0 c) := by simp [World.cell?, gb1]
    have e0 : wr.cell? ⟨w.heap.size + 1, 0, none⟩ = some (.bool (cl 0)) := by simp [World.cell?, gb2]
    have f0 : wr.frozen? ⟨w.heap.size + 1, 0, none⟩ = false := by simp [World.frozen?, gb2]
    have e1 : wr.cell? ⟨w.heap.size + 1, 1, none⟩ = some (.bool (cl 1)) := by simp [World.cell?, gb2]
    have f1 : wr.frozen? ⟨w.heap.size + 1, 1, none⟩ = false := by simp [World.frozen?, gb2]
    have e2 : wr.cell? ⟨w.heap.size + 1, 2, none⟩ = some (.bool (cl 2)) := by simp [World.cell?, gb2]
    have f2 : wr.frozen? ⟨w.heap.size + 1, 2, none⟩ = false := by simp [World.frozen?, gb2]
    have e3 : wr.cell? ⟨w.heap.size + 1, 3, none⟩ = some (.bool (cl 3)) := by simp [World.cell?, gb2]
    have f3 : wr.frozen? ⟨w.heap.size + 1, 3, none⟩ = false := by simp [World.frozen?, gb2]
    have e4 : wr.cell? ⟨w.heap.size + 1, 4, none⟩ = some (.bool (cl 4)) := by simp [World.cell?, gb2]
    have f4 : wr.frozen? ⟨w.heap.size + 1, 4, none⟩ = false := by simp [World.frozen?, gb2]
    have e5 : wr.cell? ⟨w.heap.size + 1, 5, none⟩ = some (.bool (cl 5)) := by simp [World.cell?, gb2]
    have f5 : wr.frozen? ⟨w.heap.size + 1, 5, none⟩ = false := by simp [World.frozen?, gb2]
    have e6 : wr.cell? ⟨w.heap.size + 1, 6, none⟩ = some (.bool (cl 6)) := by simp [World.cell?, gb2]
    have f6 : wr.frozen? ⟨w.heap.size + 1, 6, none⟩ = false := by simp [World.frozen?, gb2]
    have e7 : wr.cell? ⟨w.heap.size + 1, 7, none⟩ = some (.bool (cl 7)) := by simp [World.cell?, gb2]
    have f7 : wr.frozen? ⟨w.heap.size + 1, 7, none⟩ = false := by simp [World.frozen?, gb2]
    have e8 : wr.cell? ⟨w.heap.size + 1, 8, none⟩ = some (.bool (cl 8)) := by simp [World.cell?, gb2]
    have f8 : wr.frozen? ⟨w.heap.size + 1, 8, none⟩ = false := by simp [World.frozen?, gb2]
    have e9 : wr.cell? ⟨w.heap.size + 1, 9, none⟩ = some (.bool (cl 9)) := by simp [World.cell?, gb2]
    have f9 : wr.frozen? ⟨w.heap.size + 1, 9, none⟩ = false := by simp [World.frozen?, gb2]
    have h0 : wr.cell? ⟨w.heap.size + 1 + 1, 0, none⟩ = some (.bool false) := by simp [World.cell?, gb3]
    have i0 : wr.frozen? ⟨w.heap.size + 1 + 1, 0, none⟩ = false := by simp [World.frozen?, gb3]
    have h1 : wr.cell? ⟨w.heap.size + 1 + 1, 1, none⟩ = some (.bool false) := by simp [World.cell?, gb3]
    have i1 : wr.frozen? ⟨w.heap.size + 1 + 1, 1, none⟩ = false := by simp [World.frozen?, gb3]
    have h2 : wr.cell? ⟨w.heap.size + 1 + 1, 2, none⟩ = some (.bool false) := by simp [World.cell?, gb3]
    have i2 : wr.frozen? ⟨w.heap.size + 1 + 1, 2, none⟩ = false := by simp [World.frozen?, gb3]
    have h3 : wr.cell? ⟨w.heap.size + 1 + 1, 3, none⟩ = some (.bool false) := by simp [World.cell?, gb3]
    have i3 : wr.frozen? ⟨w.heap.size + 1 + 1, 3, none⟩ = false := by simp [World.frozen?, gb3]
    have h4 : wr.cell? ⟨w.heap.size + 1 + 1, 4, none⟩ = some (.bool false) := by simp [World.cell?, gb3]
    have i4 : wr.frozen? ⟨w.heap.size + 1 + 1, 4, none⟩ = false := by simp [World.frozen?, gb3]
    have h5 : wr.cell? ⟨w.heap.size + 1 + 1, 5, none⟩ = some (.bool false) := by simp [World.cell?, gb3]
    have i5 : wr.frozen? ⟨w.heap.size + 1 + 1, 5, none⟩ = false := by simp [World.frozen?, gb3]
    have h6 : wr.cell? ⟨w.heap.size + 1 + 1, 6, none⟩ = some (.bool false) := by simp [World.cell?, gb3]
    have i6 : wr.frozen? ⟨w.heap.size + 1 + 1, 6, none⟩ = false := by simp [World.frozen?, gb3]
    have h7 : wr.cell? ⟨w.heap.size + 1 + 1, 7, none⟩ = some (.bool false) := by simp [World.cell?, gb3]
    have i7 : wr.frozen? ⟨w.heap.size + 1 + 1, 7, none⟩ = false := by simp [World.frozen?, gb3]
    have h8 : wr.cell? ⟨w.heap.size + 1 + 1, 8, none⟩ = some (.bool false) := by simp [World.cell?, gb3]
    have i8 : wr.frozen? ⟨w.heap.size + 1 + 1, 8, none⟩ = false := by simp [World.frozen?, gb3]
    have h9 : wr.cell? ⟨w.heap.size + 1 + 1, 9, none⟩ = some (.bool false) := by simp [World.cell?, gb3]
    have i9 : wr.frozen? ⟨w.heap.size + 1 + 1, 9, none⟩ = false := by simp [World.frozen?, gb3]
    have HB := hideT (And.intro gb3 gB)
    clear gb1 gb2 gb3 gB
    go_wp2_with fail
    go_region
    obtain ⟨Y, hY⟩ : ∃ Y, Y = ((((((((((wr.setCell ⟨w.heap.size + 1 + 1, 0, none⟩ (.bool (cl 0))).setCell ⟨w.heap.size + 1 + 1, 1, none⟩ (.bool (cl 1))).setCell ⟨w.heap.size + 1 + 1, 2, none⟩ (.bool (cl 2))).setCell ⟨w.heap.size + 1 + 1, 3, none⟩ (.bool (cl 3))).setCell ⟨w.heap.size + 1 + 1, 4, none⟩ (.bool (cl 4))).setCell ⟨w.heap.size + 1 + 1, 5, none⟩ (.bool (cl 5))).setCell ⟨w.heap.size + 1 + 1, 6, none⟩ (.bool (cl 6))).setCell ⟨w.heap.size + 1 + 1, 7, none⟩ (.bool (cl 7))).setCell ⟨w.heap.size + 1 + 1, 8, none⟩ (.bool (cl 8))).setCell ⟨w.heap.size + 1 + 1, 9, none⟩ (.bool (cl 9))).drew := ⟨_, rfl⟩
    have yb : Y.heap[w.heap.size + 1 + 1]? = some (.cells (boolsA cl) 38 (0, 0)) := by rw [hY]; exact put10_drew (W := wr) cl (put10c HB.out.1)
    have yB : Below w.heap.size w Y := by rw [hY]; exact (put10_below (HB.out.2) (by omega) cl).drew
    rw [← hY]
    clear e0 f0 h0 i0 e1 f1 h1 i1 e2 f2 h2 i2 e3 f3 h3 i3 e4 f4 h4 i4 e5 f5 h5 i5 e6 f6 h6 i6 e7 f7 h7 i7 e8 f8 h8 i8 e9 f9 h9 i9
    clear hY
    have v0 : Y.cell? ⟨w.heap.size + 1 + 1, 0, none⟩ = some (.bool (cl 0)) := by simp [World.cell?, yb]
    have v1 : Y.cell? ⟨w.heap.size + 1 + 1, 1, none⟩ = some (.bool (cl 1)) := by simp [World.cell?, yb]
    have v2 : Y.cell? ⟨w.heap.size + 1 + 1, 2, none⟩ = some (.bool (cl 2)) := by simp [World.cell?, yb]
    have v3 : Y.cell? ⟨w.heap.size + 1 + 1, 3, none⟩ = some (.bool (cl 3)) := by simp [World.cell?, yb]
    have v4 : Y.cell? ⟨w.heap.size + 1 + 1, 4, none⟩ = some (.bool (cl 4)) := by simp [World.cell?, yb]
    have v5 : Y.cell? ⟨w.heap.size + 1 + 1, 5, none⟩ = some (.bool (cl 5)) := by simp [World.cell?, yb]
    have v6 : Y.cell? ⟨w.heap.size + 1 + 1, 6, none⟩ = some (.bool (cl 6)) := by simp [World.cell?, yb]
    have v7 : Y.cell? ⟨w.heap.size + 1 + 1, 7, none⟩ = some (.bool (cl 7)) := by simp [World.cell?, yb]
    have v8 : Y.cell? ⟨w.heap.size + 1 + 1, 8, none⟩ = some (.bool (cl 8)) := by simp [World.cell?, yb]
    have v9 : Y.cell? ⟨w.heap.size + 1 + 1, 9, none⟩ = some (.bool (cl 9)) := by simp [World.cell?, yb]
    clear yb
    go_wp2
    refine bodyPost_ret (by simp [results, Try.results13, go_sem, v0, v1, v2, v3, v4, v5, v6, v7, v8, v9]; try rfl) rfl ?_
    exact ⟨rfl, yB⟩
set_option maxRecDepth 100000 in
set_option maxHeartbeats 4000000 in
theorem shaped_eol (s : Sh) (w : World) (a : Option Addr) (c : Nat) :
    Calls Try.prog 13 #[.agg #[.int .i64 3, .int .u64 0, .int .u64 0, .int .u64 0, .int .u64 0, .int .i64 0, .int .i64 0, .int .i64 0, .slice a 0 c], .int .i64 (s.1 : Nat), .agg (boolsA s.2)] w fun e w' => e = shA s ∧ Below w.heap.size w w' := by
  have heq := eql_zero
  obtain ⟨g0, cl⟩ := s
  go_enter Try.func13, Try.ntmps13
  go_upto_region 1 with fail
  obtain ⟨X, hX⟩ : ∃ X, X = ((w.alloc (.cells #[.int .i64 3, .int .u64 0, .int .u64 0, .int .u64 0, .int .u64 0, .int .i64 0, .int .i64 0, .int .i64 0, .slice a 0 c] 27)).alloc (.cells (boolsA cl) 38)).alloc (.cells #[.bool false, .bool false, .bool false, .bool false, .bool false, .bool false, .bool false, .bool false, .bool false, .bool false] 38) := ⟨_, rfl⟩
  have xb1 : X.heap[w.heap.size]? = some (.cells #[.int .i64 3, .int .u64 0, .int .u64 0, .int .u64 0, .int .u64 0, .int .i64 0, .int .i64 0, .int .i64 0, .slice a 0 c] 27 (0, 0)) := by
    rw [hX, Below.heap_alloc _ _ _ (by simp only [World.size_alloc]; omega), Below.heap_alloc _ _ _ (by simp only [World.size_alloc]; omega)]
    exact heap_alloc_new w _
  have nw := fun (W : World) (ob : Obj) (H : Nat) (hH : W.heap.size = H) => (show (W.alloc ob).heap[H]? = some ob from hH ▸ heap_alloc_new W ob)
  have xb2 : X.heap[w.heap.size + 1]? = some (.cells (boolsA cl) 38 (0, 0)) := by
    rw [hX, Below.heap_alloc _ _ _ (by simp only [World.size_alloc]; omega)]
    exact nw _ _ _ (by simp only [World.size_alloc])
  have xb3 : X.heap[w.heap.size + 1 + 1]? = some (.cells #[.bool false, .bool false, .bool false, .bool false, .bool false, .bool false, .bool false, .bool false, .bool false, .bool false] 38 (0, 0)) := by
    rw [hX]
    exact nw _ _ _ (by simp only [World.size_alloc])
  have hBX : Below w.heap.size w X := by
    rw [hX]
    exact (((Below.refl _ _).alloc (Nat.le_refl _) _).alloc (by rw [World.size_alloc]; omega) _).alloc (by simp only [World.size_alloc]; omega) _
  rw [← hX]
  clear hX nw
  have z0 : X.cell? ⟨w.heap.size, 0, none⟩ = some (.int .i64 3) := by simp [World.cell?, xb1]
  have z1 : X.cell? ⟨w.heap.size, 1, none⟩ = some (.int .u64 0) := by simp [World.cell?, xb1]
  have z2 : X.cell? ⟨w.heap.size, 2, none⟩ = some (.int .u64 0) := by simp [World.cell?, xb1]
  have z3 : X.cell? ⟨w.heap.size, 3, none⟩ = some (.int .u64 0) := by simp [World.cell?, xb1]
  have z4 : X.cell? ⟨w.heap.size, 4, none⟩ = some (.int .u64 0) := by simp [World.cell?, xb1]
  have z5 : X.cell? ⟨w.heap.size, 5, none⟩ = some (.int .i64 0) := by simp [World.cell?, xb1]
  have z6 : X.cell? ⟨w.heap.size, 6, none⟩ = some (.int .i64 0) := by simp [World.cell?, xb1]
  have z7 : X.cell? ⟨w.heap.size, 7, none⟩ = some (.int .i64 0) := by simp [World.cell?, xb1]
  have z8 : X.cell? ⟨w.heap.size, 8, none⟩ = some (.slice a 0 c) := by simp [World.cell?, xb1]
  have HX := hideT (And.intro xb1 (And.intro xb2 (And.intro xb3 hBX)))
  clear xb1 xb2 xb3 hBX
  go_wp2_with fail
  go_loopw [1, 9, 10] (fun gv okv iv wr => gv = .int .i64 (g0 : Nat) ∧ okv = .bool true ∧ iv = .int .i64 0 ∧ wr.heap[w.heap.size]? = some (.cells #[.int .i64 3, .int .u64 0, .int .u64 0, .int .u64 0, .int .u64 0, .int .i64 0, .int .i64 0, .int .i64 0, .slice a 0 c] 27 (0, 0)) ∧ wr.heap[w.heap.size + 1]? = some (.cells (boolsA cl) 38 (0, 0)) ∧ wr.heap[w.heap.size + 1 + 1]? = some (.cells #[.bool false, .bool false, .bool false, .bool false, .bool false, .bool false, .bool false, .bool false, .bool false, .bool false] 38 (0, 0)) ∧ Below w.heap.size w wr) (fun _ _ _ _ => 0)
  case atStart => exact ⟨rfl, rfl, rfl, HX.out.1, HX.out.2.1, HX.out.2.2.1, HX.out.2.2.2⟩
  case round =>
    clear HX z0 z1 z2 z3 z4 z5 z6 z7 z8
    obtain ⟨rfl, rfl, rfl, gb1, gb2, gb3, gB⟩ := hrel
    have z0 : wr.cell? ⟨w.heap.size, 0, none⟩ = some (.int .i64 3) := by simp [World.cell?, gb1]
    have z7 : wr.cell? ⟨w.heap.size, 7, none⟩ = some (.int .i64 0) := by simp [World.cell?, gb1]
    have z8 : wr.cell? ⟨w.heap.size, 8, none⟩ = some (.slice a 0 c) := by simp [World.cell?, gb1]
    have e0 : wr.cell? ⟨w.heap.size + 1, 0, none⟩ = some (.bool (cl 0)) := by simp [World.cell?, gb2]
    have f0 : wr.frozen? ⟨w.heap.size + 1, 0, none⟩ = false := by simp [World.frozen?, gb2]
    have e1 : wr.cell? ⟨w.heap.size + 1, 1, none⟩ = some (.bool (cl 1)) := by simp [World.cell?, gb2]
    have f1 : wr.frozen? ⟨w.heap.size + 1, 1, none⟩ = false := by simp [World.frozen?, gb2]
    have e2 : wr.cell? ⟨w.heap.size + 1, 2, none⟩ = some (.bool (cl 2)) := by simp [World.cell?, gb2]
    have f2 : wr.frozen? ⟨w.heap.size + 1, 2, none⟩ = false := by simp [World.frozen?, gb2]
    have e3 : wr.cell? ⟨w.heap.size + 1, 3, none⟩ = some (.bool (cl 3)) := by simp [World.cell?, gb2]
    have f3 : wr.frozen? ⟨w.heap.size + 1, 3, none⟩ = false := by simp [World.frozen?, gb2]
    have e4 : wr.cell? ⟨w.heap.size + 1, 4, none⟩ = some (.bool (cl 4)) := by simp [World.cell?, gb2]
    have f4 : wr.frozen? ⟨w.heap.size + 1, 4, none⟩ = false := by simp [World.frozen?, gb2]
    have e5 : wr.cell? ⟨w.heap.size + 1, 5, none⟩ = some (.bool (cl 5)) := by simp [World.cell?, gb2]
    have f5 : wr.frozen? ⟨w.heap.size + 1, 5, none⟩ = false := by simp [World.frozen?, gb2]
    have e6 : wr.cell? ⟨w.heap.size + 1, 6, none⟩ = some (.bool (cl 6)) := by simp [World.cell?, gb2]
    have f6 : wr.frozen? ⟨w.heap.size + 1, 6, none⟩ = false := by simp [World.frozen?, gb2]
    have e7 : wr.cell? ⟨w.heap.size + 1, 7, none⟩ = some (.bool (cl 7)) := by simp [World.cell?, gb2]
    have f7 : wr.frozen? ⟨w.heap.size + 1, 7, none⟩ = false := by simp [World.frozen?, gb2]
    have e8 : wr.cell? ⟨w.heap.size + 1, 8, none⟩ = some (.bool (cl 8)) := by simp [World.cell?, gb2]
    have f8 : wr.frozen? ⟨w.heap.size + 1, 8, none⟩ = false := by simp [World.frozen?, gb2]
    have e9 : wr.cell? ⟨w.heap.size + 1, 9, none⟩ = some (.bool (cl 9)) := by simp [World.cell?, gb2]
    have f9 : wr.frozen? ⟨w.heap.size + 1, 9, none⟩ = false := by simp [World.frozen?, gb2]
    have h0 : wr.cell? ⟨w.heap.size + 1 + 1, 0, none⟩ = some (.bool false) := by simp [World.cell?, gb3]
    have i0 : wr.frozen? ⟨w.heap.size + 1 + 1, 0, none⟩ = false := by simp [World.frozen?, gb3]
    have h1 : wr.cell? ⟨w.heap.size + 1 + 1, 1, none⟩ = some (.bool false) := by simp [World.cell?, gb3]
    have i1 : wr.frozen? ⟨w.heap.size + 1 + 1, 1, none⟩ = false := by simp [World.frozen?, gb3]
    have h2 : wr.cell? ⟨w.heap.size + 1 + 1, 2, none⟩ = some (.bool false) := by simp [World.cell?, gb3]
    have i2 : wr.frozen? ⟨w.heap.size + 1 + 1, 2, none⟩ = false := by simp [World.frozen?, gb3]
    have h3 : wr.cell? ⟨w.heap.size + 1 + 1, 3, none⟩ = some (.bool false) := by simp [World.cell?, gb3]
    have i3 : wr.frozen? ⟨w.heap.size + 1 + 1, 3, none⟩ = false := by simp [World.frozen?, gb3]
    have h4 : wr.cell? ⟨w.heap.size + 1 + 1, 4, none⟩ = some (.bool false) := by simp [World.cell?, gb3]
    have i4 : wr.frozen? ⟨w.heap.size + 1 + 1, 4, none⟩ = false := by simp [World.frozen?, gb3]
    have h5 : wr.cell? ⟨w.heap.size + 1 + 1, 5, none⟩ = some (.bool false) := by simp [World.cell?, gb3]
    have i5 : wr.frozen? ⟨w.heap.size + 1 + 1, 5, none⟩ = false := by simp [World.frozen?, gb3]
    have h6 : wr.cell? ⟨w.heap.size + 1 + 1, 6, none⟩ = some (.bool false) := by simp [World.cell?, gb3]
    have i6 : wr.frozen? ⟨w.heap.size + 1 + 1, 6, none⟩ = false := by simp [World.frozen?, gb3]
    have h7 : wr.cell? ⟨w.heap.size + 1 + 1, 7, none⟩ = some (.bool false) := by simp [World.cell?, gb3]
    have i7 : wr.frozen? ⟨w.heap.size + 1 + 1, 7, none⟩ = false := by simp [World.frozen?, gb3]
    have h8 : wr.cell? ⟨w.heap.size + 1 + 1, 8, none⟩ = some (.bool false) := by simp [World.cell?, gb3]
    have i8 : wr.frozen? ⟨w.heap.size + 1 + 1, 8, none⟩ = false := by simp [World.frozen?, gb3]
    have h9 : wr.cell? ⟨w.heap.size + 1 + 1, 9, none⟩ = some (.bool false) := by simp [World.cell?, gb3]
    have i9 : wr.frozen? ⟨w.heap.size + 1 + 1, 9, none⟩ = false := by simp [World.frozen?, gb3]
    have HB := hideT (And.intro gb3 gB)
    clear gb1 gb2 gb3 gB
    go_wp2_with fail
    go_region
    obtain ⟨Y, hY⟩ : ∃ Y, Y = ((((((((((wr.setCell ⟨w.heap.size + 1 + 1, 0, none⟩ (.bool (cl 0))).setCell ⟨w.heap.size + 1 + 1, 1, none⟩ (.bool (cl 1))).setCell ⟨w.heap.size + 1 + 1, 2, none⟩ (.bool (cl 2))).setCell ⟨w.heap.size + 1 + 1, 3, none⟩ (.bool (cl 3))).setCell ⟨w.heap.size + 1 + 1, 4, none⟩ (.bool (cl 4))).setCell ⟨w.heap.size + 1 + 1, 5, none⟩ (.bool (cl 5))).setCell ⟨w.heap.size + 1 + 1, 6, none⟩ (.bool (cl 6))).setCell ⟨w.heap.size + 1 + 1, 7, none⟩ (.bool (cl 7))).setCell ⟨w.heap.size + 1 + 1, 8, none⟩ (.bool (cl 8))).setCell ⟨w.heap.size + 1 + 1, 9, none⟩ (.bool (cl 9))).drew := ⟨_, rfl⟩
    have yb : Y.heap[w.heap.size + 1 + 1]? = some (.cells (boolsA cl) 38 (0, 0)) := by rw [hY]; exact put10_drew (W := wr) cl (put10c HB.out.1)
    have yB : Below w.heap.size w Y := by rw [hY]; exact (put10_below (HB.out.2) (by omega) cl).drew
    rw [← hY]
    clear e0 f0 h0 i0 e1 f1 h1 i1 e2 f2 h2 i2 e3 f3 h3 i3 e4 f4 h4 i4 e5 f5 h5 i5 e6 f6 h6 i6 e7 f7 h7 i7 e8 f8 h8 i8 e9 f9 h9 i9
    clear hY
    have v0 : Y.cell? ⟨w.heap.size + 1 + 1, 0, none⟩ = some (.bool (cl 0)) := by simp [World.cell?, yb]
    have v1 : Y.cell? ⟨w.heap.size + 1 + 1, 1, none⟩ = some (.bool (cl 1)) := by simp [World.cell?, yb]
    have v2 : Y.cell? ⟨w.heap.size + 1 + 1, 2, none⟩ = some (.bool (cl 2)) := by simp [World.cell?, yb]
    have v3 : Y.cell? ⟨w.heap.size + 1 + 1, 3, none⟩ = some (.bool (cl 3)) := by simp [World.cell?, yb]
    have v4 : Y.cell? ⟨w.heap.size + 1 + 1, 4, none⟩ = some (.bool (cl 4)) := by simp [World.cell?, yb]
    have v5 : Y.cell? ⟨w.heap.size + 1 + 1, 5, none⟩ = some (.bool (cl 5)) := by simp [World.cell?, yb]
    have v6 : Y.cell? ⟨w.heap.size + 1 + 1, 6, none⟩ = some (.bool (cl 6)) := by simp [World.cell?, yb]
    have v7 : Y.cell? ⟨w.heap.size + 1 + 1, 7, none⟩ = some (.bool (cl 7)) := by simp [World.cell?, yb]
    have v8 : Y.cell? ⟨w.heap.size + 1 + 1, 8, none⟩ = some (.bool (cl 8)) := by simp [World.cell?, yb]
    have v9 : Y.cell? ⟨w.heap.size + 1 + 1, 9, none⟩ = some (.bool (cl 9)) := by simp [World.cell?, yb]
    clear yb
    go_wp2
    refine bodyPost_ret (by simp [results, Try.results13, go_sem, v0, v1, v2, v3, v4, v5, v6, v7, v8, v9]; try rfl) rfl ?_
    exact ⟨rfl, yB⟩
end Go.Proofs.Ytooanbbnjiogaaa

/- bre: shaped: a part that is a group's text again. -/
namespace Go.Proofs.Ytooanbbnjiogaaa
open Go.RowKit

set_option maxRecDepth 100000 in
set_option maxHeartbeats 4000000 in
theorem shaped_back (gp : Nat) (g1 : 1 ≤ gp) (g9 : gp ≤ 9) (s : Sh) (hcl : s.2 gp = true) (w : World) (a : Option Addr) (c : Nat) :
    Calls Try.prog 13 #[.agg #[.int .i64 6, .int .u64 0, .int .u64 0, .int .u64 0, .int .u64 0, .int .i64 0, .int .i64 0, .int .i64 (gp : Nat), .slice a 0 c], .int .i64 (s.1 : Nat), .agg (boolsA s.2)] w fun e w' => e = shA s ∧ Below w.heap.size w w' := by
  have heq := eql_zero
  obtain ⟨g0, cl⟩ := s
  have b1 : (1 : Int) ≤ (gp : Int) := by omega
  have b9 : (gp : Int) ≤ 9 := by omega
  have b0 : (0 : Int) ≤ (gp : Int) := by omega
  have b10 : (gp : Int) < 10 := by omega
  have HG := hideT (And.intro g9 hcl)
  clear hcl
  go_enter Try.func13, Try.ntmps13
  go_upto_region 1 with fail
  obtain ⟨X, hX⟩ : ∃ X, X = ((w.alloc (.cells #[.int .i64 6, .int .u64 0, .int .u64 0, .int .u64 0, .int .u64 0, .int .i64 0, .int .i64 0, .int .i64 (gp : Nat), .slice a 0 c] 27)).alloc (.cells (boolsA cl) 38)).alloc (.cells #[.bool false, .bool false, .bool false, .bool false, .bool false, .bool false, .bool false, .bool false, .bool false, .bool false] 38) := ⟨_, rfl⟩
  have xb1 : X.heap[w.heap.size]? = some (.cells #[.int .i64 6, .int .u64 0, .int .u64 0, .int .u64 0, .int .u64 0, .int .i64 0, .int .i64 0, .int .i64 (gp : Nat), .slice a 0 c] 27 (0, 0)) := by
    rw [hX, Below.heap_alloc _ _ _ (by simp only [World.size_alloc]; omega), Below.heap_alloc _ _ _ (by simp only [World.size_alloc]; omega)]
    exact heap_alloc_new w _
  have nw := fun (W : World) (ob : Obj) (H : Nat) (hH : W.heap.size = H) => (show (W.alloc ob).heap[H]? = some ob from hH ▸ heap_alloc_new W ob)
  have xb2 : X.heap[w.heap.size + 1]? = some (.cells (boolsA cl) 38 (0, 0)) := by
    rw [hX, Below.heap_alloc _ _ _ (by simp only [World.size_alloc]; omega)]
    exact nw _ _ _ (by simp only [World.size_alloc])
  have xb3 : X.heap[w.heap.size + 1 + 1]? = some (.cells #[.bool false, .bool false, .bool false, .bool false, .bool false, .bool false, .bool false, .bool false, .bool false, .bool false] 38 (0, 0)) := by
    rw [hX]
    exact nw _ _ _ (by simp only [World.size_alloc])
  have hBX : Below w.heap.size w X := by
    rw [hX]
    exact (((Below.refl _ _).alloc (Nat.le_refl _) _).alloc (by rw [World.size_alloc]; omega) _).alloc (by simp only [World.size_alloc]; omega) _
  rw [← hX]
  clear hX nw
  have z0 : X.cell? ⟨w.heap.size, 0, none⟩ = some (.int .i64 6) := by simp [World.cell?, xb1]
  have z1 : X.cell? ⟨w.heap.size, 1, none⟩ = some (.int .u64 0) := by simp [World.cell?, xb1]
  have z2 : X.cell? ⟨w.heap.size, 2, none⟩ = some (.int .u64 0) := by simp [World.cell?, xb1]
  have z3 : X.cell? ⟨w.heap.size, 3, none⟩ = some (.int .u64 0) := by simp [World.cell?, xb1]
  have z4 : X.cell? ⟨w.heap.size, 4, none⟩ = some (.int .u64 0) := by simp [World.cell?, xb1]
  have z5 : X.cell? ⟨w.heap.size, 5, none⟩ = some (.int .i64 0) := by simp [World.cell?, xb1]
  have z6 : X.cell? ⟨w.heap.size, 6, none⟩ = some (.int .i64 0) := by simp [World.cell?, xb1]
  have z7 : X.cell? ⟨w.heap.size, 7, none⟩ = some (.int .i64 (gp : Nat)) := by simp [World.cell?, xb1]
  have z8 : X.cell? ⟨w.heap.size, 8, none⟩ = some (.slice a 0 c) := by simp [World.cell?, xb1]
  have jb : X.cell? ⟨w.heap.size + 1, gp, none⟩ = some (.bool true) := by have q := bools_get cl gp HG.out.1; rw [show cl gp = true from HG.out.2] at q; simp only [World.cell?, xb2]; exact q
  have HX := hideT (And.intro xb1 (And.intro xb2 (And.intro xb3 hBX)))
  clear xb1 xb2 xb3 hBX
  go_wp2_with fail
  go_loopw [1, 9, 10] (fun gv okv iv wr => gv = .int .i64 (g0 : Nat) ∧ okv = .bool true ∧ iv = .int .i64 0 ∧ wr.heap[w.heap.size]? = some (.cells #[.int .i64 6, .int .u64 0, .int .u64 0, .int .u64 0, .int .u64 0, .int .i64 0, .int .i64 0, .int .i64 (gp : Nat), .slice a 0 c] 27 (0, 0)) ∧ wr.heap[w.heap.size + 1]? = some (.cells (boolsA cl) 38 (0, 0)) ∧ wr.heap[w.heap.size + 1 + 1]? = some (.cells #[.bool false, .bool false, .bool false, .bool false, .bool false, .bool false, .bool false, .bool false, .bool false, .bool false] 38 (0, 0)) ∧ Below w.heap.size w wr) (fun _ _ _ _ => 0)
  case atStart => exact ⟨rfl, rfl, rfl, HX.out.1, HX.out.2.1, HX.out.2.2.1, HX.out.2.2.2⟩
  case round =>
    clear jb HX z0 z1 z2 z3 z4 z5 z6 z7 z8
    obtain ⟨rfl, rfl, rfl, gb1, gb2, gb3, gB⟩ := hrel
    have z0 : wr.cell? ⟨w.heap.size, 0, none⟩ = some (.int .i64 6) := by simp [World.cell?, gb1]
    have z7 : wr.cell? ⟨w.heap.size, 7, none⟩ = some (.int .i64 (gp : Nat)) := by simp [World.cell?, gb1]
    have z8 : wr.cell? ⟨w.heap.size, 8, none⟩ = some (.slice a 0 c) := by simp [World.cell?, gb1]
    have e0 : wr.cell? ⟨w.heap.size + 1, 0, none⟩ = some (.bool (cl 0)) := by simp [World.cell?, gb2]
    have f0 : wr.frozen? ⟨w.heap.size + 1, 0, none⟩ = false := by simp [World.frozen?, gb2]
    have e1 : wr.cell? ⟨w.heap.size + 1, 1, none⟩ = some (.bool (cl 1)) := by simp [World.cell?, gb2]
    have f1 : wr.frozen? ⟨w.heap.size + 1, 1, none⟩ = false := by simp [World.frozen?, gb2]
    have e2 : wr.cell? ⟨w.heap.size + 1, 2, none⟩ = some (.bool (cl 2)) := by simp [World.cell?, gb2]
    have f2 : wr.frozen? ⟨w.heap.size + 1, 2, none⟩ = false := by simp [World.frozen?, gb2]
    have e3 : wr.cell? ⟨w.heap.size + 1, 3, none⟩ = some (.bool (cl 3)) := by simp [World.cell?, gb2]
    have f3 : wr.frozen? ⟨w.heap.size + 1, 3, none⟩ = false := by simp [World.frozen?, gb2]
    have e4 : wr.cell? ⟨w.heap.size + 1, 4, none⟩ = some (.bool (cl 4)) := by simp [World.cell?, gb2]
    have f4 : wr.frozen? ⟨w.heap.size + 1, 4, none⟩ = false := by simp [World.frozen?, gb2]
    have e5 : wr.cell? ⟨w.heap.size + 1, 5, none⟩ = some (.bool (cl 5)) := by simp [World.cell?, gb2]
    have f5 : wr.frozen? ⟨w.heap.size + 1, 5, none⟩ = false := by simp [World.frozen?, gb2]
    have e6 : wr.cell? ⟨w.heap.size + 1, 6, none⟩ = some (.bool (cl 6)) := by simp [World.cell?, gb2]
    have f6 : wr.frozen? ⟨w.heap.size + 1, 6, none⟩ = false := by simp [World.frozen?, gb2]
    have e7 : wr.cell? ⟨w.heap.size + 1, 7, none⟩ = some (.bool (cl 7)) := by simp [World.cell?, gb2]
    have f7 : wr.frozen? ⟨w.heap.size + 1, 7, none⟩ = false := by simp [World.frozen?, gb2]
    have e8 : wr.cell? ⟨w.heap.size + 1, 8, none⟩ = some (.bool (cl 8)) := by simp [World.cell?, gb2]
    have f8 : wr.frozen? ⟨w.heap.size + 1, 8, none⟩ = false := by simp [World.frozen?, gb2]
    have e9 : wr.cell? ⟨w.heap.size + 1, 9, none⟩ = some (.bool (cl 9)) := by simp [World.cell?, gb2]
    have f9 : wr.frozen? ⟨w.heap.size + 1, 9, none⟩ = false := by simp [World.frozen?, gb2]
    have h0 : wr.cell? ⟨w.heap.size + 1 + 1, 0, none⟩ = some (.bool false) := by simp [World.cell?, gb3]
    have i0 : wr.frozen? ⟨w.heap.size + 1 + 1, 0, none⟩ = false := by simp [World.frozen?, gb3]
    have h1 : wr.cell? ⟨w.heap.size + 1 + 1, 1, none⟩ = some (.bool false) := by simp [World.cell?, gb3]
    have i1 : wr.frozen? ⟨w.heap.size + 1 + 1, 1, none⟩ = false := by simp [World.frozen?, gb3]
    have h2 : wr.cell? ⟨w.heap.size + 1 + 1, 2, none⟩ = some (.bool false) := by simp [World.cell?, gb3]
    have i2 : wr.frozen? ⟨w.heap.size + 1 + 1, 2, none⟩ = false := by simp [World.frozen?, gb3]
    have h3 : wr.cell? ⟨w.heap.size + 1 + 1, 3, none⟩ = some (.bool false) := by simp [World.cell?, gb3]
    have i3 : wr.frozen? ⟨w.heap.size + 1 + 1, 3, none⟩ = false := by simp [World.frozen?, gb3]
    have h4 : wr.cell? ⟨w.heap.size + 1 + 1, 4, none⟩ = some (.bool false) := by simp [World.cell?, gb3]
    have i4 : wr.frozen? ⟨w.heap.size + 1 + 1, 4, none⟩ = false := by simp [World.frozen?, gb3]
    have h5 : wr.cell? ⟨w.heap.size + 1 + 1, 5, none⟩ = some (.bool false) := by simp [World.cell?, gb3]
    have i5 : wr.frozen? ⟨w.heap.size + 1 + 1, 5, none⟩ = false := by simp [World.frozen?, gb3]
    have h6 : wr.cell? ⟨w.heap.size + 1 + 1, 6, none⟩ = some (.bool false) := by simp [World.cell?, gb3]
    have i6 : wr.frozen? ⟨w.heap.size + 1 + 1, 6, none⟩ = false := by simp [World.frozen?, gb3]
    have h7 : wr.cell? ⟨w.heap.size + 1 + 1, 7, none⟩ = some (.bool false) := by simp [World.cell?, gb3]
    have i7 : wr.frozen? ⟨w.heap.size + 1 + 1, 7, none⟩ = false := by simp [World.frozen?, gb3]
    have h8 : wr.cell? ⟨w.heap.size + 1 + 1, 8, none⟩ = some (.bool false) := by simp [World.cell?, gb3]
    have i8 : wr.frozen? ⟨w.heap.size + 1 + 1, 8, none⟩ = false := by simp [World.frozen?, gb3]
    have h9 : wr.cell? ⟨w.heap.size + 1 + 1, 9, none⟩ = some (.bool false) := by simp [World.cell?, gb3]
    have i9 : wr.frozen? ⟨w.heap.size + 1 + 1, 9, none⟩ = false := by simp [World.frozen?, gb3]
    have HB := hideT (And.intro gb3 gB)
    clear gb1 gb2 gb3 gB
    go_wp2_with fail
    go_region
    obtain ⟨Y, hY⟩ : ∃ Y, Y = ((((((((((wr.setCell ⟨w.heap.size + 1 + 1, 0, none⟩ (.bool (cl 0))).setCell ⟨w.heap.size + 1 + 1, 1, none⟩ (.bool (cl 1))).setCell ⟨w.heap.size + 1 + 1, 2, none⟩ (.bool (cl 2))).setCell ⟨w.heap.size + 1 + 1, 3, none⟩ (.bool (cl 3))).setCell ⟨w.heap.size + 1 + 1, 4, none⟩ (.bool (cl 4))).setCell ⟨w.heap.size + 1 + 1, 5, none⟩ (.bool (cl 5))).setCell ⟨w.heap.size + 1 + 1, 6, none⟩ (.bool (cl 6))).setCell ⟨w.heap.size + 1 + 1, 7, none⟩ (.bool (cl 7))).setCell ⟨w.heap.size + 1 + 1, 8, none⟩ (.bool (cl 8))).setCell ⟨w.heap.size + 1 + 1, 9, none⟩ (.bool (cl 9))).drew := ⟨_, rfl⟩
    have yb : Y.heap[w.heap.size + 1 + 1]? = some (.cells (boolsA cl) 38 (0, 0)) := by rw [hY]; exact put10_drew (W := wr) cl (put10c HB.out.1)
    have yB : Below w.heap.size w Y := by rw [hY]; exact (put10_below (HB.out.2) (by omega) cl).drew
    rw [← hY]
    clear e0 f0 h0 i0 e1 f1 h1 i1 e2 f2 h2 i2 e3 f3 h3 i3 e4 f4 h4 i4 e5 f5 h5 i5 e6 f6 h6 i6 e7 f7 h7 i7 e8 f8 h8 i8 e9 f9 h9 i9
    clear hY
    have v0 : Y.cell? ⟨w.heap.size + 1 + 1, 0, none⟩ = some (.bool (cl 0)) := by simp [World.cell?, yb]
    have v1 : Y.cell? ⟨w.heap.size + 1 + 1, 1, none⟩ = some (.bool (cl 1)) := by simp [World.cell?, yb]
    have v2 : Y.cell? ⟨w.heap.size + 1 + 1, 2, none⟩ = some (.bool (cl 2)) := by simp [World.cell?, yb]
    have v3 : Y.cell? ⟨w.heap.size + 1 + 1, 3, none⟩ = some (.bool (cl 3)) := by simp [World.cell?, yb]
    have v4 : Y.cell? ⟨w.heap.size + 1 + 1, 4, none⟩ = some (.bool (cl 4)) := by simp [World.cell?, yb]
    have v5 : Y.cell? ⟨w.heap.size + 1 + 1, 5, none⟩ = some (.bool (cl 5)) := by simp [World.cell?, yb]
    have v6 : Y.cell? ⟨w.heap.size + 1 + 1, 6, none⟩ = some (.bool (cl 6)) := by simp [World.cell?, yb]
    have v7 : Y.cell? ⟨w.heap.size + 1 + 1, 7, none⟩ = some (.bool (cl 7)) := by simp [World.cell?, yb]
    have v8 : Y.cell? ⟨w.heap.size + 1 + 1, 8, none⟩ = some (.bool (cl 8)) := by simp [World.cell?, yb]
    have v9 : Y.cell? ⟨w.heap.size + 1 + 1, 9, none⟩ = some (.bool (cl 9)) := by simp [World.cell?, yb]
    clear yb
    go_wp2
    refine bodyPost_ret (by simp [results, Try.results13, go_sem, v0, v1, v2, v3, v4, v5, v6, v7, v8, v9]; try rfl) rfl ?_
    exact ⟨rfl, yB⟩
end Go.Proofs.Ytooanbbnjiogaaa
