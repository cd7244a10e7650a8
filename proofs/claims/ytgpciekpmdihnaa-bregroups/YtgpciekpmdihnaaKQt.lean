/- bre: shaped: what its walks want. -/
import Derived.Test.YtgpciekpmdihnaaKQf
import Derived.Deep.RegionWith
import Derived.Deep.Cut
namespace Go.Proofs.Ytgpciekpmdihnaa
open Go.RowKit
end Go.Proofs.Ytgpciekpmdihnaa
/- BreShapes: the place of a fault; a text that is too long; the tree that is nothing. -/
namespace Go.Proofs.Ytgpciekpmdihnaa
open Go.RowKit
set_option maxRecDepth 100000 in
set_option maxHeartbeats 400000 in
theorem parse_over (s : ByteArray) (hl : 512 < s.size) (w : World) :
    Calls Try.prog 9 #[.string s] w fun e w' => e = .returned (.tuple #[.agg #[.int .i64 0, .int .u64 0, .int .u64 0, .int .u64 0, .int .u64 0, .int .i64 0, .int .i64 0, .int .i64 0, .slice none 0 0], .agg #[.int .i64 2, .int .i64 0]]) ∧ Below w.heap.size w w' := by
  have k1 : (512 : Int) < (s.size : Int) := by omega
  go_enter Try.func9, Try.ntmps9
  go_wp2
  exact bodyPost_ret (v := .tuple #[.agg #[.int .i64 0, .int .u64 0, .int .u64 0, .int .u64 0, .int .u64 0, .int .i64 0, .int .i64 0, .int .i64 0, .slice none 0 0], .agg #[.int .i64 2, .int .i64 0]]) (by simp [results, Try.results9, go_sem]) rfl ⟨rfl, ((Below.refl _ _).alloc (Nat.le_refl _) _).alloc (by simp) _⟩
theorem parse_fault (s : ByteArray) (er : Int) (p : Nat) (ht : parseT s = .error (er, p)) (w : World) (hg : Glob w) :
    Calls Try.prog 9 #[.string s] w fun e w' => e = .returned (.tuple #[.agg #[.int .i64 0, .int .u64 0, .int .u64 0, .int .u64 0, .int .u64 0, .int .i64 0, .int .i64 0, .int .i64 0, .slice none 0 0], .agg #[.int .i64 er, .int .i64 (p : Nat)]]) ∧ Below w.heap.size w w' := by
  by_cases h : s.size ≤ 512
  · exact parse_err s (by omega) er p ht w hg
  · unfold parseT at ht
    rw [if_pos (by omega)] at ht
    cases ht
    exact parse_over s (by omega) w
theorem neq_zero (w : World) : (binOp .neq 24 (.agg #[.int .u64 0, .int .u64 0, .int .u64 0, .int .u64 0]) (.agg #[.int .u64 0, .int .u64 0, .int .u64 0, .int .u64 0])).run Try.prog w = .ok (.bool false) w := by
  have h := run_neq_set noneP noneP w
  have e : ∀ i, wd noneP i = 0 := fun i => wd_none i
  rw [e, e, e, e] at h
  rw [show eqB noneP noneP = true by simp [eqB]] at h
  exact h
end Go.Proofs.Ytgpciekpmdihnaa
/- BreShapes: Same, of the tree that is nothing with itself. -/
namespace Go.Proofs.Ytgpciekpmdihnaa
open Go.RowKit
set_option maxRecDepth 100000 in
set_option maxHeartbeats 1000000 in
theorem same_zero (w : World) : Calls Try.prog 12 #[.agg #[.int .i64 0, .int .u64 0, .int .u64 0, .int .u64 0, .int .u64 0, .int .i64 0, .int .i64 0, .int .i64 0, .slice none 0 0], .agg #[.int .i64 0, .int .u64 0, .int .u64 0, .int .u64 0, .int .u64 0, .int .i64 0, .int .i64 0, .int .i64 0, .slice none 0 0]] w fun e w' => e = .returned (.bool true) ∧ Below w.heap.size w w' := by
  have hneq := neq_zero
  go_enter Try.func12, Try.ntmps12
  go_upto_region 1 with fail
  obtain ⟨X, hX⟩ : ∃ X, X = (w.alloc (.cells #[.int .i64 0, .int .u64 0, .int .u64 0, .int .u64 0, .int .u64 0, .int .i64 0, .int .i64 0, .int .i64 0, .slice none 0 0] 27)).alloc (.cells #[.int .i64 0, .int .u64 0, .int .u64 0, .int .u64 0, .int .u64 0, .int .i64 0, .int .i64 0, .int .i64 0, .slice none 0 0] 27) := ⟨_, rfl⟩
  have xb1 : X.heap[w.heap.size]? = some (.cells #[.int .i64 0, .int .u64 0, .int .u64 0, .int .u64 0, .int .u64 0, .int .i64 0, .int .i64 0, .int .i64 0, .slice none 0 0] 27 (0, 0)) := by
    rw [hX, Below.heap_alloc _ _ _ (by simp only [World.size_alloc]; omega)]
    exact heap_alloc_new w _
  have nw := fun (W : World) (ob : Obj) (H : Nat) (hH : W.heap.size = H) => (show (W.alloc ob).heap[H]? = some ob from hH ▸ heap_alloc_new W ob)
  have xb2 : X.heap[w.heap.size + 1]? = some (.cells #[.int .i64 0, .int .u64 0, .int .u64 0, .int .u64 0, .int .u64 0, .int .i64 0, .int .i64 0, .int .i64 0, .slice none 0 0] 27 (0, 0)) := by
    rw [hX]
    exact nw _ _ _ (by simp only [World.size_alloc])
  have hBX : Below w.heap.size w X := by
    rw [hX]
    exact ((Below.refl _ _).alloc (Nat.le_refl _) _).alloc (by rw [World.size_alloc]; omega) _
  rw [← hX]
  clear hX nw
  have z0 : X.cell? ⟨w.heap.size, 0, none⟩ = some (.int .i64 0) := by simp [World.cell?, xb1]
  have z1 : X.cell? ⟨w.heap.size, 1, none⟩ = some (.int .u64 0) := by simp [World.cell?, xb1]
  have z2 : X.cell? ⟨w.heap.size, 2, none⟩ = some (.int .u64 0) := by simp [World.cell?, xb1]
  have z3 : X.cell? ⟨w.heap.size, 3, none⟩ = some (.int .u64 0) := by simp [World.cell?, xb1]
  have z4 : X.cell? ⟨w.heap.size, 4, none⟩ = some (.int .u64 0) := by simp [World.cell?, xb1]
  have z5 : X.cell? ⟨w.heap.size, 5, none⟩ = some (.int .i64 0) := by simp [World.cell?, xb1]
  have z6 : X.cell? ⟨w.heap.size, 6, none⟩ = some (.int .i64 0) := by simp [World.cell?, xb1]
  have z7 : X.cell? ⟨w.heap.size, 7, none⟩ = some (.int .i64 0) := by simp [World.cell?, xb1]
  have z8 : X.cell? ⟨w.heap.size, 8, none⟩ = some (.slice none 0 0) := by simp [World.cell?, xb1]
  have y0 : X.cell? ⟨w.heap.size + 1, 0, none⟩ = some (.int .i64 0) := by simp [World.cell?, xb2]
  have y1 : X.cell? ⟨w.heap.size + 1, 1, none⟩ = some (.int .u64 0) := by simp [World.cell?, xb2]
  have y2 : X.cell? ⟨w.heap.size + 1, 2, none⟩ = some (.int .u64 0) := by simp [World.cell?, xb2]
  have y3 : X.cell? ⟨w.heap.size + 1, 3, none⟩ = some (.int .u64 0) := by simp [World.cell?, xb2]
  have y4 : X.cell? ⟨w.heap.size + 1, 4, none⟩ = some (.int .u64 0) := by simp [World.cell?, xb2]
  have y5 : X.cell? ⟨w.heap.size + 1, 5, none⟩ = some (.int .i64 0) := by simp [World.cell?, xb2]
  have y6 : X.cell? ⟨w.heap.size + 1, 6, none⟩ = some (.int .i64 0) := by simp [World.cell?, xb2]
  have y7 : X.cell? ⟨w.heap.size + 1, 7, none⟩ = some (.int .i64 0) := by simp [World.cell?, xb2]
  have y8 : X.cell? ⟨w.heap.size + 1, 8, none⟩ = some (.slice none 0 0) := by simp [World.cell?, xb2]
  have HX := hideT (And.intro xb1 hBX)
  clear xb1 xb2 hBX
  go_wp2_with fail
  go_loopw [5] (fun iv wr => iv = .int .i64 0 ∧ wr.heap[w.heap.size]? = some (.cells #[.int .i64 0, .int .u64 0, .int .u64 0, .int .u64 0, .int .u64 0, .int .i64 0, .int .i64 0, .int .i64 0, .slice none 0 0] 27 (0, 0)) ∧ Below w.heap.size w wr) (fun _ _ => 0)
  case atStart => exact ⟨rfl, HX.out⟩
  case round =>
    clear HX z0 y0 z1 y1 z2 y2 z3 y3 z4 y4 z5 y5 z6 y6 z7 y7 z8 y8
    obtain ⟨rfl, gb1, gB⟩ := hrel
    have z8 : wr.cell? ⟨w.heap.size, 8, none⟩ = some (.slice none 0 0) := by simp [World.cell?, gb1]
    have HB := hideT gB
    clear gb1 gB
    go_wp2
    go_ret
    exact ⟨rfl, HB.out⟩
end Go.Proofs.Ytgpciekpmdihnaa
