/- BreFixed: the document's examples, the limits and one beyond. Closed. -/
import Derived.Test.YtooanbbnjiogaaaKPv
namespace Go.Proofs.Ytooanbbnjiogaaa
open Go.RowKit

namespace fixed
def fixV : List Value := fixTx.map fun l => Value.string (fixB l)
def wantV : List Value := fixFx.flatMap fun p => [.int .i64 p.1, .int .i64 (p.2 : Nat)]
/-- The texts and the faults, in a block each. -/
def TB (W : World) (b : Nat) : Prop := W.heap[b]? = some (.cells fixV.toArray 9 (0, 0))
def WB (W : World) (b : Nat) : Prop := W.heap[b]? = some (.cells wantV.toArray 30 (0, 0))

theorem blk {W W' : World} {B b : Nat} {o : Obj} (h : W.heap[b]? = some o) (hb : Below B W W') (hlt : W.heap.size ≤ B) : W'.heap[b]? = some o :=
  (hb.block b (Nat.lt_of_lt_of_le (Array.getElem?_eq_some_iff.1 h).1 hlt)).trans h

theorem cell_of {W : World} {b k t : Nat} {vs : List Value} {v : Value} (h : W.heap[b]? = some (.cells vs.toArray t (0, 0))) (hk : vs[k]? = some v) : W.cell? ⟨b, k, none⟩ = some v := by
  simp [World.cell?, h, hk]

theorem want_at : ∀ (l : List (Int × Nat)) (k : Nat) (p : Int × Nat), l[k]? = some p → (l.flatMap fun p => [Value.int .i64 p.1, .int .i64 (p.2 : Nat)])[k * 2]? = some (.int .i64 p.1) ∧ (l.flatMap fun p => [Value.int .i64 p.1, .int .i64 (p.2 : Nat)])[k * 2 + 1]? = some (.int .i64 (p.2 : Nat))
  | [], k, p, h => by simp at h
  | a :: l, 0, p, h => by
    simp at h
    subst h
    exact ⟨rfl, rfl⟩
  | a :: l, k + 1, p, h => by
    have := want_at l k p (by simpa using h)
    rw [List.flatMap_cons, List.getElem?_append_right (by simp; omega), List.getElem?_append_right (by simp; omega)]
    have e1 : (k + 1) * 2 - [Value.int .i64 a.1, .int .i64 (a.2 : Nat)].length = k * 2 := by simp; omega
    have e2 : (k + 1) * 2 + 1 - [Value.int .i64 a.1, .int .i64 (a.2 : Nat)].length = k * 2 + 1 := by simp; omega
    rw [e1, e2]
    exact this

theorem fix_all (k : Nat) (hk : k < 20) : ∃ l p, fixTx[k]? = some l ∧ fixFx[k]? = some p ∧ faultOf (parseT (fixB l)) = p ∧ (fixB l).size ≤ 100 := by
  have hl : k < fixTx.length := hk
  have hf : k < fixFx.length := hk
  refine ⟨fixTx[k], fixFx[k], List.getElem?_eq_getElem hl, List.getElem?_eq_getElem hf, ?_, ?_⟩
  · have : (fixTx.map (fun l => faultOf (parseT (fixB l))))[k]? = fixFx[k]? := by rw [fix_faults]
    rw [List.getElem?_map, List.getElem?_eq_getElem hl, List.getElem?_eq_getElem hf] at this
    exact Option.some.inj this
  · have : ∀ l ∈ fixTx, (fixB l).size ≤ 100 := by decide +kernel
    exact this _ (List.getElem_mem hl)

/-- Parse: the fault alone. -/
theorem parse_fault (s : ByteArray) (hs : s.size ≤ 1073741824) (w : World) (hg : Glob w) :
    Calls Try.prog 9 #[.string s] w fun e w' => Below w.heap.size w w' ∧ ∃ (a : Option Addr) (n c : Nat), e = .returned (.tuple #[.agg #[.int .i64 0, .int .u64 0, .int .u64 0, .int .u64 0, .int .u64 0, .int .i64 0, .int .i64 0, .int .i64 0, .slice a n c], .agg #[.int .i64 (faultOf (parseT s)).1, .int .i64 ((faultOf (parseT s)).2 : Nat)]]) := by
  refine (breParse_any s hs w hg).mono ?_
  rintro e w' ⟨hB, ⟨er, p, h, he⟩ | ⟨ts', a, n, c, h, he, _⟩⟩
  · exact ⟨hB, none, 0, 0, by rw [he, h]; rfl⟩
  · exact ⟨hB, a, n, c, by rw [he, h]; rfl⟩

theorem fixB_app (a b : List Nat) : fixB (a ++ b) = fixB a ++ fixB b := by
  unfold fixB
  apply ByteArray.ext
  simp
theorem times_size (l : List Nat) (n : Nat) : (fixB (times l n)).size = n * l.length := by
  have h : ∀ n, (times l n).length = n * l.length := by
    intro n
    induction n with
    | zero => simp [times]
    | succ n ih => simp only [times, List.length_append, ih]; rw [Nat.add_mul]; omega
  show ((times l n).map fun n => UInt8.ofNat n).toArray.size = _
  simp [h]

theorem fix_over : faultOf (parseT (fixB (times [91, 97, 98, 93] 128 ++ [120]))) = (2, 0) := by kernel_rfl

/-- Parse at a text whose fault is known. -/
theorem parse_known (s : ByteArray) (hs : s.size ≤ 1073741824) (er : Int) (p : Nat) (hf : faultOf (parseT s) = (er, p)) (w : World) (hg : Glob w) :
    Calls Try.prog 9 #[.string s] w fun e w' => Below w.heap.size w w' ∧ ∃ (a : Option Addr) (n c : Nat), e = .returned (.tuple #[.agg #[.int .i64 0, .int .u64 0, .int .u64 0, .int .u64 0, .int .u64 0, .int .i64 0, .int .i64 0, .int .i64 0, .slice a n c], .agg #[.int .i64 er, .int .i64 (p : Nat)]]) := by
  have h := parse_fault s hs w hg
  rw [hf] at h
  exact h

set_option maxRecDepth 100000 in
set_option maxHeartbeats 2000000 in
theorem walk (w : World) (hg : Glob w) : Calls Try.prog 7 #[] w fun e w' => e = .returned (.bool true) ∧ Below w.heap.size w w' := by
  have hT0 : TB ((w.alloc (.cells fixV.toArray 9)).alloc (.cells wantV.toArray 30)) w.heap.size := (Below.heap_alloc _ _ _ (by rw [World.size_alloc]; omega)).trans (heap_alloc_new w _)
  have hW0 : WB ((w.alloc (.cells fixV.toArray 9)).alloc (.cells wantV.toArray 30)) (w.heap.size + 1) := by
    have h := heap_alloc_new (w.alloc (.cells fixV.toArray 9)) (.cells wantV.toArray 30)
    rw [World.size_alloc] at h
    exact h
  have hB0 : Below w.heap.size w ((w.alloc (.cells fixV.toArray 9)).alloc (.cells wantV.toArray 30)) := ((Below.refl _ _).alloc (Nat.le_refl _) _).alloc (by rw [World.size_alloc]; omega) _
  have H0 := hideT (And.intro hT0 (And.intro hW0 hB0))
  clear hT0 hW0 hB0
  go_enter Try.func7, Try.ntmps7
  go_wp2_with fail
  go_loopw [43] (fun i wr => ∃ k : Nat, k ≤ 20 ∧ i = .int .i64 k ∧ TB wr w.heap.size ∧ WB wr (w.heap.size + 1) ∧ Below w.heap.size w wr) (fun i _ => (20 - intOf i).toNat)
  case atStart => exact ⟨0, by omega, rfl, H0.out.1, H0.out.2.1, H0.out.2.2⟩
  case round =>
    obtain ⟨k, hk, rfl, gT, gW, gB⟩ := hrel
    by_cases hlt : k < 20
    · obtain ⟨l, p, hl, hp, hpe, hls⟩ := fix_all k hlt
      have ct := cell_of (k := k) (v := .string (fixB l)) gT (by unfold fixV; rw [List.getElem?_map, hl]; rfl)
      have hcall := parse_fault (fixB l) (by omega) wr (hg.below gB (Nat.le_refl _))
      rw [hpe] at hcall
      have k1 : (0 : Int) ≤ (k : Int) := by omega
      have k2 : (k : Int) < 20 := by omega
      have HC := hideT hcall
      clear hcall
      go_wp2_with fail
      refine HC.out.mono ?_
      rintro e' w2 ⟨hb2, a, n, c, rfl⟩
      clear ct HC
      obtain ⟨X, hX⟩ : ∃ X, X = (w2.alloc (.cells #[.int .i64 0, .int .u64 0, .int .u64 0, .int .u64 0, .int .u64 0, .int .i64 0, .int .i64 0, .int .i64 0, .slice a n c] 27)).alloc (.cells #[.int .i64 p.1, .int .i64 (p.2 : Nat)] 30) := ⟨_, rfl⟩
      have hBX : Below w2.heap.size w2 X := by rw [hX]; exact ((Below.refl _ _).alloc (Nat.le_refl _) _).alloc (by rw [World.size_alloc]; omega) _
      have gTX : TB X w.heap.size := blk (blk gT hb2 (Nat.le_refl _)) hBX (Nat.le_refl _)
      have gWX : WB X (w.heap.size + 1) := blk (blk gW hb2 (Nat.le_refl _)) hBX (Nat.le_refl _)
      have gBX := below_next (below_next gB hb2) hBX
      have f0 : X.cell? ⟨w2.heap.size + 1, 0, none⟩ = some (.int .i64 p.1) := by rw [hX]; exact (new_cell (w2.alloc _) _ 30 _ (World.size_alloc _ _) 0 _ rfl).1
      have f1 : X.cell? ⟨w2.heap.size + 1, 1, none⟩ = some (.int .i64 (p.2 : Nat)) := by rw [hX]; exact (new_cell (w2.alloc _) _ 30 _ (World.size_alloc _ _) 1 _ rfl).1
      have d0 := cell_of (k := k * 2) gWX (want_at fixFx k p hp).1
      have d1 := cell_of (k := k * 2 + 1) gWX (want_at fixFx k p hp).2
      have heq := run_equal_fault
      have HX := hideT (And.intro gTX (And.intro gWX gBX))
      clear gTX gWX gBX gT gW gB hb2 hBX hl hp hpe
      go_wp2_with fail
      rw [← hX]
      clear hX
      go_quiet (fail)
      go_wp2
      exact ⟨⟨k + 1, by omega, by go_num, HX.out.1, HX.out.2.1, HX.out.2.2.trans ⟨rfl, rfl, rfl, Nat.le_refl _, fun _ _ => rfl⟩⟩, by simp [intOf]; omega⟩
    · obtain rfl : k = 20 := by omega
      clear gT gW
      go_wp2_with fail
      go_loop [7, 60] (fun v i => ∃ k : Nat, k ≤ 9 ∧ i = .int .i64 k ∧ v = .string (fixB (times [92, 40, 92, 41] k))) (fun _ i => (9 - intOf i).toNat)
      case atStart => exact ⟨0, by omega, rfl, rfl⟩
      case round =>
        obtain ⟨k, hk, rfl, rfl⟩ := hrel
        by_cases hk9 : k < 9
        · have k3 : (k : Int) < 9 := by omega
          have ks : ¬ 9223372036854775807 < (fixB (times [92, 40, 92, 41] k)).size + 4 := by rw [times_size]; simp; omega
          go_wp2
          exact ⟨⟨k + 1, by omega, by go_num, congrArg Value.string (fixB_app (times [92, 40, 92, 41] k) [92, 40, 92, 41]).symm⟩, by simp [intOf]; omega⟩
        · obtain rfl : k = 9 := by omega
          go_wp2_with fail
          go_loop [8, 65] (fun v i => ∃ k : Nat, k ≤ 128 ∧ i = .int .i64 k ∧ v = .string (fixB (times [91, 97, 98, 93] k))) (fun _ i => (128 - intOf i).toNat)
          case atStart => exact ⟨0, by omega, rfl, rfl⟩
          case round =>
            obtain ⟨k, hk, rfl, rfl⟩ := hrel
            by_cases hk1 : k < 128
            · have k3 : (k : Int) < 128 := by omega
              have ks : ¬ 9223372036854775807 < (fixB (times [91, 97, 98, 93] k)).size + 4 := by rw [times_size]; simp; omega
              go_wp2
              exact ⟨⟨k + 1, by omega, by go_num, congrArg Value.string (fixB_app (times [91, 97, 98, 93] k) [91, 97, 98, 93]).symm⟩, by simp [intOf]; omega⟩
            · obtain rfl : k = 128 := by omega
              have s1 : ¬ 9223372036854775807 < (fixB (times [92, 40, 92, 41] 9)).size + 4 := by rw [times_size]; decide
              have s2 : ¬ 9223372036854775807 < (fixB (times [91, 97, 98, 93] 128)).size + 1 := by rw [times_size]; decide
              have u1 : fixB (times [92, 40, 92, 41] 9) ++ ⟨#[92, 40, 92, 41]⟩ = fixB (times [92, 40, 92, 41] 9 ++ [92, 40, 92, 41]) := (fixB_app (times [92, 40, 92, 41] 9) [92, 40, 92, 41]).symm
              have u2 : fixB (times [91, 97, 98, 93] 128) ++ ⟨#[120]⟩ = fixB (times [91, 97, 98, 93] 128 ++ [120]) := (fixB_app (times [91, 97, 98, 93] 128) [120]).symm
              have P1 := hideT (parse_known (fixB (times [92, 40, 92, 41] 9)) (by rw [times_size]; decide) 0 0 fix_nine)
              have P2 := hideT (parse_known (fixB (times [92, 40, 92, 41] 9 ++ [92, 40, 92, 41])) (by rw [fixB_app, ByteArray.size_append, times_size]; decide) 4 36 fix_ten)
              have P3 := hideT (parse_known (fixB (times [91, 97, 98, 93] 128)) (by rw [times_size]; decide) 0 0 fix_long)
              have P4 := hideT (parse_known (fixB (times [91, 97, 98, 93] 128 ++ [120])) (by rw [fixB_app, ByteArray.size_append, times_size]; decide) 2 0 fix_over)
              have P5 := hideT (parse_known (fixB [97, 92, 123, 50, 53, 53, 92, 125, 98]) (by decide) 0 0 fix_many)
              generalize fixB (times [92, 40, 92, 41] 9) = n9 at *
              generalize fixB (times [91, 97, 98, 93] 128) = n128 at *
              generalize fixB (times [92, 40, 92, 41] 9 ++ [92, 40, 92, 41]) = n10 at *
              generalize fixB (times [91, 97, 98, 93] 128 ++ [120]) = n129 at *
              have heq := run_equal_fault
              go_wp2_with fail
              refine (P1.out _ (hg.below gB (Nat.le_refl _))).mono ?_
              rintro e' v1 ⟨hb1, a1, m1, c1, rfl⟩
              obtain ⟨X1, hX1⟩ : ∃ X, X = (v1.alloc (.cells #[.int .i64 0, .int .u64 0, .int .u64 0, .int .u64 0, .int .u64 0, .int .i64 0, .int .i64 0, .int .i64 0, .slice a1 m1 c1] 27)).alloc (.cells #[.int .i64 0, .int .i64 0] 30) := ⟨_, rfl⟩
              have hBX1 : Below v1.heap.size v1 X1 := by rw [hX1]; exact ((Below.refl _ _).alloc (Nat.le_refl _) _).alloc (by rw [World.size_alloc]; omega) _
              have gX1 := below_next (below_next gB hb1) hBX1
              have f1 : X1.heap[v1.heap.size + 1]? = some (.cells #[.int .i64 0, .int .i64 0] 30 (0, 0)) := by
                rw [hX1]
                have h := heap_alloc_new (v1.alloc (.cells #[.int .i64 0, .int .u64 0, .int .u64 0, .int .u64 0, .int .u64 0, .int .i64 0, .int .i64 0, .int .i64 0, .slice a1 m1 c1] 27)) (.cells #[.int .i64 0, .int .i64 0] 30)
                rw [World.size_alloc] at h
                exact h
              clear  hb1 hBX1
              go_wp2_with fail
              rw [← hX1]
              clear hX1
              refine (P2.out _ (hg.below gX1 (Nat.le_refl _))).mono ?_
              rintro e' v2 ⟨hb2, a2, m2, c2, rfl⟩
              obtain ⟨X2, hX2⟩ : ∃ X, X = (v2.alloc (.cells #[.int .i64 0, .int .u64 0, .int .u64 0, .int .u64 0, .int .u64 0, .int .i64 0, .int .i64 0, .int .i64 0, .slice a2 m2 c2] 27)).alloc (.cells #[.int .i64 4, .int .i64 36] 30) := ⟨_, rfl⟩
              have hBX2 : Below v2.heap.size v2 X2 := by rw [hX2]; exact ((Below.refl _ _).alloc (Nat.le_refl _) _).alloc (by rw [World.size_alloc]; omega) _
              have gX2 := below_next (below_next gX1 hb2) hBX2
              have f2 : X2.heap[v2.heap.size + 1]? = some (.cells #[.int .i64 4, .int .i64 36] 30 (0, 0)) := by
                rw [hX2]
                have h := heap_alloc_new (v2.alloc (.cells #[.int .i64 0, .int .u64 0, .int .u64 0, .int .u64 0, .int .u64 0, .int .i64 0, .int .i64 0, .int .i64 0, .slice a2 m2 c2] 27)) (.cells #[.int .i64 4, .int .i64 36] 30)
                rw [World.size_alloc] at h
                exact h
              have f1 := blk (blk f1 hb2 (Nat.le_refl _)) hBX2 (Nat.le_refl _)
              clear gX1 hb2 hBX2
              go_wp2_with fail
              rw [← hX2]
              clear hX2
              refine (P3.out _ (hg.below gX2 (Nat.le_refl _))).mono ?_
              rintro e' v3 ⟨hb3, a3, m3, c3, rfl⟩
              obtain ⟨X3, hX3⟩ : ∃ X, X = (v3.alloc (.cells #[.int .i64 0, .int .u64 0, .int .u64 0, .int .u64 0, .int .u64 0, .int .i64 0, .int .i64 0, .int .i64 0, .slice a3 m3 c3] 27)).alloc (.cells #[.int .i64 0, .int .i64 0] 30) := ⟨_, rfl⟩
              have hBX3 : Below v3.heap.size v3 X3 := by rw [hX3]; exact ((Below.refl _ _).alloc (Nat.le_refl _) _).alloc (by rw [World.size_alloc]; omega) _
              have gX3 := below_next (below_next gX2 hb3) hBX3
              have f3 : X3.heap[v3.heap.size + 1]? = some (.cells #[.int .i64 0, .int .i64 0] 30 (0, 0)) := by
                rw [hX3]
                have h := heap_alloc_new (v3.alloc (.cells #[.int .i64 0, .int .u64 0, .int .u64 0, .int .u64 0, .int .u64 0, .int .i64 0, .int .i64 0, .int .i64 0, .slice a3 m3 c3] 27)) (.cells #[.int .i64 0, .int .i64 0] 30)
                rw [World.size_alloc] at h
                exact h
              have f1 := blk (blk f1 hb3 (Nat.le_refl _)) hBX3 (Nat.le_refl _)
              have f2 := blk (blk f2 hb3 (Nat.le_refl _)) hBX3 (Nat.le_refl _)
              clear gX2 hb3 hBX3
              go_wp2_with fail
              rw [← hX3]
              clear hX3
              refine (P4.out _ (hg.below gX3 (Nat.le_refl _))).mono ?_
              rintro e' v4 ⟨hb4, a4, m4, c4, rfl⟩
              obtain ⟨X4, hX4⟩ : ∃ X, X = (v4.alloc (.cells #[.int .i64 0, .int .u64 0, .int .u64 0, .int .u64 0, .int .u64 0, .int .i64 0, .int .i64 0, .int .i64 0, .slice a4 m4 c4] 27)).alloc (.cells #[.int .i64 2, .int .i64 0] 30) := ⟨_, rfl⟩
              have hBX4 : Below v4.heap.size v4 X4 := by rw [hX4]; exact ((Below.refl _ _).alloc (Nat.le_refl _) _).alloc (by rw [World.size_alloc]; omega) _
              have gX4 := below_next (below_next gX3 hb4) hBX4
              have f4 : X4.heap[v4.heap.size + 1]? = some (.cells #[.int .i64 2, .int .i64 0] 30 (0, 0)) := by
                rw [hX4]
                have h := heap_alloc_new (v4.alloc (.cells #[.int .i64 0, .int .u64 0, .int .u64 0, .int .u64 0, .int .u64 0, .int .i64 0, .int .i64 0, .int .i64 0, .slice a4 m4 c4] 27)) (.cells #[.int .i64 2, .int .i64 0] 30)
                rw [World.size_alloc] at h
                exact h
              have f1 := blk (blk f1 hb4 (Nat.le_refl _)) hBX4 (Nat.le_refl _)
              have f2 := blk (blk f2 hb4 (Nat.le_refl _)) hBX4 (Nat.le_refl _)
              have f3 := blk (blk f3 hb4 (Nat.le_refl _)) hBX4 (Nat.le_refl _)
              clear gX3 hb4 hBX4
              go_wp2_with fail
              rw [← hX4]
              clear hX4
              refine (P5.out _ (hg.below gX4 (Nat.le_refl _))).mono ?_
              rintro e' v5 ⟨hb5, a5, m5, c5, rfl⟩
              obtain ⟨X5, hX5⟩ : ∃ X, X = (v5.alloc (.cells #[.int .i64 0, .int .u64 0, .int .u64 0, .int .u64 0, .int .u64 0, .int .i64 0, .int .i64 0, .int .i64 0, .slice a5 m5 c5] 27)).alloc (.cells #[.int .i64 0, .int .i64 0] 30) := ⟨_, rfl⟩
              have hBX5 : Below v5.heap.size v5 X5 := by rw [hX5]; exact ((Below.refl _ _).alloc (Nat.le_refl _) _).alloc (by rw [World.size_alloc]; omega) _
              have gX5 := below_next (below_next gX4 hb5) hBX5
              have f5 : X5.heap[v5.heap.size + 1]? = some (.cells #[.int .i64 0, .int .i64 0] 30 (0, 0)) := by
                rw [hX5]
                have h := heap_alloc_new (v5.alloc (.cells #[.int .i64 0, .int .u64 0, .int .u64 0, .int .u64 0, .int .u64 0, .int .i64 0, .int .i64 0, .int .i64 0, .slice a5 m5 c5] 27)) (.cells #[.int .i64 0, .int .i64 0] 30)
                rw [World.size_alloc] at h
                exact h
              have f1 := blk (blk f1 hb5 (Nat.le_refl _)) hBX5 (Nat.le_refl _)
              have f2 := blk (blk f2 hb5 (Nat.le_refl _)) hBX5 (Nat.le_refl _)
              have f3 := blk (blk f3 hb5 (Nat.le_refl _)) hBX5 (Nat.le_refl _)
              have f4 := blk (blk f4 hb5 (Nat.le_refl _)) hBX5 (Nat.le_refl _)
              clear gX4 hb5 hBX5
              go_wp2_with fail
              rw [← hX5]
              clear hX5
              refine (awake_any X5 (hg.below gX5 (Nat.le_refl _))).mono ?_
              rintro e' v6 ⟨rfl, hb6⟩
              have f1 := blk f1 hb6 (Nat.le_refl _)
              have f2 := blk f2 hb6 (Nat.le_refl _)
              have f3 := blk f3 hb6 (Nat.le_refl _)
              have f4 := blk f4 hb6 (Nat.le_refl _)
              have f5 := blk f5 hb6 (Nat.le_refl _)
              have o1 : v6.cell? ⟨v1.heap.size + 1, 0, none⟩ = some (.int .i64 0) := by simp [World.cell?, f1]
              have l1 : v6.cell? ⟨v1.heap.size + 1, 1, none⟩ = some (.int .i64 0) := by simp [World.cell?, f1]
              have o2 : v6.cell? ⟨v2.heap.size + 1, 0, none⟩ = some (.int .i64 4) := by simp [World.cell?, f2]
              have l2 : v6.cell? ⟨v2.heap.size + 1, 1, none⟩ = some (.int .i64 36) := by simp [World.cell?, f2]
              have o3 : v6.cell? ⟨v3.heap.size + 1, 0, none⟩ = some (.int .i64 0) := by simp [World.cell?, f3]
              have l3 : v6.cell? ⟨v3.heap.size + 1, 1, none⟩ = some (.int .i64 0) := by simp [World.cell?, f3]
              have o4 : v6.cell? ⟨v4.heap.size + 1, 0, none⟩ = some (.int .i64 2) := by simp [World.cell?, f4]
              have l4 : v6.cell? ⟨v4.heap.size + 1, 1, none⟩ = some (.int .i64 0) := by simp [World.cell?, f4]
              have o5 : v6.cell? ⟨v5.heap.size + 1, 0, none⟩ = some (.int .i64 0) := by simp [World.cell?, f5]
              have l5 : v6.cell? ⟨v5.heap.size + 1, 1, none⟩ = some (.int .i64 0) := by simp [World.cell?, f5]
              have HBf := hideT (below_next gX5 hb6)
              clear f1 f2 f3 f4 f5 hb6 gX5
              go_wp2
              go_ret
              exact ⟨rfl, HBf.out⟩
end fixed
end Go.Proofs.Ytooanbbnjiogaaa
