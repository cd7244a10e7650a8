/- bre: readBracket. -/
import Derived.Test.YtgpciekpmdihnaaKTk
import Derived.Test.YtgpciekpmdihnaaKParse
namespace Go.Proofs.Ytgpciekpmdihnaa
open Go.RowKit
noncomputable def bracketT (s : ByteArray) (i : Nat) : Tk := if (parseX s i).e ≠ 0 then faultT (parseX s i).e i else ⟨1, i, (parseX s i).next, 0, (parseX s i).q, 0, 0, 0⟩
set_option maxRecDepth 100000 in
set_option maxHeartbeats 1000000 in
theorem readBracket_any (s : ByteArray) (hs : s.size ≤ 1073741824) (i : Nat) (w : World) (hg : Glob w) :
    Calls Try.prog 42 #[.string s, .int .i64 (i : Int)] w fun e w' => e = .returned (bracketT s i).v ∧ Below w.heap.size w w' := by
  have hp := fun w hg => parse_any s hs (i : Int) w hg
  have hv : bracketT s i = if (parseX s i).e ≠ 0 then faultT (parseX s i).e i else ⟨1, i, (parseX s i).next, 0, (parseX s i).q, 0, 0, 0⟩ := rfl
  generalize bracketT s i = t at *
  generalize parseX s i = it at *
  obtain ⟨ec, q, bi, eni, nx⟩ := it
  simp only [] at hp hv
  have HP := hideT hp
  have HV := hideT hv
  clear hp hv
  have hz0 := Blk11.new w
  have hB0 : Below w.heap.size w (w.alloc (.cells #[.int .i64 0, .int .i64 0, .int .i64 0, .int .i64 0, .int .u64 0, .int .u64 0, .int .u64 0, .int .u64 0, .int .i64 0, .int .i64 0, .int .i64 0] 60)) := (Below.refl _ _).alloc (Nat.le_refl _) _
  go_enter Try.func42, Try.ntmps42
  go_wp2_with fail
  generalize w.alloc (.cells #[.int .i64 0, .int .i64 0, .int .i64 0, .int .i64 0, .int .u64 0, .int .u64 0, .int .u64 0, .int .u64 0, .int .i64 0, .int .i64 0, .int .i64 0] 60) = W0 at *
  refine (HP.out _ (hg.below hB0 (Nat.le_refl _))).mono ?_
  rintro e' w1 ⟨rfl, hb1⟩
  have hC : Below w1.heap.size w1 (w1.alloc (.cells #[.int .u64 (wd q 0 : Nat), .int .u64 (wd q 1 : Nat), .int .u64 (wd q 2 : Nat), .int .u64 (wd q 3 : Nat)] 24)) := (Below.refl _ _).alloc (Nat.le_refl _) _
  have hz2 := (hz0.below hb1 (Nat.le_refl _)).below hC (Nat.le_refl _)
  have hB1 := hB0.trans (hb1.mono hB0.size)
  have hB2 := hB1.trans (hC.mono hB1.size)
  have hq := holds4_new w1 q 24
  by_cases he : ec = 0
  · subst he
    have HT := hideT (show t = ⟨1, i, nx, 0, q, 0, 0, 0⟩ by rw [HV.out]; simp)
    obtain ⟨c0, f0⟩ := hz2.cell 0 _ rfl
    obtain ⟨c1, f1⟩ := hz2.cell 1 _ rfl
    obtain ⟨c2, f2⟩ := hz2.cell 2 _ rfl
    obtain ⟨c3, f3⟩ := hz2.cell 3 _ rfl
    obtain ⟨c4, f4⟩ := hz2.cell 4 _ rfl
    obtain ⟨c5, f5⟩ := hz2.cell 5 _ rfl
    obtain ⟨c6, f6⟩ := hz2.cell 6 _ rfl
    obtain ⟨c7, f7⟩ := hz2.cell 7 _ rfl
    obtain ⟨c8, f8⟩ := hz2.cell 8 _ rfl
    obtain ⟨c9, f9⟩ := hz2.cell 9 _ rfl
    obtain ⟨c10, f10⟩ := hz2.cell 10 _ rfl
    obtain ⟨⟨d0, d1, d2, d3⟩, -⟩ := id hq
    go_wp2
    exact bodyPost_ret (v := (Tk.mk 1 i nx 0 q 0 0 0).v) (by simp [results, Try.results42, go_sem, c0, c1, c2, c3, c4, c5, c6, c7, c8, c9, c10]) rfl ⟨by rw [HT.out], below11 hB2 (Nat.le_refl _) _ _ _ _ _ _ _ _ _ _ _⟩
  · have he' : (ec == 0) = false := by rw [beq_eq_false_iff_ne]; exact he
    have HT := hideT (show t = faultT ec i by rw [HV.out]; simp [he])
    go_wp2_with fail
    refine (faulty_any ec i _).mono ?_
    rintro e' w4 ⟨rfl, hb4⟩
    have hz4 := hz2.below hb4 (Nat.le_refl _)
    obtain ⟨c0, f0⟩ := hz4.cell 0 _ rfl
    obtain ⟨c1, f1⟩ := hz4.cell 1 _ rfl
    obtain ⟨c2, f2⟩ := hz4.cell 2 _ rfl
    obtain ⟨c3, f3⟩ := hz4.cell 3 _ rfl
    obtain ⟨c4, f4⟩ := hz4.cell 4 _ rfl
    obtain ⟨c5, f5⟩ := hz4.cell 5 _ rfl
    obtain ⟨c6, f6⟩ := hz4.cell 6 _ rfl
    obtain ⟨c7, f7⟩ := hz4.cell 7 _ rfl
    obtain ⟨c8, f8⟩ := hz4.cell 8 _ rfl
    obtain ⟨c9, f9⟩ := hz4.cell 9 _ rfl
    obtain ⟨c10, f10⟩ := hz4.cell 10 _ rfl
    go_wp2
    exact bodyPost_ret (v := (faultT ec i).v) (by simp [results, Try.results42, go_sem, c0, c1, c2, c3, c4, c5, c6, c7, c8, c9, c10]) rfl ⟨by rw [HT.out], below11 (hB2.trans (hb4.mono hB2.size)) (Nat.le_refl _) _ _ _ _ _ _ _ _ _ _ _⟩
end Go.Proofs.Ytgpciekpmdihnaa
