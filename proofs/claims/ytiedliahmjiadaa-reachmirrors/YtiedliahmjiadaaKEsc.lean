/- bre: readBracket. -/
import Derived.Test.YtiedliahmjiadaaKTk
import Derived.Test.YtiedliahmjiadaaKTkd
import Derived.Test.YtiedliahmjiadaaKClose
import Derived.Test.YtiedliahmjiadaaKParse
set_option maxRecDepth 100000
set_option maxHeartbeats 1000000
namespace Go.Proofs.Ytiedliahmjiadaa
open Go.RowKit
noncomputable def bracketT (s : ByteArray) (i : Nat) : Tk := if (parseX s i).e ≠ 0 then faultT (parseX s i).e i else ⟨1, i, (parseX s i).next, 0, (parseX s i).q, 0, 0, 0⟩
theorem readBracket_any (s : ByteArray) (hs : s.size ≤ 1073741824) (i : Nat) (w : World) (hg : Glob w) :
  Calls Try.prog 50 #[.string s, .int .i64 (i : Int)] w fun e w' => e = .returned (bracketT s i).v ∧ Below w.heap.size w w' := by
 have hp := fun w hg => parse_any s hs (i : Int) w hg
 have hv : bracketT s i = if (parseX s i).e ≠ 0 then faultT (parseX s i).e i else ⟨1, i, (parseX s i).next, 0, (parseX s i).q, 0, 0, 0⟩ := rfl
 generalize bracketT s i = t at *
 generalize parseX s i = it at *
 obtain ⟨ec, q, bi, eni, nx⟩ := it
 simp only [] at hp hv
 have HP := hideT hp
 have HV := hideT hv
 clear hp hv
 have hz0 := Blk11.new w
 have hB0 : Below w.heap.size w (w.alloc (.cells #[.int .i64 0, .int .i64 0, .int .i64 0, .int .i64 0, .int .u64 0, .int .u64 0, .int .u64 0, .int .u64 0, .int .i64 0, .int .i64 0, .int .i64 0] 70)) := (Below.refl _ _).alloc (Nat.le_refl _) _
 go_enter Try.func50, Try.ntmps50
 go_wp2_with fail
 generalize w.alloc (.cells #[.int .i64 0, .int .i64 0, .int .i64 0, .int .i64 0, .int .u64 0, .int .u64 0, .int .u64 0, .int .u64 0, .int .i64 0, .int .i64 0, .int .i64 0] 70) = W0 at *
 refine (HP.out _ (hg.below hB0 (Nat.le_refl _))).mono ?_
 rintro e' w1 ⟨rfl, hb1⟩
 have hC : Below w1.heap.size w1 (w1.alloc (.cells #[.int .u64 (wd q 0 : Nat), .int .u64 (wd q 1 : Nat), .int .u64 (wd q 2 : Nat), .int .u64 (wd q 3 : Nat)] 45)) := (Below.refl _ _).alloc (Nat.le_refl _) _
 have hz2 := (hz0.below hb1 (Nat.le_refl _)).below hC (Nat.le_refl _)
 have hB1 := hB0.trans (hb1.mono hB0.size)
 have hB2 := hB1.trans (hC.mono hB1.size)
 have hq := holds4_new w1 q 45
 by_cases he : ec = 0
 ·subst he
  have HT := hideT (show t = ⟨1, i, nx, 0, q, 0, 0, 0⟩ by rw [HV.out]; simp)
  obtain ⟨c0, f0⟩ := hz2.cell 0 _ rfl
  obtain ⟨c1, f1⟩ := hz2.cell 1 _ rfl
  obtain ⟨c2, f2⟩ := hz2.cell 2 _ rfl
  obtain ⟨c3, f3⟩ := hz2.cell 3 _ rfl
  obtain ⟨c4, f4⟩ := hz2.cell 4 _ rfl
  obtain ⟨c5, f5⟩ := hz2.cell 5 _ rfl
  obtain ⟨c6, f6⟩ := hz2.cell 6 _ rfl
  obtain ⟨c7, f7⟩ := hz2.cell 7 _ rfl
  obtain ⟨c8, f8⟩ := hz2.cell 8 _ rfl
  obtain ⟨c9, f9⟩ := hz2.cell 9 _ rfl
  obtain ⟨c10, f10⟩ := hz2.cell 10 _ rfl
  obtain ⟨⟨d0, d1, d2, d3⟩, -⟩ := id hq
  go_wp2
  exact bodyPost_ret (v := (Tk.mk 1 i nx 0 q 0 0 0).v) (by simp [results, Try.results50, go_sem, c0, c1, c2, c3, c4, c5, c6, c7, c8, c9, c10]) rfl ⟨by rw [HT.out], below11 hB2 (Nat.le_refl _) _ _ _ _ _ _ _ _ _ _ _⟩
 ·have he' : (ec == 0) = false := by rw [beq_eq_false_iff_ne]; exact he
  have HT := hideT (show t = faultT ec i by rw [HV.out]; simp [he])
  go_wp2_with fail
  refine (faulty_any ec i _).mono ?_
  rintro e' w4 ⟨rfl, hb4⟩
  have hz4 := hz2.below hb4 (Nat.le_refl _)
  obtain ⟨c0, f0⟩ := hz4.cell 0 _ rfl
  obtain ⟨c1, f1⟩ := hz4.cell 1 _ rfl
  obtain ⟨c2, f2⟩ := hz4.cell 2 _ rfl
  obtain ⟨c3, f3⟩ := hz4.cell 3 _ rfl
  obtain ⟨c4, f4⟩ := hz4.cell 4 _ rfl
  obtain ⟨c5, f5⟩ := hz4.cell 5 _ rfl
  obtain ⟨c6, f6⟩ := hz4.cell 6 _ rfl
  obtain ⟨c7, f7⟩ := hz4.cell 7 _ rfl
  obtain ⟨c8, f8⟩ := hz4.cell 8 _ rfl
  obtain ⟨c9, f9⟩ := hz4.cell 9 _ rfl
  obtain ⟨c10, f10⟩ := hz4.cell 10 _ rfl
  go_wp2
  exact bodyPost_ret (v := (faultT ec i).v) (by simp [results, Try.results50, go_sem, c0, c1, c2, c3, c4, c5, c6, c7, c8, c9, c10]) rfl ⟨by rw [HT.out], below11 (hB2.trans (hb4.mono hB2.size)) (Nat.le_refl _) _ _ _ _ _ _ _ _ _ _ _⟩
end Go.Proofs.Ytiedliahmjiadaa
namespace Go.Proofs.Ytiedliahmjiadaa
open Go.RowKit
theorem escape_open (s : ByteArray) (hs : s.size ≤ 1073741824) (i k : Nat) (hi : i + 1 < s.size) (hb : s[i + 1].toNat = 40) (w : World) :
  Calls Try.prog 49 #[.string s, .int .i64 (i : Int), .int .i64 (k : Int)] w fun e w' => e = .returned (Tk.mk 4 i (i + 2) 0 noneP 0 0 0).v ∧ Below w.heap.size w w' := by
 have hz0 := Blk11.new w
 have hB0 : Below w.heap.size w (w.alloc (.cells #[.int .i64 0, .int .i64 0, .int .i64 0, .int .i64 0, .int .u64 0, .int .u64 0, .int .u64 0, .int .u64 0, .int .i64 0, .int .i64 0, .int .i64 0] 70)) := (Below.refl _ _).alloc (Nat.le_refl _) _
 have z0 : wd noneP 0 = 0 := wd_none 0
 have z1 : wd noneP 1 = 0 := wd_none 1
 have z2 : wd noneP 2 = 0 := wd_none 2
 have z3 : wd noneP 3 = 0 := wd_none 3
 have k2 : ¬ (i : Int) + 1 = (s.size : Int) := by omega
 have k3 : (0 : Int) ≤ (i : Int) + 1 := by omega
 have k4 : (i : Int) + 1 < (s.size : Int) := by omega
 have k5 : ((i : Int) + 1).toNat = i + 1 := by omega
 have hbI : (s[i + 1].toNat : Int) = 40 := by omega
 have hBB := hideT hb
 clear hb
 go_enter Try.func49, Try.ntmps49
 go_wp2
 exact bodyPost_ret (v := (Tk.mk 4 i (i + 2) 0 noneP 0 0 0).v) (by simp [results, Try.results49, go_sem, z0, z1, z2, z3]) rfl ⟨rfl, (Below.refl _ _).alloc (Nat.le_refl _) _⟩
theorem escape_close (s : ByteArray) (hs : s.size ≤ 1073741824) (i k : Nat) (hi : i + 1 < s.size) (hb : s[i + 1].toNat = 41) (w : World) :
  Calls Try.prog 49 #[.string s, .int .i64 (i : Int), .int .i64 (k : Int)] w fun e w' => e = .returned (Tk.mk 5 i (i + 2) 0 noneP 0 0 0).v ∧ Below w.heap.size w w' := by
 have hz0 := Blk11.new w
 have hB0 : Below w.heap.size w (w.alloc (.cells #[.int .i64 0, .int .i64 0, .int .i64 0, .int .i64 0, .int .u64 0, .int .u64 0, .int .u64 0, .int .u64 0, .int .i64 0, .int .i64 0, .int .i64 0] 70)) := (Below.refl _ _).alloc (Nat.le_refl _) _
 have z0 : wd noneP 0 = 0 := wd_none 0
 have z1 : wd noneP 1 = 0 := wd_none 1
 have z2 : wd noneP 2 = 0 := wd_none 2
 have z3 : wd noneP 3 = 0 := wd_none 3
 have k2 : ¬ (i : Int) + 1 = (s.size : Int) := by omega
 have k3 : (0 : Int) ≤ (i : Int) + 1 := by omega
 have k4 : (i : Int) + 1 < (s.size : Int) := by omega
 have k5 : ((i : Int) + 1).toNat = i + 1 := by omega
 have hbI : (s[i + 1].toNat : Int) = 41 := by omega
 have hBB := hideT hb
 clear hb
 go_enter Try.func49, Try.ntmps49
 go_wp2
 exact bodyPost_ret (v := (Tk.mk 5 i (i + 2) 0 noneP 0 0 0).v) (by simp [results, Try.results49, go_sem, z0, z1, z2, z3]) rfl ⟨rfl, (Below.refl _ _).alloc (Nat.le_refl _) _⟩
end Go.Proofs.Ytiedliahmjiadaa
namespace Go.Proofs.Ytiedliahmjiadaa
open Go.RowKit
theorem escape_ivl (s : ByteArray) (hs : s.size ≤ 1073741824) (i k : Nat) (hi : i + 1 < s.size) (hb : s[i + 1].toNat = 123) (hk : repB k = true) (w : World) (t : Tk) (hiv : ∀ w', Below w.heap.size w w' → Calls Try.prog 63 #[.string s, .int .i64 (i : Int)] w' fun e w'' => e = .returned t.v ∧ Below w'.heap.size w' w'') :
  Calls Try.prog 49 #[.string s, .int .i64 (i : Int), .int .i64 (k : Int)] w fun e w' => e = .returned t.v ∧ Below w.heap.size w w' := by
 have hz0 := Blk11.new w
 have hB0 : Below w.heap.size w (w.alloc (.cells #[.int .i64 0, .int .i64 0, .int .i64 0, .int .i64 0, .int .u64 0, .int .u64 0, .int .u64 0, .int .u64 0, .int .i64 0, .int .i64 0, .int .i64 0] 70)) := (Below.refl _ _).alloc (Nat.le_refl _) _
 have z0 : wd noneP 0 = 0 := wd_none 0
 have z1 : wd noneP 1 = 0 := wd_none 1
 have z2 : wd noneP 2 = 0 := wd_none 2
 have z3 : wd noneP 3 = 0 := wd_none 3
 have k2 : ¬ (i : Int) + 1 = (s.size : Int) := by omega
 have k3 : (0 : Int) ≤ (i : Int) + 1 := by omega
 have k4 : (i : Int) + 1 < (s.size : Int) := by omega
 have k5 : ((i : Int) + 1).toNat = i + 1 := by omega
 have hbI : (s[i + 1].toNat : Int) = 123 := by omega
 have hBB := hideT hb
 have HIV := hideT hiv
 clear hb hiv
 have hrep := repeatable_any k
 rw [hk] at hrep
 go_enter Try.func49, Try.ntmps49
 go_wp2_with (go_at_call 53; refine (hrep _).mono ?_; rintro e' w' ⟨rfl, hw'⟩; subst hw')
 refine (HIV.out _ hB0).mono ?_
 rintro e' w4 ⟨rfl, hb4⟩
 have hz4 := hz0.below hb4 (Nat.le_refl _)
 obtain ⟨c0, f0⟩ := hz4.cell 0 _ rfl
 obtain ⟨c1, f1⟩ := hz4.cell 1 _ rfl
 obtain ⟨c2, f2⟩ := hz4.cell 2 _ rfl
 obtain ⟨c3, f3⟩ := hz4.cell 3 _ rfl
 obtain ⟨c4, f4⟩ := hz4.cell 4 _ rfl
 obtain ⟨c5, f5⟩ := hz4.cell 5 _ rfl
 obtain ⟨c6, f6⟩ := hz4.cell 6 _ rfl
 obtain ⟨c7, f7⟩ := hz4.cell 7 _ rfl
 obtain ⟨c8, f8⟩ := hz4.cell 8 _ rfl
 obtain ⟨c9, f9⟩ := hz4.cell 9 _ rfl
 obtain ⟨c10, f10⟩ := hz4.cell 10 _ rfl
 go_wp2
 exact bodyPost_ret (v := t.v) (by simp [results, Try.results49, go_sem, c0, c1, c2, c3, c4, c5, c6, c7, c8, c9, c10]) rfl ⟨rfl, below11 (hB0.trans (hb4.mono hB0.size)) (Nat.le_refl _) _ _ _ _ _ _ _ _ _ _ _⟩
end Go.Proofs.Ytiedliahmjiadaa
namespace Go.Proofs.Ytiedliahmjiadaa
open Go.RowKit
theorem escape_brace (s : ByteArray) (hs : s.size ≤ 1073741824) (i k : Nat) (hi : i + 1 < s.size) (hb : s[i + 1].toNat = 123) (hk : repB k = false) (w : World) :
  Calls Try.prog 49 #[.string s, .int .i64 (i : Int), .int .i64 (k : Int)] w fun e w' => e = .returned (faultT 9 i).v ∧ Below w.heap.size w w' := by
 have hz0 := Blk11.new w
 have hB0 : Below w.heap.size w (w.alloc (.cells #[.int .i64 0, .int .i64 0, .int .i64 0, .int .i64 0, .int .u64 0, .int .u64 0, .int .u64 0, .int .u64 0, .int .i64 0, .int .i64 0, .int .i64 0] 70)) := (Below.refl _ _).alloc (Nat.le_refl _) _
 have z0 : wd noneP 0 = 0 := wd_none 0
 have z1 : wd noneP 1 = 0 := wd_none 1
 have z2 : wd noneP 2 = 0 := wd_none 2
 have z3 : wd noneP 3 = 0 := wd_none 3
 have k2 : ¬ (i : Int) + 1 = (s.size : Int) := by omega
 have k3 : (0 : Int) ≤ (i : Int) + 1 := by omega
 have k4 : (i : Int) + 1 < (s.size : Int) := by omega
 have k5 : ((i : Int) + 1).toNat = i + 1 := by omega
 have hbI : (s[i + 1].toNat : Int) = 123 := by omega
 have hBB := hideT hb
 clear hb
 have hrep := repeatable_any k
 rw [hk] at hrep
 go_enter Try.func49, Try.ntmps49
 go_wp2_with (go_at_call 53; refine (hrep _).mono ?_; rintro e' w' ⟨rfl, hw'⟩; subst hw')
 refine (faulty_any 9 i _).mono ?_
 rintro e' w4 ⟨rfl, hb4⟩
 have hz4 := hz0.below hb4 (Nat.le_refl _)
 obtain ⟨c0, f0⟩ := hz4.cell 0 _ rfl
 obtain ⟨c1, f1⟩ := hz4.cell 1 _ rfl
 obtain ⟨c2, f2⟩ := hz4.cell 2 _ rfl
 obtain ⟨c3, f3⟩ := hz4.cell 3 _ rfl
 obtain ⟨c4, f4⟩ := hz4.cell 4 _ rfl
 obtain ⟨c5, f5⟩ := hz4.cell 5 _ rfl
 obtain ⟨c6, f6⟩ := hz4.cell 6 _ rfl
 obtain ⟨c7, f7⟩ := hz4.cell 7 _ rfl
 obtain ⟨c8, f8⟩ := hz4.cell 8 _ rfl
 obtain ⟨c9, f9⟩ := hz4.cell 9 _ rfl
 obtain ⟨c10, f10⟩ := hz4.cell 10 _ rfl
 go_wp2
 exact bodyPost_ret (v := (faultT 9 i).v) (by simp [results, Try.results49, go_sem, c0, c1, c2, c3, c4, c5, c6, c7, c8, c9, c10]) rfl ⟨rfl, below11 (hB0.trans (hb4.mono hB0.size)) (Nat.le_refl _) _ _ _ _ _ _ _ _ _ _ _⟩
theorem escape_shut (s : ByteArray) (hs : s.size ≤ 1073741824) (i k : Nat) (hi : i + 1 < s.size) (hb : s[i + 1].toNat = 125) (w : World) :
  Calls Try.prog 49 #[.string s, .int .i64 (i : Int), .int .i64 (k : Int)] w fun e w' => e = .returned (faultT 9 i).v ∧ Below w.heap.size w w' := by
 have hz0 := Blk11.new w
 have hB0 : Below w.heap.size w (w.alloc (.cells #[.int .i64 0, .int .i64 0, .int .i64 0, .int .i64 0, .int .u64 0, .int .u64 0, .int .u64 0, .int .u64 0, .int .i64 0, .int .i64 0, .int .i64 0] 70)) := (Below.refl _ _).alloc (Nat.le_refl _) _
 have z0 : wd noneP 0 = 0 := wd_none 0
 have z1 : wd noneP 1 = 0 := wd_none 1
 have z2 : wd noneP 2 = 0 := wd_none 2
 have z3 : wd noneP 3 = 0 := wd_none 3
 have k2 : ¬ (i : Int) + 1 = (s.size : Int) := by omega
 have k3 : (0 : Int) ≤ (i : Int) + 1 := by omega
 have k4 : (i : Int) + 1 < (s.size : Int) := by omega
 have k5 : ((i : Int) + 1).toNat = i + 1 := by omega
 have hbI : (s[i + 1].toNat : Int) = 125 := by omega
 have hBB := hideT hb
 clear hb
 go_enter Try.func49, Try.ntmps49
 go_wp2_with fail
 refine (faulty_any 9 i _).mono ?_
 rintro e' w4 ⟨rfl, hb4⟩
 have hz4 := hz0.below hb4 (Nat.le_refl _)
 obtain ⟨c0, f0⟩ := hz4.cell 0 _ rfl
 obtain ⟨c1, f1⟩ := hz4.cell 1 _ rfl
 obtain ⟨c2, f2⟩ := hz4.cell 2 _ rfl
 obtain ⟨c3, f3⟩ := hz4.cell 3 _ rfl
 obtain ⟨c4, f4⟩ := hz4.cell 4 _ rfl
 obtain ⟨c5, f5⟩ := hz4.cell 5 _ rfl
 obtain ⟨c6, f6⟩ := hz4.cell 6 _ rfl
 obtain ⟨c7, f7⟩ := hz4.cell 7 _ rfl
 obtain ⟨c8, f8⟩ := hz4.cell 8 _ rfl
 obtain ⟨c9, f9⟩ := hz4.cell 9 _ rfl
 obtain ⟨c10, f10⟩ := hz4.cell 10 _ rfl
 go_wp2
 exact bodyPost_ret (v := (faultT 9 i).v) (by simp [results, Try.results49, go_sem, c0, c1, c2, c3, c4, c5, c6, c7, c8, c9, c10]) rfl ⟨rfl, below11 (hB0.trans (hb4.mono hB0.size)) (Nat.le_refl _) _ _ _ _ _ _ _ _ _ _ _⟩
end Go.Proofs.Ytiedliahmjiadaa
namespace Go.Proofs.Ytiedliahmjiadaa
open Go.RowKit
theorem escape_n (s : ByteArray) (hs : s.size ≤ 1073741824) (i k : Nat) (hi : i + 1 < s.size) (hb : s[i + 1].toNat = 110) (w : World) :
  Calls Try.prog 49 #[.string s, .int .i64 (i : Int), .int .i64 (k : Int)] w fun e w' => e = .returned (selfT 10 i (i + 2)).v ∧ Below w.heap.size w w' := by
 have hz0 := Blk11.new w
 have hB0 : Below w.heap.size w (w.alloc (.cells #[.int .i64 0, .int .i64 0, .int .i64 0, .int .i64 0, .int .u64 0, .int .u64 0, .int .u64 0, .int .u64 0, .int .i64 0, .int .i64 0, .int .i64 0] 70)) := (Below.refl _ _).alloc (Nat.le_refl _) _
 have z0 : wd noneP 0 = 0 := wd_none 0
 have z1 : wd noneP 1 = 0 := wd_none 1
 have z2 : wd noneP 2 = 0 := wd_none 2
 have z3 : wd noneP 3 = 0 := wd_none 3
 have k2 : ¬ (i : Int) + 1 = (s.size : Int) := by omega
 have k3 : (0 : Int) ≤ (i : Int) + 1 := by omega
 have k4 : (i : Int) + 1 < (s.size : Int) := by omega
 have k5 : ((i : Int) + 1).toNat = i + 1 := by omega
 have hbI : (s[i + 1].toNat : Int) = 110 := by omega
 have hBB := hideT hb
 clear hb
 go_enter Try.func49, Try.ntmps49
 go_wp2_with fail
 refine (itself_any 10 i (i + 2) _).mono ?_
 rintro e' w4 ⟨rfl, hb4⟩
 have hz4 := hz0.below hb4 (Nat.le_refl _)
 obtain ⟨c0, f0⟩ := hz4.cell 0 _ rfl
 obtain ⟨c1, f1⟩ := hz4.cell 1 _ rfl
 obtain ⟨c2, f2⟩ := hz4.cell 2 _ rfl
 obtain ⟨c3, f3⟩ := hz4.cell 3 _ rfl
 obtain ⟨c4, f4⟩ := hz4.cell 4 _ rfl
 obtain ⟨c5, f5⟩ := hz4.cell 5 _ rfl
 obtain ⟨c6, f6⟩ := hz4.cell 6 _ rfl
 obtain ⟨c7, f7⟩ := hz4.cell 7 _ rfl
 obtain ⟨c8, f8⟩ := hz4.cell 8 _ rfl
 obtain ⟨c9, f9⟩ := hz4.cell 9 _ rfl
 obtain ⟨c10, f10⟩ := hz4.cell 10 _ rfl
 go_wp2
 exact bodyPost_ret (v := (selfT 10 i (i + 2)).v) (by simp [results, Try.results49, go_sem, c0, c1, c2, c3, c4, c5, c6, c7, c8, c9, c10]) rfl ⟨rfl, below11 (hB0.trans (hb4.mono hB0.size)) (Nat.le_refl _) _ _ _ _ _ _ _ _ _ _ _⟩
end Go.Proofs.Ytiedliahmjiadaa
namespace Go.Proofs.Ytiedliahmjiadaa
open Go.RowKit
theorem escape_digit (s : ByteArray) (hs : s.size ≤ 1073741824) (i k : Nat) (hi : i + 1 < s.size) (hb : s[i + 1].toNat ≠ 48) (hd : digB (s[i + 1].toNat : Int) = true) (w : World) :
  Calls Try.prog 49 #[.string s, .int .i64 (i : Int), .int .i64 (k : Int)] w fun e w' => e = .returned (Tk.mk 6 i (i + 2) 0 noneP (s[i + 1].toNat - 48) 0 0).v ∧ Below w.heap.size w w' := by
 have hz0 := Blk11.new w
 have hB0 : Below w.heap.size w (w.alloc (.cells #[.int .i64 0, .int .i64 0, .int .i64 0, .int .i64 0, .int .u64 0, .int .u64 0, .int .u64 0, .int .u64 0, .int .i64 0, .int .i64 0, .int .i64 0] 70)) := (Below.refl _ _).alloc (Nat.le_refl _) _
 have z0 : wd noneP 0 = 0 := wd_none 0
 have z1 : wd noneP 1 = 0 := wd_none 1
 have z2 : wd noneP 2 = 0 := wd_none 2
 have z3 : wd noneP 3 = 0 := wd_none 3
 have k2 : ¬ (i : Int) + 1 = (s.size : Int) := by omega
 have k3 : (0 : Int) ≤ (i : Int) + 1 := by omega
 have k4 : (i : Int) + 1 < (s.size : Int) := by omega
 have k5 : ((i : Int) + 1).toNat = i + 1 := by omega
 have hb1 : 49 ≤ s[i + 1].toNat ∧ s[i + 1].toNat ≤ 57 := by simp [digB] at hd; omega
 have n40 : ((s[i + 1].toNat : Int) == 40) = false := by rw [beq_eq_false_iff_ne]; omega
 have n41 : ((s[i + 1].toNat : Int) == 41) = false := by rw [beq_eq_false_iff_ne]; omega
 have n123 : ((s[i + 1].toNat : Int) == 123) = false := by rw [beq_eq_false_iff_ne]; omega
 have n125 : ((s[i + 1].toNat : Int) == 125) = false := by rw [beq_eq_false_iff_ne]; omega
 have n110 : ((s[i + 1].toNat : Int) == 110) = false := by rw [beq_eq_false_iff_ne]; omega
 have n48 : ((s[i + 1].toNat : Int) != 48) = true := by rw [bne_iff_ne]; omega
 have hdig := isDigit_any (s[i + 1].toNat : Int)
 rw [hd] at hdig
 have m1 : IntKind.u8.wrap ((s[i + 1].toNat : Int) - 48) = ((s[i + 1].toNat - 48 : Nat) : Int) := by rw [IntKind.wrap_u8]; omega
 have m2 : IntKind.i64.wrap ((s[i + 1].toNat - 48 : Nat) : Int) = ((s[i + 1].toNat - 48 : Nat) : Int) := by rw [IntKind.wrap_i64]; omega
 have hBB := hideT (And.intro hb (And.intro hd hb1))
 clear hb hd hb1
 go_enter Try.func49, Try.ntmps49
 go_wp2_with (go_at_call 64; refine (hdig _).mono ?_; rintro e' w' ⟨rfl, hw'⟩; subst hw')
 exact bodyPost_ret (v := (Tk.mk 6 i (i + 2) 0 noneP (s[i + 1].toNat - 48) 0 0).v) (by simp [results, Try.results49, go_sem, z0, z1, z2, z3]) rfl ⟨rfl, (Below.refl _ _).alloc (Nat.le_refl _) _⟩
end Go.Proofs.Ytiedliahmjiadaa
namespace Go.Proofs.Ytiedliahmjiadaa
open Go.RowKit
theorem escape_zero (s : ByteArray) (hs : s.size ≤ 1073741824) (i k : Nat) (hi : i + 1 < s.size) (hb : s[i + 1].toNat = 48) (w : World) :
  Calls Try.prog 49 #[.string s, .int .i64 (i : Int), .int .i64 (k : Int)] w fun e w' => e = .returned (faultT 12 i).v ∧ Below w.heap.size w w' := by
 have hz0 := Blk11.new w
 have hB0 : Below w.heap.size w (w.alloc (.cells #[.int .i64 0, .int .i64 0, .int .i64 0, .int .i64 0, .int .u64 0, .int .u64 0, .int .u64 0, .int .u64 0, .int .i64 0, .int .i64 0, .int .i64 0] 70)) := (Below.refl _ _).alloc (Nat.le_refl _) _
 have z0 : wd noneP 0 = 0 := wd_none 0
 have z1 : wd noneP 1 = 0 := wd_none 1
 have z2 : wd noneP 2 = 0 := wd_none 2
 have z3 : wd noneP 3 = 0 := wd_none 3
 have k2 : ¬ (i : Int) + 1 = (s.size : Int) := by omega
 have k3 : (0 : Int) ≤ (i : Int) + 1 := by omega
 have k4 : (i : Int) + 1 < (s.size : Int) := by omega
 have k5 : ((i : Int) + 1).toNat = i + 1 := by omega
 have hbI : (s[i + 1].toNat : Int) = 48 := by omega
 have hdig := isDigit_any 48
 have hBB := hideT hb
 clear hb
 go_enter Try.func49, Try.ntmps49
 go_wp2_with (go_at_call 64; refine (hdig _).mono ?_; rintro e' w' ⟨rfl, hw'⟩; subst hw')
 refine (faulty_any 12 i _).mono ?_
 rintro e' w4 ⟨rfl, hb4⟩
 have hz4 := hz0.below hb4 (Nat.le_refl _)
 obtain ⟨c0, f0⟩ := hz4.cell 0 _ rfl
 obtain ⟨c1, f1⟩ := hz4.cell 1 _ rfl
 obtain ⟨c2, f2⟩ := hz4.cell 2 _ rfl
 obtain ⟨c3, f3⟩ := hz4.cell 3 _ rfl
 obtain ⟨c4, f4⟩ := hz4.cell 4 _ rfl
 obtain ⟨c5, f5⟩ := hz4.cell 5 _ rfl
 obtain ⟨c6, f6⟩ := hz4.cell 6 _ rfl
 obtain ⟨c7, f7⟩ := hz4.cell 7 _ rfl
 obtain ⟨c8, f8⟩ := hz4.cell 8 _ rfl
 obtain ⟨c9, f9⟩ := hz4.cell 9 _ rfl
 obtain ⟨c10, f10⟩ := hz4.cell 10 _ rfl
 go_wp2
 exact bodyPost_ret (v := (faultT 12 i).v) (by simp [results, Try.results49, go_sem, c0, c1, c2, c3, c4, c5, c6, c7, c8, c9, c10]) rfl ⟨rfl, below11 (hB0.trans (hb4.mono hB0.size)) (Nat.le_refl _) _ _ _ _ _ _ _ _ _ _ _⟩
end Go.Proofs.Ytiedliahmjiadaa
namespace Go.Proofs.Ytiedliahmjiadaa
open Go.RowKit
theorem escape_letter (s : ByteArray) (hs : s.size ≤ 1073741824) (i k : Nat) (hi : i + 1 < s.size) (hb : s[i + 1].toNat ≠ 110) (hl : letB (s[i + 1].toNat : Int) = true) (w : World) :
  Calls Try.prog 49 #[.string s, .int .i64 (i : Int), .int .i64 (k : Int)] w fun e w' => e = .returned (faultT 12 i).v ∧ Below w.heap.size w w' := by
 have hz0 := Blk11.new w
 have hB0 : Below w.heap.size w (w.alloc (.cells #[.int .i64 0, .int .i64 0, .int .i64 0, .int .i64 0, .int .u64 0, .int .u64 0, .int .u64 0, .int .u64 0, .int .i64 0, .int .i64 0, .int .i64 0] 70)) := (Below.refl _ _).alloc (Nat.le_refl _) _
 have z0 : wd noneP 0 = 0 := wd_none 0
 have z1 : wd noneP 1 = 0 := wd_none 1
 have z2 : wd noneP 2 = 0 := wd_none 2
 have z3 : wd noneP 3 = 0 := wd_none 3
 have k2 : ¬ (i : Int) + 1 = (s.size : Int) := by omega
 have k3 : (0 : Int) ≤ (i : Int) + 1 := by omega
 have k4 : (i : Int) + 1 < (s.size : Int) := by omega
 have k5 : ((i : Int) + 1).toNat = i + 1 := by omega
 have hb1 : (97 ≤ s[i + 1].toNat ∧ s[i + 1].toNat ≤ 122) ∨ (65 ≤ s[i + 1].toNat ∧ s[i + 1].toNat ≤ 90) := by simp [letB] at hl; omega
 have n40 : ((s[i + 1].toNat : Int) == 40) = false := by rw [beq_eq_false_iff_ne]; omega
 have n41 : ((s[i + 1].toNat : Int) == 41) = false := by rw [beq_eq_false_iff_ne]; omega
 have n123 : ((s[i + 1].toNat : Int) == 123) = false := by rw [beq_eq_false_iff_ne]; omega
 have n125 : ((s[i + 1].toNat : Int) == 125) = false := by rw [beq_eq_false_iff_ne]; omega
 have n110 : ((s[i + 1].toNat : Int) == 110) = false := by rw [beq_eq_false_iff_ne]; omega
 have n48 : ((s[i + 1].toNat : Int) != 48) = true := by rw [bne_iff_ne]; omega
 have hd : digB (s[i + 1].toNat : Int) = false := by simp [digB]; omega
 have hdig := isDigit_any (s[i + 1].toNat : Int)
 rw [hd] at hdig
 have hlet := isLetter_any (s[i + 1].toNat : Int)
 rw [hl] at hlet
 have hBB := hideT (And.intro hb (And.intro hl (And.intro hd hb1)))
 clear hb hl hd hb1
 go_enter Try.func49, Try.ntmps49
 go_wp2_with (first | (go_at_call 64; refine (hdig _).mono ?_; rintro e' w' ⟨rfl, hw'⟩; subst hw') | (go_at_call 65; refine (hlet _).mono ?_; rintro e' w' ⟨rfl, hw'⟩; subst hw'))
 refine (faulty_any 12 i _).mono ?_
 rintro e' w4 ⟨rfl, hb4⟩
 have hz4 := hz0.below hb4 (Nat.le_refl _)
 obtain ⟨c0, f0⟩ := hz4.cell 0 _ rfl
 obtain ⟨c1, f1⟩ := hz4.cell 1 _ rfl
 obtain ⟨c2, f2⟩ := hz4.cell 2 _ rfl
 obtain ⟨c3, f3⟩ := hz4.cell 3 _ rfl
 obtain ⟨c4, f4⟩ := hz4.cell 4 _ rfl
 obtain ⟨c5, f5⟩ := hz4.cell 5 _ rfl
 obtain ⟨c6, f6⟩ := hz4.cell 6 _ rfl
 obtain ⟨c7, f7⟩ := hz4.cell 7 _ rfl
 obtain ⟨c8, f8⟩ := hz4.cell 8 _ rfl
 obtain ⟨c9, f9⟩ := hz4.cell 9 _ rfl
 obtain ⟨c10, f10⟩ := hz4.cell 10 _ rfl
 go_wp2
 exact bodyPost_ret (v := (faultT 12 i).v) (by simp [results, Try.results49, go_sem, c0, c1, c2, c3, c4, c5, c6, c7, c8, c9, c10]) rfl ⟨rfl, below11 (hB0.trans (hb4.mono hB0.size)) (Nat.le_refl _) _ _ _ _ _ _ _ _ _ _ _⟩
end Go.Proofs.Ytiedliahmjiadaa
namespace Go.Proofs.Ytiedliahmjiadaa
open Go.RowKit
theorem escape_other (s : ByteArray) (hs : s.size ≤ 1073741824) (i k : Nat) (hi : i + 1 < s.size) (hb : s[i + 1].toNat ≠ 40 ∧ s[i + 1].toNat ≠ 41 ∧ s[i + 1].toNat ≠ 123 ∧ s[i + 1].toNat ≠ 125) (hd : digB (s[i + 1].toNat : Int) = false) (hl : letB (s[i + 1].toNat : Int) = false) (w : World) :
  Calls Try.prog 49 #[.string s, .int .i64 (i : Int), .int .i64 (k : Int)] w fun e w' => e = .returned (selfT s[i + 1].toNat i (i + 2)).v ∧ Below w.heap.size w w' := by
 have hz0 := Blk11.new w
 have hB0 : Below w.heap.size w (w.alloc (.cells #[.int .i64 0, .int .i64 0, .int .i64 0, .int .i64 0, .int .u64 0, .int .u64 0, .int .u64 0, .int .u64 0, .int .i64 0, .int .i64 0, .int .i64 0] 70)) := (Below.refl _ _).alloc (Nat.le_refl _) _
 have z0 : wd noneP 0 = 0 := wd_none 0
 have z1 : wd noneP 1 = 0 := wd_none 1
 have z2 : wd noneP 2 = 0 := wd_none 2
 have z3 : wd noneP 3 = 0 := wd_none 3
 have k2 : ¬ (i : Int) + 1 = (s.size : Int) := by omega
 have k3 : (0 : Int) ≤ (i : Int) + 1 := by omega
 have k4 : (i : Int) + 1 < (s.size : Int) := by omega
 have k5 : ((i : Int) + 1).toNat = i + 1 := by omega
 have hb1 : s[i + 1].toNat ≠ 110 ∧ s[i + 1].toNat ≠ 48 := by constructor <;> (intro h; rw [h] at hd hl; revert hd hl; decide)
 have n40 : ((s[i + 1].toNat : Int) == 40) = false := by rw [beq_eq_false_iff_ne]; omega
 have n41 : ((s[i + 1].toNat : Int) == 41) = false := by rw [beq_eq_false_iff_ne]; omega
 have n123 : ((s[i + 1].toNat : Int) == 123) = false := by rw [beq_eq_false_iff_ne]; omega
 have n125 : ((s[i + 1].toNat : Int) == 125) = false := by rw [beq_eq_false_iff_ne]; omega
 have n110 : ((s[i + 1].toNat : Int) == 110) = false := by rw [beq_eq_false_iff_ne]; omega
 have n48 : ((s[i + 1].toNat : Int) != 48) = true := by rw [bne_iff_ne]; omega
 have hdig := isDigit_any (s[i + 1].toNat : Int)
 rw [hd] at hdig
 have hlet := isLetter_any (s[i + 1].toNat : Int)
 rw [hl] at hlet
 have hBB := hideT (And.intro hb (And.intro hl (And.intro hd hb1)))
 clear hb hl hd hb1
 go_enter Try.func49, Try.ntmps49
 go_wp2_with (first | (go_at_call 64; refine (hdig _).mono ?_; rintro e' w' ⟨rfl, hw'⟩; subst hw') | (go_at_call 65; refine (hlet _).mono ?_; rintro e' w' ⟨rfl, hw'⟩; subst hw'))
 refine (itself_any s[i + 1].toNat i (i + 2) _).mono ?_
 rintro e' w4 ⟨rfl, hb4⟩
 have hz4 := hz0.below hb4 (Nat.le_refl _)
 obtain ⟨c0, f0⟩ := hz4.cell 0 _ rfl
 obtain ⟨c1, f1⟩ := hz4.cell 1 _ rfl
 obtain ⟨c2, f2⟩ := hz4.cell 2 _ rfl
 obtain ⟨c3, f3⟩ := hz4.cell 3 _ rfl
 obtain ⟨c4, f4⟩ := hz4.cell 4 _ rfl
 obtain ⟨c5, f5⟩ := hz4.cell 5 _ rfl
 obtain ⟨c6, f6⟩ := hz4.cell 6 _ rfl
 obtain ⟨c7, f7⟩ := hz4.cell 7 _ rfl
 obtain ⟨c8, f8⟩ := hz4.cell 8 _ rfl
 obtain ⟨c9, f9⟩ := hz4.cell 9 _ rfl
 obtain ⟨c10, f10⟩ := hz4.cell 10 _ rfl
 go_wp2
 exact bodyPost_ret (v := (selfT s[i + 1].toNat i (i + 2)).v) (by simp [results, Try.results49, go_sem, c0, c1, c2, c3, c4, c5, c6, c7, c8, c9, c10]) rfl ⟨rfl, below11 (hB0.trans (hb4.mono hB0.size)) (Nat.le_refl _) _ _ _ _ _ _ _ _ _ _ _⟩
end Go.Proofs.Ytiedliahmjiadaa
namespace Go.Proofs.Ytiedliahmjiadaa
open Go.RowKit
def escB (i k b : Nat) (iv : Tk) : Tk :=
 if b = 40 then ⟨4, i, i + 2, 0, noneP, 0, 0, 0⟩ else if b = 41 then ⟨5, i, i + 2, 0, noneP, 0, 0, 0⟩ else if b = 123 ∧ repB k = true then iv else if b = 123 ∨ b = 125 then faultT 9 i else if b = 110 then selfT 10 i (i + 2)
 else if b ≠ 48 ∧ digB b = true then ⟨6, i, i + 2, 0, noneP, b - 48, 0, 0⟩ else if digB b = true ∨ letB b = true then faultT 12 i else selfT b i (i + 2)
def escapeT (s : ByteArray) (i k : Nat) : Tk := if i + 1 = s.size then faultT 6 i else escB i k (byteAt s (i + 1)).toNat (intervalT s i)
theorem escape_end (s : ByteArray) (hs : s.size ≤ 1073741824) (i k : Nat) (hi : i + 1 = s.size) (w : World) :
  Calls Try.prog 49 #[.string s, .int .i64 (i : Int), .int .i64 (k : Int)] w fun e w' => e = .returned (faultT 6 i).v ∧ Below w.heap.size w w' := by
 have hz0 := Blk11.new w
 have hB0 : Below w.heap.size w (w.alloc (.cells #[.int .i64 0, .int .i64 0, .int .i64 0, .int .i64 0, .int .u64 0, .int .u64 0, .int .u64 0, .int .u64 0, .int .i64 0, .int .i64 0, .int .i64 0] 70)) := (Below.refl _ _).alloc (Nat.le_refl _) _
 have k1 : IntKind.i64.wrap ((i : Int) + 1) = (s.size : Int) := by rw [IntKind.wrap_i64]; omega
 have k2 : (i : Int) + 1 = (s.size : Int) := by omega
 have HI := hideT hi
 clear hi
 go_enter Try.func49, Try.ntmps49
 go_wp2_with fail
 refine (faulty_any 6 i _).mono ?_
 rintro e' w4 ⟨rfl, hb4⟩
 have hz4 := hz0.below hb4 (Nat.le_refl _)
 obtain ⟨c0, f0⟩ := hz4.cell 0 _ rfl
 obtain ⟨c1, f1⟩ := hz4.cell 1 _ rfl
 obtain ⟨c2, f2⟩ := hz4.cell 2 _ rfl
 obtain ⟨c3, f3⟩ := hz4.cell 3 _ rfl
 obtain ⟨c4, f4⟩ := hz4.cell 4 _ rfl
 obtain ⟨c5, f5⟩ := hz4.cell 5 _ rfl
 obtain ⟨c6, f6⟩ := hz4.cell 6 _ rfl
 obtain ⟨c7, f7⟩ := hz4.cell 7 _ rfl
 obtain ⟨c8, f8⟩ := hz4.cell 8 _ rfl
 obtain ⟨c9, f9⟩ := hz4.cell 9 _ rfl
 obtain ⟨c10, f10⟩ := hz4.cell 10 _ rfl
 go_wp2
 exact bodyPost_ret (v := (faultT 6 i).v) (by simp [results, Try.results49, go_sem, c0, c1, c2, c3, c4, c5, c6, c7, c8, c9, c10]) rfl ⟨rfl, below11 (hB0.trans (hb4.mono hB0.size)) (Nat.le_refl _) _ _ _ _ _ _ _ _ _ _ _⟩
theorem readEscape_any (s : ByteArray) (hs : s.size ≤ 1073741824) (i k : Nat) (hi : i < s.size) (w : World) (hg : Glob w) :
  Calls Try.prog 49 #[.string s, .int .i64 (i : Int), .int .i64 (k : Int)] w fun e w' => e = .returned (escapeT s i k).v ∧ Below w.heap.size w w' := by
 unfold escapeT
 by_cases h1 : i + 1 = s.size
 ·rw [if_pos h1]
  exact escape_end s hs i k h1 w
 ·have hlt : i + 1 < s.size := by omega
  rw [if_neg h1, byteAt_in hlt, Int.toNat_natCast]
  unfold escB
  by_cases b40 : s[i + 1].toNat = 40
  ·rw [if_pos b40]; exact escape_open s hs i k hlt b40 w
  rw [if_neg b40]
  by_cases b41 : s[i + 1].toNat = 41
  ·rw [if_pos b41]; exact escape_close s hs i k hlt b41 w
  rw [if_neg b41]
  by_cases b123 : s[i + 1].toNat = 123
  ·cases hk : repB k
   ·rw [if_neg (by simp), if_pos (.inl b123)]
    exact escape_brace s hs i k hlt b123 hk w
   ·rw [if_pos ⟨b123, rfl⟩]
    exact escape_ivl s hs i k hlt b123 hk w _ (fun w' hb => readInterval_any s hs i (by omega) w' (hg.below hb (Nat.le_refl _)))
  rw [if_neg (fun h => b123 h.1)]
  by_cases b125 : s[i + 1].toNat = 125
  ·rw [if_pos (.inr b125)]; exact escape_shut s hs i k hlt b125 w
  rw [if_neg (by rintro (h | h); exact b123 h; exact b125 h)]
  by_cases b110 : s[i + 1].toNat = 110
  ·rw [if_pos b110]; exact escape_n s hs i k hlt b110 w
  rw [if_neg b110]
  by_cases b48 : s[i + 1].toNat = 48
  ·rw [if_neg (fun h => h.1 b48), if_pos (.inl (by rw [b48]; decide))]
   exact escape_zero s hs i k hlt b48 w
  cases hd : digB (s[i + 1].toNat : Int)
  ·rw [if_neg (fun h => by cases h.2)]
   cases hl : letB (s[i + 1].toNat : Int)
   ·rw [if_neg (by simp)]
    exact escape_other s hs i k hlt ⟨b40, b41, b123, b125⟩ hd hl w
   ·rw [if_pos (.inr rfl)]
    exact escape_letter s hs i k hlt b110 hl w
  ·rw [if_pos ⟨b48, rfl⟩]
   exact escape_digit s hs i k hlt b48 hd w
end Go.Proofs.Ytiedliahmjiadaa
