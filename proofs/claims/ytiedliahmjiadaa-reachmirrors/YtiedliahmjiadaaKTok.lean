/- bre: readToken, a. -/
import Derived.Test.YtiedliahmjiadaaKTk
import Derived.Test.YtiedliahmjiadaaKTkd
import Derived.Test.YtiedliahmjiadaaKClose
import Derived.Test.YtiedliahmjiadaaKEsc
set_option maxRecDepth 100000
set_option maxHeartbeats 1000000
namespace Go.Proofs.Ytiedliahmjiadaa
open Go.RowKit
theorem token_escape (s : ByteArray) (hs : s.size ≤ 1073741824) (i k : Nat) (hi : i < s.size) (hb : s[i].toNat = 92) (t : Tk) (w : World) (hc : ∀ w', Below w.heap.size w w' → Calls Try.prog 49 #[.string s, .int .i64 (i : Int), .int .i64 (k : Int)] w' fun e w'' => e = .returned t.v ∧ Below w'.heap.size w' w'') :
  Calls Try.prog 37 #[.string s, .int .i64 (i : Int), .int .i64 (k : Int)] w fun e w' => e = .returned t.v ∧ Below w.heap.size w w' := by
 have hz0 := Blk11.new w
 have hB0 : Below w.heap.size w (w.alloc (.cells #[.int .i64 0, .int .i64 0, .int .i64 0, .int .i64 0, .int .u64 0, .int .u64 0, .int .u64 0, .int .u64 0, .int .i64 0, .int .i64 0, .int .i64 0] 70)) := (Below.refl _ _).alloc (Nat.le_refl _) _
 have z0 : wd noneP 0 = 0 := wd_none 0
 have z1 : wd noneP 1 = 0 := wd_none 1
 have z2 : wd noneP 2 = 0 := wd_none 2
 have z3 : wd noneP 3 = 0 := wd_none 3
 have k3 : (0 : Int) ≤ (i : Int) := by omega
 have k4 : (i : Int) < (s.size : Int) := by omega
 have hbI : (s[i].toNat : Int) = 92 := by omega
 have hBB := hideT hb
 clear hb
 have HC := hideT hc
 clear hc
 go_enter Try.func37, Try.ntmps37
 go_wp2_with fail
 refine (HC.out _ hB0).mono ?_
 rintro e' w4 ⟨rfl, hb4⟩
 have hz4 := hz0.below hb4 (Nat.le_refl _)
 obtain ⟨c0, f0⟩ := hz4.cell 0 _ rfl
 obtain ⟨c1, f1⟩ := hz4.cell 1 _ rfl
 obtain ⟨c2, f2⟩ := hz4.cell 2 _ rfl
 obtain ⟨c3, f3⟩ := hz4.cell 3 _ rfl
 obtain ⟨c4, f4⟩ := hz4.cell 4 _ rfl
 obtain ⟨c5, f5⟩ := hz4.cell 5 _ rfl
 obtain ⟨c6, f6⟩ := hz4.cell 6 _ rfl
 obtain ⟨c7, f7⟩ := hz4.cell 7 _ rfl
 obtain ⟨c8, f8⟩ := hz4.cell 8 _ rfl
 obtain ⟨c9, f9⟩ := hz4.cell 9 _ rfl
 obtain ⟨c10, f10⟩ := hz4.cell 10 _ rfl
 go_wp2
 exact bodyPost_ret (v := t.v) (by simp [results, Try.results37, go_sem, c0, c1, c2, c3, c4, c5, c6, c7, c8, c9, c10]) rfl ⟨rfl, below11 (hB0.trans (hb4.mono hB0.size)) (Nat.le_refl _) _ _ _ _ _ _ _ _ _ _ _⟩
theorem token_bracket (s : ByteArray) (hs : s.size ≤ 1073741824) (i k : Nat) (hi : i < s.size) (hb : s[i].toNat = 91) (t : Tk) (w : World) (hc : ∀ w', Below w.heap.size w w' → Calls Try.prog 50 #[.string s, .int .i64 (i : Int)] w' fun e w'' => e = .returned t.v ∧ Below w'.heap.size w' w'') :
  Calls Try.prog 37 #[.string s, .int .i64 (i : Int), .int .i64 (k : Int)] w fun e w' => e = .returned t.v ∧ Below w.heap.size w w' := by
 have hz0 := Blk11.new w
 have hB0 : Below w.heap.size w (w.alloc (.cells #[.int .i64 0, .int .i64 0, .int .i64 0, .int .i64 0, .int .u64 0, .int .u64 0, .int .u64 0, .int .u64 0, .int .i64 0, .int .i64 0, .int .i64 0] 70)) := (Below.refl _ _).alloc (Nat.le_refl _) _
 have z0 : wd noneP 0 = 0 := wd_none 0
 have z1 : wd noneP 1 = 0 := wd_none 1
 have z2 : wd noneP 2 = 0 := wd_none 2
 have z3 : wd noneP 3 = 0 := wd_none 3
 have k3 : (0 : Int) ≤ (i : Int) := by omega
 have k4 : (i : Int) < (s.size : Int) := by omega
 have hbI : (s[i].toNat : Int) = 91 := by omega
 have hBB := hideT hb
 clear hb
 have HC := hideT hc
 clear hc
 go_enter Try.func37, Try.ntmps37
 go_wp2_with fail
 refine (HC.out _ hB0).mono ?_
 rintro e' w4 ⟨rfl, hb4⟩
 have hz4 := hz0.below hb4 (Nat.le_refl _)
 obtain ⟨c0, f0⟩ := hz4.cell 0 _ rfl
 obtain ⟨c1, f1⟩ := hz4.cell 1 _ rfl
 obtain ⟨c2, f2⟩ := hz4.cell 2 _ rfl
 obtain ⟨c3, f3⟩ := hz4.cell 3 _ rfl
 obtain ⟨c4, f4⟩ := hz4.cell 4 _ rfl
 obtain ⟨c5, f5⟩ := hz4.cell 5 _ rfl
 obtain ⟨c6, f6⟩ := hz4.cell 6 _ rfl
 obtain ⟨c7, f7⟩ := hz4.cell 7 _ rfl
 obtain ⟨c8, f8⟩ := hz4.cell 8 _ rfl
 obtain ⟨c9, f9⟩ := hz4.cell 9 _ rfl
 obtain ⟨c10, f10⟩ := hz4.cell 10 _ rfl
 go_wp2
 exact bodyPost_ret (v := t.v) (by simp [results, Try.results37, go_sem, c0, c1, c2, c3, c4, c5, c6, c7, c8, c9, c10]) rfl ⟨rfl, below11 (hB0.trans (hb4.mono hB0.size)) (Nat.le_refl _) _ _ _ _ _ _ _ _ _ _ _⟩
end Go.Proofs.Ytiedliahmjiadaa
namespace Go.Proofs.Ytiedliahmjiadaa
open Go.RowKit
theorem token_dot (s : ByteArray) (hs : s.size ≤ 1073741824) (i k : Nat) (hi : i < s.size) (hb : s[i].toNat = 46) (w : World) :
  Calls Try.prog 37 #[.string s, .int .i64 (i : Int), .int .i64 (k : Int)] w fun e w' => e = .returned (Tk.mk 1 i (i + 1) 0 (notP noneP) 0 0 0).v ∧ Below w.heap.size w w' := by
 have hz0 := Blk11.new w
 have hB0 : Below w.heap.size w (w.alloc (.cells #[.int .i64 0, .int .i64 0, .int .i64 0, .int .i64 0, .int .u64 0, .int .u64 0, .int .u64 0, .int .u64 0, .int .i64 0, .int .i64 0, .int .i64 0] 70)) := (Below.refl _ _).alloc (Nat.le_refl _) _
 have z0 : wd noneP 0 = 0 := wd_none 0
 have z1 : wd noneP 1 = 0 := wd_none 1
 have z2 : wd noneP 2 = 0 := wd_none 2
 have z3 : wd noneP 3 = 0 := wd_none 3
 have k3 : (0 : Int) ≤ (i : Int) := by omega
 have k4 : (i : Int) < (s.size : Int) := by omega
 have hbI : (s[i].toNat : Int) = 46 := by omega
 have hBB := hideT hb
 clear hb
 have hnot := fun w => notD noneP w
 rw [z0, z1, z2, z3] at hnot
 simp only [Int.ofNat_zero] at hnot
 go_enter Try.func37, Try.ntmps37
 go_wp2_with fail
 refine (hnot _).mono ?_
 rintro e' w4 ⟨rfl, hb4⟩
 have hz4 := hz0.below hb4 (Nat.le_refl _)
 obtain ⟨c0, f0⟩ := hz4.cell 0 _ rfl
 obtain ⟨c1, f1⟩ := hz4.cell 1 _ rfl
 obtain ⟨c2, f2⟩ := hz4.cell 2 _ rfl
 obtain ⟨c3, f3⟩ := hz4.cell 3 _ rfl
 obtain ⟨c4, f4⟩ := hz4.cell 4 _ rfl
 obtain ⟨c5, f5⟩ := hz4.cell 5 _ rfl
 obtain ⟨c6, f6⟩ := hz4.cell 6 _ rfl
 obtain ⟨c7, f7⟩ := hz4.cell 7 _ rfl
 obtain ⟨c8, f8⟩ := hz4.cell 8 _ rfl
 obtain ⟨c9, f9⟩ := hz4.cell 9 _ rfl
 obtain ⟨c10, f10⟩ := hz4.cell 10 _ rfl
 go_wp2
 exact bodyPost_ret (v := (Tk.mk 1 i (i + 1) 0 (notP noneP) 0 0 0).v) (by simp [results, Try.results37, go_sem, c0, c1, c2, c3, c4, c5, c6, c7, c8, c9, c10]) rfl ⟨rfl, below11 (hB0.trans (hb4.mono hB0.size)) (Nat.le_refl _) _ _ _ _ _ _ _ _ _ _ _⟩
end Go.Proofs.Ytiedliahmjiadaa
namespace Go.Proofs.Ytiedliahmjiadaa
open Go.RowKit
theorem token_bol (s : ByteArray) (hs : s.size ≤ 1073741824) (i k : Nat) (hi : i < s.size) (hb : s[i].toNat = 94) (hk : k = 4) (w : World) :
  Calls Try.prog 37 #[.string s, .int .i64 (i : Int), .int .i64 (k : Int)] w fun e w' => e = .returned (Tk.mk 2 i (i + 1) 0 noneP 0 0 0).v ∧ Below w.heap.size w w' := by
 have hz0 := Blk11.new w
 have hB0 : Below w.heap.size w (w.alloc (.cells #[.int .i64 0, .int .i64 0, .int .i64 0, .int .i64 0, .int .u64 0, .int .u64 0, .int .u64 0, .int .u64 0, .int .i64 0, .int .i64 0, .int .i64 0] 70)) := (Below.refl _ _).alloc (Nat.le_refl _) _
 have z0 : wd noneP 0 = 0 := wd_none 0
 have z1 : wd noneP 1 = 0 := wd_none 1
 have z2 : wd noneP 2 = 0 := wd_none 2
 have z3 : wd noneP 3 = 0 := wd_none 3
 have k3 : (0 : Int) ≤ (i : Int) := by omega
 have k4 : (i : Int) < (s.size : Int) := by omega
 have hbI : (s[i].toNat : Int) = 94 := by omega
 have hBB := hideT hb
 clear hb
 subst hk
 go_enter Try.func37, Try.ntmps37
 go_wp2
 exact bodyPost_ret (v := (Tk.mk 2 i (i + 1) 0 noneP 0 0 0).v) (by simp [results, Try.results37, go_sem, z0, z1, z2, z3]) rfl ⟨rfl, (Below.refl _ _).alloc (Nat.le_refl _) _⟩
theorem token_caret (s : ByteArray) (hs : s.size ≤ 1073741824) (i k : Nat) (hi : i < s.size) (hb : s[i].toNat = 94) (hk : k ≠ 4) (w : World) :
  Calls Try.prog 37 #[.string s, .int .i64 (i : Int), .int .i64 (k : Int)] w fun e w' => e = .returned (selfT 94 i (i + 1)).v ∧ Below w.heap.size w w' := by
 have hz0 := Blk11.new w
 have hB0 : Below w.heap.size w (w.alloc (.cells #[.int .i64 0, .int .i64 0, .int .i64 0, .int .i64 0, .int .u64 0, .int .u64 0, .int .u64 0, .int .u64 0, .int .i64 0, .int .i64 0, .int .i64 0] 70)) := (Below.refl _ _).alloc (Nat.le_refl _) _
 have z0 : wd noneP 0 = 0 := wd_none 0
 have z1 : wd noneP 1 = 0 := wd_none 1
 have z2 : wd noneP 2 = 0 := wd_none 2
 have z3 : wd noneP 3 = 0 := wd_none 3
 have k3 : (0 : Int) ≤ (i : Int) := by omega
 have k4 : (i : Int) < (s.size : Int) := by omega
 have hbI : (s[i].toNat : Int) = 94 := by omega
 have hBB := hideT hb
 clear hb
 have k6 : ((k : Int) == 4) = false := by rw [beq_eq_false_iff_ne]; omega
 go_enter Try.func37, Try.ntmps37
 go_wp2_with fail
 refine (itself_any 94 i (i + 1) _).mono ?_
 rintro e' w4 ⟨rfl, hb4⟩
 have hz4 := hz0.below hb4 (Nat.le_refl _)
 obtain ⟨c0, f0⟩ := hz4.cell 0 _ rfl
 obtain ⟨c1, f1⟩ := hz4.cell 1 _ rfl
 obtain ⟨c2, f2⟩ := hz4.cell 2 _ rfl
 obtain ⟨c3, f3⟩ := hz4.cell 3 _ rfl
 obtain ⟨c4, f4⟩ := hz4.cell 4 _ rfl
 obtain ⟨c5, f5⟩ := hz4.cell 5 _ rfl
 obtain ⟨c6, f6⟩ := hz4.cell 6 _ rfl
 obtain ⟨c7, f7⟩ := hz4.cell 7 _ rfl
 obtain ⟨c8, f8⟩ := hz4.cell 8 _ rfl
 obtain ⟨c9, f9⟩ := hz4.cell 9 _ rfl
 obtain ⟨c10, f10⟩ := hz4.cell 10 _ rfl
 go_wp2
 exact bodyPost_ret (v := (selfT 94 i (i + 1)).v) (by simp [results, Try.results37, go_sem, c0, c1, c2, c3, c4, c5, c6, c7, c8, c9, c10]) rfl ⟨rfl, below11 (hB0.trans (hb4.mono hB0.size)) (Nat.le_refl _) _ _ _ _ _ _ _ _ _ _ _⟩
end Go.Proofs.Ytiedliahmjiadaa
namespace Go.Proofs.Ytiedliahmjiadaa
open Go.RowKit
theorem token_star (s : ByteArray) (hs : s.size ≤ 1073741824) (i k : Nat) (hi : i < s.size) (hb : s[i].toNat = 42) (hk : repB k = true) (w : World) :
  Calls Try.prog 37 #[.string s, .int .i64 (i : Int), .int .i64 (k : Int)] w fun e w' => e = .returned (Tk.mk 7 i (i + 1) 0 noneP 0 0 (-1)).v ∧ Below w.heap.size w w' := by
 have hz0 := Blk11.new w
 have hB0 : Below w.heap.size w (w.alloc (.cells #[.int .i64 0, .int .i64 0, .int .i64 0, .int .i64 0, .int .u64 0, .int .u64 0, .int .u64 0, .int .u64 0, .int .i64 0, .int .i64 0, .int .i64 0] 70)) := (Below.refl _ _).alloc (Nat.le_refl _) _
 have z0 : wd noneP 0 = 0 := wd_none 0
 have z1 : wd noneP 1 = 0 := wd_none 1
 have z2 : wd noneP 2 = 0 := wd_none 2
 have z3 : wd noneP 3 = 0 := wd_none 3
 have k3 : (0 : Int) ≤ (i : Int) := by omega
 have k4 : (i : Int) < (s.size : Int) := by omega
 have hbI : (s[i].toNat : Int) = 42 := by omega
 have hBB := hideT hb
 clear hb
 have hrep := repeatable_any k
 rw [hk] at hrep
 go_enter Try.func37, Try.ntmps37
 go_wp2_with (go_at_call 53; refine (hrep _).mono ?_; rintro e' w' ⟨rfl, hw'⟩; subst hw')
 exact bodyPost_ret (v := (Tk.mk 7 i (i + 1) 0 noneP 0 0 (-1)).v) (by simp [results, Try.results37, go_sem, z0, z1, z2, z3]) rfl ⟨rfl, (Below.refl _ _).alloc (Nat.le_refl _) _⟩
theorem token_star_self (s : ByteArray) (hs : s.size ≤ 1073741824) (i k : Nat) (hi : i < s.size) (hb : s[i].toNat = 42) (hk : repB k = false) (w : World) :
  Calls Try.prog 37 #[.string s, .int .i64 (i : Int), .int .i64 (k : Int)] w fun e w' => e = .returned (selfT 42 i (i + 1)).v ∧ Below w.heap.size w w' := by
 have hz0 := Blk11.new w
 have hB0 : Below w.heap.size w (w.alloc (.cells #[.int .i64 0, .int .i64 0, .int .i64 0, .int .i64 0, .int .u64 0, .int .u64 0, .int .u64 0, .int .u64 0, .int .i64 0, .int .i64 0, .int .i64 0] 70)) := (Below.refl _ _).alloc (Nat.le_refl _) _
 have z0 : wd noneP 0 = 0 := wd_none 0
 have z1 : wd noneP 1 = 0 := wd_none 1
 have z2 : wd noneP 2 = 0 := wd_none 2
 have z3 : wd noneP 3 = 0 := wd_none 3
 have k3 : (0 : Int) ≤ (i : Int) := by omega
 have k4 : (i : Int) < (s.size : Int) := by omega
 have hbI : (s[i].toNat : Int) = 42 := by omega
 have hBB := hideT hb
 clear hb
 have hrep := repeatable_any k
 rw [hk] at hrep
 go_enter Try.func37, Try.ntmps37
 go_wp2_with (go_at_call 53; refine (hrep _).mono ?_; rintro e' w' ⟨rfl, hw'⟩; subst hw')
 refine (itself_any 42 i (i + 1) _).mono ?_
 rintro e' w4 ⟨rfl, hb4⟩
 have hz4 := hz0.below hb4 (Nat.le_refl _)
 obtain ⟨c0, f0⟩ := hz4.cell 0 _ rfl
 obtain ⟨c1, f1⟩ := hz4.cell 1 _ rfl
 obtain ⟨c2, f2⟩ := hz4.cell 2 _ rfl
 obtain ⟨c3, f3⟩ := hz4.cell 3 _ rfl
 obtain ⟨c4, f4⟩ := hz4.cell 4 _ rfl
 obtain ⟨c5, f5⟩ := hz4.cell 5 _ rfl
 obtain ⟨c6, f6⟩ := hz4.cell 6 _ rfl
 obtain ⟨c7, f7⟩ := hz4.cell 7 _ rfl
 obtain ⟨c8, f8⟩ := hz4.cell 8 _ rfl
 obtain ⟨c9, f9⟩ := hz4.cell 9 _ rfl
 obtain ⟨c10, f10⟩ := hz4.cell 10 _ rfl
 go_wp2
 exact bodyPost_ret (v := (selfT 42 i (i + 1)).v) (by simp [results, Try.results37, go_sem, c0, c1, c2, c3, c4, c5, c6, c7, c8, c9, c10]) rfl ⟨rfl, below11 (hB0.trans (hb4.mono hB0.size)) (Nat.le_refl _) _ _ _ _ _ _ _ _ _ _ _⟩
end Go.Proofs.Ytiedliahmjiadaa
namespace Go.Proofs.Ytiedliahmjiadaa
open Go.RowKit
theorem token_self (s : ByteArray) (hs : s.size ≤ 1073741824) (i k : Nat) (hi : i < s.size) (hb : s[i].toNat ≠ 92 ∧ s[i].toNat ≠ 91 ∧ s[i].toNat ≠ 46 ∧ s[i].toNat ≠ 94 ∧ s[i].toNat ≠ 36 ∧ s[i].toNat ≠ 42) (w : World) :
  Calls Try.prog 37 #[.string s, .int .i64 (i : Int), .int .i64 (k : Int)] w fun e w' => e = .returned (selfT s[i].toNat i (i + 1)).v ∧ Below w.heap.size w w' := by
 have hz0 := Blk11.new w
 have hB0 : Below w.heap.size w (w.alloc (.cells #[.int .i64 0, .int .i64 0, .int .i64 0, .int .i64 0, .int .u64 0, .int .u64 0, .int .u64 0, .int .u64 0, .int .i64 0, .int .i64 0, .int .i64 0] 70)) := (Below.refl _ _).alloc (Nat.le_refl _) _
 have z0 : wd noneP 0 = 0 := wd_none 0
 have z1 : wd noneP 1 = 0 := wd_none 1
 have z2 : wd noneP 2 = 0 := wd_none 2
 have z3 : wd noneP 3 = 0 := wd_none 3
 have k3 : (0 : Int) ≤ (i : Int) := by omega
 have k4 : (i : Int) < (s.size : Int) := by omega
 have n92 : ((s[i].toNat : Int) == 92) = false := by rw [beq_eq_false_iff_ne]; omega
 have n91 : ((s[i].toNat : Int) == 91) = false := by rw [beq_eq_false_iff_ne]; omega
 have n46 : ((s[i].toNat : Int) == 46) = false := by rw [beq_eq_false_iff_ne]; omega
 have n94 : ((s[i].toNat : Int) == 94) = false := by rw [beq_eq_false_iff_ne]; omega
 have n36 : ((s[i].toNat : Int) == 36) = false := by rw [beq_eq_false_iff_ne]; omega
 have n42 : ((s[i].toNat : Int) == 42) = false := by rw [beq_eq_false_iff_ne]; omega
 have hBB := hideT hb
 clear hb
 go_enter Try.func37, Try.ntmps37
 go_wp2_with fail
 refine (itself_any s[i].toNat i (i + 1) _).mono ?_
 rintro e' w4 ⟨rfl, hb4⟩
 have hz4 := hz0.below hb4 (Nat.le_refl _)
 obtain ⟨c0, f0⟩ := hz4.cell 0 _ rfl
 obtain ⟨c1, f1⟩ := hz4.cell 1 _ rfl
 obtain ⟨c2, f2⟩ := hz4.cell 2 _ rfl
 obtain ⟨c3, f3⟩ := hz4.cell 3 _ rfl
 obtain ⟨c4, f4⟩ := hz4.cell 4 _ rfl
 obtain ⟨c5, f5⟩ := hz4.cell 5 _ rfl
 obtain ⟨c6, f6⟩ := hz4.cell 6 _ rfl
 obtain ⟨c7, f7⟩ := hz4.cell 7 _ rfl
 obtain ⟨c8, f8⟩ := hz4.cell 8 _ rfl
 obtain ⟨c9, f9⟩ := hz4.cell 9 _ rfl
 obtain ⟨c10, f10⟩ := hz4.cell 10 _ rfl
 go_wp2
 exact bodyPost_ret (v := (selfT s[i].toNat i (i + 1)).v) (by simp [results, Try.results37, go_sem, c0, c1, c2, c3, c4, c5, c6, c7, c8, c9, c10]) rfl ⟨rfl, below11 (hB0.trans (hb4.mono hB0.size)) (Nat.le_refl _) _ _ _ _ _ _ _ _ _ _ _⟩
end Go.Proofs.Ytiedliahmjiadaa
namespace Go.Proofs.Ytiedliahmjiadaa
open Go.RowKit
theorem token_eol_end (s : ByteArray) (hs : s.size ≤ 1073741824) (i k : Nat) (hi : i < s.size) (hb : s[i].toNat = 36) (hk : i + 1 = s.size) (w : World) :
  Calls Try.prog 37 #[.string s, .int .i64 (i : Int), .int .i64 (k : Int)] w fun e w' => e = .returned (Tk.mk 3 i (i + 1) 0 noneP 0 0 0).v ∧ Below w.heap.size w w' := by
 have hz0 := Blk11.new w
 have hB0 : Below w.heap.size w (w.alloc (.cells #[.int .i64 0, .int .i64 0, .int .i64 0, .int .i64 0, .int .u64 0, .int .u64 0, .int .u64 0, .int .u64 0, .int .i64 0, .int .i64 0, .int .i64 0] 70)) := (Below.refl _ _).alloc (Nat.le_refl _) _
 have z0 : wd noneP 0 = 0 := wd_none 0
 have z1 : wd noneP 1 = 0 := wd_none 1
 have z2 : wd noneP 2 = 0 := wd_none 2
 have z3 : wd noneP 3 = 0 := wd_none 3
 have k3 : (0 : Int) ≤ (i : Int) := by omega
 have k4 : (i : Int) < (s.size : Int) := by omega
 have hbI : (s[i].toNat : Int) = 36 := by omega
 have hBB := hideT hb
 clear hb
 have k6 : (i : Int) + 1 = (s.size : Int) := by omega
 have HK := hideT hk
 clear hk
 go_enter Try.func37, Try.ntmps37
 go_wp2
 exact bodyPost_ret (v := (Tk.mk 3 i (i + 1) 0 noneP 0 0 0).v) (by simp [results, Try.results37, go_sem, z0, z1, z2, z3]; omega) rfl ⟨rfl, (Below.refl _ _).alloc (Nat.le_refl _) _⟩
end Go.Proofs.Ytiedliahmjiadaa
namespace Go.Proofs.Ytiedliahmjiadaa
open Go.RowKit
theorem token_eol_close (s : ByteArray) (hs : s.size ≤ 1073741824) (i k : Nat) (hi : i < s.size) (hb : s[i].toNat = 36) (hn : i + 1 < s.size) (hk : Lib.hasPrefix (s.extract (i + 1) s.size).data.toList [92, 41] = true) (w : World) :
  Calls Try.prog 37 #[.string s, .int .i64 (i : Int), .int .i64 (k : Int)] w fun e w' => e = .returned (Tk.mk 3 i (i + 1) 0 noneP 0 0 0).v ∧ Below w.heap.size w w' := by
 have hz0 := Blk11.new w
 have hB0 : Below w.heap.size w (w.alloc (.cells #[.int .i64 0, .int .i64 0, .int .i64 0, .int .i64 0, .int .u64 0, .int .u64 0, .int .u64 0, .int .u64 0, .int .i64 0, .int .i64 0, .int .i64 0] 70)) := (Below.refl _ _).alloc (Nat.le_refl _) _
 have z0 : wd noneP 0 = 0 := wd_none 0
 have z1 : wd noneP 1 = 0 := wd_none 1
 have z2 : wd noneP 2 = 0 := wd_none 2
 have z3 : wd noneP 3 = 0 := wd_none 3
 have k3 : (0 : Int) ≤ (i : Int) := by omega
 have k4 : (i : Int) < (s.size : Int) := by omega
 have hbI : (s[i].toNat : Int) = 36 := by omega
 have hBB := hideT hb
 clear hb
 have hpre := fun w => Try.strings_HasPrefix (s.extract (i + 1) s.size) ⟨#[92, 41]⟩ w
 rw [hk] at hpre
 have k6 : ¬ (i : Int) + 1 = (s.size : Int) := by omega
 have k7 : ((i : Int) + 1 == (s.size : Int)) = false := by rw [beq_eq_false_iff_ne]; omega
 have k8 : (0 : Int) ≤ (i : Int) + 1 := by omega
 have k9 : (i : Int) + 1 ≤ (s.size : Int) := by omega
 have k10 : ((i : Int) + 1).toNat = i + 1 := by omega
 have HK := hideT hk
 clear hk
 go_enter Try.func37, Try.ntmps37
 go_wp2_with (go_at_call 52; refine (hpre _).mono ?_; rintro e' w' ⟨rfl, hw'⟩; subst hw')
 exact bodyPost_ret (v := (Tk.mk 3 i (i + 1) 0 noneP 0 0 0).v) (by simp [results, Try.results37, go_sem, z0, z1, z2, z3]) rfl ⟨rfl, (Below.refl _ _).alloc (Nat.le_refl _) _⟩
end Go.Proofs.Ytiedliahmjiadaa
namespace Go.Proofs.Ytiedliahmjiadaa
open Go.RowKit
theorem token_dollar (s : ByteArray) (hs : s.size ≤ 1073741824) (i k : Nat) (hi : i < s.size) (hb : s[i].toNat = 36) (hn : i + 1 < s.size) (hk : Lib.hasPrefix (s.extract (i + 1) s.size).data.toList [92, 41] = false) (w : World) :
  Calls Try.prog 37 #[.string s, .int .i64 (i : Int), .int .i64 (k : Int)] w fun e w' => e = .returned (selfT 36 i (i + 1)).v ∧ Below w.heap.size w w' := by
 have hz0 := Blk11.new w
 have hB0 : Below w.heap.size w (w.alloc (.cells #[.int .i64 0, .int .i64 0, .int .i64 0, .int .i64 0, .int .u64 0, .int .u64 0, .int .u64 0, .int .u64 0, .int .i64 0, .int .i64 0, .int .i64 0] 70)) := (Below.refl _ _).alloc (Nat.le_refl _) _
 have z0 : wd noneP 0 = 0 := wd_none 0
 have z1 : wd noneP 1 = 0 := wd_none 1
 have z2 : wd noneP 2 = 0 := wd_none 2
 have z3 : wd noneP 3 = 0 := wd_none 3
 have k3 : (0 : Int) ≤ (i : Int) := by omega
 have k4 : (i : Int) < (s.size : Int) := by omega
 have hbI : (s[i].toNat : Int) = 36 := by omega
 have hBB := hideT hb
 clear hb
 have hpre := fun w => Try.strings_HasPrefix (s.extract (i + 1) s.size) ⟨#[92, 41]⟩ w
 rw [hk] at hpre
 have k6 : ¬ (i : Int) + 1 = (s.size : Int) := by omega
 have k7 : ((i : Int) + 1 == (s.size : Int)) = false := by rw [beq_eq_false_iff_ne]; omega
 have k8 : (0 : Int) ≤ (i : Int) + 1 := by omega
 have k9 : (i : Int) + 1 ≤ (s.size : Int) := by omega
 have k10 : ((i : Int) + 1).toNat = i + 1 := by omega
 have HK := hideT hk
 clear hk
 go_enter Try.func37, Try.ntmps37
 go_wp2_with (go_at_call 52; refine (hpre _).mono ?_; rintro e' w' ⟨rfl, hw'⟩; subst hw')
 refine (itself_any 36 i (i + 1) _).mono ?_
 rintro e' w4 ⟨rfl, hb4⟩
 have hz4 := hz0.below hb4 (Nat.le_refl _)
 obtain ⟨c0, f0⟩ := hz4.cell 0 _ rfl
 obtain ⟨c1, f1⟩ := hz4.cell 1 _ rfl
 obtain ⟨c2, f2⟩ := hz4.cell 2 _ rfl
 obtain ⟨c3, f3⟩ := hz4.cell 3 _ rfl
 obtain ⟨c4, f4⟩ := hz4.cell 4 _ rfl
 obtain ⟨c5, f5⟩ := hz4.cell 5 _ rfl
 obtain ⟨c6, f6⟩ := hz4.cell 6 _ rfl
 obtain ⟨c7, f7⟩ := hz4.cell 7 _ rfl
 obtain ⟨c8, f8⟩ := hz4.cell 8 _ rfl
 obtain ⟨c9, f9⟩ := hz4.cell 9 _ rfl
 obtain ⟨c10, f10⟩ := hz4.cell 10 _ rfl
 go_wp2
 exact bodyPost_ret (v := (selfT 36 i (i + 1)).v) (by simp [results, Try.results37, go_sem, c0, c1, c2, c3, c4, c5, c6, c7, c8, c9, c10]) rfl ⟨rfl, below11 (hB0.trans (hb4.mono hB0.size)) (Nat.le_refl _) _ _ _ _ _ _ _ _ _ _ _⟩
end Go.Proofs.Ytiedliahmjiadaa
namespace Go.Proofs.Ytiedliahmjiadaa
open Go.RowKit
def shuts (s : ByteArray) (j : Nat) : Bool := decide (j = s.size) || Lib.hasPrefix (s.extract j s.size).data.toList [92, 41]
noncomputable def tokenT (s : ByteArray) (i k : Nat) : Tk :=
 if byteAt s i = 92 then escapeT s i k else if byteAt s i = 91 then bracketT s i else if byteAt s i = 46 then ⟨1, i, i + 1, 0, notP noneP, 0, 0, 0⟩
 else if byteAt s i = 94 ∧ k = 4 then ⟨2, i, i + 1, 0, noneP, 0, 0, 0⟩ else if byteAt s i = 36 ∧ shuts s (i + 1) = true then ⟨3, i, i + 1, 0, noneP, 0, 0, 0⟩
 else if byteAt s i = 42 ∧ repB k = true then ⟨7, i, i + 1, 0, noneP, 0, 0, -1⟩ else selfT (byteAt s i).toNat i (i + 1)
theorem readToken_any (s : ByteArray) (hs : s.size ≤ 1073741824) (i k : Nat) (hi : i < s.size) (w : World) (hg : Glob w) :
  Calls Try.prog 37 #[.string s, .int .i64 (i : Int), .int .i64 (k : Int)] w fun e w' => e = .returned (tokenT s i k).v ∧ Below w.heap.size w w' := by
 unfold tokenT
 rw [byteAt_in hi, Int.toNat_natCast]
 have hc : ∀ n : Nat, ((s[i].toNat : Int) = (n : Int)) = (s[i].toNat = n) := fun n => by apply propext; omega
 have e92 := hc 92
 have e91 := hc 91
 have e46 := hc 46
 have e94 := hc 94
 have e36 := hc 36
 have e42 := hc 42
 simp only [Int.cast_ofNat_Int] at e92 e91 e46 e94 e36 e42
 by_cases b92 : s[i].toNat = 92
 ·rw [if_pos (e92 ▸ b92)]
  exact token_escape s hs i k hi b92 _ w (fun w' hb => readEscape_any s hs i k hi w' (hg.below hb (Nat.le_refl _)))
 rw [if_neg (e92 ▸ b92)]
 by_cases b91 : s[i].toNat = 91
 ·rw [if_pos (e91 ▸ b91)]
  exact token_bracket s hs i k hi b91 _ w (fun w' hb => readBracket_any s hs i w' (hg.below hb (Nat.le_refl _)))
 rw [if_neg (e91 ▸ b91)]
 by_cases b46 : s[i].toNat = 46
 ·rw [if_pos (e46 ▸ b46)]; exact token_dot s hs i k hi b46 w
 rw [if_neg (e46 ▸ b46)]
 by_cases b94 : s[i].toNat = 94
 ·by_cases hk : k = 4
  ·rw [if_pos ⟨e94 ▸ b94, hk⟩]; exact token_bol s hs i k hi b94 hk w
  ·rw [if_neg (fun h => hk h.2), if_neg (fun h => by have := h.1; omega), if_neg (fun h => by have := h.1; omega), b94]
   exact token_caret s hs i k hi b94 hk w
 rw [if_neg (fun h => b94 (by have := h.1; omega))]
 by_cases b36 : s[i].toNat = 36
 ·by_cases hn : i + 1 = s.size
  ·rw [if_pos ⟨e36 ▸ b36, by simp [shuts, hn]⟩]
   exact token_eol_end s hs i k hi b36 hn w
  ·cases hp : Lib.hasPrefix (s.extract (i + 1) s.size).data.toList [92, 41]
   ·rw [if_neg (fun h => by have := h.2; unfold shuts at this; rw [hp, decide_eq_false hn] at this; cases this), if_neg (fun h => by have := h.1; omega), b36]
    exact token_dollar s hs i k hi b36 (by omega) hp w
   ·rw [if_pos ⟨e36 ▸ b36, by unfold shuts; rw [hp, Bool.or_true]⟩]
    exact token_eol_close s hs i k hi b36 (by omega) hp w
 rw [if_neg (fun h => b36 (by have := h.1; omega))]
 by_cases b42 : s[i].toNat = 42
 ·cases hk : repB k
  ·rw [if_neg (fun h => by cases h.2), b42]
   exact token_star_self s hs i k hi b42 hk w
  ·rw [if_pos ⟨e42 ▸ b42, rfl⟩]
   exact token_star s hs i k hi b42 hk w
 rw [if_neg (fun h => b42 (by have := h.1; omega))]
 exact token_self s hs i k hi ⟨b92, b91, b46, b94, b36, b42⟩ w
end Go.Proofs.Ytiedliahmjiadaa
