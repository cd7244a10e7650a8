/- bre: readEscape, a. -/
import Derived.Test.YtolpakpdkheanaaKShelf
import Derived.Test.YtolpakpdkheanaaKTk
import Derived.Test.YtolpakpdkheanaaKClose
set_option maxRecDepth 100000
set_option maxHeartbeats 1000000
namespace Go.Proofs.Ytolpakpdkheanaa.br
open Go.RowKit
theorem xkx (s : ByteArray) (hs : s.size ≤ 1073741824) (i k : Nat) (hi : i + 1 < s.size) (hb : s[i + 1].toNat = 40) (w : World) :
  Calls Try.prog 57 #[.string s, .int .i64 (i : Int), .int .i64 (k : Int)] w fun e w' => e = .returned (Tk.mk 4 i (i + 2) 0 xad 0 0 0).v ∧ Below w.heap.size w w' := by
 have hz0 := Blk11.new w
 have hB0 : Below w.heap.size w (w.alloc (.cells #[.int .i64 0, .int .i64 0, .int .i64 0, .int .i64 0, .int .u64 0, .int .u64 0, .int .u64 0, .int .u64 0, .int .i64 0, .int .i64 0, .int .i64 0] 73)) := (Below.refl _ _).alloc (Nat.le_refl _) _
 have z0 : wd xad 0 = 0 := xaa 0
 have z1 : wd xad 1 = 0 := xaa 1
 have z2 : wd xad 2 = 0 := xaa 2
 have z3 : wd xad 3 = 0 := xaa 3
 have k2 : ¬ (i : Int) + 1 = (s.size : Int) := by omega
 have k3 : (0 : Int) ≤ (i : Int) + 1 := by omega
 have k4 : (i : Int) + 1 < (s.size : Int) := by omega
 have k5 : ((i : Int) + 1).toNat = i + 1 := by omega
 have hbI : (s[i + 1].toNat : Int) = 40 := by omega
 have hBB := hideT hb
 clear hb
 go_enter Try.func57, Try.ntmps57
 go_wp2
 exact bodyPost_ret (v := (Tk.mk 4 i (i + 2) 0 xad 0 0 0).v) (by simp [results, Try.results57, go_sem, z0, z1, z2, z3]) rfl ⟨rfl, (Below.refl _ _).alloc (Nat.le_refl _) _⟩
theorem xjd (s : ByteArray) (hs : s.size ≤ 1073741824) (i k : Nat) (hi : i + 1 < s.size) (hb : s[i + 1].toNat = 41) (w : World) :
  Calls Try.prog 57 #[.string s, .int .i64 (i : Int), .int .i64 (k : Int)] w fun e w' => e = .returned (Tk.mk 5 i (i + 2) 0 xad 0 0 0).v ∧ Below w.heap.size w w' := by
 have hz0 := Blk11.new w
 have hB0 : Below w.heap.size w (w.alloc (.cells #[.int .i64 0, .int .i64 0, .int .i64 0, .int .i64 0, .int .u64 0, .int .u64 0, .int .u64 0, .int .u64 0, .int .i64 0, .int .i64 0, .int .i64 0] 73)) := (Below.refl _ _).alloc (Nat.le_refl _) _
 have z0 : wd xad 0 = 0 := xaa 0
 have z1 : wd xad 1 = 0 := xaa 1
 have z2 : wd xad 2 = 0 := xaa 2
 have z3 : wd xad 3 = 0 := xaa 3
 have k2 : ¬ (i : Int) + 1 = (s.size : Int) := by omega
 have k3 : (0 : Int) ≤ (i : Int) + 1 := by omega
 have k4 : (i : Int) + 1 < (s.size : Int) := by omega
 have k5 : ((i : Int) + 1).toNat = i + 1 := by omega
 have hbI : (s[i + 1].toNat : Int) = 41 := by omega
 have hBB := hideT hb
 clear hb
 go_enter Try.func57, Try.ntmps57
 go_wp2
 exact bodyPost_ret (v := (Tk.mk 5 i (i + 2) 0 xad 0 0 0).v) (by simp [results, Try.results57, go_sem, z0, z1, z2, z3]) rfl ⟨rfl, (Below.refl _ _).alloc (Nat.le_refl _) _⟩
theorem xnk (s : ByteArray) (hs : s.size ≤ 1073741824) (i k : Nat) (hi : i + 1 < s.size) (hb : s[i + 1].toNat = 123) (hk : repB k = true) (w : World) (t : Tk) (hiv : ∀ w', Below w.heap.size w w' → Calls Try.prog 74 #[.string s, .int .i64 (i : Int)] w' fun e w'' => e = .returned t.v ∧ Below w'.heap.size w' w'') :
  Calls Try.prog 57 #[.string s, .int .i64 (i : Int), .int .i64 (k : Int)] w fun e w' => e = .returned t.v ∧ Below w.heap.size w w' := by
 have hz0 := Blk11.new w
 have hB0 : Below w.heap.size w (w.alloc (.cells #[.int .i64 0, .int .i64 0, .int .i64 0, .int .i64 0, .int .u64 0, .int .u64 0, .int .u64 0, .int .u64 0, .int .i64 0, .int .i64 0, .int .i64 0] 73)) := (Below.refl _ _).alloc (Nat.le_refl _) _
 have z0 : wd xad 0 = 0 := xaa 0
 have z1 : wd xad 1 = 0 := xaa 1
 have z2 : wd xad 2 = 0 := xaa 2
 have z3 : wd xad 3 = 0 := xaa 3
 have k2 : ¬ (i : Int) + 1 = (s.size : Int) := by omega
 have k3 : (0 : Int) ≤ (i : Int) + 1 := by omega
 have k4 : (i : Int) + 1 < (s.size : Int) := by omega
 have k5 : ((i : Int) + 1).toNat = i + 1 := by omega
 have hbI : (s[i + 1].toNat : Int) = 123 := by omega
 have hBB := hideT hb
 have HIV := hideT hiv
 clear hb hiv
 have hrep := xbv k
 rw [hk] at hrep
 go_enter Try.func57, Try.ntmps57
 go_wp2_with (go_at_call 60; refine (hrep _).mono ?_; rintro e' w' ⟨rfl, hw'⟩; subst hw')
 refine (HIV.out _ hB0).mono ?_
 rintro e' w4 ⟨rfl, hb4⟩
 have hz4 := hz0.below hb4 (Nat.le_refl _)
 obtain ⟨c0, f0⟩ := hz4.cell 0 _ rfl
 obtain ⟨c1, f1⟩ := hz4.cell 1 _ rfl
 obtain ⟨c2, f2⟩ := hz4.cell 2 _ rfl
 obtain ⟨c3, f3⟩ := hz4.cell 3 _ rfl
 obtain ⟨c4, f4⟩ := hz4.cell 4 _ rfl
 obtain ⟨c5, f5⟩ := hz4.cell 5 _ rfl
 obtain ⟨c6, f6⟩ := hz4.cell 6 _ rfl
 obtain ⟨c7, f7⟩ := hz4.cell 7 _ rfl
 obtain ⟨c8, f8⟩ := hz4.cell 8 _ rfl
 obtain ⟨c9, f9⟩ := hz4.cell 9 _ rfl
 obtain ⟨c10, f10⟩ := hz4.cell 10 _ rfl
 go_wp2
 exact bodyPost_ret (v := t.v) (by simp [results, Try.results57, go_sem, c0, c1, c2, c3, c4, c5, c6, c7, c8, c9, c10]) rfl ⟨rfl, xaq (hB0.trans (hb4.mono hB0.size)) (Nat.le_refl _) _ _ _ _ _ _ _ _ _ _ _⟩
theorem xje (s : ByteArray) (hs : s.size ≤ 1073741824) (i k : Nat) (hi : i + 1 < s.size) (hb : s[i + 1].toNat = 123) (hk : repB k = false) (w : World) :
  Calls Try.prog 57 #[.string s, .int .i64 (i : Int), .int .i64 (k : Int)] w fun e w' => e = .returned (xar 9 i).v ∧ Below w.heap.size w w' := by
 have hz0 := Blk11.new w
 have hB0 : Below w.heap.size w (w.alloc (.cells #[.int .i64 0, .int .i64 0, .int .i64 0, .int .i64 0, .int .u64 0, .int .u64 0, .int .u64 0, .int .u64 0, .int .i64 0, .int .i64 0, .int .i64 0] 73)) := (Below.refl _ _).alloc (Nat.le_refl _) _
 have z0 : wd xad 0 = 0 := xaa 0
 have z1 : wd xad 1 = 0 := xaa 1
 have z2 : wd xad 2 = 0 := xaa 2
 have z3 : wd xad 3 = 0 := xaa 3
 have k2 : ¬ (i : Int) + 1 = (s.size : Int) := by omega
 have k3 : (0 : Int) ≤ (i : Int) + 1 := by omega
 have k4 : (i : Int) + 1 < (s.size : Int) := by omega
 have k5 : ((i : Int) + 1).toNat = i + 1 := by omega
 have hbI : (s[i + 1].toNat : Int) = 123 := by omega
 have hBB := hideT hb
 clear hb
 have hrep := xbv k
 rw [hk] at hrep
 go_enter Try.func57, Try.ntmps57
 go_wp2_with (go_at_call 60; refine (hrep _).mono ?_; rintro e' w' ⟨rfl, hw'⟩; subst hw')
 refine (xas 9 i _).mono ?_
 rintro e' w4 ⟨rfl, hb4⟩
 have hz4 := hz0.below hb4 (Nat.le_refl _)
 obtain ⟨c0, f0⟩ := hz4.cell 0 _ rfl
 obtain ⟨c1, f1⟩ := hz4.cell 1 _ rfl
 obtain ⟨c2, f2⟩ := hz4.cell 2 _ rfl
 obtain ⟨c3, f3⟩ := hz4.cell 3 _ rfl
 obtain ⟨c4, f4⟩ := hz4.cell 4 _ rfl
 obtain ⟨c5, f5⟩ := hz4.cell 5 _ rfl
 obtain ⟨c6, f6⟩ := hz4.cell 6 _ rfl
 obtain ⟨c7, f7⟩ := hz4.cell 7 _ rfl
 obtain ⟨c8, f8⟩ := hz4.cell 8 _ rfl
 obtain ⟨c9, f9⟩ := hz4.cell 9 _ rfl
 obtain ⟨c10, f10⟩ := hz4.cell 10 _ rfl
 go_wp2
 exact bodyPost_ret (v := (xar 9 i).v) (by simp [results, Try.results57, go_sem, c0, c1, c2, c3, c4, c5, c6, c7, c8, c9, c10]) rfl ⟨rfl, xaq (hB0.trans (hb4.mono hB0.size)) (Nat.le_refl _) _ _ _ _ _ _ _ _ _ _ _⟩
theorem xky (s : ByteArray) (hs : s.size ≤ 1073741824) (i k : Nat) (hi : i + 1 < s.size) (hb : s[i + 1].toNat = 125) (w : World) :
  Calls Try.prog 57 #[.string s, .int .i64 (i : Int), .int .i64 (k : Int)] w fun e w' => e = .returned (xar 9 i).v ∧ Below w.heap.size w w' := by
 have hz0 := Blk11.new w
 have hB0 : Below w.heap.size w (w.alloc (.cells #[.int .i64 0, .int .i64 0, .int .i64 0, .int .i64 0, .int .u64 0, .int .u64 0, .int .u64 0, .int .u64 0, .int .i64 0, .int .i64 0, .int .i64 0] 73)) := (Below.refl _ _).alloc (Nat.le_refl _) _
 have z0 : wd xad 0 = 0 := xaa 0
 have z1 : wd xad 1 = 0 := xaa 1
 have z2 : wd xad 2 = 0 := xaa 2
 have z3 : wd xad 3 = 0 := xaa 3
 have k2 : ¬ (i : Int) + 1 = (s.size : Int) := by omega
 have k3 : (0 : Int) ≤ (i : Int) + 1 := by omega
 have k4 : (i : Int) + 1 < (s.size : Int) := by omega
 have k5 : ((i : Int) + 1).toNat = i + 1 := by omega
 have hbI : (s[i + 1].toNat : Int) = 125 := by omega
 have hBB := hideT hb
 clear hb
 go_enter Try.func57, Try.ntmps57
 go_wp2_with fail
 refine (xas 9 i _).mono ?_
 rintro e' w4 ⟨rfl, hb4⟩
 have hz4 := hz0.below hb4 (Nat.le_refl _)
 obtain ⟨c0, f0⟩ := hz4.cell 0 _ rfl
 obtain ⟨c1, f1⟩ := hz4.cell 1 _ rfl
 obtain ⟨c2, f2⟩ := hz4.cell 2 _ rfl
 obtain ⟨c3, f3⟩ := hz4.cell 3 _ rfl
 obtain ⟨c4, f4⟩ := hz4.cell 4 _ rfl
 obtain ⟨c5, f5⟩ := hz4.cell 5 _ rfl
 obtain ⟨c6, f6⟩ := hz4.cell 6 _ rfl
 obtain ⟨c7, f7⟩ := hz4.cell 7 _ rfl
 obtain ⟨c8, f8⟩ := hz4.cell 8 _ rfl
 obtain ⟨c9, f9⟩ := hz4.cell 9 _ rfl
 obtain ⟨c10, f10⟩ := hz4.cell 10 _ rfl
 go_wp2
 exact bodyPost_ret (v := (xar 9 i).v) (by simp [results, Try.results57, go_sem, c0, c1, c2, c3, c4, c5, c6, c7, c8, c9, c10]) rfl ⟨rfl, xaq (hB0.trans (hb4.mono hB0.size)) (Nat.le_refl _) _ _ _ _ _ _ _ _ _ _ _⟩
theorem escape_n (s : ByteArray) (hs : s.size ≤ 1073741824) (i k : Nat) (hi : i + 1 < s.size) (hb : s[i + 1].toNat = 110) (w : World) :
  Calls Try.prog 57 #[.string s, .int .i64 (i : Int), .int .i64 (k : Int)] w fun e w' => e = .returned (selfT 10 i (i + 2)).v ∧ Below w.heap.size w w' := by
 have hz0 := Blk11.new w
 have hB0 : Below w.heap.size w (w.alloc (.cells #[.int .i64 0, .int .i64 0, .int .i64 0, .int .i64 0, .int .u64 0, .int .u64 0, .int .u64 0, .int .u64 0, .int .i64 0, .int .i64 0, .int .i64 0] 73)) := (Below.refl _ _).alloc (Nat.le_refl _) _
 have z0 : wd xad 0 = 0 := xaa 0
 have z1 : wd xad 1 = 0 := xaa 1
 have z2 : wd xad 2 = 0 := xaa 2
 have z3 : wd xad 3 = 0 := xaa 3
 have k2 : ¬ (i : Int) + 1 = (s.size : Int) := by omega
 have k3 : (0 : Int) ≤ (i : Int) + 1 := by omega
 have k4 : (i : Int) + 1 < (s.size : Int) := by omega
 have k5 : ((i : Int) + 1).toNat = i + 1 := by omega
 have hbI : (s[i + 1].toNat : Int) = 110 := by omega
 have hBB := hideT hb
 clear hb
 go_enter Try.func57, Try.ntmps57
 go_wp2_with fail
 refine (xcb 10 i (i + 2) _).mono ?_
 rintro e' w4 ⟨rfl, hb4⟩
 have hz4 := hz0.below hb4 (Nat.le_refl _)
 obtain ⟨c0, f0⟩ := hz4.cell 0 _ rfl
 obtain ⟨c1, f1⟩ := hz4.cell 1 _ rfl
 obtain ⟨c2, f2⟩ := hz4.cell 2 _ rfl
 obtain ⟨c3, f3⟩ := hz4.cell 3 _ rfl
 obtain ⟨c4, f4⟩ := hz4.cell 4 _ rfl
 obtain ⟨c5, f5⟩ := hz4.cell 5 _ rfl
 obtain ⟨c6, f6⟩ := hz4.cell 6 _ rfl
 obtain ⟨c7, f7⟩ := hz4.cell 7 _ rfl
 obtain ⟨c8, f8⟩ := hz4.cell 8 _ rfl
 obtain ⟨c9, f9⟩ := hz4.cell 9 _ rfl
 obtain ⟨c10, f10⟩ := hz4.cell 10 _ rfl
 go_wp2
 exact bodyPost_ret (v := (selfT 10 i (i + 2)).v) (by simp [results, Try.results57, go_sem, c0, c1, c2, c3, c4, c5, c6, c7, c8, c9, c10]) rfl ⟨rfl, xaq (hB0.trans (hb4.mono hB0.size)) (Nat.le_refl _) _ _ _ _ _ _ _ _ _ _ _⟩
theorem xjf (s : ByteArray) (hs : s.size ≤ 1073741824) (i k : Nat) (hi : i + 1 < s.size) (hb : s[i + 1].toNat ≠ 48) (hd : digB (s[i + 1].toNat : Int) = true) (w : World) :
  Calls Try.prog 57 #[.string s, .int .i64 (i : Int), .int .i64 (k : Int)] w fun e w' => e = .returned (Tk.mk 6 i (i + 2) 0 xad (s[i + 1].toNat - 48) 0 0).v ∧ Below w.heap.size w w' := by
 have hz0 := Blk11.new w
 have hB0 : Below w.heap.size w (w.alloc (.cells #[.int .i64 0, .int .i64 0, .int .i64 0, .int .i64 0, .int .u64 0, .int .u64 0, .int .u64 0, .int .u64 0, .int .i64 0, .int .i64 0, .int .i64 0] 73)) := (Below.refl _ _).alloc (Nat.le_refl _) _
 have z0 : wd xad 0 = 0 := xaa 0
 have z1 : wd xad 1 = 0 := xaa 1
 have z2 : wd xad 2 = 0 := xaa 2
 have z3 : wd xad 3 = 0 := xaa 3
 have k2 : ¬ (i : Int) + 1 = (s.size : Int) := by omega
 have k3 : (0 : Int) ≤ (i : Int) + 1 := by omega
 have k4 : (i : Int) + 1 < (s.size : Int) := by omega
 have k5 : ((i : Int) + 1).toNat = i + 1 := by omega
 have hb1 : 49 ≤ s[i + 1].toNat ∧ s[i + 1].toNat ≤ 57 := by simp [digB] at hd; omega
 have n40 : ((s[i + 1].toNat : Int) == 40) = false := by rw [beq_eq_false_iff_ne]; omega
 have n41 : ((s[i + 1].toNat : Int) == 41) = false := by rw [beq_eq_false_iff_ne]; omega
 have n123 : ((s[i + 1].toNat : Int) == 123) = false := by rw [beq_eq_false_iff_ne]; omega
 have n125 : ((s[i + 1].toNat : Int) == 125) = false := by rw [beq_eq_false_iff_ne]; omega
 have n110 : ((s[i + 1].toNat : Int) == 110) = false := by rw [beq_eq_false_iff_ne]; omega
 have n48 : ((s[i + 1].toNat : Int) != 48) = true := by rw [bne_iff_ne]; omega
 have hdig := isDigit_any (s[i + 1].toNat : Int)
 rw [hd] at hdig
 have m1 : IntKind.u8.wrap ((s[i + 1].toNat : Int) - 48) = ((s[i + 1].toNat - 48 : Nat) : Int) := by rw [IntKind.wrap_u8]; omega
 have m2 : IntKind.i64.wrap ((s[i + 1].toNat - 48 : Nat) : Int) = ((s[i + 1].toNat - 48 : Nat) : Int) := by rw [IntKind.wrap_i64]; omega
 have hBB := hideT (And.intro hb (And.intro hd hb1))
 clear hb hd hb1
 go_enter Try.func57, Try.ntmps57
 go_wp2_with (go_at_call 75; refine (hdig _).mono ?_; rintro e' w' ⟨rfl, hw'⟩; subst hw')
 exact bodyPost_ret (v := (Tk.mk 6 i (i + 2) 0 xad (s[i + 1].toNat - 48) 0 0).v) (by simp [results, Try.results57, go_sem, z0, z1, z2, z3]) rfl ⟨rfl, (Below.refl _ _).alloc (Nat.le_refl _) _⟩
theorem xkz (s : ByteArray) (hs : s.size ≤ 1073741824) (i k : Nat) (hi : i + 1 < s.size) (hb : s[i + 1].toNat = 48) (w : World) :
  Calls Try.prog 57 #[.string s, .int .i64 (i : Int), .int .i64 (k : Int)] w fun e w' => e = .returned (xar 12 i).v ∧ Below w.heap.size w w' := by
 have hz0 := Blk11.new w
 have hB0 : Below w.heap.size w (w.alloc (.cells #[.int .i64 0, .int .i64 0, .int .i64 0, .int .i64 0, .int .u64 0, .int .u64 0, .int .u64 0, .int .u64 0, .int .i64 0, .int .i64 0, .int .i64 0] 73)) := (Below.refl _ _).alloc (Nat.le_refl _) _
 have z0 : wd xad 0 = 0 := xaa 0
 have z1 : wd xad 1 = 0 := xaa 1
 have z2 : wd xad 2 = 0 := xaa 2
 have z3 : wd xad 3 = 0 := xaa 3
 have k2 : ¬ (i : Int) + 1 = (s.size : Int) := by omega
 have k3 : (0 : Int) ≤ (i : Int) + 1 := by omega
 have k4 : (i : Int) + 1 < (s.size : Int) := by omega
 have k5 : ((i : Int) + 1).toNat = i + 1 := by omega
 have hbI : (s[i + 1].toNat : Int) = 48 := by omega
 have hdig := isDigit_any 48
 have hBB := hideT hb
 clear hb
 go_enter Try.func57, Try.ntmps57
 go_wp2_with (go_at_call 75; refine (hdig _).mono ?_; rintro e' w' ⟨rfl, hw'⟩; subst hw')
 refine (xas 12 i _).mono ?_
 rintro e' w4 ⟨rfl, hb4⟩
 have hz4 := hz0.below hb4 (Nat.le_refl _)
 obtain ⟨c0, f0⟩ := hz4.cell 0 _ rfl
 obtain ⟨c1, f1⟩ := hz4.cell 1 _ rfl
 obtain ⟨c2, f2⟩ := hz4.cell 2 _ rfl
 obtain ⟨c3, f3⟩ := hz4.cell 3 _ rfl
 obtain ⟨c4, f4⟩ := hz4.cell 4 _ rfl
 obtain ⟨c5, f5⟩ := hz4.cell 5 _ rfl
 obtain ⟨c6, f6⟩ := hz4.cell 6 _ rfl
 obtain ⟨c7, f7⟩ := hz4.cell 7 _ rfl
 obtain ⟨c8, f8⟩ := hz4.cell 8 _ rfl
 obtain ⟨c9, f9⟩ := hz4.cell 9 _ rfl
 obtain ⟨c10, f10⟩ := hz4.cell 10 _ rfl
 go_wp2
 exact bodyPost_ret (v := (xar 12 i).v) (by simp [results, Try.results57, go_sem, c0, c1, c2, c3, c4, c5, c6, c7, c8, c9, c10]) rfl ⟨rfl, xaq (hB0.trans (hb4.mono hB0.size)) (Nat.le_refl _) _ _ _ _ _ _ _ _ _ _ _⟩
theorem xhw (s : ByteArray) (hs : s.size ≤ 1073741824) (i k : Nat) (hi : i + 1 < s.size) (hb : s[i + 1].toNat ≠ 110) (hl : letB (s[i + 1].toNat : Int) = true) (w : World) :
  Calls Try.prog 57 #[.string s, .int .i64 (i : Int), .int .i64 (k : Int)] w fun e w' => e = .returned (xar 12 i).v ∧ Below w.heap.size w w' := by
 have hz0 := Blk11.new w
 have hB0 : Below w.heap.size w (w.alloc (.cells #[.int .i64 0, .int .i64 0, .int .i64 0, .int .i64 0, .int .u64 0, .int .u64 0, .int .u64 0, .int .u64 0, .int .i64 0, .int .i64 0, .int .i64 0] 73)) := (Below.refl _ _).alloc (Nat.le_refl _) _
 have z0 : wd xad 0 = 0 := xaa 0
 have z1 : wd xad 1 = 0 := xaa 1
 have z2 : wd xad 2 = 0 := xaa 2
 have z3 : wd xad 3 = 0 := xaa 3
 have k2 : ¬ (i : Int) + 1 = (s.size : Int) := by omega
 have k3 : (0 : Int) ≤ (i : Int) + 1 := by omega
 have k4 : (i : Int) + 1 < (s.size : Int) := by omega
 have k5 : ((i : Int) + 1).toNat = i + 1 := by omega
 have hb1 : (97 ≤ s[i + 1].toNat ∧ s[i + 1].toNat ≤ 122) ∨ (65 ≤ s[i + 1].toNat ∧ s[i + 1].toNat ≤ 90) := by simp [letB] at hl; omega
 have n40 : ((s[i + 1].toNat : Int) == 40) = false := by rw [beq_eq_false_iff_ne]; omega
 have n41 : ((s[i + 1].toNat : Int) == 41) = false := by rw [beq_eq_false_iff_ne]; omega
 have n123 : ((s[i + 1].toNat : Int) == 123) = false := by rw [beq_eq_false_iff_ne]; omega
 have n125 : ((s[i + 1].toNat : Int) == 125) = false := by rw [beq_eq_false_iff_ne]; omega
 have n110 : ((s[i + 1].toNat : Int) == 110) = false := by rw [beq_eq_false_iff_ne]; omega
 have n48 : ((s[i + 1].toNat : Int) != 48) = true := by rw [bne_iff_ne]; omega
 have hd : digB (s[i + 1].toNat : Int) = false := by simp [digB]; omega
 have hdig := isDigit_any (s[i + 1].toNat : Int)
 rw [hd] at hdig
 have hlet := isLetter_any (s[i + 1].toNat : Int)
 rw [hl] at hlet
 have hBB := hideT (And.intro hb (And.intro hl (And.intro hd hb1)))
 clear hb hl hd hb1
 go_enter Try.func57, Try.ntmps57
 go_wp2_with (first | (go_at_call 75; refine (hdig _).mono ?_; rintro e' w' ⟨rfl, hw'⟩; subst hw') | (go_at_call 76; refine (hlet _).mono ?_; rintro e' w' ⟨rfl, hw'⟩; subst hw'))
 refine (xas 12 i _).mono ?_
 rintro e' w4 ⟨rfl, hb4⟩
 have hz4 := hz0.below hb4 (Nat.le_refl _)
 obtain ⟨c0, f0⟩ := hz4.cell 0 _ rfl
 obtain ⟨c1, f1⟩ := hz4.cell 1 _ rfl
 obtain ⟨c2, f2⟩ := hz4.cell 2 _ rfl
 obtain ⟨c3, f3⟩ := hz4.cell 3 _ rfl
 obtain ⟨c4, f4⟩ := hz4.cell 4 _ rfl
 obtain ⟨c5, f5⟩ := hz4.cell 5 _ rfl
 obtain ⟨c6, f6⟩ := hz4.cell 6 _ rfl
 obtain ⟨c7, f7⟩ := hz4.cell 7 _ rfl
 obtain ⟨c8, f8⟩ := hz4.cell 8 _ rfl
 obtain ⟨c9, f9⟩ := hz4.cell 9 _ rfl
 obtain ⟨c10, f10⟩ := hz4.cell 10 _ rfl
 go_wp2
 exact bodyPost_ret (v := (xar 12 i).v) (by simp [results, Try.results57, go_sem, c0, c1, c2, c3, c4, c5, c6, c7, c8, c9, c10]) rfl ⟨rfl, xaq (hB0.trans (hb4.mono hB0.size)) (Nat.le_refl _) _ _ _ _ _ _ _ _ _ _ _⟩
theorem xjg (s : ByteArray) (hs : s.size ≤ 1073741824) (i k : Nat) (hi : i + 1 < s.size) (hb : s[i + 1].toNat ≠ 40 ∧ s[i + 1].toNat ≠ 41 ∧ s[i + 1].toNat ≠ 123 ∧ s[i + 1].toNat ≠ 125) (hd : digB (s[i + 1].toNat : Int) = false) (hl : letB (s[i + 1].toNat : Int) = false) (w : World) :
  Calls Try.prog 57 #[.string s, .int .i64 (i : Int), .int .i64 (k : Int)] w fun e w' => e = .returned (selfT s[i + 1].toNat i (i + 2)).v ∧ Below w.heap.size w w' := by
 have hz0 := Blk11.new w
 have hB0 : Below w.heap.size w (w.alloc (.cells #[.int .i64 0, .int .i64 0, .int .i64 0, .int .i64 0, .int .u64 0, .int .u64 0, .int .u64 0, .int .u64 0, .int .i64 0, .int .i64 0, .int .i64 0] 73)) := (Below.refl _ _).alloc (Nat.le_refl _) _
 have z0 : wd xad 0 = 0 := xaa 0
 have z1 : wd xad 1 = 0 := xaa 1
 have z2 : wd xad 2 = 0 := xaa 2
 have z3 : wd xad 3 = 0 := xaa 3
 have k2 : ¬ (i : Int) + 1 = (s.size : Int) := by omega
 have k3 : (0 : Int) ≤ (i : Int) + 1 := by omega
 have k4 : (i : Int) + 1 < (s.size : Int) := by omega
 have k5 : ((i : Int) + 1).toNat = i + 1 := by omega
 have hb1 : s[i + 1].toNat ≠ 110 ∧ s[i + 1].toNat ≠ 48 := by constructor <;> (intro h; rw [h] at hd hl; revert hd hl; decide)
 have n40 : ((s[i + 1].toNat : Int) == 40) = false := by rw [beq_eq_false_iff_ne]; omega
 have n41 : ((s[i + 1].toNat : Int) == 41) = false := by rw [beq_eq_false_iff_ne]; omega
 have n123 : ((s[i + 1].toNat : Int) == 123) = false := by rw [beq_eq_false_iff_ne]; omega
 have n125 : ((s[i + 1].toNat : Int) == 125) = false := by rw [beq_eq_false_iff_ne]; omega
 have n110 : ((s[i + 1].toNat : Int) == 110) = false := by rw [beq_eq_false_iff_ne]; omega
 have n48 : ((s[i + 1].toNat : Int) != 48) = true := by rw [bne_iff_ne]; omega
 have hdig := isDigit_any (s[i + 1].toNat : Int)
 rw [hd] at hdig
 have hlet := isLetter_any (s[i + 1].toNat : Int)
 rw [hl] at hlet
 have hBB := hideT (And.intro hb (And.intro hl (And.intro hd hb1)))
 clear hb hl hd hb1
 go_enter Try.func57, Try.ntmps57
 go_wp2_with (first | (go_at_call 75; refine (hdig _).mono ?_; rintro e' w' ⟨rfl, hw'⟩; subst hw') | (go_at_call 76; refine (hlet _).mono ?_; rintro e' w' ⟨rfl, hw'⟩; subst hw'))
 refine (xcb s[i + 1].toNat i (i + 2) _).mono ?_
 rintro e' w4 ⟨rfl, hb4⟩
 have hz4 := hz0.below hb4 (Nat.le_refl _)
 obtain ⟨c0, f0⟩ := hz4.cell 0 _ rfl
 obtain ⟨c1, f1⟩ := hz4.cell 1 _ rfl
 obtain ⟨c2, f2⟩ := hz4.cell 2 _ rfl
 obtain ⟨c3, f3⟩ := hz4.cell 3 _ rfl
 obtain ⟨c4, f4⟩ := hz4.cell 4 _ rfl
 obtain ⟨c5, f5⟩ := hz4.cell 5 _ rfl
 obtain ⟨c6, f6⟩ := hz4.cell 6 _ rfl
 obtain ⟨c7, f7⟩ := hz4.cell 7 _ rfl
 obtain ⟨c8, f8⟩ := hz4.cell 8 _ rfl
 obtain ⟨c9, f9⟩ := hz4.cell 9 _ rfl
 obtain ⟨c10, f10⟩ := hz4.cell 10 _ rfl
 go_wp2
 exact bodyPost_ret (v := (selfT s[i + 1].toNat i (i + 2)).v) (by simp [results, Try.results57, go_sem, c0, c1, c2, c3, c4, c5, c6, c7, c8, c9, c10]) rfl ⟨rfl, xaq (hB0.trans (hb4.mono hB0.size)) (Nat.le_refl _) _ _ _ _ _ _ _ _ _ _ _⟩
theorem xjh (s : ByteArray) (hs : s.size ≤ 1073741824) (i k : Nat) (hi : i < s.size) (hb : s[i].toNat = 92) (t : Tk) (w : World) (hc : ∀ w', Below w.heap.size w w' → Calls Try.prog 57 #[.string s, .int .i64 (i : Int), .int .i64 (k : Int)] w' fun e w'' => e = .returned t.v ∧ Below w'.heap.size w' w'') :
  Calls Try.prog 35 #[.string s, .int .i64 (i : Int), .int .i64 (k : Int)] w fun e w' => e = .returned t.v ∧ Below w.heap.size w w' := by
 have hz0 := Blk11.new w
 have hB0 : Below w.heap.size w (w.alloc (.cells #[.int .i64 0, .int .i64 0, .int .i64 0, .int .i64 0, .int .u64 0, .int .u64 0, .int .u64 0, .int .u64 0, .int .i64 0, .int .i64 0, .int .i64 0] 73)) := (Below.refl _ _).alloc (Nat.le_refl _) _
 have z0 : wd xad 0 = 0 := xaa 0
 have z1 : wd xad 1 = 0 := xaa 1
 have z2 : wd xad 2 = 0 := xaa 2
 have z3 : wd xad 3 = 0 := xaa 3
 have k3 : (0 : Int) ≤ (i : Int) := by omega
 have k4 : (i : Int) < (s.size : Int) := by omega
 have hbI : (s[i].toNat : Int) = 92 := by omega
 have hBB := hideT hb
 clear hb
 have HC := hideT hc
 clear hc
 go_enter Try.func35, Try.ntmps35
 go_wp2_with fail
 refine (HC.out _ hB0).mono ?_
 rintro e' w4 ⟨rfl, hb4⟩
 have hz4 := hz0.below hb4 (Nat.le_refl _)
 obtain ⟨c0, f0⟩ := hz4.cell 0 _ rfl
 obtain ⟨c1, f1⟩ := hz4.cell 1 _ rfl
 obtain ⟨c2, f2⟩ := hz4.cell 2 _ rfl
 obtain ⟨c3, f3⟩ := hz4.cell 3 _ rfl
 obtain ⟨c4, f4⟩ := hz4.cell 4 _ rfl
 obtain ⟨c5, f5⟩ := hz4.cell 5 _ rfl
 obtain ⟨c6, f6⟩ := hz4.cell 6 _ rfl
 obtain ⟨c7, f7⟩ := hz4.cell 7 _ rfl
 obtain ⟨c8, f8⟩ := hz4.cell 8 _ rfl
 obtain ⟨c9, f9⟩ := hz4.cell 9 _ rfl
 obtain ⟨c10, f10⟩ := hz4.cell 10 _ rfl
 go_wp2
 exact bodyPost_ret (v := t.v) (by simp [results, Try.results35, go_sem, c0, c1, c2, c3, c4, c5, c6, c7, c8, c9, c10]) rfl ⟨rfl, xaq (hB0.trans (hb4.mono hB0.size)) (Nat.le_refl _) _ _ _ _ _ _ _ _ _ _ _⟩
theorem xhx (s : ByteArray) (hs : s.size ≤ 1073741824) (i k : Nat) (hi : i < s.size) (hb : s[i].toNat = 91) (t : Tk) (w : World) (hc : ∀ w', Below w.heap.size w w' → Calls Try.prog 58 #[.string s, .int .i64 (i : Int)] w' fun e w'' => e = .returned t.v ∧ Below w'.heap.size w' w'') :
  Calls Try.prog 35 #[.string s, .int .i64 (i : Int), .int .i64 (k : Int)] w fun e w' => e = .returned t.v ∧ Below w.heap.size w w' := by
 have hz0 := Blk11.new w
 have hB0 : Below w.heap.size w (w.alloc (.cells #[.int .i64 0, .int .i64 0, .int .i64 0, .int .i64 0, .int .u64 0, .int .u64 0, .int .u64 0, .int .u64 0, .int .i64 0, .int .i64 0, .int .i64 0] 73)) := (Below.refl _ _).alloc (Nat.le_refl _) _
 have z0 : wd xad 0 = 0 := xaa 0
 have z1 : wd xad 1 = 0 := xaa 1
 have z2 : wd xad 2 = 0 := xaa 2
 have z3 : wd xad 3 = 0 := xaa 3
 have k3 : (0 : Int) ≤ (i : Int) := by omega
 have k4 : (i : Int) < (s.size : Int) := by omega
 have hbI : (s[i].toNat : Int) = 91 := by omega
 have hBB := hideT hb
 clear hb
 have HC := hideT hc
 clear hc
 go_enter Try.func35, Try.ntmps35
 go_wp2_with fail
 refine (HC.out _ hB0).mono ?_
 rintro e' w4 ⟨rfl, hb4⟩
 have hz4 := hz0.below hb4 (Nat.le_refl _)
 obtain ⟨c0, f0⟩ := hz4.cell 0 _ rfl
 obtain ⟨c1, f1⟩ := hz4.cell 1 _ rfl
 obtain ⟨c2, f2⟩ := hz4.cell 2 _ rfl
 obtain ⟨c3, f3⟩ := hz4.cell 3 _ rfl
 obtain ⟨c4, f4⟩ := hz4.cell 4 _ rfl
 obtain ⟨c5, f5⟩ := hz4.cell 5 _ rfl
 obtain ⟨c6, f6⟩ := hz4.cell 6 _ rfl
 obtain ⟨c7, f7⟩ := hz4.cell 7 _ rfl
 obtain ⟨c8, f8⟩ := hz4.cell 8 _ rfl
 obtain ⟨c9, f9⟩ := hz4.cell 9 _ rfl
 obtain ⟨c10, f10⟩ := hz4.cell 10 _ rfl
 go_wp2
 exact bodyPost_ret (v := t.v) (by simp [results, Try.results35, go_sem, c0, c1, c2, c3, c4, c5, c6, c7, c8, c9, c10]) rfl ⟨rfl, xaq (hB0.trans (hb4.mono hB0.size)) (Nat.le_refl _) _ _ _ _ _ _ _ _ _ _ _⟩
theorem xpp (s : ByteArray) (hs : s.size ≤ 1073741824) (i k : Nat) (hi : i < s.size) (hb : s[i].toNat = 46) (w : World) :
  Calls Try.prog 35 #[.string s, .int .i64 (i : Int), .int .i64 (k : Int)] w fun e w' => e = .returned (Tk.mk 1 i (i + 1) 0 (notP xad) 0 0 0).v ∧ Below w.heap.size w w' := by
 have hz0 := Blk11.new w
 have hB0 : Below w.heap.size w (w.alloc (.cells #[.int .i64 0, .int .i64 0, .int .i64 0, .int .i64 0, .int .u64 0, .int .u64 0, .int .u64 0, .int .u64 0, .int .i64 0, .int .i64 0, .int .i64 0] 73)) := (Below.refl _ _).alloc (Nat.le_refl _) _
 have z0 : wd xad 0 = 0 := xaa 0
 have z1 : wd xad 1 = 0 := xaa 1
 have z2 : wd xad 2 = 0 := xaa 2
 have z3 : wd xad 3 = 0 := xaa 3
 have k3 : (0 : Int) ≤ (i : Int) := by omega
 have k4 : (i : Int) < (s.size : Int) := by omega
 have hbI : (s[i].toNat : Int) = 46 := by omega
 have hBB := hideT hb
 clear hb
 have hnot := fun w => notD xad w
 rw [z0, z1, z2, z3] at hnot
 simp only [Int.ofNat_zero] at hnot
 go_enter Try.func35, Try.ntmps35
 go_wp2_with fail
 refine (hnot _).mono ?_
 rintro e' w4 ⟨rfl, hb4⟩
 have hz4 := hz0.below hb4 (Nat.le_refl _)
 obtain ⟨c0, f0⟩ := hz4.cell 0 _ rfl
 obtain ⟨c1, f1⟩ := hz4.cell 1 _ rfl
 obtain ⟨c2, f2⟩ := hz4.cell 2 _ rfl
 obtain ⟨c3, f3⟩ := hz4.cell 3 _ rfl
 obtain ⟨c4, f4⟩ := hz4.cell 4 _ rfl
 obtain ⟨c5, f5⟩ := hz4.cell 5 _ rfl
 obtain ⟨c6, f6⟩ := hz4.cell 6 _ rfl
 obtain ⟨c7, f7⟩ := hz4.cell 7 _ rfl
 obtain ⟨c8, f8⟩ := hz4.cell 8 _ rfl
 obtain ⟨c9, f9⟩ := hz4.cell 9 _ rfl
 obtain ⟨c10, f10⟩ := hz4.cell 10 _ rfl
 go_wp2
 exact bodyPost_ret (v := (Tk.mk 1 i (i + 1) 0 (notP xad) 0 0 0).v) (by simp [results, Try.results35, go_sem, c0, c1, c2, c3, c4, c5, c6, c7, c8, c9, c10]) rfl ⟨rfl, xaq (hB0.trans (hb4.mono hB0.size)) (Nat.le_refl _) _ _ _ _ _ _ _ _ _ _ _⟩
theorem xpq (s : ByteArray) (hs : s.size ≤ 1073741824) (i k : Nat) (hi : i < s.size) (hb : s[i].toNat = 94) (hk : k = 4) (w : World) :
  Calls Try.prog 35 #[.string s, .int .i64 (i : Int), .int .i64 (k : Int)] w fun e w' => e = .returned (Tk.mk 2 i (i + 1) 0 xad 0 0 0).v ∧ Below w.heap.size w w' := by
 have hz0 := Blk11.new w
 have hB0 : Below w.heap.size w (w.alloc (.cells #[.int .i64 0, .int .i64 0, .int .i64 0, .int .i64 0, .int .u64 0, .int .u64 0, .int .u64 0, .int .u64 0, .int .i64 0, .int .i64 0, .int .i64 0] 73)) := (Below.refl _ _).alloc (Nat.le_refl _) _
 have z0 : wd xad 0 = 0 := xaa 0
 have z1 : wd xad 1 = 0 := xaa 1
 have z2 : wd xad 2 = 0 := xaa 2
 have z3 : wd xad 3 = 0 := xaa 3
 have k3 : (0 : Int) ≤ (i : Int) := by omega
 have k4 : (i : Int) < (s.size : Int) := by omega
 have hbI : (s[i].toNat : Int) = 94 := by omega
 have hBB := hideT hb
 clear hb
 subst hk
 go_enter Try.func35, Try.ntmps35
 go_wp2
 exact bodyPost_ret (v := (Tk.mk 2 i (i + 1) 0 xad 0 0 0).v) (by simp [results, Try.results35, go_sem, z0, z1, z2, z3]) rfl ⟨rfl, (Below.refl _ _).alloc (Nat.le_refl _) _⟩
theorem xk0 (s : ByteArray) (hs : s.size ≤ 1073741824) (i k : Nat) (hi : i < s.size) (hb : s[i].toNat = 94) (hk : k ≠ 4) (w : World) :
  Calls Try.prog 35 #[.string s, .int .i64 (i : Int), .int .i64 (k : Int)] w fun e w' => e = .returned (selfT 94 i (i + 1)).v ∧ Below w.heap.size w w' := by
 have hz0 := Blk11.new w
 have hB0 : Below w.heap.size w (w.alloc (.cells #[.int .i64 0, .int .i64 0, .int .i64 0, .int .i64 0, .int .u64 0, .int .u64 0, .int .u64 0, .int .u64 0, .int .i64 0, .int .i64 0, .int .i64 0] 73)) := (Below.refl _ _).alloc (Nat.le_refl _) _
 have z0 : wd xad 0 = 0 := xaa 0
 have z1 : wd xad 1 = 0 := xaa 1
 have z2 : wd xad 2 = 0 := xaa 2
 have z3 : wd xad 3 = 0 := xaa 3
 have k3 : (0 : Int) ≤ (i : Int) := by omega
 have k4 : (i : Int) < (s.size : Int) := by omega
 have hbI : (s[i].toNat : Int) = 94 := by omega
 have hBB := hideT hb
 clear hb
 have k6 : ((k : Int) == 4) = false := by rw [beq_eq_false_iff_ne]; omega
 go_enter Try.func35, Try.ntmps35
 go_wp2_with fail
 refine (xcb 94 i (i + 1) _).mono ?_
 rintro e' w4 ⟨rfl, hb4⟩
 have hz4 := hz0.below hb4 (Nat.le_refl _)
 obtain ⟨c0, f0⟩ := hz4.cell 0 _ rfl
 obtain ⟨c1, f1⟩ := hz4.cell 1 _ rfl
 obtain ⟨c2, f2⟩ := hz4.cell 2 _ rfl
 obtain ⟨c3, f3⟩ := hz4.cell 3 _ rfl
 obtain ⟨c4, f4⟩ := hz4.cell 4 _ rfl
 obtain ⟨c5, f5⟩ := hz4.cell 5 _ rfl
 obtain ⟨c6, f6⟩ := hz4.cell 6 _ rfl
 obtain ⟨c7, f7⟩ := hz4.cell 7 _ rfl
 obtain ⟨c8, f8⟩ := hz4.cell 8 _ rfl
 obtain ⟨c9, f9⟩ := hz4.cell 9 _ rfl
 obtain ⟨c10, f10⟩ := hz4.cell 10 _ rfl
 go_wp2
 exact bodyPost_ret (v := (selfT 94 i (i + 1)).v) (by simp [results, Try.results35, go_sem, c0, c1, c2, c3, c4, c5, c6, c7, c8, c9, c10]) rfl ⟨rfl, xaq (hB0.trans (hb4.mono hB0.size)) (Nat.le_refl _) _ _ _ _ _ _ _ _ _ _ _⟩
theorem xnl (s : ByteArray) (hs : s.size ≤ 1073741824) (i k : Nat) (hi : i < s.size) (hb : s[i].toNat = 42) (hk : repB k = true) (w : World) :
  Calls Try.prog 35 #[.string s, .int .i64 (i : Int), .int .i64 (k : Int)] w fun e w' => e = .returned (Tk.mk 7 i (i + 1) 0 xad 0 0 (-1)).v ∧ Below w.heap.size w w' := by
 have hz0 := Blk11.new w
 have hB0 : Below w.heap.size w (w.alloc (.cells #[.int .i64 0, .int .i64 0, .int .i64 0, .int .i64 0, .int .u64 0, .int .u64 0, .int .u64 0, .int .u64 0, .int .i64 0, .int .i64 0, .int .i64 0] 73)) := (Below.refl _ _).alloc (Nat.le_refl _) _
 have z0 : wd xad 0 = 0 := xaa 0
 have z1 : wd xad 1 = 0 := xaa 1
 have z2 : wd xad 2 = 0 := xaa 2
 have z3 : wd xad 3 = 0 := xaa 3
 have k3 : (0 : Int) ≤ (i : Int) := by omega
 have k4 : (i : Int) < (s.size : Int) := by omega
 have hbI : (s[i].toNat : Int) = 42 := by omega
 have hBB := hideT hb
 clear hb
 have hrep := xbv k
 rw [hk] at hrep
 go_enter Try.func35, Try.ntmps35
 go_wp2_with (go_at_call 60; refine (hrep _).mono ?_; rintro e' w' ⟨rfl, hw'⟩; subst hw')
 exact bodyPost_ret (v := (Tk.mk 7 i (i + 1) 0 xad 0 0 (-1)).v) (by simp [results, Try.results35, go_sem, z0, z1, z2, z3]) rfl ⟨rfl, (Below.refl _ _).alloc (Nat.le_refl _) _⟩
theorem xge (s : ByteArray) (hs : s.size ≤ 1073741824) (i k : Nat) (hi : i < s.size) (hb : s[i].toNat = 42) (hk : repB k = false) (w : World) :
  Calls Try.prog 35 #[.string s, .int .i64 (i : Int), .int .i64 (k : Int)] w fun e w' => e = .returned (selfT 42 i (i + 1)).v ∧ Below w.heap.size w w' := by
 have hz0 := Blk11.new w
 have hB0 : Below w.heap.size w (w.alloc (.cells #[.int .i64 0, .int .i64 0, .int .i64 0, .int .i64 0, .int .u64 0, .int .u64 0, .int .u64 0, .int .u64 0, .int .i64 0, .int .i64 0, .int .i64 0] 73)) := (Below.refl _ _).alloc (Nat.le_refl _) _
 have z0 : wd xad 0 = 0 := xaa 0
 have z1 : wd xad 1 = 0 := xaa 1
 have z2 : wd xad 2 = 0 := xaa 2
 have z3 : wd xad 3 = 0 := xaa 3
 have k3 : (0 : Int) ≤ (i : Int) := by omega
 have k4 : (i : Int) < (s.size : Int) := by omega
 have hbI : (s[i].toNat : Int) = 42 := by omega
 have hBB := hideT hb
 clear hb
 have hrep := xbv k
 rw [hk] at hrep
 go_enter Try.func35, Try.ntmps35
 go_wp2_with (go_at_call 60; refine (hrep _).mono ?_; rintro e' w' ⟨rfl, hw'⟩; subst hw')
 refine (xcb 42 i (i + 1) _).mono ?_
 rintro e' w4 ⟨rfl, hb4⟩
 have hz4 := hz0.below hb4 (Nat.le_refl _)
 obtain ⟨c0, f0⟩ := hz4.cell 0 _ rfl
 obtain ⟨c1, f1⟩ := hz4.cell 1 _ rfl
 obtain ⟨c2, f2⟩ := hz4.cell 2 _ rfl
 obtain ⟨c3, f3⟩ := hz4.cell 3 _ rfl
 obtain ⟨c4, f4⟩ := hz4.cell 4 _ rfl
 obtain ⟨c5, f5⟩ := hz4.cell 5 _ rfl
 obtain ⟨c6, f6⟩ := hz4.cell 6 _ rfl
 obtain ⟨c7, f7⟩ := hz4.cell 7 _ rfl
 obtain ⟨c8, f8⟩ := hz4.cell 8 _ rfl
 obtain ⟨c9, f9⟩ := hz4.cell 9 _ rfl
 obtain ⟨c10, f10⟩ := hz4.cell 10 _ rfl
 go_wp2
 exact bodyPost_ret (v := (selfT 42 i (i + 1)).v) (by simp [results, Try.results35, go_sem, c0, c1, c2, c3, c4, c5, c6, c7, c8, c9, c10]) rfl ⟨rfl, xaq (hB0.trans (hb4.mono hB0.size)) (Nat.le_refl _) _ _ _ _ _ _ _ _ _ _ _⟩
theorem xnm (s : ByteArray) (hs : s.size ≤ 1073741824) (i k : Nat) (hi : i < s.size) (hb : s[i].toNat ≠ 92 ∧ s[i].toNat ≠ 91 ∧ s[i].toNat ≠ 46 ∧ s[i].toNat ≠ 94 ∧ s[i].toNat ≠ 36 ∧ s[i].toNat ≠ 42) (w : World) :
  Calls Try.prog 35 #[.string s, .int .i64 (i : Int), .int .i64 (k : Int)] w fun e w' => e = .returned (selfT s[i].toNat i (i + 1)).v ∧ Below w.heap.size w w' := by
 have hz0 := Blk11.new w
 have hB0 : Below w.heap.size w (w.alloc (.cells #[.int .i64 0, .int .i64 0, .int .i64 0, .int .i64 0, .int .u64 0, .int .u64 0, .int .u64 0, .int .u64 0, .int .i64 0, .int .i64 0, .int .i64 0] 73)) := (Below.refl _ _).alloc (Nat.le_refl _) _
 have z0 : wd xad 0 = 0 := xaa 0
 have z1 : wd xad 1 = 0 := xaa 1
 have z2 : wd xad 2 = 0 := xaa 2
 have z3 : wd xad 3 = 0 := xaa 3
 have k3 : (0 : Int) ≤ (i : Int) := by omega
 have k4 : (i : Int) < (s.size : Int) := by omega
 have n92 : ((s[i].toNat : Int) == 92) = false := by rw [beq_eq_false_iff_ne]; omega
 have n91 : ((s[i].toNat : Int) == 91) = false := by rw [beq_eq_false_iff_ne]; omega
 have n46 : ((s[i].toNat : Int) == 46) = false := by rw [beq_eq_false_iff_ne]; omega
 have n94 : ((s[i].toNat : Int) == 94) = false := by rw [beq_eq_false_iff_ne]; omega
 have n36 : ((s[i].toNat : Int) == 36) = false := by rw [beq_eq_false_iff_ne]; omega
 have n42 : ((s[i].toNat : Int) == 42) = false := by rw [beq_eq_false_iff_ne]; omega
 have hBB := hideT hb
 clear hb
 go_enter Try.func35, Try.ntmps35
 go_wp2_with fail
 refine (xcb s[i].toNat i (i + 1) _).mono ?_
 rintro e' w4 ⟨rfl, hb4⟩
 have hz4 := hz0.below hb4 (Nat.le_refl _)
 obtain ⟨c0, f0⟩ := hz4.cell 0 _ rfl
 obtain ⟨c1, f1⟩ := hz4.cell 1 _ rfl
 obtain ⟨c2, f2⟩ := hz4.cell 2 _ rfl
 obtain ⟨c3, f3⟩ := hz4.cell 3 _ rfl
 obtain ⟨c4, f4⟩ := hz4.cell 4 _ rfl
 obtain ⟨c5, f5⟩ := hz4.cell 5 _ rfl
 obtain ⟨c6, f6⟩ := hz4.cell 6 _ rfl
 obtain ⟨c7, f7⟩ := hz4.cell 7 _ rfl
 obtain ⟨c8, f8⟩ := hz4.cell 8 _ rfl
 obtain ⟨c9, f9⟩ := hz4.cell 9 _ rfl
 obtain ⟨c10, f10⟩ := hz4.cell 10 _ rfl
 go_wp2
 exact bodyPost_ret (v := (selfT s[i].toNat i (i + 1)).v) (by simp [results, Try.results35, go_sem, c0, c1, c2, c3, c4, c5, c6, c7, c8, c9, c10]) rfl ⟨rfl, xaq (hB0.trans (hb4.mono hB0.size)) (Nat.le_refl _) _ _ _ _ _ _ _ _ _ _ _⟩
theorem xhy (s : ByteArray) (hs : s.size ≤ 1073741824) (i k : Nat) (hi : i < s.size) (hb : s[i].toNat = 36) (hk : i + 1 = s.size) (w : World) :
  Calls Try.prog 35 #[.string s, .int .i64 (i : Int), .int .i64 (k : Int)] w fun e w' => e = .returned (Tk.mk 3 i (i + 1) 0 xad 0 0 0).v ∧ Below w.heap.size w w' := by
 have hz0 := Blk11.new w
 have hB0 : Below w.heap.size w (w.alloc (.cells #[.int .i64 0, .int .i64 0, .int .i64 0, .int .i64 0, .int .u64 0, .int .u64 0, .int .u64 0, .int .u64 0, .int .i64 0, .int .i64 0, .int .i64 0] 73)) := (Below.refl _ _).alloc (Nat.le_refl _) _
 have z0 : wd xad 0 = 0 := xaa 0
 have z1 : wd xad 1 = 0 := xaa 1
 have z2 : wd xad 2 = 0 := xaa 2
 have z3 : wd xad 3 = 0 := xaa 3
 have k3 : (0 : Int) ≤ (i : Int) := by omega
 have k4 : (i : Int) < (s.size : Int) := by omega
 have hbI : (s[i].toNat : Int) = 36 := by omega
 have hBB := hideT hb
 clear hb
 have k6 : (i : Int) + 1 = (s.size : Int) := by omega
 have HK := hideT hk
 clear hk
 go_enter Try.func35, Try.ntmps35
 go_wp2
 exact bodyPost_ret (v := (Tk.mk 3 i (i + 1) 0 xad 0 0 0).v) (by simp [results, Try.results35, go_sem, z0, z1, z2, z3]; omega) rfl ⟨rfl, (Below.refl _ _).alloc (Nat.le_refl _) _⟩
theorem xgf (s : ByteArray) (hs : s.size ≤ 1073741824) (i k : Nat) (hi : i < s.size) (hb : s[i].toNat = 36) (hn : i + 1 < s.size) (hk : Lib.hasPrefix (s.extract (i + 1) s.size).data.toList [92, 41] = true) (w : World) :
  Calls Try.prog 35 #[.string s, .int .i64 (i : Int), .int .i64 (k : Int)] w fun e w' => e = .returned (Tk.mk 3 i (i + 1) 0 xad 0 0 0).v ∧ Below w.heap.size w w' := by
 have hz0 := Blk11.new w
 have hB0 : Below w.heap.size w (w.alloc (.cells #[.int .i64 0, .int .i64 0, .int .i64 0, .int .i64 0, .int .u64 0, .int .u64 0, .int .u64 0, .int .u64 0, .int .i64 0, .int .i64 0, .int .i64 0] 73)) := (Below.refl _ _).alloc (Nat.le_refl _) _
 have z0 : wd xad 0 = 0 := xaa 0
 have z1 : wd xad 1 = 0 := xaa 1
 have z2 : wd xad 2 = 0 := xaa 2
 have z3 : wd xad 3 = 0 := xaa 3
 have k3 : (0 : Int) ≤ (i : Int) := by omega
 have k4 : (i : Int) < (s.size : Int) := by omega
 have hbI : (s[i].toNat : Int) = 36 := by omega
 have hBB := hideT hb
 clear hb
 have hpre := fun w => Try.strings_HasPrefix (s.extract (i + 1) s.size) ⟨#[92, 41]⟩ w
 rw [hk] at hpre
 have k6 : ¬ (i : Int) + 1 = (s.size : Int) := by omega
 have k7 : ((i : Int) + 1 == (s.size : Int)) = false := by rw [beq_eq_false_iff_ne]; omega
 have k8 : (0 : Int) ≤ (i : Int) + 1 := by omega
 have k9 : (i : Int) + 1 ≤ (s.size : Int) := by omega
 have k10 : ((i : Int) + 1).toNat = i + 1 := by omega
 have HK := hideT hk
 clear hk
 go_enter Try.func35, Try.ntmps35
 go_wp2_with (go_at_call 59; refine (hpre _).mono ?_; rintro e' w' ⟨rfl, hw'⟩; subst hw')
 exact bodyPost_ret (v := (Tk.mk 3 i (i + 1) 0 xad 0 0 0).v) (by simp [results, Try.results35, go_sem, z0, z1, z2, z3]) rfl ⟨rfl, (Below.refl _ _).alloc (Nat.le_refl _) _⟩
theorem xji (s : ByteArray) (hs : s.size ≤ 1073741824) (i k : Nat) (hi : i < s.size) (hb : s[i].toNat = 36) (hn : i + 1 < s.size) (hk : Lib.hasPrefix (s.extract (i + 1) s.size).data.toList [92, 41] = false) (w : World) :
  Calls Try.prog 35 #[.string s, .int .i64 (i : Int), .int .i64 (k : Int)] w fun e w' => e = .returned (selfT 36 i (i + 1)).v ∧ Below w.heap.size w w' := by
 have hz0 := Blk11.new w
 have hB0 : Below w.heap.size w (w.alloc (.cells #[.int .i64 0, .int .i64 0, .int .i64 0, .int .i64 0, .int .u64 0, .int .u64 0, .int .u64 0, .int .u64 0, .int .i64 0, .int .i64 0, .int .i64 0] 73)) := (Below.refl _ _).alloc (Nat.le_refl _) _
 have z0 : wd xad 0 = 0 := xaa 0
 have z1 : wd xad 1 = 0 := xaa 1
 have z2 : wd xad 2 = 0 := xaa 2
 have z3 : wd xad 3 = 0 := xaa 3
 have k3 : (0 : Int) ≤ (i : Int) := by omega
 have k4 : (i : Int) < (s.size : Int) := by omega
 have hbI : (s[i].toNat : Int) = 36 := by omega
 have hBB := hideT hb
 clear hb
 have hpre := fun w => Try.strings_HasPrefix (s.extract (i + 1) s.size) ⟨#[92, 41]⟩ w
 rw [hk] at hpre
 have k6 : ¬ (i : Int) + 1 = (s.size : Int) := by omega
 have k7 : ((i : Int) + 1 == (s.size : Int)) = false := by rw [beq_eq_false_iff_ne]; omega
 have k8 : (0 : Int) ≤ (i : Int) + 1 := by omega
 have k9 : (i : Int) + 1 ≤ (s.size : Int) := by omega
 have k10 : ((i : Int) + 1).toNat = i + 1 := by omega
 have HK := hideT hk
 clear hk
 go_enter Try.func35, Try.ntmps35
 go_wp2_with (go_at_call 59; refine (hpre _).mono ?_; rintro e' w' ⟨rfl, hw'⟩; subst hw')
 refine (xcb 36 i (i + 1) _).mono ?_
 rintro e' w4 ⟨rfl, hb4⟩
 have hz4 := hz0.below hb4 (Nat.le_refl _)
 obtain ⟨c0, f0⟩ := hz4.cell 0 _ rfl
 obtain ⟨c1, f1⟩ := hz4.cell 1 _ rfl
 obtain ⟨c2, f2⟩ := hz4.cell 2 _ rfl
 obtain ⟨c3, f3⟩ := hz4.cell 3 _ rfl
 obtain ⟨c4, f4⟩ := hz4.cell 4 _ rfl
 obtain ⟨c5, f5⟩ := hz4.cell 5 _ rfl
 obtain ⟨c6, f6⟩ := hz4.cell 6 _ rfl
 obtain ⟨c7, f7⟩ := hz4.cell 7 _ rfl
 obtain ⟨c8, f8⟩ := hz4.cell 8 _ rfl
 obtain ⟨c9, f9⟩ := hz4.cell 9 _ rfl
 obtain ⟨c10, f10⟩ := hz4.cell 10 _ rfl
 go_wp2
 exact bodyPost_ret (v := (selfT 36 i (i + 1)).v) (by simp [results, Try.results35, go_sem, c0, c1, c2, c3, c4, c5, c6, c7, c8, c9, c10]) rfl ⟨rfl, xaq (hB0.trans (hb4.mono hB0.size)) (Nat.le_refl _) _ _ _ _ _ _ _ _ _ _ _⟩
end Go.Proofs.Ytolpakpdkheanaa.br
