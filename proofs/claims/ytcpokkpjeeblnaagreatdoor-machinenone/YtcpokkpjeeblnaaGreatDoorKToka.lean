/- bre: readEscape, a. -/
import Derived.Test.YtcpokkpjeeblnaaGreatDoorKBa
import Derived.Test.YtcpokkpjeeblnaaGreatDoorKShelf
import Derived.Test.YtcpokkpjeeblnaaGreatDoorKTk
import Derived.Test.YtcpokkpjeeblnaaGreatDoorKClose
set_option maxRecDepth 100000
set_option maxHeartbeats 1000000
namespace Go.Proofs.YtcpokkpjeeblnaaGreatDoor.br
open Go.RowKit
variable {P : Prop} {s : ByteArray} {i : Nat}
theorem btoka0 (h : P := by
 replace hb := hideT hb;have HC := hideT hc;clear hc;go_enter Tryz.func218, Tryz.ntmps218
 go_wp2_with fail
 refine (HC.out _ hB0).mono ?_;exact tcT) : P := h
abbrev TkE (s : ByteArray) (i k : Nat) (w : World) (v : Value) : Prop := Calls Tryz.prog 265 #[.string s, .int .i64 (i : Int), .int .i64 (k : Int)] w fun e w' => e = .returned v /\ Below w.heap.size w w'
abbrev TkT (s : ByteArray) (i k : Nat) (w : World) (v : Value) : Prop := Calls Tryz.prog 218 #[.string s, .int .i64 (i : Int), .int .i64 (k : Int)] w fun e w' => e = .returned v /\ Below w.heap.size w w'
theorem tkE (w : World) (hi : i + 1 < s.size) : Blk11 (w.alloc (.cells Zt 298)) w.heap.size xme /\ Below w.heap.size w (w.alloc (.cells Zt 298)) /\ wd xad 0 = 0 /\ wd xad 1 = 0 /\ wd xad 2 = 0 /\ wd xad 3 = 0 /\ (¬ (i : Int) + 1 = (s.size : Int)) /\ (0 : Int) <= (i : Int) + 1 /\ (i : Int) + 1 < (s.size : Int) /\ ((i : Int) + 1).toNat = i + 1 :=
 ⟨Blk11.new w, (Below.refl _ _).alloc qr _, xaa 0, xaa 1, xaa 2, xaa 3, by omega, by omega, by omega, by omega⟩
theorem tkT (w : World) (hi : i < s.size) : Blk11 (w.alloc (.cells Zt 298)) w.heap.size xme /\ Below w.heap.size w (w.alloc (.cells Zt 298)) /\ wd xad 0 = 0 /\ wd xad 1 = 0 /\ wd xad 2 = 0 /\ wd xad 3 = 0 /\ (0 : Int) <= (i : Int) /\ (i : Int) < (s.size : Int) :=
 ⟨Blk11.new w, (Below.refl _ _).alloc qr _, xaa 0, xaa 1, xaa 2, xaa 3, by omega, by omega⟩
theorem tcE (h : P := by
 rintro e' w4 ⟨rfl, hb4⟩;have hz4 := hz0.below hb4 qr;obtain ⟨c0, f0⟩ := hz4.cell 0 _ rfl;obtain ⟨c1, f1⟩ := hz4.cell 1 _ rfl;obtain ⟨c2, f2⟩ := hz4.cell 2 _ rfl;obtain ⟨c3, f3⟩ := hz4.cell 3 _ rfl;obtain ⟨c4, f4⟩ := hz4.cell 4 _ rfl;obtain ⟨c5, f5⟩ := hz4.cell 5 _ rfl;obtain ⟨c6, f6⟩ := hz4.cell 6 _ rfl;obtain ⟨c7, f7⟩ := hz4.cell 7 _ rfl;obtain ⟨c8, f8⟩ := hz4.cell 8 _ rfl;obtain ⟨c9, f9⟩ := hz4.cell 9 _ rfl;obtain ⟨c10, f10⟩ := hz4.cell 10 _ rfl;go_wp2;exact bodyPost_ret (by simp [results, Tryz.results265, go_sem, c0, c1, c2, c3, c4, c5, c6, c7, c8, c9, c10]) rfl ⟨rfl, xaq (hB0.trans (hb4.mono hB0.size)) qr _ _ _ _ _ _ _ _ _ _ _⟩) : P := h
theorem tdE (h : P := by exact bodyPost_ret (by simp [results, Tryz.results265, go_sem, z0, z1, z2, z3]) rfl ⟨rfl, (Below.refl _ _).alloc qr _⟩) : P := h
theorem tcT (h : P := by
 rintro e' w4 ⟨rfl, hb4⟩;have hz4 := hz0.below hb4 qr;obtain ⟨c0, f0⟩ := hz4.cell 0 _ rfl;obtain ⟨c1, f1⟩ := hz4.cell 1 _ rfl;obtain ⟨c2, f2⟩ := hz4.cell 2 _ rfl;obtain ⟨c3, f3⟩ := hz4.cell 3 _ rfl;obtain ⟨c4, f4⟩ := hz4.cell 4 _ rfl;obtain ⟨c5, f5⟩ := hz4.cell 5 _ rfl;obtain ⟨c6, f6⟩ := hz4.cell 6 _ rfl;obtain ⟨c7, f7⟩ := hz4.cell 7 _ rfl;obtain ⟨c8, f8⟩ := hz4.cell 8 _ rfl;obtain ⟨c9, f9⟩ := hz4.cell 9 _ rfl;obtain ⟨c10, f10⟩ := hz4.cell 10 _ rfl;go_wp2;exact bodyPost_ret (by simp [results, Tryz.results218, go_sem, c0, c1, c2, c3, c4, c5, c6, c7, c8, c9, c10]) rfl ⟨rfl, xaq (hB0.trans (hb4.mono hB0.size)) qr _ _ _ _ _ _ _ _ _ _ _⟩) : P := h
theorem tdT (h : P := by exact bodyPost_ret (by simp [results, Tryz.results218, go_sem, z0, z1, z2, z3]) rfl ⟨rfl, (Below.refl _ _).alloc qr _⟩) : P := h
theorem xkx (s : ByteArray) (hs : s.size <= 1073741824) (i k : Nat) (hi : i + 1 < s.size) (hb : s[i + 1].toNat = 40) (w : World) :
  TkE s i k w (Tk.mk 4 i (i + 2) 0 xad 0 0 0).v := by
 obtain ⟨hz0, hB0, z0, z1, z2, z3, k2, k3, k4, k5⟩ := tkE w hi;have hbI : (s[i + 1].toNat : Int) = 40 := by omega
 replace hb := hideT hb;go_enter Tryz.func265, Tryz.ntmps265;go_wp2;exact tdE
theorem xjd (s : ByteArray) (hs : s.size <= 1073741824) (i k : Nat) (hi : i + 1 < s.size) (hb : s[i + 1].toNat = 41) (w : World) :
  TkE s i k w (Tk.mk 5 i (i + 2) 0 xad 0 0 0).v := by
 obtain ⟨hz0, hB0, z0, z1, z2, z3, k2, k3, k4, k5⟩ := tkE w hi;have hbI : (s[i + 1].toNat : Int) = 41 := by omega
 replace hb := hideT hb;go_enter Tryz.func265, Tryz.ntmps265;go_wp2;exact tdE
theorem xnk (s : ByteArray) (hs : s.size <= 1073741824) (i k : Nat) (hi : i + 1 < s.size) (hb : s[i + 1].toNat = 123) (hk : repB k = true) (w : World) (t : Tk) (hiv : ∀ w', Below w.heap.size w w' -> Calls Tryz.prog 309 #[.string s, .int .i64 (i : Int)] w' fun e w'' => e = .returned t.v /\ Below w'.heap.size w' w'') :
  TkE s i k w t.v := by
 obtain ⟨hz0, hB0, z0, z1, z2, z3, k2, k3, k4, k5⟩ := tkE w hi;have hbI : (s[i + 1].toNat : Int) = 123 := by omega
 have hBB := hideT hb;have HIV := hideT hiv;clear hb hiv;have hrep := xbv k;rw [hk] at hrep;go_enter Tryz.func265, Tryz.ntmps265
 go_wp2_with (go_at_call 268; refine (hrep _).mono ?_; rintro e' w' ⟨rfl, hw'⟩; subst hw')
 refine (HIV.out _ hB0).mono ?_;exact tcE
theorem xje (s : ByteArray) (hs : s.size <= 1073741824) (i k : Nat) (hi : i + 1 < s.size) (hb : s[i + 1].toNat = 123) (hk : repB k = false) (w : World) :
  TkE s i k w (xar 9 i).v := by
 obtain ⟨hz0, hB0, z0, z1, z2, z3, k2, k3, k4, k5⟩ := tkE w hi;have hbI : (s[i + 1].toNat : Int) = 123 := by omega
 replace hb := hideT hb;have hrep := xbv k;rw [hk] at hrep;go_enter Tryz.func265, Tryz.ntmps265
 go_wp2_with (go_at_call 268; refine (hrep _).mono ?_; rintro e' w' ⟨rfl, hw'⟩; subst hw')
 refine (xas 9 i _).mono ?_;exact tcE
theorem xky (s : ByteArray) (hs : s.size <= 1073741824) (i k : Nat) (hi : i + 1 < s.size) (hb : s[i + 1].toNat = 125) (w : World) :
  TkE s i k w (xar 9 i).v := by
 obtain ⟨hz0, hB0, z0, z1, z2, z3, k2, k3, k4, k5⟩ := tkE w hi;have hbI : (s[i + 1].toNat : Int) = 125 := by omega
 replace hb := hideT hb;go_enter Tryz.func265, Tryz.ntmps265
 go_wp2_with fail
 refine (xas 9 i _).mono ?_;exact tcE
theorem escape_n (s : ByteArray) (hs : s.size <= 1073741824) (i k : Nat) (hi : i + 1 < s.size) (hb : s[i + 1].toNat = 110) (w : World) :
  TkE s i k w (selfT 10 i (i + 2)).v := by
 obtain ⟨hz0, hB0, z0, z1, z2, z3, k2, k3, k4, k5⟩ := tkE w hi;have hbI : (s[i + 1].toNat : Int) = 110 := by omega
 replace hb := hideT hb;go_enter Tryz.func265, Tryz.ntmps265
 go_wp2_with fail
 refine (xcb 10 i (i + 2) _).mono ?_;exact tcE
theorem xjf (s : ByteArray) (hs : s.size <= 1073741824) (i k : Nat) (hi : i + 1 < s.size) (hb : s[i + 1].toNat ≠ 48) (hd : digB (s[i + 1].toNat : Int) = true) (w : World) :
  TkE s i k w (Tk.mk 6 i (i + 2) 0 xad (s[i + 1].toNat - 48) 0 0).v := by
 obtain ⟨hz0, hB0, z0, z1, z2, z3, k2, k3, k4, k5⟩ := tkE w hi;have hb1 : 49 <= s[i + 1].toNat /\ s[i + 1].toNat <= 57 := by simp [digB] at hd; omega
 have n40 : ((s[i + 1].toNat : Int) == 40) = false := qn;have n41 : ((s[i + 1].toNat : Int) == 41) = false := qn;have n123 : ((s[i + 1].toNat : Int) == 123) = false := qn;have n125 : ((s[i + 1].toNat : Int) == 125) = false := qn;have n110 : ((s[i + 1].toNat : Int) == 110) = false := qn;have n48 : ((s[i + 1].toNat : Int) != 48) = true := qb;have hdig := isDigit_any (s[i + 1].toNat : Int);rw [hd] at hdig;have m1 : IntKind.u8.wrap ((s[i + 1].toNat : Int) - 48) = ((s[i + 1].toNat - 48 : Nat) : Int) := by rw [IntKind.wrap_u8]; omega
 have m2 : IntKind.i64.wrap ((s[i + 1].toNat - 48 : Nat) : Int) = ((s[i + 1].toNat - 48 : Nat) : Int) := by rw [IntKind.wrap_i64]; omega
 have hBB := hideT (And.intro hb (And.intro hd hb1));clear hb hd hb1;go_enter Tryz.func265, Tryz.ntmps265
 go_wp2_with (go_at_call 310; refine (hdig _).mono ?_; rintro e' w' ⟨rfl, hw'⟩; subst hw')
 exact tdE
theorem xkz (s : ByteArray) (hs : s.size <= 1073741824) (i k : Nat) (hi : i + 1 < s.size) (hb : s[i + 1].toNat = 48) (w : World) :
  TkE s i k w (xar 12 i).v := by
 obtain ⟨hz0, hB0, z0, z1, z2, z3, k2, k3, k4, k5⟩ := tkE w hi;have hbI : (s[i + 1].toNat : Int) = 48 := by omega
 have hdig := isDigit_any 48;replace hb := hideT hb;go_enter Tryz.func265, Tryz.ntmps265
 go_wp2_with (go_at_call 310; refine (hdig _).mono ?_; rintro e' w' ⟨rfl, hw'⟩; subst hw')
 refine (xas 12 i _).mono ?_;exact tcE
theorem xhw (s : ByteArray) (hs : s.size <= 1073741824) (i k : Nat) (hi : i + 1 < s.size) (hb : s[i + 1].toNat ≠ 110) (hl : letB (s[i + 1].toNat : Int) = true) (w : World) :
  TkE s i k w (xar 12 i).v := by
 obtain ⟨hz0, hB0, z0, z1, z2, z3, k2, k3, k4, k5⟩ := tkE w hi;have hb1 : (97 <= s[i + 1].toNat /\ s[i + 1].toNat <= 122) \/ (65 <= s[i + 1].toNat /\ s[i + 1].toNat <= 90) := by simp [letB] at hl; omega
 have n40 : ((s[i + 1].toNat : Int) == 40) = false := qn;have n41 : ((s[i + 1].toNat : Int) == 41) = false := qn;have n123 : ((s[i + 1].toNat : Int) == 123) = false := qn;have n125 : ((s[i + 1].toNat : Int) == 125) = false := qn;have n110 : ((s[i + 1].toNat : Int) == 110) = false := qn;have n48 : ((s[i + 1].toNat : Int) != 48) = true := qb;have hd : digB (s[i + 1].toNat : Int) = false := by simp [digB]; omega
 have hdig := isDigit_any (s[i + 1].toNat : Int);rw [hd] at hdig;have hlet := isLetter_any (s[i + 1].toNat : Int);rw [hl] at hlet;have hBB := hideT (And.intro hb (And.intro hl (And.intro hd hb1)));clear hb hl hd hb1;go_enter Tryz.func265, Tryz.ntmps265
 go_wp2_with (first | (go_at_call 310; refine (hdig _).mono ?_; rintro e' w' ⟨rfl, hw'⟩; subst hw') | (go_at_call 311; refine (hlet _).mono ?_; rintro e' w' ⟨rfl, hw'⟩; subst hw'))
 refine (xas 12 i _).mono ?_;exact tcE
theorem xjg (s : ByteArray) (hs : s.size <= 1073741824) (i k : Nat) (hi : i + 1 < s.size) (hb : s[i + 1].toNat ≠ 40 /\ s[i + 1].toNat ≠ 41 /\ s[i + 1].toNat ≠ 123 /\ s[i + 1].toNat ≠ 125) (hd : digB (s[i + 1].toNat : Int) = false) (hl : letB (s[i + 1].toNat : Int) = false) (w : World) :
  TkE s i k w (selfT s[i + 1].toNat i (i + 2)).v := by
 obtain ⟨hz0, hB0, z0, z1, z2, z3, k2, k3, k4, k5⟩ := tkE w hi;have hb1 : s[i + 1].toNat ≠ 110 /\ s[i + 1].toNat ≠ 48 := by constructor <;> (intro h; rw [h] at hd hl; revert hd hl; decide)
 have n40 : ((s[i + 1].toNat : Int) == 40) = false := qn;have n41 : ((s[i + 1].toNat : Int) == 41) = false := qn;have n123 : ((s[i + 1].toNat : Int) == 123) = false := qn;have n125 : ((s[i + 1].toNat : Int) == 125) = false := qn;have n110 : ((s[i + 1].toNat : Int) == 110) = false := qn;have n48 : ((s[i + 1].toNat : Int) != 48) = true := qb;have hdig := isDigit_any (s[i + 1].toNat : Int);rw [hd] at hdig;have hlet := isLetter_any (s[i + 1].toNat : Int);rw [hl] at hlet;have hBB := hideT (And.intro hb (And.intro hl (And.intro hd hb1)));clear hb hl hd hb1;go_enter Tryz.func265, Tryz.ntmps265
 go_wp2_with (first | (go_at_call 310; refine (hdig _).mono ?_; rintro e' w' ⟨rfl, hw'⟩; subst hw') | (go_at_call 311; refine (hlet _).mono ?_; rintro e' w' ⟨rfl, hw'⟩; subst hw'))
 refine (xcb s[i + 1].toNat i (i + 2) _).mono ?_;exact tcE
theorem xjh (s : ByteArray) (hs : s.size <= 1073741824) (i k : Nat) (hi : i < s.size) (hb : s[i].toNat = 92) (t : Tk) (w : World) (hc : ∀ w', Below w.heap.size w w' -> TkE s i k w' t.v) :
  TkT s i k w t.v := by
 obtain ⟨hz0, hB0, z0, z1, z2, z3, k3, k4⟩ := tkT w hi;have hbI : (s[i].toNat : Int) = 92 := by omega
 exact btoka0
theorem xhx (s : ByteArray) (hs : s.size <= 1073741824) (i k : Nat) (hi : i < s.size) (hb : s[i].toNat = 91) (t : Tk) (w : World) (hc : ∀ w', Below w.heap.size w w' -> Calls Tryz.prog 266 #[.string s, .int .i64 (i : Int)] w' fun e w'' => e = .returned t.v /\ Below w'.heap.size w' w'') :
  TkT s i k w t.v := by
 obtain ⟨hz0, hB0, z0, z1, z2, z3, k3, k4⟩ := tkT w hi;have hbI : (s[i].toNat : Int) = 91 := by omega
 exact btoka0
theorem xpp (s : ByteArray) (hs : s.size <= 1073741824) (i k : Nat) (hi : i < s.size) (hb : s[i].toNat = 46) (w : World) :
  TkT s i k w (Tk.mk 1 i (i + 1) 0 (notP xad) 0 0 0).v := by
 obtain ⟨hz0, hB0, z0, z1, z2, z3, k3, k4⟩ := tkT w hi;have hbI : (s[i].toNat : Int) = 46 := by omega
 replace hb := hideT hb;have hnot := fun w => notD xad w;rw [z0, z1, z2, z3] at hnot;simp only [Int.ofNat_zero] at hnot;go_enter Tryz.func218, Tryz.ntmps218
 go_wp2_with fail
 refine (hnot _).mono ?_;exact tcT
theorem xpq (s : ByteArray) (hs : s.size <= 1073741824) (i k : Nat) (hi : i < s.size) (hb : s[i].toNat = 94) (hk : k = 4) (w : World) :
  TkT s i k w (Tk.mk 2 i (i + 1) 0 xad 0 0 0).v := by
 obtain ⟨hz0, hB0, z0, z1, z2, z3, k3, k4⟩ := tkT w hi;have hbI : (s[i].toNat : Int) = 94 := by omega
 replace hb := hideT hb;subst hk;go_enter Tryz.func218, Tryz.ntmps218;go_wp2;exact tdT
theorem xk0 (s : ByteArray) (hs : s.size <= 1073741824) (i k : Nat) (hi : i < s.size) (hb : s[i].toNat = 94) (hk : k ≠ 4) (w : World) :
  TkT s i k w (selfT 94 i (i + 1)).v := by
 obtain ⟨hz0, hB0, z0, z1, z2, z3, k3, k4⟩ := tkT w hi;have hbI : (s[i].toNat : Int) = 94 := by omega
 replace hb := hideT hb;have k6 : ((k : Int) == 4) = false := qn;go_enter Tryz.func218, Tryz.ntmps218
 go_wp2_with fail
 refine (xcb 94 i (i + 1) _).mono ?_;exact tcT
theorem xnl (s : ByteArray) (hs : s.size <= 1073741824) (i k : Nat) (hi : i < s.size) (hb : s[i].toNat = 42) (hk : repB k = true) (w : World) :
  TkT s i k w (Tk.mk 7 i (i + 1) 0 xad 0 0 (-1)).v := by
 obtain ⟨hz0, hB0, z0, z1, z2, z3, k3, k4⟩ := tkT w hi;have hbI : (s[i].toNat : Int) = 42 := by omega
 replace hb := hideT hb;have hrep := xbv k;rw [hk] at hrep;go_enter Tryz.func218, Tryz.ntmps218
 go_wp2_with (go_at_call 268; refine (hrep _).mono ?_; rintro e' w' ⟨rfl, hw'⟩; subst hw')
 exact tdT
theorem xge (s : ByteArray) (hs : s.size <= 1073741824) (i k : Nat) (hi : i < s.size) (hb : s[i].toNat = 42) (hk : repB k = false) (w : World) :
  TkT s i k w (selfT 42 i (i + 1)).v := by
 obtain ⟨hz0, hB0, z0, z1, z2, z3, k3, k4⟩ := tkT w hi;have hbI : (s[i].toNat : Int) = 42 := by omega
 replace hb := hideT hb;have hrep := xbv k;rw [hk] at hrep;go_enter Tryz.func218, Tryz.ntmps218
 go_wp2_with (go_at_call 268; refine (hrep _).mono ?_; rintro e' w' ⟨rfl, hw'⟩; subst hw')
 refine (xcb 42 i (i + 1) _).mono ?_;exact tcT
theorem xnm (s : ByteArray) (hs : s.size <= 1073741824) (i k : Nat) (hi : i < s.size) (hb : s[i].toNat ≠ 92 /\ s[i].toNat ≠ 91 /\ s[i].toNat ≠ 46 /\ s[i].toNat ≠ 94 /\ s[i].toNat ≠ 36 /\ s[i].toNat ≠ 42) (w : World) :
  TkT s i k w (selfT s[i].toNat i (i + 1)).v := by
 obtain ⟨hz0, hB0, z0, z1, z2, z3, k3, k4⟩ := tkT w hi;have n92 : ((s[i].toNat : Int) == 92) = false := qn;have n91 : ((s[i].toNat : Int) == 91) = false := qn;have n46 : ((s[i].toNat : Int) == 46) = false := qn;have n94 : ((s[i].toNat : Int) == 94) = false := qn;have n36 : ((s[i].toNat : Int) == 36) = false := qn;have n42 : ((s[i].toNat : Int) == 42) = false := qn;replace hb := hideT hb;go_enter Tryz.func218, Tryz.ntmps218
 go_wp2_with fail
 refine (xcb s[i].toNat i (i + 1) _).mono ?_;exact tcT
theorem xhy (s : ByteArray) (hs : s.size <= 1073741824) (i k : Nat) (hi : i < s.size) (hb : s[i].toNat = 36) (hk : i + 1 = s.size) (w : World) :
  TkT s i k w (Tk.mk 3 i (i + 1) 0 xad 0 0 0).v := by
 obtain ⟨hz0, hB0, z0, z1, z2, z3, k3, k4⟩ := tkT w hi;have hbI : (s[i].toNat : Int) = 36 := by omega
 replace hb := hideT hb;have k6 : (i : Int) + 1 = (s.size : Int) := by omega
 have HK := hideT hk;clear hk;go_enter Tryz.func218, Tryz.ntmps218;go_wp2;exact bodyPost_ret (v := (Tk.mk 3 i (i + 1) 0 xad 0 0 0).v) (by simp [results, Tryz.results218, go_sem, z0, z1, z2, z3]; omega) rfl ⟨rfl, (Below.refl _ _).alloc qr _⟩
theorem xgf (s : ByteArray) (hs : s.size <= 1073741824) (i k : Nat) (hi : i < s.size) (hb : s[i].toNat = 36) (hn : i + 1 < s.size) (hk : Lib.hasPrefix (s.extract (i + 1) s.size).data.toList [92, 41] = true) (w : World) :
  TkT s i k w (Tk.mk 3 i (i + 1) 0 xad 0 0 0).v := by
 obtain ⟨hz0, hB0, z0, z1, z2, z3, k3, k4⟩ := tkT w hi;have hbI : (s[i].toNat : Int) = 36 := by omega
 replace hb := hideT hb;have hpre := fun w => Tryz.strings_HasPrefix (s.extract (i + 1) s.size) ⟨#[92, 41]⟩ w;rw [hk] at hpre;have k6 : ¬ (i : Int) + 1 = (s.size : Int) := by omega
 have k7 : ((i : Int) + 1 == (s.size : Int)) = false := qn;have k8 : (0 : Int) <= (i : Int) + 1 := by omega
 have k9 : (i : Int) + 1 <= (s.size : Int) := by omega
 have k10 : ((i : Int) + 1).toNat = i + 1 := by omega
 have HK := hideT hk;clear hk;go_enter Tryz.func218, Tryz.ntmps218
 go_wp2_with (go_at_call 255; refine (hpre _).mono ?_; rintro e' w' ⟨rfl, hw'⟩; subst hw')
 exact tdT
theorem xji (s : ByteArray) (hs : s.size <= 1073741824) (i k : Nat) (hi : i < s.size) (hb : s[i].toNat = 36) (hn : i + 1 < s.size) (hk : Lib.hasPrefix (s.extract (i + 1) s.size).data.toList [92, 41] = false) (w : World) :
  TkT s i k w (selfT 36 i (i + 1)).v := by
 obtain ⟨hz0, hB0, z0, z1, z2, z3, k3, k4⟩ := tkT w hi;have hbI : (s[i].toNat : Int) = 36 := by omega
 replace hb := hideT hb;have hpre := fun w => Tryz.strings_HasPrefix (s.extract (i + 1) s.size) ⟨#[92, 41]⟩ w;rw [hk] at hpre;have k6 : ¬ (i : Int) + 1 = (s.size : Int) := by omega
 have k7 : ((i : Int) + 1 == (s.size : Int)) = false := qn;have k8 : (0 : Int) <= (i : Int) + 1 := by omega
 have k9 : (i : Int) + 1 <= (s.size : Int) := by omega
 have k10 : ((i : Int) + 1).toNat = i + 1 := by omega
 have HK := hideT hk;clear hk;go_enter Tryz.func218, Tryz.ntmps218
 go_wp2_with (go_at_call 255; refine (hpre _).mono ?_; rintro e' w' ⟨rfl, hw'⟩; subst hw')
 refine (xcb 36 i (i + 1) _).mono ?_;exact tcT
end Go.Proofs.YtcpokkpjeeblnaaGreatDoor.br
