/- The document's item: a byte that stands for itself. -/
import Derived.Test.YtaapmphdnholaaaGreatDoorKRdItem
set_option maxRecDepth 100000
set_option maxHeartbeats 2000000
namespace Go.Proofs.YtaapmphdnholaaaGreatDoor
open Go.RowKit
theorem xdv {B : Nat} {a w : World} (h : Below B a w) {b : Nat} (hb : B ≤ b) (v0 v1 v2 v3 v4 v5 v6 v7 : Value) : Below B a ((((((((w.setCell ⟨b, 0, none⟩ v0).setCell ⟨b, 1, none⟩ v1).setCell ⟨b, 2, none⟩ v2).setCell ⟨b, 3, none⟩ v3).setCell ⟨b, 4, none⟩ v4).setCell ⟨b, 5, none⟩ v5).setCell ⟨b, 6, none⟩ v6).setCell ⟨b, 7, none⟩ v7) :=
 ((((((((h.setCell (p := ⟨b, 0, none⟩) hb _).setCell (p := ⟨b, 1, none⟩) hb _).setCell (p := ⟨b, 2, none⟩) hb _).setCell (p := ⟨b, 3, none⟩) hb _).setCell (p := ⟨b, 4, none⟩) hb _).setCell (p := ⟨b, 5, none⟩) hb _).setCell (p := ⟨b, 6, none⟩) hb _).setCell (p := ⟨b, 7, none⟩) hb _)
theorem xjx (s : ByteArray) (hs : s.size ≤ 1073741824) (i : Nat) (h : i < s.size) (hm : ¬ xac s i = 91) (w : World) :
  Calls Tryz.prog 81 #[.string s, .int .i64 i] w fun e w' => e = .returned (.agg #[.int .u64 (wd (ofP (s.extract i (i + 1))) 0), .int .u64 (wd (ofP (s.extract i (i + 1))) 1), .int .u64 (wd (ofP (s.extract i (i + 1))) 2), .int .u64 (wd (ofP (s.extract i (i + 1))) 3), .int .u8 (xac s i), .bool true, .int .i64 (i + 1 : Nat), .int .i64 0]) ∧ Below w.heap.size w w' := by
 rw [xah h] at hm ⊢
 have hb91 : ((s[i].toNat : Int) != 91) = true := by simp [hm]
 clear hm
 have HO := hide (xcw (s.extract i (i + 1)) (by unfold maxLen; simp; omega))
 have hn1 : (i : Int) + 1 ≤ (s.size : Int) := by omega
 have HZ := hide (HoldsV.new w #[.int .u64 0, .int .u64 0, .int .u64 0, .int .u64 0, .int .u8 0, .bool false, .int .i64 0, .int .i64 0] 103)
 have HB := hide ((Below.refl w.heap.size w).alloc (Nat.le_refl _) (.cells #[.int .u64 0, .int .u64 0, .int .u64 0, .int .u64 0, .int .u8 0, .bool false, .int .i64 0, .int .i64 0] 103))
 go_enter Tryz.func81, Tryz.ntmps81
 go_wp2_with fail
 refine (HO.out _).mono ?_
 rintro e w1 ⟨rfl, hb1⟩
 have hz1 := HZ.out.below hb1 (by simp)
 obtain ⟨⟨c0, f0⟩, ⟨c1, f1⟩, ⟨c2, f2⟩, ⟨c3, f3⟩, ⟨c4, f4⟩, ⟨c5, f5⟩, ⟨c6, f6⟩, ⟨c7, f7⟩⟩ := (⟨hz1 0 _ rfl, hz1 1 _ rfl, hz1 2 _ rfl, hz1 3 _ rfl, hz1 4 _ rfl, hz1 5 _ rfl, hz1 6 _ rfl, hz1 7 _ rfl⟩ : _ ∧ _ ∧ _ ∧ _ ∧ _ ∧ _ ∧ _ ∧ _)
 have HB1 := hide (HB.out.trans (hb1.mono HB.out.size))
 clear hb1 hz1
 clear HZ HB HO
 go_wp2
 have hBf := xdv HB1.out (Nat.le_refl w.heap.size) (.int .u64 (wd (ofP (s.extract i (i + 1))) 0)) (.int .u64 (wd (ofP (s.extract i (i + 1))) 1)) (.int .u64 (wd (ofP (s.extract i (i + 1))) 2)) (.int .u64 (wd (ofP (s.extract i (i + 1))) 3)) (.int .u8 (s[i].toNat : Int)) (.bool true) (.int .i64 ((i : Int) + 1)) (.int .i64 0)
 refine bodyPost_ret (v := .agg #[.int .u64 (wd (ofP (s.extract i (i + 1))) 0), .int .u64 (wd (ofP (s.extract i (i + 1))) 1), .int .u64 (wd (ofP (s.extract i (i + 1))) 2), .int .u64 (wd (ofP (s.extract i (i + 1))) 3), .int .u8 (s[i].toNat : Int), .bool true, .int .i64 ((i : Int) + 1), .int .i64 0]) ?_ rfl ⟨?_, hBf⟩
 ·clear hBf
  simp [results, Tryz.results81, go_sem, *]
 ·rfl
theorem xk8 (s : ByteArray) (hs : s.size ≤ 1073741824) (i : Nat) (h : i < s.size) (hm : xac s i = 91) (h1 : s.size ≤ i + 1) (w : World) :
  Calls Tryz.prog 81 #[.string s, .int .i64 i] w fun e w' => e = .returned (.agg #[.int .u64 (wd (ofP (s.extract i (i + 1))) 0), .int .u64 (wd (ofP (s.extract i (i + 1))) 1), .int .u64 (wd (ofP (s.extract i (i + 1))) 2), .int .u64 (wd (ofP (s.extract i (i + 1))) 3), .int .u8 (xac s i), .bool true, .int .i64 (i + 1 : Nat), .int .i64 0]) ∧ Below w.heap.size w w' := by
 rw [xah h] at hm ⊢
 have hb91 : ((s[i].toNat : Int) != 91) = false := by simp [hm]
 clear hm
 have HO := hide (xcw (s.extract i (i + 1)) (by unfold maxLen; simp; omega))
 have hn1 : (i : Int) + 1 ≤ (s.size : Int) := by omega
 have HZ := hide (HoldsV.new w #[.int .u64 0, .int .u64 0, .int .u64 0, .int .u64 0, .int .u8 0, .bool false, .int .i64 0, .int .i64 0] 103)
 have HB := hide ((Below.refl w.heap.size w).alloc (Nat.le_refl _) (.cells #[.int .u64 0, .int .u64 0, .int .u64 0, .int .u64 0, .int .u8 0, .bool false, .int .i64 0, .int .i64 0] 103))
 go_enter Tryz.func81, Tryz.ntmps81
 go_wp2_with fail
 refine (HO.out _).mono ?_
 rintro e w1 ⟨rfl, hb1⟩
 have hz1 := HZ.out.below hb1 (by simp)
 obtain ⟨⟨c0, f0⟩, ⟨c1, f1⟩, ⟨c2, f2⟩, ⟨c3, f3⟩, ⟨c4, f4⟩, ⟨c5, f5⟩, ⟨c6, f6⟩, ⟨c7, f7⟩⟩ := (⟨hz1 0 _ rfl, hz1 1 _ rfl, hz1 2 _ rfl, hz1 3 _ rfl, hz1 4 _ rfl, hz1 5 _ rfl, hz1 6 _ rfl, hz1 7 _ rfl⟩ : _ ∧ _ ∧ _ ∧ _ ∧ _ ∧ _ ∧ _ ∧ _)
 have HB1 := hide (HB.out.trans (hb1.mono HB.out.size))
 clear hb1 hz1
 clear HZ HB HO
 go_wp2
 have hBf := xdv HB1.out (Nat.le_refl w.heap.size) (.int .u64 (wd (ofP (s.extract i (i + 1))) 0)) (.int .u64 (wd (ofP (s.extract i (i + 1))) 1)) (.int .u64 (wd (ofP (s.extract i (i + 1))) 2)) (.int .u64 (wd (ofP (s.extract i (i + 1))) 3)) (.int .u8 (s[i].toNat : Int)) (.bool true) (.int .i64 ((i : Int) + 1)) (.int .i64 0)
 refine bodyPost_ret (v := .agg #[.int .u64 (wd (ofP (s.extract i (i + 1))) 0), .int .u64 (wd (ofP (s.extract i (i + 1))) 1), .int .u64 (wd (ofP (s.extract i (i + 1))) 2), .int .u64 (wd (ofP (s.extract i (i + 1))) 3), .int .u8 (s[i].toNat : Int), .bool true, .int .i64 ((i : Int) + 1), .int .i64 0]) ?_ rfl ⟨?_, hBf⟩
 ·clear hBf
  simp [results, Tryz.results81, go_sem, *]
 ·rfl
theorem xk9 (s : ByteArray) (hs : s.size ≤ 1073741824) (i : Nat) (h : i < s.size) (hm : xac s i = 91) (h1 : i + 1 < s.size) (hm2 : ¬ (xac s (i + 1) = 58 ∨ xac s (i + 1) = 61 ∨ xac s (i + 1) = 46)) (w : World) :
  Calls Tryz.prog 81 #[.string s, .int .i64 i] w fun e w' => e = .returned (.agg #[.int .u64 (wd (ofP (s.extract i (i + 1))) 0), .int .u64 (wd (ofP (s.extract i (i + 1))) 1), .int .u64 (wd (ofP (s.extract i (i + 1))) 2), .int .u64 (wd (ofP (s.extract i (i + 1))) 3), .int .u8 (xac s i), .bool true, .int .i64 (i + 1 : Nat), .int .i64 0]) ∧ Below w.heap.size w w' := by
 rw [xah h] at hm ⊢
 rw [xah h1] at hm2
 have hb91 : ((s[i].toNat : Int) != 91) = false := by simp [hm]
 have ha1 : ((s[i + 1].toNat : Int) != 58) = true := by simp; omega
 have ha2 : ((s[i + 1].toNat : Int) != 61) = true := by simp; omega
 have ha3 : ((s[i + 1].toNat : Int) != 46) = true := by simp; omega
 clear hm hm2
 have HO := hide (xcw (s.extract i (i + 1)) (by unfold maxLen; simp; omega))
 have hn1 : (i : Int) + 1 ≤ (s.size : Int) := by omega
 have HZ := hide (HoldsV.new w #[.int .u64 0, .int .u64 0, .int .u64 0, .int .u64 0, .int .u8 0, .bool false, .int .i64 0, .int .i64 0] 103)
 have HB := hide ((Below.refl w.heap.size w).alloc (Nat.le_refl _) (.cells #[.int .u64 0, .int .u64 0, .int .u64 0, .int .u64 0, .int .u8 0, .bool false, .int .i64 0, .int .i64 0] 103))
 go_enter Tryz.func81, Tryz.ntmps81
 go_wp2_with fail
 refine (HO.out _).mono ?_
 rintro e w1 ⟨rfl, hb1⟩
 have hz1 := HZ.out.below hb1 (by simp)
 obtain ⟨⟨c0, f0⟩, ⟨c1, f1⟩, ⟨c2, f2⟩, ⟨c3, f3⟩, ⟨c4, f4⟩, ⟨c5, f5⟩, ⟨c6, f6⟩, ⟨c7, f7⟩⟩ := (⟨hz1 0 _ rfl, hz1 1 _ rfl, hz1 2 _ rfl, hz1 3 _ rfl, hz1 4 _ rfl, hz1 5 _ rfl, hz1 6 _ rfl, hz1 7 _ rfl⟩ : _ ∧ _ ∧ _ ∧ _ ∧ _ ∧ _ ∧ _ ∧ _)
 have HB1 := hide (HB.out.trans (hb1.mono HB.out.size))
 clear hb1 hz1
 clear HZ HB HO
 go_wp2
 have hBf := xdv HB1.out (Nat.le_refl w.heap.size) (.int .u64 (wd (ofP (s.extract i (i + 1))) 0)) (.int .u64 (wd (ofP (s.extract i (i + 1))) 1)) (.int .u64 (wd (ofP (s.extract i (i + 1))) 2)) (.int .u64 (wd (ofP (s.extract i (i + 1))) 3)) (.int .u8 (s[i].toNat : Int)) (.bool true) (.int .i64 ((i : Int) + 1)) (.int .i64 0)
 refine bodyPost_ret (v := .agg #[.int .u64 (wd (ofP (s.extract i (i + 1))) 0), .int .u64 (wd (ofP (s.extract i (i + 1))) 1), .int .u64 (wd (ofP (s.extract i (i + 1))) 2), .int .u64 (wd (ofP (s.extract i (i + 1))) 3), .int .u8 (s[i].toNat : Int), .bool true, .int .i64 ((i : Int) + 1), .int .i64 0]) ?_ rfl ⟨?_, hBf⟩
 ·clear hBf
  simp [results, Tryz.results81, go_sem, *]
 ·rfl
theorem xjy (s : ByteArray) (hs : s.size ≤ 1073741824) (i : Nat) (h91 : xac s i = 91) (h1 : i + 1 < s.size) (hm : s[i + 1] = 58) (w : World) :
  Calls Tryz.prog 81 #[.string s, .int .i64 i] w fun e w' => e = .returned (.agg #[.int .u64 (wd (xa1 s i).q 0), .int .u64 (wd (xa1 s i).q 1), .int .u64 (wd (xa1 s i).q 2), .int .u64 (wd (xa1 s i).q 3), .int .u8 (xa1 s i).b, .bool (xa1 s i).bound, .int .i64 ((xa1 s i).next : Nat), .int .i64 (xa1 s i).e]) ∧ Below w.heap.size w w' := by
 have hby : xac s (i + 1) = 58 := by rw [xah h1, hm]; rfl
 have hmk : mkAt s i = 58 := by rw [mkAt, hby]; rfl
 have h0 : i < s.size := by omega
 rw [xah h0] at h91
 have hb91 : ((s[i].toNat : Int) != 91) = false := by simp [h91]
 have ha0 : ((s[i + 1].toNat : Int) != 58) = false := by rw [hm]; rfl
 have hq58 : ((s[i + 1].toNat : Int) == 58) = true := by rw [hm]; rfl
 have hq46 : ((s[i + 1].toNat : Int) == 46) = false := by rw [hm]; rfl
 have hX := xf6 s hs (i + 3) (by omega) s[i + 1]
 have HZ := hide (HoldsV.new w #[.int .u64 0, .int .u64 0, .int .u64 0, .int .u64 0, .int .u8 0, .bool false, .int .i64 0, .int .i64 0] 103)
 have HB := hide ((Below.refl w.heap.size w).alloc (Nat.le_refl _) (.cells #[.int .u64 0, .int .u64 0, .int .u64 0, .int .u64 0, .int .u8 0, .bool false, .int .i64 0, .int .i64 0] 103))
 unfold xa1
 rw [hmk, hby]
 have hcm : xbm s (i + 3) s[i + 1] = xbm s (i + 3) 58 := by rw [hm]
 rw [hcm] at hX
 clear hby hmk h91 hcm hm
 rcases xbp s (i + 3) 58 with hc | ⟨c, hc, hc1, hc2⟩
 ·rw [if_pos hc]
  rw [hc] at hX
  have HX := hide hX
  clear hX hc
  simp only [It.err]
  unfold xad
  rw [xaa, xaa, xaa, xaa]
  go_enter Tryz.func81, Tryz.ntmps81
  go_wp2_with fail
  refine (HX.out _).mono ?_
  rintro e w1 ⟨rfl, hw1⟩
  have hw1 := hw1.symm
  subst hw1
  have hz1 := HZ.out
  obtain ⟨⟨c0, f0⟩, ⟨c1, f1⟩, ⟨c2, f2⟩, ⟨c3, f3⟩, ⟨c4, f4⟩, ⟨c5, f5⟩, ⟨c6, f6⟩, ⟨c7, f7⟩⟩ := (⟨hz1 0 _ rfl, hz1 1 _ rfl, hz1 2 _ rfl, hz1 3 _ rfl, hz1 4 _ rfl, hz1 5 _ rfl, hz1 6 _ rfl, hz1 7 _ rfl⟩ : _ ∧ _ ∧ _ ∧ _ ∧ _ ∧ _ ∧ _ ∧ _)
  have HB1 := HB
  clear hz1 HX HZ
  go_wp2
  refine bodyPost_ret (v := .agg #[.int .u64 0, .int .u64 0, .int .u64 0, .int .u64 0, .int .u8 0, .bool false, .int .i64 0, .int .i64 6]) ?_ rfl ⟨rfl, ?_⟩
  ·simp [results, Tryz.results81, go_sem, *]
  ·exact (Below.refl w.heap.size w).alloc (Nat.le_refl _) _
 ·obtain ⟨d, rfl⟩ : ∃ d, c = i + 3 + d := ⟨c - (i + 3), by omega⟩
  rw [hc] at hX
  have HX := hide hX
  rw [hc, if_neg (by omega)]
  clear hX hc
  have hn3 : (i : Int) + 3 ≤ (s.size : Int) := by omega
  have hn4 : (i : Int) + 3 + (d : Int) ≤ (s.size : Int) := by omega
  rw [if_pos rfl]
  simp only [Int.toNat_natCast]
  have hC := xrh (s.extract (i + 2) (i + 3 + d))
  generalize xep (s.extract (i + 2) (i + 3 + d)) = q at *
  generalize xk5 (s.extract (i + 2) (i + 3 + d)) = cc at *
  have HC := hide hC
  clear hC
  go_enter Tryz.func81, Tryz.ntmps81
  go_wp2_with fail
  refine (HX.out _).mono ?_
  rintro e w1 ⟨rfl, hw1⟩
  have hw1 := hw1.symm
  subst hw1
  go_wp2_with fail
  refine (HC.out _).mono ?_
  rintro e w2 ⟨rfl, hb2⟩
  have hz1 := (HZ.out.below hb2 (by simp)).below ((Below.refl w2.heap.size w2).alloc (Nat.le_refl _) (.cells #[.int .u64 (wd q 0), .int .u64 (wd q 1), .int .u64 (wd q 2), .int .u64 (wd q 3)] 33)) (by have := hb2.size; simp at this; omega)
  have hd := (xae w2 q 33).1
  have hB3 := (HB.out.trans (hb2.mono HB.out.size)).alloc (HB.out.trans (hb2.mono HB.out.size)).size (.cells #[.int .u64 (wd q 0), .int .u64 (wd q 1), .int .u64 (wd q 2), .int .u64 (wd q 3)] 33)
  have hlt2 : w.heap.size < w2.heap.size := by have := hb2.size; simp at this; omega
  obtain ⟨W3, hW3⟩ : ∃ W3, w2.alloc (.cells #[.int .u64 (wd q 0), .int .u64 (wd q 1), .int .u64 (wd q 2), .int .u64 (wd q 3)] 33) = W3 := ⟨_, rfl⟩
  rw [hW3] at hz1 hd hB3
  obtain ⟨⟨c0, f0⟩, ⟨c1, f1⟩, ⟨c2, f2⟩, ⟨c3, f3⟩, ⟨c4, f4⟩, ⟨c5, f5⟩, ⟨c6, f6⟩, ⟨c7, f7⟩⟩ := (⟨hz1 0 _ rfl, hz1 1 _ rfl, hz1 2 _ rfl, hz1 3 _ rfl, hz1 4 _ rfl, hz1 5 _ rfl, hz1 6 _ rfl, hz1 7 _ rfl⟩ : _ ∧ _ ∧ _ ∧ _ ∧ _ ∧ _ ∧ _ ∧ _)
  obtain ⟨d0, d1, d2, d3⟩ := hd
  have HB1 := hide hB3
  clear hB3 hb2 hz1 HX HZ HB HC
  go_wp2
  have hBf := xdv HB1.out (Nat.le_refl w.heap.size) (.int .u64 (wd q 0)) (.int .u64 (wd q 1)) (.int .u64 (wd q 2)) (.int .u64 (wd q 3)) (.int .u8 0) (.bool false) (.int .i64 ((i : Int) + 3 + (d : Int) + 2)) (.int .i64 cc)
  refine bodyPost_ret (v := .agg #[.int .u64 (wd q 0), .int .u64 (wd q 1), .int .u64 (wd q 2), .int .u64 (wd q 3), .int .u8 0, .bool false, .int .i64 ((i : Int) + 3 + (d : Int) + 2), .int .i64 cc]) ?_ rfl ⟨?_, hBf⟩
  ·clear hBf
   simp [results, Tryz.results81, go_sem, *]
  ·rfl
theorem xjz (s : ByteArray) (hs : s.size ≤ 1073741824) (i : Nat) (h91 : xac s i = 91) (h1 : i + 1 < s.size) (hm : s[i + 1] = 61) (w : World) :
  Calls Tryz.prog 81 #[.string s, .int .i64 i] w fun e w' => e = .returned (.agg #[.int .u64 (wd (xa1 s i).q 0), .int .u64 (wd (xa1 s i).q 1), .int .u64 (wd (xa1 s i).q 2), .int .u64 (wd (xa1 s i).q 3), .int .u8 (xa1 s i).b, .bool (xa1 s i).bound, .int .i64 ((xa1 s i).next : Nat), .int .i64 (xa1 s i).e]) ∧ Below w.heap.size w w' := by
 have hby : xac s (i + 1) = 61 := by rw [xah h1, hm]; rfl
 have hmk : mkAt s i = 61 := by rw [mkAt, hby]; rfl
 have h0 : i < s.size := by omega
 rw [xah h0] at h91
 have hb91 : ((s[i].toNat : Int) != 91) = false := by simp [h91]
 have ha0 : ((s[i + 1].toNat : Int) != 58) = true := by rw [hm]; rfl
 have ha1 : ((s[i + 1].toNat : Int) != 61) = false := by rw [hm]; rfl
 have hq58 : ((s[i + 1].toNat : Int) == 58) = false := by rw [hm]; rfl
 have hq46 : ((s[i + 1].toNat : Int) == 46) = false := by rw [hm]; rfl
 have hX := xf6 s hs (i + 3) (by omega) s[i + 1]
 have HZ := hide (HoldsV.new w #[.int .u64 0, .int .u64 0, .int .u64 0, .int .u64 0, .int .u8 0, .bool false, .int .i64 0, .int .i64 0] 103)
 have HB := hide ((Below.refl w.heap.size w).alloc (Nat.le_refl _) (.cells #[.int .u64 0, .int .u64 0, .int .u64 0, .int .u64 0, .int .u8 0, .bool false, .int .i64 0, .int .i64 0] 103))
 unfold xa1
 rw [hmk, hby]
 have hcm : xbm s (i + 3) s[i + 1] = xbm s (i + 3) 61 := by rw [hm]
 rw [hcm] at hX
 clear hby hmk h91 hcm hm
 rcases xbp s (i + 3) 61 with hc | ⟨c, hc, hc1, hc2⟩
 ·rw [if_pos hc]
  rw [hc] at hX
  have HX := hide hX
  clear hX hc
  simp only [It.err]
  unfold xad
  rw [xaa, xaa, xaa, xaa]
  go_enter Tryz.func81, Tryz.ntmps81
  go_wp2_with fail
  refine (HX.out _).mono ?_
  rintro e w1 ⟨rfl, hw1⟩
  have hw1 := hw1.symm
  subst hw1
  have hz1 := HZ.out
  obtain ⟨⟨c0, f0⟩, ⟨c1, f1⟩, ⟨c2, f2⟩, ⟨c3, f3⟩, ⟨c4, f4⟩, ⟨c5, f5⟩, ⟨c6, f6⟩, ⟨c7, f7⟩⟩ := (⟨hz1 0 _ rfl, hz1 1 _ rfl, hz1 2 _ rfl, hz1 3 _ rfl, hz1 4 _ rfl, hz1 5 _ rfl, hz1 6 _ rfl, hz1 7 _ rfl⟩ : _ ∧ _ ∧ _ ∧ _ ∧ _ ∧ _ ∧ _ ∧ _)
  have HB1 := HB
  clear hz1 HX HZ
  go_wp2
  refine bodyPost_ret (v := .agg #[.int .u64 0, .int .u64 0, .int .u64 0, .int .u64 0, .int .u8 0, .bool false, .int .i64 0, .int .i64 6]) ?_ rfl ⟨rfl, ?_⟩
  ·simp [results, Tryz.results81, go_sem, *]
  ·exact (Below.refl w.heap.size w).alloc (Nat.le_refl _) _
 ·obtain ⟨d, rfl⟩ : ∃ d, c = i + 3 + d := ⟨c - (i + 3), by omega⟩
  rw [hc] at hX
  have HX := hide hX
  rw [hc, if_neg (by omega)]
  clear hX hc
  have hn3 : (i : Int) + 3 ≤ (s.size : Int) := by omega
  have hn4 : (i : Int) + 3 + (d : Int) ≤ (s.size : Int) := by omega
  rw [if_neg (by decide)]
  have hlen : (s.extract (i + 2) (i + 3 + d)).size = d + 1 := by simp; omega
  by_cases hd0 : d = 0
  ·subst hd0
   rw [if_pos (by omega)]
   have h2 : i + 2 < s.size := by omega
   have hname : s.extract (i + 2) (i + 3) = ⟨#[s[i + 2]]⟩ := xce s (i + 2) h2
   rw [hname, xah h2]
   generalize hcb : s[i + 2] = cb at *
   clear hcb
   have hsz1 : (⟨#[cb]⟩ : ByteArray).size = 1 := rfl
   have hget : (⟨#[cb]⟩ : ByteArray)[0] = cb := rfl
   have HO := hide (xcw ⟨#[cb]⟩ (by unfold maxLen; rw [hsz1]; decide))
   simp only [Nat.add_zero] at hlen
   clear hlen
   have hw2 : IntKind.i64.wrap ((i : Int) + 3 + 2) = (i : Int) + 3 + 2 := by rw [IntKind.wrap_i64]; omega
   go_enter Tryz.func81, Tryz.ntmps81
   go_wp2_with fail
   refine (HX.out _).mono ?_
   rintro e w1 ⟨rfl, hw1⟩
   have hw1 := hw1.symm
   subst hw1
   go_wp2_with fail
   rw [hname]
   clear hname HX hn3 hn4
   go_region_with (go_at_call 66; go_must (refine (HO.out _).mono ?_; rintro e w1 ⟨rfl, hb1⟩; have hz1 := HoldsV.below (w := (w.alloc (.cells #[.int .u64 0, .int .u64 0, .int .u64 0, .int .u64 0, .int .u8 0, .bool false, .int .i64 0, .int .i64 0] 103)).drew) (b := w.heap.size) (vs := (#[.int .u64 0, .int .u64 0, .int .u64 0, .int .u64 0, .int .u8 0, .bool false, .int .i64 0, .int .i64 0] : Array Value).toList) HZ.out hb1 (by simp); obtain ⟨⟨c0, f0⟩, ⟨c1, f1⟩, ⟨c2, f2⟩, ⟨c3, f3⟩, ⟨c4, f4⟩, ⟨c5, f5⟩, ⟨c6, f6⟩, ⟨c7, f7⟩⟩ := (⟨hz1 0 _ rfl, hz1 1 _ rfl, hz1 2 _ rfl, hz1 3 _ rfl, hz1 4 _ rfl, hz1 5 _ rfl, hz1 6 _ rfl, hz1 7 _ rfl⟩ : _ ∧ _ ∧ _ ∧ _ ∧ _ ∧ _ ∧ _ ∧ _); have HB1 := hide (HB.out.drew.trans (hb1.mono HB.out.drew.size)); clear hb1 hz1))
   all_goals
    go_wp2
    have hBf := xdv HB1.out (Nat.le_refl w.heap.size) (.int .u64 (wd (ofP ⟨#[cb]⟩) 0)) (.int .u64 (wd (ofP ⟨#[cb]⟩) 1)) (.int .u64 (wd (ofP ⟨#[cb]⟩) 2)) (.int .u64 (wd (ofP ⟨#[cb]⟩) 3)) (.int .u8 (cb.toNat : Int)) (.bool false) (.int .i64 ((i : Int) + 3 + 2)) (.int .i64 0)
    refine bodyPost_ret (v := .agg #[.int .u64 (wd (ofP ⟨#[cb]⟩) 0), .int .u64 (wd (ofP ⟨#[cb]⟩) 1), .int .u64 (wd (ofP ⟨#[cb]⟩) 2), .int .u64 (wd (ofP ⟨#[cb]⟩) 3), .int .u8 (cb.toNat : Int), .bool false, .int .i64 ((i : Int) + 3 + 2), .int .i64 0]) ?_ rfl ⟨?_, hBf⟩
    ·clear hBf
     simp [results, Tryz.results81, go_sem, *]
    ·rfl
  ·rw [if_neg (by omega)]
   simp only [It.err]
   unfold xad
   rw [xaa, xaa, xaa, xaa]
   go_enter Tryz.func81, Tryz.ntmps81
   go_wp2_with fail
   refine (HX.out _).mono ?_
   rintro e w1 ⟨rfl, hw1⟩
   have hw1 := hw1.symm
   subst hw1
   have hz1 := HZ.out
   obtain ⟨⟨c0, f0⟩, ⟨c1, f1⟩, ⟨c2, f2⟩, ⟨c3, f3⟩, ⟨c4, f4⟩, ⟨c5, f5⟩, ⟨c6, f6⟩, ⟨c7, f7⟩⟩ := (⟨hz1 0 _ rfl, hz1 1 _ rfl, hz1 2 _ rfl, hz1 3 _ rfl, hz1 4 _ rfl, hz1 5 _ rfl, hz1 6 _ rfl, hz1 7 _ rfl⟩ : _ ∧ _ ∧ _ ∧ _ ∧ _ ∧ _ ∧ _ ∧ _)
   have HB1 := HB
   clear hz1 HX HZ
   go_wp2
   refine bodyPost_ret (v := .agg #[.int .u64 0, .int .u64 0, .int .u64 0, .int .u64 0, .int .u8 0, .bool false, .int .i64 0, .int .i64 8]) ?_ rfl ⟨rfl, ?_⟩
   ·simp [results, Tryz.results81, go_sem, *]
   ·exact (Below.refl w.heap.size w).alloc (Nat.le_refl _) _
theorem xm5 (s : ByteArray) (hs : s.size ≤ 1073741824) (i : Nat) (h91 : xac s i = 91) (h1 : i + 1 < s.size) (hm : s[i + 1] = 46) (w : World) :
  Calls Tryz.prog 81 #[.string s, .int .i64 i] w fun e w' => e = .returned (.agg #[.int .u64 (wd (xa1 s i).q 0), .int .u64 (wd (xa1 s i).q 1), .int .u64 (wd (xa1 s i).q 2), .int .u64 (wd (xa1 s i).q 3), .int .u8 (xa1 s i).b, .bool (xa1 s i).bound, .int .i64 ((xa1 s i).next : Nat), .int .i64 (xa1 s i).e]) ∧ Below w.heap.size w w' := by
 have hby : xac s (i + 1) = 46 := by rw [xah h1, hm]; rfl
 have hmk : mkAt s i = 46 := by rw [mkAt, hby]; rfl
 have h0 : i < s.size := by omega
 rw [xah h0] at h91
 have hb91 : ((s[i].toNat : Int) != 91) = false := by simp [h91]
 have ha0 : ((s[i + 1].toNat : Int) != 58) = true := by rw [hm]; rfl
 have ha1 : ((s[i + 1].toNat : Int) != 61) = true := by rw [hm]; rfl
 have ha2 : ((s[i + 1].toNat : Int) != 46) = false := by rw [hm]; rfl
 have hq58 : ((s[i + 1].toNat : Int) == 58) = false := by rw [hm]; rfl
 have hq46 : ((s[i + 1].toNat : Int) == 46) = true := by rw [hm]; rfl
 have hX := xf6 s hs (i + 3) (by omega) s[i + 1]
 have HZ := hide (HoldsV.new w #[.int .u64 0, .int .u64 0, .int .u64 0, .int .u64 0, .int .u8 0, .bool false, .int .i64 0, .int .i64 0] 103)
 have HB := hide ((Below.refl w.heap.size w).alloc (Nat.le_refl _) (.cells #[.int .u64 0, .int .u64 0, .int .u64 0, .int .u64 0, .int .u8 0, .bool false, .int .i64 0, .int .i64 0] 103))
 unfold xa1
 rw [hmk, hby]
 have hcm : xbm s (i + 3) s[i + 1] = xbm s (i + 3) 46 := by rw [hm]
 rw [hcm] at hX
 clear hby hmk h91 hcm hm
 rcases xbp s (i + 3) 46 with hc | ⟨c, hc, hc1, hc2⟩
 ·rw [if_pos hc]
  rw [hc] at hX
  have HX := hide hX
  clear hX hc
  simp only [It.err]
  unfold xad
  rw [xaa, xaa, xaa, xaa]
  go_enter Tryz.func81, Tryz.ntmps81
  go_wp2_with fail
  refine (HX.out _).mono ?_
  rintro e w1 ⟨rfl, hw1⟩
  have hw1 := hw1.symm
  subst hw1
  have hz1 := HZ.out
  obtain ⟨⟨c0, f0⟩, ⟨c1, f1⟩, ⟨c2, f2⟩, ⟨c3, f3⟩, ⟨c4, f4⟩, ⟨c5, f5⟩, ⟨c6, f6⟩, ⟨c7, f7⟩⟩ := (⟨hz1 0 _ rfl, hz1 1 _ rfl, hz1 2 _ rfl, hz1 3 _ rfl, hz1 4 _ rfl, hz1 5 _ rfl, hz1 6 _ rfl, hz1 7 _ rfl⟩ : _ ∧ _ ∧ _ ∧ _ ∧ _ ∧ _ ∧ _ ∧ _)
  have HB1 := HB
  clear hz1 HX HZ
  go_wp2
  refine bodyPost_ret (v := .agg #[.int .u64 0, .int .u64 0, .int .u64 0, .int .u64 0, .int .u8 0, .bool false, .int .i64 0, .int .i64 6]) ?_ rfl ⟨rfl, ?_⟩
  ·simp [results, Tryz.results81, go_sem, *]
  ·exact (Below.refl w.heap.size w).alloc (Nat.le_refl _) _
 ·obtain ⟨d, rfl⟩ : ∃ d, c = i + 3 + d := ⟨c - (i + 3), by omega⟩
  rw [hc] at hX
  have HX := hide hX
  rw [hc, if_neg (by omega)]
  clear hX hc
  have hn3 : (i : Int) + 3 ≤ (s.size : Int) := by omega
  have hn4 : (i : Int) + 3 + (d : Int) ≤ (s.size : Int) := by omega
  rw [if_neg (by decide)]
  have hlen : (s.extract (i + 2) (i + 3 + d)).size = d + 1 := by simp; omega
  by_cases hd0 : d = 0
  ·subst hd0
   rw [if_pos (by omega)]
   have h2 : i + 2 < s.size := by omega
   have hname : s.extract (i + 2) (i + 3) = ⟨#[s[i + 2]]⟩ := xce s (i + 2) h2
   rw [hname, xah h2]
   generalize hcb : s[i + 2] = cb at *
   clear hcb
   have hsz1 : (⟨#[cb]⟩ : ByteArray).size = 1 := rfl
   have hget : (⟨#[cb]⟩ : ByteArray)[0] = cb := rfl
   have HO := hide (xcw ⟨#[cb]⟩ (by unfold maxLen; rw [hsz1]; decide))
   simp only [Nat.add_zero] at hlen
   clear hlen
   have hw2 : IntKind.i64.wrap ((i : Int) + 3 + 2) = (i : Int) + 3 + 2 := by rw [IntKind.wrap_i64]; omega
   go_enter Tryz.func81, Tryz.ntmps81
   go_wp2_with fail
   refine (HX.out _).mono ?_
   rintro e w1 ⟨rfl, hw1⟩
   have hw1 := hw1.symm
   subst hw1
   go_wp2_with fail
   rw [hname]
   clear hname HX hn3 hn4
   go_region_with (go_at_call 66; go_must (refine (HO.out _).mono ?_; rintro e w1 ⟨rfl, hb1⟩; have hz1 := HoldsV.below (w := (w.alloc (.cells #[.int .u64 0, .int .u64 0, .int .u64 0, .int .u64 0, .int .u8 0, .bool false, .int .i64 0, .int .i64 0] 103)).drew) (b := w.heap.size) (vs := (#[.int .u64 0, .int .u64 0, .int .u64 0, .int .u64 0, .int .u8 0, .bool false, .int .i64 0, .int .i64 0] : Array Value).toList) HZ.out hb1 (by simp); obtain ⟨⟨c0, f0⟩, ⟨c1, f1⟩, ⟨c2, f2⟩, ⟨c3, f3⟩, ⟨c4, f4⟩, ⟨c5, f5⟩, ⟨c6, f6⟩, ⟨c7, f7⟩⟩ := (⟨hz1 0 _ rfl, hz1 1 _ rfl, hz1 2 _ rfl, hz1 3 _ rfl, hz1 4 _ rfl, hz1 5 _ rfl, hz1 6 _ rfl, hz1 7 _ rfl⟩ : _ ∧ _ ∧ _ ∧ _ ∧ _ ∧ _ ∧ _ ∧ _); have HB1 := hide (HB.out.drew.trans (hb1.mono HB.out.drew.size)); clear hb1 hz1))
   all_goals
    go_wp2
    have hBf := xdv HB1.out (Nat.le_refl w.heap.size) (.int .u64 (wd (ofP ⟨#[cb]⟩) 0)) (.int .u64 (wd (ofP ⟨#[cb]⟩) 1)) (.int .u64 (wd (ofP ⟨#[cb]⟩) 2)) (.int .u64 (wd (ofP ⟨#[cb]⟩) 3)) (.int .u8 (cb.toNat : Int)) (.bool true) (.int .i64 ((i : Int) + 3 + 2)) (.int .i64 0)
    refine bodyPost_ret (v := .agg #[.int .u64 (wd (ofP ⟨#[cb]⟩) 0), .int .u64 (wd (ofP ⟨#[cb]⟩) 1), .int .u64 (wd (ofP ⟨#[cb]⟩) 2), .int .u64 (wd (ofP ⟨#[cb]⟩) 3), .int .u8 (cb.toNat : Int), .bool true, .int .i64 ((i : Int) + 3 + 2), .int .i64 0]) ?_ rfl ⟨?_, hBf⟩
    ·clear hBf
     simp [results, Tryz.results81, go_sem, *]
    ·rfl
  ·rw [if_neg (by omega)]
   simp only [It.err]
   unfold xad
   rw [xaa, xaa, xaa, xaa]
   go_enter Tryz.func81, Tryz.ntmps81
   go_wp2_with fail
   refine (HX.out _).mono ?_
   rintro e w1 ⟨rfl, hw1⟩
   have hw1 := hw1.symm
   subst hw1
   have hz1 := HZ.out
   obtain ⟨⟨c0, f0⟩, ⟨c1, f1⟩, ⟨c2, f2⟩, ⟨c3, f3⟩, ⟨c4, f4⟩, ⟨c5, f5⟩, ⟨c6, f6⟩, ⟨c7, f7⟩⟩ := (⟨hz1 0 _ rfl, hz1 1 _ rfl, hz1 2 _ rfl, hz1 3 _ rfl, hz1 4 _ rfl, hz1 5 _ rfl, hz1 6 _ rfl, hz1 7 _ rfl⟩ : _ ∧ _ ∧ _ ∧ _ ∧ _ ∧ _ ∧ _ ∧ _)
   have HB1 := HB
   clear hz1 HX HZ
   go_wp2
   refine bodyPost_ret (v := .agg #[.int .u64 0, .int .u64 0, .int .u64 0, .int .u64 0, .int .u8 0, .bool false, .int .i64 0, .int .i64 8]) ?_ rfl ⟨rfl, ?_⟩
   ·simp [results, Tryz.results81, go_sem, *]
   ·exact (Below.refl w.heap.size w).alloc (Nat.le_refl _) _
end Go.Proofs.YtaapmphdnholaaaGreatDoor
