/- bracket.readMarked: an item that begins with [: or [= or [. , read. -/
import Derived.Test.YtolpakpdkheanaaKItem
set_option maxRecDepth 100000
set_option maxHeartbeats 8000000
namespace Go.Proofs.Ytolpakpdkheanaa.br
open Go.RowKit
def Glob (w : World) : Prop := ∃ m, w.cell? ⟨0, 0, none⟩ = some (.int .i64 m)
theorem Glob.below {w w' : World} (h : Glob w) {B : Nat} (hb : Below B w w') (hB : w.heap.size ≤ B) : Glob w' := by
 obtain ⟨m, hm⟩ := h
 exact ⟨m, (hb.cell (p := ⟨0, 0, none⟩) (Nat.lt_of_lt_of_le (World.block_lt_of_cell? w _ hm) hB)).trans hm⟩
theorem xjb (s : ByteArray) (a : Nat) : (s.extract a s.size).data.toList = s.data.toList.drop a := by
 rw [ByteArray.data_extract, Array.toList_extract]
 simp only [List.extract]
 rw [List.take_of_length_le (by simp)]
theorem xch (s : ByteArray) (i : Nat) (h : i < s.size) : s.extract i (i + 1) = ⟨#[s[i]]⟩ := by
 apply ByteArray.ext
 apply Array.toList_inj.1
 rw [ByteArray.data_extract, Array.toList_extract]
 simp only [List.extract, Nat.add_sub_cancel_left]
 rw [List.drop_eq_getElem_cons (by simpa using h)]
 rfl
theorem xa7 (s : ByteArray) (a : Nat) (m : UInt8) : (xc7 s a m = -1 → Lib.index (s.data.toList.drop a) [m, 93] = -1) ∧ (∀ c : Nat, xc7 s a m = c → Lib.index (s.data.toList.drop a) [m, 93] = (c : Int) - a) := by
 have hge := Lib.index_ge (s.data.toList.drop a) [m, 93]
 unfold xc7
 split
 ·rename_i h
  exact ⟨fun _ => h, fun c hc => by omega⟩
 ·rename_i h
  exact ⟨fun hc => by omega, fun c hc => by omega⟩
theorem xcc (s : ByteArray) (hs : s.size ≤ 1073741824) (a : Nat) (m : UInt8) (w : World) (hg : Glob w) :
  Calls Try.prog 103 #[.string (s.extract a s.size), .string ⟨#[m, 93]⟩] w fun e w' => e = .returned (.int .i64 (Lib.index (s.data.toList.drop a) [m, 93])) ∧ w' = w := by
 obtain ⟨k, hk⟩ := hg
 have h := Try.strings_Index (s.extract a s.size) ⟨#[m, 93]⟩ k w (by simp; omega) hk
 rw [xjb] at h
 exact h
theorem xdm (m : UInt8) : (⟨#[m]⟩ ++ ⟨#[93]⟩ : ByteArray) = ⟨#[m, 93]⟩ := by
 apply ByteArray.ext
 simp
theorem xfj (s : ByteArray) (hs : s.size ≤ 1073741824) (i : Nat) (h1 : i + 1 < s.size) (hm : s[i + 1] = 58) (w : World) (hg : Glob w) :
  Calls Try.prog 97 #[.string s, .int .i64 i] w fun e w' => e = .returned (.tuple #[.agg #[.int .u64 (wd (xa2 s i).q 0), .int .u64 (wd (xa2 s i).q 1), .int .u64 (wd (xa2 s i).q 2), .int .u64 (wd (xa2 s i).q 3), .int .u8 (xa2 s i).b, .bool (xa2 s i).bound, .int .i64 ((xa2 s i).next : Nat)], .int .i64 (xa2 s i).e]) ∧ Below w.heap.size w w' := by
 have hby : xag s (i + 1) = 58 := by rw [xan h1, hm]; rfl
 have hmk : mkAt s i = 58 := by rw [mkAt, hby]; rfl
 have hmark : s.extract (i + 1) (i + 2) = ⟨#[58]⟩ := by rw [xch s (i + 1) h1, hm]
 have hn0 : (0 : Int) ≤ (i : Int) + 1 := by omega
 have hn1 : (i : Int) + 1 ≤ (i : Int) + 2 := by omega
 have hn2 : (i : Int) + 2 ≤ (s.size : Int) := by omega
 unfold xa2
 rw [hmk, hby]
 rcases xbn s (i + 3) 58 with hc | ⟨c, hc, hc1, hc2⟩
 ·rw [if_pos hc]
  simp only [It.err]
  unfold xad
  rw [xaa, xaa, xaa, xaa]
  by_cases hE : i + 2 = s.size
  ·go_enter Try.func97, Try.ntmps97
   go_wp2
   exact bodyPost_ret (v := .tuple #[.agg #[.int .u64 0, .int .u64 0, .int .u64 0, .int .u64 0, .int .u8 0, .bool false, .int .i64 0], .int .i64 6]) (by simp [results, Try.results97, go_sem]) rfl ⟨rfl, (Below.refl _ _).alloc (Nat.le_refl _) _⟩
  ·have hx := (xa7 s (i + 3) 58).1 hc
   have hX := xcc s hs (i + 3) 58
   rw [hx] at hX
   have HX := hide hX
   clear hX hx hc
   have hn3 : (i : Int) + 3 ≤ (s.size : Int) := by omega
   have happ := xdm 58
   have HG := hide (hg.below ((Below.refl w.heap.size w).alloc (Nat.le_refl _) (.cells #[.int .u64 0, .int .u64 0, .int .u64 0, .int .u64 0, .int .u8 0, .bool false, .int .i64 0] 170)) (Nat.le_refl _))
   go_enter Try.func97, Try.ntmps97
   go_wp2_with fail
   refine (HX.out _ HG.out).mono ?_
   rintro e w1 ⟨rfl, hw1⟩
   have hw1 := hw1.symm
   subst hw1
   go_wp2
   exact bodyPost_ret (v := .tuple #[.agg #[.int .u64 0, .int .u64 0, .int .u64 0, .int .u64 0, .int .u8 0, .bool false, .int .i64 0], .int .i64 6]) (by simp [results, Try.results97, go_sem]) rfl ⟨rfl, (Below.refl _ _).alloc (Nat.le_refl _) _⟩
 ·obtain ⟨d, rfl⟩ : ∃ d, c = i + 2 + 1 + d := ⟨c - (i + 3), by omega⟩
  have hx := (xa7 s (i + 3) 58).2 _ hc
  rw [show ((i + 2 + 1 + d : Nat) : Int) - ((i + 3 : Nat) : Int) = (d : Int) by omega] at hx
  have hX := xcc s hs (i + 3) 58
  rw [hx] at hX
  have HX := hide hX
  rw [hc, if_neg (by omega)]
  clear hX hx hc
  have hn3 : (i : Int) + 3 ≤ (s.size : Int) := by omega
  have hn4 : (i : Int) + 2 + 1 + (d : Int) ≤ (s.size : Int) := by omega
  have happ := xdm 58
  have HG := hide (hg.below ((Below.refl w.heap.size w).alloc (Nat.le_refl _) (.cells #[.int .u64 0, .int .u64 0, .int .u64 0, .int .u64 0, .int .u8 0, .bool false, .int .i64 0] 170)) (Nat.le_refl _))
  have HZ := hide (HoldsV.new w #[.int .u64 0, .int .u64 0, .int .u64 0, .int .u64 0, .int .u8 0, .bool false, .int .i64 0] 170)
  have HB := hide ((Below.refl w.heap.size w).alloc (Nat.le_refl _) (.cells #[.int .u64 0, .int .u64 0, .int .u64 0, .int .u64 0, .int .u8 0, .bool false, .int .i64 0] 170))
  rw [if_pos rfl]
  simp only [Int.toNat_natCast]
  have hC := classD (s.extract (i + 2) (i + 2 + 1 + d))
  generalize xg3 (s.extract (i + 2) (i + 2 + 1 + d)) = q at *
  generalize xi9 (s.extract (i + 2) (i + 2 + 1 + d)) = cc at *
  have HC := hide hC
  clear hC
  go_enter Try.func97, Try.ntmps97
  go_wp2_with fail
  refine (HX.out _ HG.out).mono ?_
  rintro e w1 ⟨rfl, hw1⟩
  have hw1 := hw1.symm
  subst hw1
  go_wp2_with fail
  refine (HC.out _).mono ?_
  rintro e w2 ⟨rfl, hb2⟩
  have hz1 := (HZ.out.below hb2 (by simp)).below ((Below.refl w2.heap.size w2).alloc (Nat.le_refl _) (.cells #[.int .u64 (wd q 0), .int .u64 (wd q 1), .int .u64 (wd q 2), .int .u64 (wd q 3)] 38)) (by have := hb2.size; simp at this; omega)
  have hd := (xac w2 q 38).1
  have hB3 := (HB.out.trans (hb2.mono HB.out.size)).alloc (HB.out.trans (hb2.mono HB.out.size)).size (.cells #[.int .u64 (wd q 0), .int .u64 (wd q 1), .int .u64 (wd q 2), .int .u64 (wd q 3)] 38)
  have hlt2 : w.heap.size < w2.heap.size := by have := hb2.size; simp at this; omega
  obtain ⟨W3, hW3⟩ : ∃ W3, w2.alloc (.cells #[.int .u64 (wd q 0), .int .u64 (wd q 1), .int .u64 (wd q 2), .int .u64 (wd q 3)] 38) = W3 := ⟨_, rfl⟩
  rw [hW3] at hz1 hd hB3
  obtain ⟨⟨c0, f0⟩, ⟨c1, f1⟩, ⟨c2, f2⟩, ⟨c3, f3⟩, ⟨c4, f4⟩, ⟨c5, f5⟩, ⟨c6, f6⟩⟩ := (⟨hz1 0 _ rfl, hz1 1 _ rfl, hz1 2 _ rfl, hz1 3 _ rfl, hz1 4 _ rfl, hz1 5 _ rfl, hz1 6 _ rfl⟩ : _ ∧ _ ∧ _ ∧ _ ∧ _ ∧ _ ∧ _)
  obtain ⟨d0, d1, d2, d3⟩ := hd
  have HB2 := hide hB3
  clear hB3 hb2 hz1 HX HG HZ HB HC happ hmark hn0 hn1 hn2 hn3
  go_wp2
  have hBf := xgc HB2.out (Nat.le_refl w.heap.size) (.int .u64 (wd q 0)) (.int .u64 (wd q 1)) (.int .u64 (wd q 2)) (.int .u64 (wd q 3)) (.int .u8 0) (.bool false) (.int .i64 ((i : Int) + 2 + 1 + (d : Int) + 2))
  refine bodyPost_ret (v := .tuple #[.agg #[.int .u64 (wd q 0), .int .u64 (wd q 1), .int .u64 (wd q 2), .int .u64 (wd q 3), .int .u8 0, .bool false, .int .i64 ((i : Int) + 2 + 1 + (d : Int) + 2)], .int .i64 cc]) ?_ rfl ⟨?_, hBf⟩
  ·clear hBf
   simp [results, Try.results97, go_sem, *]
  ·rfl
theorem xfk (s : ByteArray) (hs : s.size ≤ 1073741824) (i : Nat) (h1 : i + 1 < s.size) (hm : s[i + 1] = 61) (w : World) (hg : Glob w) :
  Calls Try.prog 97 #[.string s, .int .i64 i] w fun e w' => e = .returned (.tuple #[.agg #[.int .u64 (wd (xa2 s i).q 0), .int .u64 (wd (xa2 s i).q 1), .int .u64 (wd (xa2 s i).q 2), .int .u64 (wd (xa2 s i).q 3), .int .u8 (xa2 s i).b, .bool (xa2 s i).bound, .int .i64 ((xa2 s i).next : Nat)], .int .i64 (xa2 s i).e]) ∧ Below w.heap.size w w' := by
 have hby : xag s (i + 1) = 61 := by rw [xan h1, hm]; rfl
 have hmk : mkAt s i = 61 := by rw [mkAt, hby]; rfl
 have hmark : s.extract (i + 1) (i + 2) = ⟨#[61]⟩ := by rw [xch s (i + 1) h1, hm]
 have hn0 : (0 : Int) ≤ (i : Int) + 1 := by omega
 have hn1 : (i : Int) + 1 ≤ (i : Int) + 2 := by omega
 have hn2 : (i : Int) + 2 ≤ (s.size : Int) := by omega
 unfold xa2
 rw [hmk, hby]
 rcases xbn s (i + 3) 61 with hc | ⟨c, hc, hc1, hc2⟩
 ·rw [if_pos hc]
  simp only [It.err]
  unfold xad
  rw [xaa, xaa, xaa, xaa]
  by_cases hE : i + 2 = s.size
  ·go_enter Try.func97, Try.ntmps97
   go_wp2
   exact bodyPost_ret (v := .tuple #[.agg #[.int .u64 0, .int .u64 0, .int .u64 0, .int .u64 0, .int .u8 0, .bool false, .int .i64 0], .int .i64 6]) (by simp [results, Try.results97, go_sem]) rfl ⟨rfl, (Below.refl _ _).alloc (Nat.le_refl _) _⟩
  ·have hx := (xa7 s (i + 3) 61).1 hc
   have hX := xcc s hs (i + 3) 61
   rw [hx] at hX
   have HX := hide hX
   clear hX hx hc
   have hn3 : (i : Int) + 3 ≤ (s.size : Int) := by omega
   have happ := xdm 61
   have HG := hide (hg.below ((Below.refl w.heap.size w).alloc (Nat.le_refl _) (.cells #[.int .u64 0, .int .u64 0, .int .u64 0, .int .u64 0, .int .u8 0, .bool false, .int .i64 0] 170)) (Nat.le_refl _))
   go_enter Try.func97, Try.ntmps97
   go_wp2_with fail
   refine (HX.out _ HG.out).mono ?_
   rintro e w1 ⟨rfl, hw1⟩
   have hw1 := hw1.symm
   subst hw1
   go_wp2
   exact bodyPost_ret (v := .tuple #[.agg #[.int .u64 0, .int .u64 0, .int .u64 0, .int .u64 0, .int .u8 0, .bool false, .int .i64 0], .int .i64 6]) (by simp [results, Try.results97, go_sem]) rfl ⟨rfl, (Below.refl _ _).alloc (Nat.le_refl _) _⟩
 ·obtain ⟨d, rfl⟩ : ∃ d, c = i + 2 + 1 + d := ⟨c - (i + 3), by omega⟩
  have hx := (xa7 s (i + 3) 61).2 _ hc
  rw [show ((i + 2 + 1 + d : Nat) : Int) - ((i + 3 : Nat) : Int) = (d : Int) by omega] at hx
  have hX := xcc s hs (i + 3) 61
  rw [hx] at hX
  have HX := hide hX
  rw [hc, if_neg (by omega)]
  clear hX hx hc
  have hn3 : (i : Int) + 3 ≤ (s.size : Int) := by omega
  have hn4 : (i : Int) + 2 + 1 + (d : Int) ≤ (s.size : Int) := by omega
  have happ := xdm 61
  have HG := hide (hg.below ((Below.refl w.heap.size w).alloc (Nat.le_refl _) (.cells #[.int .u64 0, .int .u64 0, .int .u64 0, .int .u64 0, .int .u8 0, .bool false, .int .i64 0] 170)) (Nat.le_refl _))
  have HZ := hide (HoldsV.new w #[.int .u64 0, .int .u64 0, .int .u64 0, .int .u64 0, .int .u8 0, .bool false, .int .i64 0] 170)
  have HB := hide ((Below.refl w.heap.size w).alloc (Nat.le_refl _) (.cells #[.int .u64 0, .int .u64 0, .int .u64 0, .int .u64 0, .int .u8 0, .bool false, .int .i64 0] 170))
  rw [if_neg (by decide)]
  have hlen : (s.extract (i + 2) (i + 2 + 1 + d)).size = d + 1 := by simp; omega
  by_cases hd0 : d = 0
  ·subst hd0
   rw [if_pos (by omega)]
   have h2 : i + 2 < s.size := by omega
   have hname : s.extract (i + 2) (i + 2 + 1) = ⟨#[s[i + 2]]⟩ := xch s (i + 2) h2
   rw [show i + 3 = i + 2 + 1 from rfl, hname, xan h2]
   generalize hcb : s[i + 2] = cb at *
   clear hcb
   have hsz1 : (⟨#[cb]⟩ : ByteArray).size = 1 := rfl
   have hget : (⟨#[cb]⟩ : ByteArray)[0] = cb := rfl
   have HO := hide (ofD ⟨#[cb]⟩ (by unfold maxLen; rw [hsz1]; decide))
   simp only [Nat.add_zero] at hlen
   clear hlen
   go_enter Try.func97, Try.ntmps97
   go_wp2_with fail
   refine (HX.out _ HG.out).mono ?_
   rintro e w1 ⟨rfl, hw1⟩
   have hw1 := hw1.symm
   subst hw1
   go_wp2_with fail
   rw [hname]
   clear hname HX HG happ hmark hn0 hn1 hn2 hn3 hn4
   go_region_with (go_at_call 79; go_must (refine (HO.out _).mono ?_; rintro e w1 ⟨rfl, hb1⟩; have hz1 := HoldsV.below (w := (w.alloc (.cells #[.int .u64 0, .int .u64 0, .int .u64 0, .int .u64 0, .int .u8 0, .bool false, .int .i64 0] 170)).drew) (b := w.heap.size) (vs := (#[.int .u64 0, .int .u64 0, .int .u64 0, .int .u64 0, .int .u8 0, .bool false, .int .i64 0] : Array Value).toList) HZ.out hb1 (by simp); obtain ⟨⟨c0, f0⟩, ⟨c1, f1⟩, ⟨c2, f2⟩, ⟨c3, f3⟩, ⟨c4, f4⟩, ⟨c5, f5⟩, ⟨c6, f6⟩⟩ := (⟨hz1 0 _ rfl, hz1 1 _ rfl, hz1 2 _ rfl, hz1 3 _ rfl, hz1 4 _ rfl, hz1 5 _ rfl, hz1 6 _ rfl⟩ : _ ∧ _ ∧ _ ∧ _ ∧ _ ∧ _ ∧ _); have HB1 := hide (HB.out.drew.trans (hb1.mono HB.out.drew.size)); clear hb1 hz1))
   all_goals
    go_wp2
    have hBf := xgc HB1.out (Nat.le_refl w.heap.size) (.int .u64 (wd (ofP ⟨#[cb]⟩) 0)) (.int .u64 (wd (ofP ⟨#[cb]⟩) 1)) (.int .u64 (wd (ofP ⟨#[cb]⟩) 2)) (.int .u64 (wd (ofP ⟨#[cb]⟩) 3)) (.int .u8 (cb.toNat : Int)) (.bool false) (.int .i64 ((i : Int) + 2 + 1 + 2))
    refine bodyPost_ret (v := .tuple #[.agg #[.int .u64 (wd (ofP ⟨#[cb]⟩) 0), .int .u64 (wd (ofP ⟨#[cb]⟩) 1), .int .u64 (wd (ofP ⟨#[cb]⟩) 2), .int .u64 (wd (ofP ⟨#[cb]⟩) 3), .int .u8 (cb.toNat : Int), .bool false, .int .i64 ((i : Int) + 2 + 1 + 2)], .int .i64 0]) ?_ rfl ⟨?_, hBf⟩
    ·clear hBf
     simp [results, Try.results97, go_sem, *]
    ·rfl
  ·rw [if_neg (by omega)]
   simp only [It.err]
   unfold xad
   rw [xaa, xaa, xaa, xaa]
   have hd1 : ((d : Int) + 1 == 1) = false := by rw [beq_eq_false_iff_ne]; omega
   go_enter Try.func97, Try.ntmps97
   go_wp2_with fail
   refine (HX.out _ HG.out).mono ?_
   rintro e w1 ⟨rfl, hw1⟩
   have hw1 := hw1.symm
   subst hw1
   go_wp2
   exact bodyPost_ret (v := .tuple #[.agg #[.int .u64 0, .int .u64 0, .int .u64 0, .int .u64 0, .int .u8 0, .bool false, .int .i64 0], .int .i64 8]) (by simp [results, Try.results97, go_sem]) rfl ⟨rfl, HB.out⟩
theorem xgt (s : ByteArray) (hs : s.size ≤ 1073741824) (i : Nat) (h1 : i + 1 < s.size) (hm : s[i + 1] = 46) (w : World) (hg : Glob w) :
  Calls Try.prog 97 #[.string s, .int .i64 i] w fun e w' => e = .returned (.tuple #[.agg #[.int .u64 (wd (xa2 s i).q 0), .int .u64 (wd (xa2 s i).q 1), .int .u64 (wd (xa2 s i).q 2), .int .u64 (wd (xa2 s i).q 3), .int .u8 (xa2 s i).b, .bool (xa2 s i).bound, .int .i64 ((xa2 s i).next : Nat)], .int .i64 (xa2 s i).e]) ∧ Below w.heap.size w w' := by
 have hby : xag s (i + 1) = 46 := by rw [xan h1, hm]; rfl
 have hmk : mkAt s i = 46 := by rw [mkAt, hby]; rfl
 have hmark : s.extract (i + 1) (i + 2) = ⟨#[46]⟩ := by rw [xch s (i + 1) h1, hm]
 have hn0 : (0 : Int) ≤ (i : Int) + 1 := by omega
 have hn1 : (i : Int) + 1 ≤ (i : Int) + 2 := by omega
 have hn2 : (i : Int) + 2 ≤ (s.size : Int) := by omega
 unfold xa2
 rw [hmk, hby]
 rcases xbn s (i + 3) 46 with hc | ⟨c, hc, hc1, hc2⟩
 ·rw [if_pos hc]
  simp only [It.err]
  unfold xad
  rw [xaa, xaa, xaa, xaa]
  by_cases hE : i + 2 = s.size
  ·go_enter Try.func97, Try.ntmps97
   go_wp2
   exact bodyPost_ret (v := .tuple #[.agg #[.int .u64 0, .int .u64 0, .int .u64 0, .int .u64 0, .int .u8 0, .bool false, .int .i64 0], .int .i64 6]) (by simp [results, Try.results97, go_sem]) rfl ⟨rfl, (Below.refl _ _).alloc (Nat.le_refl _) _⟩
  ·have hx := (xa7 s (i + 3) 46).1 hc
   have hX := xcc s hs (i + 3) 46
   rw [hx] at hX
   have HX := hide hX
   clear hX hx hc
   have hn3 : (i : Int) + 3 ≤ (s.size : Int) := by omega
   have happ := xdm 46
   have HG := hide (hg.below ((Below.refl w.heap.size w).alloc (Nat.le_refl _) (.cells #[.int .u64 0, .int .u64 0, .int .u64 0, .int .u64 0, .int .u8 0, .bool false, .int .i64 0] 170)) (Nat.le_refl _))
   go_enter Try.func97, Try.ntmps97
   go_wp2_with fail
   refine (HX.out _ HG.out).mono ?_
   rintro e w1 ⟨rfl, hw1⟩
   have hw1 := hw1.symm
   subst hw1
   go_wp2
   exact bodyPost_ret (v := .tuple #[.agg #[.int .u64 0, .int .u64 0, .int .u64 0, .int .u64 0, .int .u8 0, .bool false, .int .i64 0], .int .i64 6]) (by simp [results, Try.results97, go_sem]) rfl ⟨rfl, (Below.refl _ _).alloc (Nat.le_refl _) _⟩
 ·obtain ⟨d, rfl⟩ : ∃ d, c = i + 2 + 1 + d := ⟨c - (i + 3), by omega⟩
  have hx := (xa7 s (i + 3) 46).2 _ hc
  rw [show ((i + 2 + 1 + d : Nat) : Int) - ((i + 3 : Nat) : Int) = (d : Int) by omega] at hx
  have hX := xcc s hs (i + 3) 46
  rw [hx] at hX
  have HX := hide hX
  rw [hc, if_neg (by omega)]
  clear hX hx hc
  have hn3 : (i : Int) + 3 ≤ (s.size : Int) := by omega
  have hn4 : (i : Int) + 2 + 1 + (d : Int) ≤ (s.size : Int) := by omega
  have happ := xdm 46
  have HG := hide (hg.below ((Below.refl w.heap.size w).alloc (Nat.le_refl _) (.cells #[.int .u64 0, .int .u64 0, .int .u64 0, .int .u64 0, .int .u8 0, .bool false, .int .i64 0] 170)) (Nat.le_refl _))
  have HZ := hide (HoldsV.new w #[.int .u64 0, .int .u64 0, .int .u64 0, .int .u64 0, .int .u8 0, .bool false, .int .i64 0] 170)
  have HB := hide ((Below.refl w.heap.size w).alloc (Nat.le_refl _) (.cells #[.int .u64 0, .int .u64 0, .int .u64 0, .int .u64 0, .int .u8 0, .bool false, .int .i64 0] 170))
  rw [if_neg (by decide)]
  have hlen : (s.extract (i + 2) (i + 2 + 1 + d)).size = d + 1 := by simp; omega
  by_cases hd0 : d = 0
  ·subst hd0
   rw [if_pos (by omega)]
   have h2 : i + 2 < s.size := by omega
   have hname : s.extract (i + 2) (i + 2 + 1) = ⟨#[s[i + 2]]⟩ := xch s (i + 2) h2
   rw [show i + 3 = i + 2 + 1 from rfl, hname, xan h2]
   generalize hcb : s[i + 2] = cb at *
   clear hcb
   have hsz1 : (⟨#[cb]⟩ : ByteArray).size = 1 := rfl
   have hget : (⟨#[cb]⟩ : ByteArray)[0] = cb := rfl
   have HO := hide (ofD ⟨#[cb]⟩ (by unfold maxLen; rw [hsz1]; decide))
   simp only [Nat.add_zero] at hlen
   clear hlen
   go_enter Try.func97, Try.ntmps97
   go_wp2_with fail
   refine (HX.out _ HG.out).mono ?_
   rintro e w1 ⟨rfl, hw1⟩
   have hw1 := hw1.symm
   subst hw1
   go_wp2_with fail
   rw [hname]
   clear hname HX HG happ hmark hn0 hn1 hn2 hn3 hn4
   go_region_with (go_at_call 79; go_must (refine (HO.out _).mono ?_; rintro e w1 ⟨rfl, hb1⟩; have hz1 := HoldsV.below (w := (w.alloc (.cells #[.int .u64 0, .int .u64 0, .int .u64 0, .int .u64 0, .int .u8 0, .bool false, .int .i64 0] 170)).drew) (b := w.heap.size) (vs := (#[.int .u64 0, .int .u64 0, .int .u64 0, .int .u64 0, .int .u8 0, .bool false, .int .i64 0] : Array Value).toList) HZ.out hb1 (by simp); obtain ⟨⟨c0, f0⟩, ⟨c1, f1⟩, ⟨c2, f2⟩, ⟨c3, f3⟩, ⟨c4, f4⟩, ⟨c5, f5⟩, ⟨c6, f6⟩⟩ := (⟨hz1 0 _ rfl, hz1 1 _ rfl, hz1 2 _ rfl, hz1 3 _ rfl, hz1 4 _ rfl, hz1 5 _ rfl, hz1 6 _ rfl⟩ : _ ∧ _ ∧ _ ∧ _ ∧ _ ∧ _ ∧ _); have HB1 := hide (HB.out.drew.trans (hb1.mono HB.out.drew.size)); clear hb1 hz1))
   all_goals
    go_wp2
    have hBf := xgc HB1.out (Nat.le_refl w.heap.size) (.int .u64 (wd (ofP ⟨#[cb]⟩) 0)) (.int .u64 (wd (ofP ⟨#[cb]⟩) 1)) (.int .u64 (wd (ofP ⟨#[cb]⟩) 2)) (.int .u64 (wd (ofP ⟨#[cb]⟩) 3)) (.int .u8 (cb.toNat : Int)) (.bool true) (.int .i64 ((i : Int) + 2 + 1 + 2))
    refine bodyPost_ret (v := .tuple #[.agg #[.int .u64 (wd (ofP ⟨#[cb]⟩) 0), .int .u64 (wd (ofP ⟨#[cb]⟩) 1), .int .u64 (wd (ofP ⟨#[cb]⟩) 2), .int .u64 (wd (ofP ⟨#[cb]⟩) 3), .int .u8 (cb.toNat : Int), .bool true, .int .i64 ((i : Int) + 2 + 1 + 2)], .int .i64 0]) ?_ rfl ⟨?_, hBf⟩
    ·clear hBf
     simp [results, Try.results97, go_sem, *]
    ·rfl
  ·rw [if_neg (by omega)]
   simp only [It.err]
   unfold xad
   rw [xaa, xaa, xaa, xaa]
   have hd1 : ((d : Int) + 1 == 1) = false := by rw [beq_eq_false_iff_ne]; omega
   go_enter Try.func97, Try.ntmps97
   go_wp2_with fail
   refine (HX.out _ HG.out).mono ?_
   rintro e w1 ⟨rfl, hw1⟩
   have hw1 := hw1.symm
   subst hw1
   go_wp2
   exact bodyPost_ret (v := .tuple #[.agg #[.int .u64 0, .int .u64 0, .int .u64 0, .int .u64 0, .int .u8 0, .bool false, .int .i64 0], .int .i64 8]) (by simp [results, Try.results97, go_sem]) rfl ⟨rfl, HB.out⟩
theorem xfb {s : ByteArray} {i : Nat} (h : xd1 s i = true) : xag s i = 91 ∧ ∃ h1 : i + 1 < s.size, (s[i + 1] = 58 ∨ s[i + 1] = 61 ∨ s[i + 1] = 46) := by
 simp only [xd1, Bool.and_eq_true, Bool.or_eq_true, beq_iff_eq] at h
 obtain ⟨h0, h⟩ := h
 have h1 : i + 1 < s.size := by
  rcases h with (h | h) | h <;> exact xcg h (by omega)
 rw [xan h1] at h
 refine ⟨h0, h1, ?_⟩
 rcases h with (h | h) | h
 ·exact .inl (UInt8.toNat_inj.1 (by show s[i + 1].toNat = 58; omega))
 ·exact .inr (.inl (UInt8.toNat_inj.1 (by show s[i + 1].toNat = 61; omega)))
 ·exact .inr (.inr (UInt8.toNat_inj.1 (by show s[i + 1].toNat = 46; omega)))
theorem xgu (s : ByteArray) (hs : s.size ≤ 1073741824) (i : Nat) (h : xd1 s i = true) (w : World) (hg : Glob w) :
  Calls Try.prog 97 #[.string s, .int .i64 i] w fun e w' => e = .returned (.tuple #[.agg #[.int .u64 (wd (xa2 s i).q 0), .int .u64 (wd (xa2 s i).q 1), .int .u64 (wd (xa2 s i).q 2), .int .u64 (wd (xa2 s i).q 3), .int .u8 (xa2 s i).b, .bool (xa2 s i).bound, .int .i64 ((xa2 s i).next : Nat)], .int .i64 (xa2 s i).e]) ∧ Below w.heap.size w w' := by
 obtain ⟨-, h1, hm | hm | hm⟩ := xfb h
 ·exact xfj s hs i h1 hm w hg
 ·exact xfk s hs i h1 hm w hg
 ·exact xgt s hs i h1 hm w hg
theorem xhu (s : ByteArray) (hs : s.size ≤ 1073741824) (i : Nat) (h : xd1 s i = true) (w : World) (hg : Glob w) (t : It) (ht : xa2 s i = t) :
  Calls Try.prog 92 #[.string s, .int .i64 i] w fun e w' => e = .returned (.tuple #[.agg #[.int .u64 (wd t.q 0), .int .u64 (wd t.q 1), .int .u64 (wd t.q 2), .int .u64 (wd t.q 3), .int .u8 t.b, .bool t.bound, .int .i64 t.next], .int .i64 t.e]) ∧ Below w.heap.size w w' := by
 have hR := xgu s hs i h
 rw [ht] at hR
 have HR := hide hR
 obtain ⟨h91, h1, hm⟩ := xfb h
 have h0 : i < s.size := by omega
 rw [xan h0] at h91
 have hb91 : ((s[i].toNat : Int) == 91) = true := by simp [h91]
 have hidx := idx3_yes s[i + 1] hm
 have hI := Try.strings_IndexByte ⟨#[58, 61, 46]⟩ (s[i + 1].toNat : Int)
 have e : ((s[i + 1].toNat : Int).toNat.toUInt8) = s[i + 1] := by simp
 rw [e] at hI
 obtain ⟨x, hx⟩ : ∃ x, Lib.indexByte [58, 61, 46] s[i + 1] = x := ⟨_, rfl⟩
 have hI2 : ∀ w, Calls Try.prog 96 #[.string ⟨#[58, 61, 46]⟩, .int .u8 (s[i + 1].toNat : Int)] w fun e w' => e = .returned (.int .i64 x) ∧ w' = w := by rw [← hx]; exact hI
 rw [hx] at hidx
 have HI := hide hI2
 have HG := hide (hg.below ((Below.refl w.heap.size w).alloc (Nat.le_refl _) (.cells #[.int .u64 0, .int .u64 0, .int .u64 0, .int .u64 0, .int .u8 0, .bool false, .int .i64 0] 170)) (Nat.le_refl _))
 have HZ := hide (HoldsV.new w #[.int .u64 0, .int .u64 0, .int .u64 0, .int .u64 0, .int .u8 0, .bool false, .int .i64 0] 170)
 have HB := hide ((Below.refl w.heap.size w).alloc (Nat.le_refl _) (.cells #[.int .u64 0, .int .u64 0, .int .u64 0, .int .u64 0, .int .u8 0, .bool false, .int .i64 0] 170))
 clear hI hI2 hx e hm hR h91 ht h
 go_enter Try.func92, Try.ntmps92
 go_wp2_with fail
 refine (HI.out _).mono ?_
 rintro e w0 ⟨rfl, hw0⟩
 have hw0 := hw0.symm
 subst hw0
 go_wp2_with fail
 refine (HR.out _ HG.out).mono ?_
 rintro e w1 ⟨rfl, hb1⟩
 have hz1 := HZ.out.below hb1 (by simp)
 obtain ⟨⟨c0, f0⟩, ⟨c1, f1⟩, ⟨c2, f2⟩, ⟨c3, f3⟩, ⟨c4, f4⟩, ⟨c5, f5⟩, ⟨c6, f6⟩⟩ := (⟨hz1 0 _ rfl, hz1 1 _ rfl, hz1 2 _ rfl, hz1 3 _ rfl, hz1 4 _ rfl, hz1 5 _ rfl, hz1 6 _ rfl⟩ : _ ∧ _ ∧ _ ∧ _ ∧ _ ∧ _ ∧ _)
 have HB1 := hide (HB.out.trans (hb1.mono HB.out.size))
 clear hb1 hz1 HZ HB HG HR HI
 go_wp2
 have hBf := xgc HB1.out (Nat.le_refl w.heap.size) (.int .u64 (wd t.q 0)) (.int .u64 (wd t.q 1)) (.int .u64 (wd t.q 2)) (.int .u64 (wd t.q 3)) (.int .u8 t.b) (.bool t.bound) (.int .i64 t.next)
 refine bodyPost_ret (v := .tuple #[.agg #[.int .u64 (wd t.q 0), .int .u64 (wd t.q 1), .int .u64 (wd t.q 2), .int .u64 (wd t.q 3), .int .u8 t.b, .bool t.bound, .int .i64 t.next], .int .i64 t.e]) ?_ rfl ⟨?_, hBf⟩
 ·clear hBf
  simp [results, Try.results92, go_sem, *]
 ·rfl
theorem xfc (s : ByteArray) (hs : s.size ≤ 1073741824) (i : Nat) (w : World) (hg : Glob w) :
  Calls Try.prog 92 #[.string s, .int .i64 i] w fun e w' => e = .returned (.tuple #[.agg #[.int .u64 (wd (xa4 s i).q 0), .int .u64 (wd (xa4 s i).q 1), .int .u64 (wd (xa4 s i).q 2), .int .u64 (wd (xa4 s i).q 3), .int .u8 (xa4 s i).b, .bool (xa4 s i).bound, .int .i64 ((xa4 s i).next : Nat)], .int .i64 (xa4 s i).e]) ∧ Below w.heap.size w w' := by
 by_cases h : i < s.size
 ·by_cases hm : xd1 s i = true
  ·have e : xa4 s i = xa2 s i := by rw [xa4, if_pos h, if_pos hm]
   rw [e]
   exact xhu s hs i hm w hg _ rfl
  ·have e : xa4 s i = ⟨0, ofP (s.extract i (i + 1)), xag s i, true, i + 1⟩ := by rw [xa4, if_pos h, if_neg hm]
   rw [e]
   by_cases h91 : xag s i = 91
   ·by_cases h1 : i + 1 < s.size
    ·exact xhs s hs i h h91 h1 (fun hx => hm (by
      simp only [xd1, Bool.and_eq_true, Bool.or_eq_true, beq_iff_eq]
      exact ⟨h91, by rcases hx with hx | hx | hx <;> simp [hx]⟩)) w
    ·exact xht s hs i h h91 (by omega) w
   ·exact xgs s hs i h h91 w
 ·have e : xa4 s i = .err 6 := by rw [xa4, if_neg h]
  rw [e]
  simp only [It.err]
  unfold xad
  rw [xaa, xaa, xaa, xaa]
  exact xja s i (by omega) w
end Go.Proofs.Ytolpakpdkheanaa.br
