/- The document's item: marked by colon. -/
import Derived.Test.YtolkbemclkgmmaaRefIt
namespace Go.Proofs.Ytolkbemclkgmmaa
open Go.RowKit

set_option maxRecDepth 100000 in
set_option maxHeartbeats 2000000 in
theorem refItem_colon (s : ByteArray) (hs : s.size ≤ 1073741824) (i : Nat) (h91 : byteAt s i = 91) (h1 : i + 1 < s.size) (hm : s[i + 1] = 58) (w : World) :
    Calls Try.prog 32 #[.string s, .int .i64 i] w fun e w' => e = .returned (.agg #[.int .u64 (wd (markS s i).q 0 : Nat), .int .u64 (wd (markS s i).q 1 : Nat), .int .u64 (wd (markS s i).q 2 : Nat), .int .u64 (wd (markS s i).q 3 : Nat), .int .u8 (markS s i).b, .bool (markS s i).bound, .int .i64 ((markS s i).next : Nat), .int .i64 (markS s i).e]) ∧ Below w.heap.size w w' := by
  have hby : byteAt s (i + 1) = 58 := by rw [byteAt_in h1, hm]; rfl
  have hmk : mkAt s i = 58 := by rw [mkAt, hby]; rfl
  have h0 : i < s.size := by omega
  rw [byteAt_in h0] at h91
  have hb91 : ((s[i].toNat : Int) != 91) = false := by simp [h91]
  have ha0 : ((s[i + 1].toNat : Int) != 58) = false := by rw [hm]; rfl
  have hq58 : ((s[i + 1].toNat : Int) == 58) = true := by rw [hm]; rfl
  have hq46 : ((s[i + 1].toNat : Int) == 46) = false := by rw [hm]; rfl
  have hX := closes_any s hs (i + 3) (by omega) s[i + 1]
  have HZ := hide (HoldsV.new w #[.int .u64 0, .int .u64 0, .int .u64 0, .int .u64 0, .int .u8 0, .bool false, .int .i64 0, .int .i64 0] 45)
  have HB := hide ((Below.refl w.heap.size w).alloc (Nat.le_refl _) (.cells #[.int .u64 0, .int .u64 0, .int .u64 0, .int .u64 0, .int .u8 0, .bool false, .int .i64 0, .int .i64 0] 45))
  unfold markS
  rw [hmk, hby]
  have hcm : closeI s (i + 3) s[i + 1] = closeI s (i + 3) 58 := by rw [hm]
  rw [hcm] at hX
  clear hby hmk h91 hcm hm
  rcases closeI_bounds s (i + 3) 58 with hc | ⟨c, hc, hc1, hc2⟩
  · rw [if_pos hc]
    rw [hc] at hX
    have HX := hide hX
    clear hX hc
    simp only [It.err]
    unfold noneP
    rw [wd_none, wd_none, wd_none, wd_none]
    go_enter Try.func32, Try.ntmps32
    go_wp2_with fail
    refine (HX.out _).mono ?_
    rintro e w1 ⟨rfl, hw1⟩
    have hw1 := hw1.symm
    subst hw1
    have hz1 := HZ.out
    obtain ⟨⟨c0, f0⟩, ⟨c1, f1⟩, ⟨c2, f2⟩, ⟨c3, f3⟩, ⟨c4, f4⟩, ⟨c5, f5⟩, ⟨c6, f6⟩, ⟨c7, f7⟩⟩ := (⟨hz1 0 _ rfl, hz1 1 _ rfl, hz1 2 _ rfl, hz1 3 _ rfl, hz1 4 _ rfl, hz1 5 _ rfl, hz1 6 _ rfl, hz1 7 _ rfl⟩ : _ ∧ _ ∧ _ ∧ _ ∧ _ ∧ _ ∧ _ ∧ _)
    have HB1 := HB
    clear hz1 HX HZ
    go_wp2
    refine bodyPost_ret (v := .agg #[.int .u64 0, .int .u64 0, .int .u64 0, .int .u64 0, .int .u8 0, .bool false, .int .i64 0, .int .i64 6]) ?_ rfl ⟨rfl, ?_⟩
    · simp [results, Try.results32, go_sem, *]
    · exact (Below.refl w.heap.size w).alloc (Nat.le_refl _) _
  · obtain ⟨d, rfl⟩ : ∃ d, c = i + 3 + d := ⟨c - (i + 3), by omega⟩
    rw [hc] at hX
    have HX := hide hX
    rw [hc, if_neg (by omega)]
    clear hX hc
    have hn3 : (i : Int) + 3 ≤ (s.size : Int) := by omega
    have hn4 : (i : Int) + 3 + (d : Int) ≤ (s.size : Int) := by omega
    rw [if_pos rfl]
    simp only [Int.toNat_natCast]
    have hC := docClassD (s.extract (i + 2) (i + 3 + d))
    generalize classQ (s.extract (i + 2) (i + 3 + d)) = q at *
    generalize classC (s.extract (i + 2) (i + 3 + d)) = cc at *
    have HC := hide hC
    clear hC
    go_enter Try.func32, Try.ntmps32
    go_wp2_with fail
    refine (HX.out _).mono ?_
    rintro e w1 ⟨rfl, hw1⟩
    have hw1 := hw1.symm
    subst hw1
    go_wp2_with fail
    refine (HC.out _).mono ?_
    rintro e w2 ⟨rfl, hb2⟩
    have hz1 := (HZ.out.below hb2 (by simp)).below ((Below.refl w2.heap.size w2).alloc (Nat.le_refl _) (.cells #[.int .u64 (wd q 0 : Nat), .int .u64 (wd q 1 : Nat), .int .u64 (wd q 2 : Nat), .int .u64 (wd q 3 : Nat)] 24)) (by have := hb2.size; simp at this; omega)
    have hd := (holds4_new w2 q 24).1
    have hB3 := (HB.out.trans (hb2.mono HB.out.size)).alloc (HB.out.trans (hb2.mono HB.out.size)).size (.cells #[.int .u64 (wd q 0 : Nat), .int .u64 (wd q 1 : Nat), .int .u64 (wd q 2 : Nat), .int .u64 (wd q 3 : Nat)] 24)
    have hlt2 : w.heap.size < w2.heap.size := by have := hb2.size; simp at this; omega
    obtain ⟨W3, hW3⟩ : ∃ W3, w2.alloc (.cells #[.int .u64 (wd q 0 : Nat), .int .u64 (wd q 1 : Nat), .int .u64 (wd q 2 : Nat), .int .u64 (wd q 3 : Nat)] 24) = W3 := ⟨_, rfl⟩
    rw [hW3] at hz1 hd hB3
    obtain ⟨⟨c0, f0⟩, ⟨c1, f1⟩, ⟨c2, f2⟩, ⟨c3, f3⟩, ⟨c4, f4⟩, ⟨c5, f5⟩, ⟨c6, f6⟩, ⟨c7, f7⟩⟩ := (⟨hz1 0 _ rfl, hz1 1 _ rfl, hz1 2 _ rfl, hz1 3 _ rfl, hz1 4 _ rfl, hz1 5 _ rfl, hz1 6 _ rfl, hz1 7 _ rfl⟩ : _ ∧ _ ∧ _ ∧ _ ∧ _ ∧ _ ∧ _ ∧ _)
    obtain ⟨d0, d1, d2, d3⟩ := hd
    have HB1 := hide hB3
    clear hB3 hb2 hz1 HX HZ HB HC
    go_wp2
    have hBf := below8 HB1.out (Nat.le_refl w.heap.size) (.int .u64 (wd q 0 : Nat)) (.int .u64 (wd q 1 : Nat)) (.int .u64 (wd q 2 : Nat)) (.int .u64 (wd q 3 : Nat)) (.int .u8 0) (.bool false) (.int .i64 ((i : Int) + 3 + (d : Int) + 2)) (.int .i64 cc)
    refine bodyPost_ret (v := .agg #[.int .u64 (wd q 0 : Nat), .int .u64 (wd q 1 : Nat), .int .u64 (wd q 2 : Nat), .int .u64 (wd q 3 : Nat), .int .u8 0, .bool false, .int .i64 ((i : Int) + 3 + (d : Int) + 2), .int .i64 cc]) ?_ rfl ⟨?_, hBf⟩
    · clear hBf
      simp [results, Try.results32, go_sem, *]
    · rfl
end Go.Proofs.Ytolkbemclkgmmaa
