/- The document's item: marked by dot. -/
import Derived.Test.YtolkbemclkgmmaaRefIt
namespace Go.Proofs.Ytolkbemclkgmmaa
open Go.RowKit

set_option maxRecDepth 100000 in
set_option maxHeartbeats 2000000 in
theorem refItem_dot (s : ByteArray) (hs : s.size ≤ 1073741824) (i : Nat) (h91 : byteAt s i = 91) (h1 : i + 1 < s.size) (hm : s[i + 1] = 46) (w : World) :
    Calls Try.prog 32 #[.string s, .int .i64 i] w fun e w' => e = .returned (.agg #[.int .u64 (wd (markS s i).q 0 : Nat), .int .u64 (wd (markS s i).q 1 : Nat), .int .u64 (wd (markS s i).q 2 : Nat), .int .u64 (wd (markS s i).q 3 : Nat), .int .u8 (markS s i).b, .bool (markS s i).bound, .int .i64 ((markS s i).next : Nat), .int .i64 (markS s i).e]) ∧ Below w.heap.size w w' := by
  have hby : byteAt s (i + 1) = 46 := by rw [byteAt_in h1, hm]; rfl
  have hmk : mkAt s i = 46 := by rw [mkAt, hby]; rfl
  have h0 : i < s.size := by omega
  rw [byteAt_in h0] at h91
  have hb91 : ((s[i].toNat : Int) != 91) = false := by simp [h91]
  have ha0 : ((s[i + 1].toNat : Int) != 58) = true := by rw [hm]; rfl
  have ha1 : ((s[i + 1].toNat : Int) != 61) = true := by rw [hm]; rfl
  have ha2 : ((s[i + 1].toNat : Int) != 46) = false := by rw [hm]; rfl
  have hq58 : ((s[i + 1].toNat : Int) == 58) = false := by rw [hm]; rfl
  have hq46 : ((s[i + 1].toNat : Int) == 46) = true := by rw [hm]; rfl
  have hX := closes_any s hs (i + 3) (by omega) s[i + 1]
  have HZ := hide (HoldsV.new w #[.int .u64 0, .int .u64 0, .int .u64 0, .int .u64 0, .int .u8 0, .bool false, .int .i64 0, .int .i64 0] 45)
  have HB := hide ((Below.refl w.heap.size w).alloc (Nat.le_refl _) (.cells #[.int .u64 0, .int .u64 0, .int .u64 0, .int .u64 0, .int .u8 0, .bool false, .int .i64 0, .int .i64 0] 45))
  unfold markS
  rw [hmk, hby]
  have hcm : closeI s (i + 3) s[i + 1] = closeI s (i + 3) 46 := by rw [hm]
  rw [hcm] at hX
  clear hby hmk h91 hcm hm
  rcases closeI_bounds s (i + 3) 46 with hc | ⟨c, hc, hc1, hc2⟩
  · rw [if_pos hc]
    rw [hc] at hX
    have HX := hide hX
    clear hX hc
    simp only [It.err]
    unfold noneP
    rw [wd_none, wd_none, wd_none, wd_none]
    go_enter Try.func32, Try.ntmps32
    go_wp2_with fail
    refine (HX.out _).mono ?_
    rintro e w1 ⟨rfl, hw1⟩
    have hw1 := hw1.symm
    subst hw1
    have hz1 := HZ.out
    obtain ⟨⟨c0, f0⟩, ⟨c1, f1⟩, ⟨c2, f2⟩, ⟨c3, f3⟩, ⟨c4, f4⟩, ⟨c5, f5⟩, ⟨c6, f6⟩, ⟨c7, f7⟩⟩ := (⟨hz1 0 _ rfl, hz1 1 _ rfl, hz1 2 _ rfl, hz1 3 _ rfl, hz1 4 _ rfl, hz1 5 _ rfl, hz1 6 _ rfl, hz1 7 _ rfl⟩ : _ ∧ _ ∧ _ ∧ _ ∧ _ ∧ _ ∧ _ ∧ _)
    have HB1 := HB
    clear hz1 HX HZ
    go_wp2
    refine bodyPost_ret (v := .agg #[.int .u64 0, .int .u64 0, .int .u64 0, .int .u64 0, .int .u8 0, .bool false, .int .i64 0, .int .i64 6]) ?_ rfl ⟨rfl, ?_⟩
    · simp [results, Try.results32, go_sem, *]
    · exact (Below.refl w.heap.size w).alloc (Nat.le_refl _) _
  · obtain ⟨d, rfl⟩ : ∃ d, c = i + 3 + d := ⟨c - (i + 3), by omega⟩
    rw [hc] at hX
    have HX := hide hX
    rw [hc, if_neg (by omega)]
    clear hX hc
    have hn3 : (i : Int) + 3 ≤ (s.size : Int) := by omega
    have hn4 : (i : Int) + 3 + (d : Int) ≤ (s.size : Int) := by omega
    rw [if_neg (by decide)]
    have hlen : (s.extract (i + 2) (i + 3 + d)).size = d + 1 := by simp; omega
    by_cases hd0 : d = 0
    · subst hd0
      rw [if_pos (by omega)]
      have h2 : i + 2 < s.size := by omega
      have hname : s.extract (i + 2) (i + 3) = ⟨#[s[i + 2]]⟩ := extract_one s (i + 2) h2
      rw [hname, byteAt_in h2]
      generalize hcb : s[i + 2] = cb at *
      clear hcb
      have hsz1 : (⟨#[cb]⟩ : ByteArray).size = 1 := rfl
      have hget : (⟨#[cb]⟩ : ByteArray)[0] = cb := rfl
      have HO := hide (refOfD ⟨#[cb]⟩ (by unfold maxLen; rw [hsz1]; decide))
      simp only [Nat.add_zero] at hlen
      clear hlen
      have hw2 : IntKind.i64.wrap ((i : Int) + 3 + 2) = (i : Int) + 3 + 2 := by rw [IntKind.wrap_i64]; omega
      go_enter Try.func32, Try.ntmps32
      go_wp2_with fail
      refine (HX.out _).mono ?_
      rintro e w1 ⟨rfl, hw1⟩
      have hw1 := hw1.symm
      subst hw1
      go_wp2_with fail
      rw [hname]
      clear hname HX hn3 hn4
      go_region_with (go_at_call 16; go_must (refine (HO.out _).mono ?_; rintro e w1 ⟨rfl, hb1⟩; have hz1 := HoldsV.below (w := (w.alloc (.cells #[.int .u64 0, .int .u64 0, .int .u64 0, .int .u64 0, .int .u8 0, .bool false, .int .i64 0, .int .i64 0] 45)).drew) (b := w.heap.size) (vs := (#[.int .u64 0, .int .u64 0, .int .u64 0, .int .u64 0, .int .u8 0, .bool false, .int .i64 0, .int .i64 0] : Array Value).toList) HZ.out hb1 (by simp); obtain ⟨⟨c0, f0⟩, ⟨c1, f1⟩, ⟨c2, f2⟩, ⟨c3, f3⟩, ⟨c4, f4⟩, ⟨c5, f5⟩, ⟨c6, f6⟩, ⟨c7, f7⟩⟩ := (⟨hz1 0 _ rfl, hz1 1 _ rfl, hz1 2 _ rfl, hz1 3 _ rfl, hz1 4 _ rfl, hz1 5 _ rfl, hz1 6 _ rfl, hz1 7 _ rfl⟩ : _ ∧ _ ∧ _ ∧ _ ∧ _ ∧ _ ∧ _ ∧ _); have HB1 := hide (HB.out.drew.trans (hb1.mono HB.out.drew.size)); clear hb1 hz1))
      all_goals
        go_wp2
        have hBf := below8 HB1.out (Nat.le_refl w.heap.size) (.int .u64 (wd (ofP ⟨#[cb]⟩) 0 : Nat)) (.int .u64 (wd (ofP ⟨#[cb]⟩) 1 : Nat)) (.int .u64 (wd (ofP ⟨#[cb]⟩) 2 : Nat)) (.int .u64 (wd (ofP ⟨#[cb]⟩) 3 : Nat)) (.int .u8 (cb.toNat : Int)) (.bool true) (.int .i64 ((i : Int) + 3 + 2)) (.int .i64 0)
        refine bodyPost_ret (v := .agg #[.int .u64 (wd (ofP ⟨#[cb]⟩) 0 : Nat), .int .u64 (wd (ofP ⟨#[cb]⟩) 1 : Nat), .int .u64 (wd (ofP ⟨#[cb]⟩) 2 : Nat), .int .u64 (wd (ofP ⟨#[cb]⟩) 3 : Nat), .int .u8 (cb.toNat : Int), .bool true, .int .i64 ((i : Int) + 3 + 2), .int .i64 0]) ?_ rfl ⟨?_, hBf⟩
        · clear hBf
          simp [results, Try.results32, go_sem, *]
        · rfl
    · rw [if_neg (by omega)]
      simp only [It.err]
      unfold noneP
      rw [wd_none, wd_none, wd_none, wd_none]
      go_enter Try.func32, Try.ntmps32
      go_wp2_with fail
      refine (HX.out _).mono ?_
      rintro e w1 ⟨rfl, hw1⟩
      have hw1 := hw1.symm
      subst hw1
      have hz1 := HZ.out
      obtain ⟨⟨c0, f0⟩, ⟨c1, f1⟩, ⟨c2, f2⟩, ⟨c3, f3⟩, ⟨c4, f4⟩, ⟨c5, f5⟩, ⟨c6, f6⟩, ⟨c7, f7⟩⟩ := (⟨hz1 0 _ rfl, hz1 1 _ rfl, hz1 2 _ rfl, hz1 3 _ rfl, hz1 4 _ rfl, hz1 5 _ rfl, hz1 6 _ rfl, hz1 7 _ rfl⟩ : _ ∧ _ ∧ _ ∧ _ ∧ _ ∧ _ ∧ _ ∧ _)
      have HB1 := HB
      clear hz1 HX HZ
      go_wp2
      refine bodyPost_ret (v := .agg #[.int .u64 0, .int .u64 0, .int .u64 0, .int .u64 0, .int .u8 0, .bool false, .int .i64 0, .int .i64 8]) ?_ rfl ⟨rfl, ?_⟩
      · simp [results, Try.results32, go_sem, *]
      · exact (Below.refl w.heap.size w).alloc (Nat.le_refl _) _
end Go.Proofs.Ytolkbemclkgmmaa
