/- bracket.readMarked: [= and [. -/
import Derived.Test.YtooanbbnjiogaaaKMark
namespace Go.Proofs.Ytooanbbnjiogaaa
open Go.RowKit

set_option maxRecDepth 100000 in
set_option maxHeartbeats 8000000 in
theorem readMarked_dot (s : ByteArray) (hs : s.size ≤ 1073741824) (i : Nat) (h1 : i + 1 < s.size) (hm : s[i + 1] = 46) (w : World) (hg : Glob w) :
    Calls Try.prog 75 #[.string s, .int .i64 i] w fun e w' => e = .returned (.tuple #[.agg #[.int .u64 (wd (markS s i).q 0 : Nat), .int .u64 (wd (markS s i).q 1 : Nat), .int .u64 (wd (markS s i).q 2 : Nat), .int .u64 (wd (markS s i).q 3 : Nat), .int .u8 (markS s i).b, .bool (markS s i).bound, .int .i64 ((markS s i).next : Nat)], .int .i64 (markS s i).e]) ∧ Below w.heap.size w w' := by
  have hby : byteAt s (i + 1) = 46 := by rw [byteAt_in h1, hm]; rfl
  have hmk : mkAt s i = 46 := by rw [mkAt, hby]; rfl
  have hmark : s.extract (i + 1) (i + 2) = ⟨#[46]⟩ := by rw [extract_one s (i + 1) h1, hm]
  have hn0 : (0 : Int) ≤ (i : Int) + 1 := by omega
  have hn1 : (i : Int) + 1 ≤ (i : Int) + 2 := by omega
  have hn2 : (i : Int) + 2 ≤ (s.size : Int) := by omega
  unfold markS
  rw [hmk, hby]
  rcases closeI_bounds s (i + 3) 46 with hc | ⟨c, hc, hc1, hc2⟩
  · rw [if_pos hc]
    simp only [It.err]
    unfold noneP
    rw [wd_none, wd_none, wd_none, wd_none]
    by_cases hE : i + 2 = s.size
    · go_enter Try.func75, Try.ntmps75
      go_wp2
      exact bodyPost_ret (v := .tuple #[.agg #[.int .u64 0, .int .u64 0, .int .u64 0, .int .u64 0, .int .u8 0, .bool false, .int .i64 0], .int .i64 6]) (by simp [results, Try.results75, go_sem]) rfl ⟨rfl, (Below.refl _ _).alloc (Nat.le_refl _) _⟩
    · have hx := (index_of_close s (i + 3) 46).1 hc
      have hX := index_call s hs (i + 3) 46
      rw [hx] at hX
      have HX := hide hX
      clear hX hx hc
      have hn3 : (i : Int) + 3 ≤ (s.size : Int) := by omega
      have happ := app_mark 46
      have HG := hide (hg.below ((Below.refl w.heap.size w).alloc (Nat.le_refl _) (.cells #[.int .u64 0, .int .u64 0, .int .u64 0, .int .u64 0, .int .u8 0, .bool false, .int .i64 0] 109)) (Nat.le_refl _))
      go_enter Try.func75, Try.ntmps75
      go_wp2_with fail
      refine (HX.out _ HG.out).mono ?_
      rintro e w1 ⟨rfl, hw1⟩
      have hw1 := hw1.symm
      subst hw1
      go_wp2
      exact bodyPost_ret (v := .tuple #[.agg #[.int .u64 0, .int .u64 0, .int .u64 0, .int .u64 0, .int .u8 0, .bool false, .int .i64 0], .int .i64 6]) (by simp [results, Try.results75, go_sem]) rfl ⟨rfl, (Below.refl _ _).alloc (Nat.le_refl _) _⟩
  · obtain ⟨d, rfl⟩ : ∃ d, c = i + 2 + 1 + d := ⟨c - (i + 3), by omega⟩
    have hx := (index_of_close s (i + 3) 46).2 _ hc
    rw [show ((i + 2 + 1 + d : Nat) : Int) - ((i + 3 : Nat) : Int) = (d : Int) by omega] at hx
    have hX := index_call s hs (i + 3) 46
    rw [hx] at hX
    have HX := hide hX
    rw [hc, if_neg (by omega)]
    clear hX hx hc
    have hn3 : (i : Int) + 3 ≤ (s.size : Int) := by omega
    have hn4 : (i : Int) + 2 + 1 + (d : Int) ≤ (s.size : Int) := by omega
    have happ := app_mark 46
    have HG := hide (hg.below ((Below.refl w.heap.size w).alloc (Nat.le_refl _) (.cells #[.int .u64 0, .int .u64 0, .int .u64 0, .int .u64 0, .int .u8 0, .bool false, .int .i64 0] 109)) (Nat.le_refl _))
    have HZ := hide (HoldsV.new w #[.int .u64 0, .int .u64 0, .int .u64 0, .int .u64 0, .int .u8 0, .bool false, .int .i64 0] 109)
    have HB := hide ((Below.refl w.heap.size w).alloc (Nat.le_refl _) (.cells #[.int .u64 0, .int .u64 0, .int .u64 0, .int .u64 0, .int .u8 0, .bool false, .int .i64 0] 109))
    rw [if_neg (by decide)]
    have hlen : (s.extract (i + 2) (i + 2 + 1 + d)).size = d + 1 := by simp; omega
    by_cases hd0 : d = 0
    · subst hd0
      rw [if_pos (by omega)]
      have h2 : i + 2 < s.size := by omega
      have hname : s.extract (i + 2) (i + 2 + 1) = ⟨#[s[i + 2]]⟩ := extract_one s (i + 2) h2
      rw [show i + 3 = i + 2 + 1 from rfl, hname, byteAt_in h2]
      generalize hcb : s[i + 2] = cb at *
      clear hcb
      have hsz1 : (⟨#[cb]⟩ : ByteArray).size = 1 := rfl
      have hget : (⟨#[cb]⟩ : ByteArray)[0] = cb := rfl
      have HO := hide (ofD ⟨#[cb]⟩ (by unfold maxLen; rw [hsz1]; decide))
      simp only [Nat.add_zero] at hlen
      clear hlen
      go_enter Try.func75, Try.ntmps75
      go_wp2_with fail
      refine (HX.out _ HG.out).mono ?_
      rintro e w1 ⟨rfl, hw1⟩
      have hw1 := hw1.symm
      subst hw1
      go_wp2_with fail
      rw [hname]
      clear hname HX HG happ hmark hn0 hn1 hn2 hn3 hn4
      go_region_with (go_at_call 53; go_must (refine (HO.out _).mono ?_; rintro e w1 ⟨rfl, hb1⟩; have hz1 := HoldsV.below (w := (w.alloc (.cells #[.int .u64 0, .int .u64 0, .int .u64 0, .int .u64 0, .int .u8 0, .bool false, .int .i64 0] 109)).drew) (b := w.heap.size) (vs := (#[.int .u64 0, .int .u64 0, .int .u64 0, .int .u64 0, .int .u8 0, .bool false, .int .i64 0] : Array Value).toList) HZ.out hb1 (by simp); obtain ⟨⟨c0, f0⟩, ⟨c1, f1⟩, ⟨c2, f2⟩, ⟨c3, f3⟩, ⟨c4, f4⟩, ⟨c5, f5⟩, ⟨c6, f6⟩⟩ := (⟨hz1 0 _ rfl, hz1 1 _ rfl, hz1 2 _ rfl, hz1 3 _ rfl, hz1 4 _ rfl, hz1 5 _ rfl, hz1 6 _ rfl⟩ : _ ∧ _ ∧ _ ∧ _ ∧ _ ∧ _ ∧ _); have HB1 := hide (HB.out.drew.trans (hb1.mono HB.out.drew.size)); clear hb1 hz1))
      all_goals
        go_wp2
        have hBf := below7 HB1.out (Nat.le_refl w.heap.size) (.int .u64 (wd (ofP ⟨#[cb]⟩) 0 : Nat)) (.int .u64 (wd (ofP ⟨#[cb]⟩) 1 : Nat)) (.int .u64 (wd (ofP ⟨#[cb]⟩) 2 : Nat)) (.int .u64 (wd (ofP ⟨#[cb]⟩) 3 : Nat)) (.int .u8 (cb.toNat : Int)) (.bool true) (.int .i64 ((i : Int) + 2 + 1 + 2))
        refine bodyPost_ret (v := .tuple #[.agg #[.int .u64 (wd (ofP ⟨#[cb]⟩) 0 : Nat), .int .u64 (wd (ofP ⟨#[cb]⟩) 1 : Nat), .int .u64 (wd (ofP ⟨#[cb]⟩) 2 : Nat), .int .u64 (wd (ofP ⟨#[cb]⟩) 3 : Nat), .int .u8 (cb.toNat : Int), .bool true, .int .i64 ((i : Int) + 2 + 1 + 2)], .int .i64 0]) ?_ rfl ⟨?_, hBf⟩
        · clear hBf
          simp [results, Try.results75, go_sem, *]
        · rfl
    · rw [if_neg (by omega)]
      simp only [It.err]
      unfold noneP
      rw [wd_none, wd_none, wd_none, wd_none]
      have hd1 : ((d : Int) + 1 == 1) = false := by rw [beq_eq_false_iff_ne]; omega
      go_enter Try.func75, Try.ntmps75
      go_wp2_with fail
      refine (HX.out _ HG.out).mono ?_
      rintro e w1 ⟨rfl, hw1⟩
      have hw1 := hw1.symm
      subst hw1
      go_wp2
      exact bodyPost_ret (v := .tuple #[.agg #[.int .u64 0, .int .u64 0, .int .u64 0, .int .u64 0, .int .u8 0, .bool false, .int .i64 0], .int .i64 8]) (by simp [results, Try.results75, go_sem]) rfl ⟨rfl, HB.out⟩
end Go.Proofs.Ytooanbbnjiogaaa
