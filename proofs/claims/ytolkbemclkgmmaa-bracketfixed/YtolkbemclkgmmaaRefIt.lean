/- The document's item: a byte that stands for itself. -/
import Derived.Test.YtolkbemclkgmmaaRdItem
namespace Go.Proofs.Ytolkbemclkgmmaa
open Go.RowKit

theorem below8 {B : Nat} {a w : World} (h : Below B a w) {b : Nat} (hb : B ≤ b) (v0 v1 v2 v3 v4 v5 v6 v7 : Value) : Below B a ((((((((w.setCell ⟨b, 0, none⟩ v0).setCell ⟨b, 1, none⟩ v1).setCell ⟨b, 2, none⟩ v2).setCell ⟨b, 3, none⟩ v3).setCell ⟨b, 4, none⟩ v4).setCell ⟨b, 5, none⟩ v5).setCell ⟨b, 6, none⟩ v6).setCell ⟨b, 7, none⟩ v7) :=
  ((((((((h.setCell (p := ⟨b, 0, none⟩) hb _).setCell (p := ⟨b, 1, none⟩) hb _).setCell (p := ⟨b, 2, none⟩) hb _).setCell (p := ⟨b, 3, none⟩) hb _).setCell (p := ⟨b, 4, none⟩) hb _).setCell (p := ⟨b, 5, none⟩) hb _).setCell (p := ⟨b, 6, none⟩) hb _).setCell (p := ⟨b, 7, none⟩) hb _)

set_option maxRecDepth 100000 in
set_option maxHeartbeats 2000000 in
theorem refItem_other (s : ByteArray) (hs : s.size ≤ 1073741824) (i : Nat) (h : i < s.size) (hm : ¬ byteAt s i = 91) (w : World) :
    Calls Try.prog 32 #[.string s, .int .i64 i] w fun e w' => e = .returned (.agg #[.int .u64 (wd (ofP (s.extract i (i + 1))) 0 : Nat), .int .u64 (wd (ofP (s.extract i (i + 1))) 1 : Nat), .int .u64 (wd (ofP (s.extract i (i + 1))) 2 : Nat), .int .u64 (wd (ofP (s.extract i (i + 1))) 3 : Nat), .int .u8 (byteAt s i), .bool true, .int .i64 (i + 1 : Nat), .int .i64 0]) ∧ Below w.heap.size w w' := by
  rw [byteAt_in h] at hm ⊢
  have hb91 : ((s[i].toNat : Int) != 91) = true := by simp [hm]
  clear hm
  have HO := hide (refOfD (s.extract i (i + 1)) (by unfold maxLen; simp; omega))
  have hn1 : (i : Int) + 1 ≤ (s.size : Int) := by omega
  have HZ := hide (HoldsV.new w #[.int .u64 0, .int .u64 0, .int .u64 0, .int .u64 0, .int .u8 0, .bool false, .int .i64 0, .int .i64 0] 45)
  have HB := hide ((Below.refl w.heap.size w).alloc (Nat.le_refl _) (.cells #[.int .u64 0, .int .u64 0, .int .u64 0, .int .u64 0, .int .u8 0, .bool false, .int .i64 0, .int .i64 0] 45))
  go_enter Try.func32, Try.ntmps32
  go_wp2_with fail
  refine (HO.out _).mono ?_
  rintro e w1 ⟨rfl, hb1⟩
  have hz1 := HZ.out.below hb1 (by simp)
  obtain ⟨⟨c0, f0⟩, ⟨c1, f1⟩, ⟨c2, f2⟩, ⟨c3, f3⟩, ⟨c4, f4⟩, ⟨c5, f5⟩, ⟨c6, f6⟩, ⟨c7, f7⟩⟩ := (⟨hz1 0 _ rfl, hz1 1 _ rfl, hz1 2 _ rfl, hz1 3 _ rfl, hz1 4 _ rfl, hz1 5 _ rfl, hz1 6 _ rfl, hz1 7 _ rfl⟩ : _ ∧ _ ∧ _ ∧ _ ∧ _ ∧ _ ∧ _ ∧ _)
  have HB1 := hide (HB.out.trans (hb1.mono HB.out.size))
  clear hb1 hz1
  clear HZ HB HO
  go_wp2
  have hBf := below8 HB1.out (Nat.le_refl w.heap.size) (.int .u64 (wd (ofP (s.extract i (i + 1))) 0 : Nat)) (.int .u64 (wd (ofP (s.extract i (i + 1))) 1 : Nat)) (.int .u64 (wd (ofP (s.extract i (i + 1))) 2 : Nat)) (.int .u64 (wd (ofP (s.extract i (i + 1))) 3 : Nat)) (.int .u8 (s[i].toNat : Int)) (.bool true) (.int .i64 ((i : Int) + 1)) (.int .i64 0)
  refine bodyPost_ret (v := .agg #[.int .u64 (wd (ofP (s.extract i (i + 1))) 0 : Nat), .int .u64 (wd (ofP (s.extract i (i + 1))) 1 : Nat), .int .u64 (wd (ofP (s.extract i (i + 1))) 2 : Nat), .int .u64 (wd (ofP (s.extract i (i + 1))) 3 : Nat), .int .u8 (s[i].toNat : Int), .bool true, .int .i64 ((i : Int) + 1), .int .i64 0]) ?_ rfl ⟨?_, hBf⟩
  · clear hBf
    simp [results, Try.results32, go_sem, *]
  · rfl

set_option maxRecDepth 100000 in
set_option maxHeartbeats 2000000 in
theorem refItem_last (s : ByteArray) (hs : s.size ≤ 1073741824) (i : Nat) (h : i < s.size) (hm : byteAt s i = 91) (h1 : s.size ≤ i + 1) (w : World) :
    Calls Try.prog 32 #[.string s, .int .i64 i] w fun e w' => e = .returned (.agg #[.int .u64 (wd (ofP (s.extract i (i + 1))) 0 : Nat), .int .u64 (wd (ofP (s.extract i (i + 1))) 1 : Nat), .int .u64 (wd (ofP (s.extract i (i + 1))) 2 : Nat), .int .u64 (wd (ofP (s.extract i (i + 1))) 3 : Nat), .int .u8 (byteAt s i), .bool true, .int .i64 (i + 1 : Nat), .int .i64 0]) ∧ Below w.heap.size w w' := by
  rw [byteAt_in h] at hm ⊢
  have hb91 : ((s[i].toNat : Int) != 91) = false := by simp [hm]
  clear hm
  have HO := hide (refOfD (s.extract i (i + 1)) (by unfold maxLen; simp; omega))
  have hn1 : (i : Int) + 1 ≤ (s.size : Int) := by omega
  have HZ := hide (HoldsV.new w #[.int .u64 0, .int .u64 0, .int .u64 0, .int .u64 0, .int .u8 0, .bool false, .int .i64 0, .int .i64 0] 45)
  have HB := hide ((Below.refl w.heap.size w).alloc (Nat.le_refl _) (.cells #[.int .u64 0, .int .u64 0, .int .u64 0, .int .u64 0, .int .u8 0, .bool false, .int .i64 0, .int .i64 0] 45))
  go_enter Try.func32, Try.ntmps32
  go_wp2_with fail
  refine (HO.out _).mono ?_
  rintro e w1 ⟨rfl, hb1⟩
  have hz1 := HZ.out.below hb1 (by simp)
  obtain ⟨⟨c0, f0⟩, ⟨c1, f1⟩, ⟨c2, f2⟩, ⟨c3, f3⟩, ⟨c4, f4⟩, ⟨c5, f5⟩, ⟨c6, f6⟩, ⟨c7, f7⟩⟩ := (⟨hz1 0 _ rfl, hz1 1 _ rfl, hz1 2 _ rfl, hz1 3 _ rfl, hz1 4 _ rfl, hz1 5 _ rfl, hz1 6 _ rfl, hz1 7 _ rfl⟩ : _ ∧ _ ∧ _ ∧ _ ∧ _ ∧ _ ∧ _ ∧ _)
  have HB1 := hide (HB.out.trans (hb1.mono HB.out.size))
  clear hb1 hz1
  clear HZ HB HO
  go_wp2
  have hBf := below8 HB1.out (Nat.le_refl w.heap.size) (.int .u64 (wd (ofP (s.extract i (i + 1))) 0 : Nat)) (.int .u64 (wd (ofP (s.extract i (i + 1))) 1 : Nat)) (.int .u64 (wd (ofP (s.extract i (i + 1))) 2 : Nat)) (.int .u64 (wd (ofP (s.extract i (i + 1))) 3 : Nat)) (.int .u8 (s[i].toNat : Int)) (.bool true) (.int .i64 ((i : Int) + 1)) (.int .i64 0)
  refine bodyPost_ret (v := .agg #[.int .u64 (wd (ofP (s.extract i (i + 1))) 0 : Nat), .int .u64 (wd (ofP (s.extract i (i + 1))) 1 : Nat), .int .u64 (wd (ofP (s.extract i (i + 1))) 2 : Nat), .int .u64 (wd (ofP (s.extract i (i + 1))) 3 : Nat), .int .u8 (s[i].toNat : Int), .bool true, .int .i64 ((i : Int) + 1), .int .i64 0]) ?_ rfl ⟨?_, hBf⟩
  · clear hBf
    simp [results, Try.results32, go_sem, *]
  · rfl

set_option maxRecDepth 100000 in
set_option maxHeartbeats 2000000 in
theorem refItem_open (s : ByteArray) (hs : s.size ≤ 1073741824) (i : Nat) (h : i < s.size) (hm : byteAt s i = 91) (h1 : i + 1 < s.size) (hm2 : ¬ (byteAt s (i + 1) = 58 ∨ byteAt s (i + 1) = 61 ∨ byteAt s (i + 1) = 46)) (w : World) :
    Calls Try.prog 32 #[.string s, .int .i64 i] w fun e w' => e = .returned (.agg #[.int .u64 (wd (ofP (s.extract i (i + 1))) 0 : Nat), .int .u64 (wd (ofP (s.extract i (i + 1))) 1 : Nat), .int .u64 (wd (ofP (s.extract i (i + 1))) 2 : Nat), .int .u64 (wd (ofP (s.extract i (i + 1))) 3 : Nat), .int .u8 (byteAt s i), .bool true, .int .i64 (i + 1 : Nat), .int .i64 0]) ∧ Below w.heap.size w w' := by
  rw [byteAt_in h] at hm ⊢
  rw [byteAt_in h1] at hm2
  have hb91 : ((s[i].toNat : Int) != 91) = false := by simp [hm]
  have ha1 : ((s[i + 1].toNat : Int) != 58) = true := by simp; omega
  have ha2 : ((s[i + 1].toNat : Int) != 61) = true := by simp; omega
  have ha3 : ((s[i + 1].toNat : Int) != 46) = true := by simp; omega
  clear hm hm2
  have HO := hide (refOfD (s.extract i (i + 1)) (by unfold maxLen; simp; omega))
  have hn1 : (i : Int) + 1 ≤ (s.size : Int) := by omega
  have HZ := hide (HoldsV.new w #[.int .u64 0, .int .u64 0, .int .u64 0, .int .u64 0, .int .u8 0, .bool false, .int .i64 0, .int .i64 0] 45)
  have HB := hide ((Below.refl w.heap.size w).alloc (Nat.le_refl _) (.cells #[.int .u64 0, .int .u64 0, .int .u64 0, .int .u64 0, .int .u8 0, .bool false, .int .i64 0, .int .i64 0] 45))
  go_enter Try.func32, Try.ntmps32
  go_wp2_with fail
  refine (HO.out _).mono ?_
  rintro e w1 ⟨rfl, hb1⟩
  have hz1 := HZ.out.below hb1 (by simp)
  obtain ⟨⟨c0, f0⟩, ⟨c1, f1⟩, ⟨c2, f2⟩, ⟨c3, f3⟩, ⟨c4, f4⟩, ⟨c5, f5⟩, ⟨c6, f6⟩, ⟨c7, f7⟩⟩ := (⟨hz1 0 _ rfl, hz1 1 _ rfl, hz1 2 _ rfl, hz1 3 _ rfl, hz1 4 _ rfl, hz1 5 _ rfl, hz1 6 _ rfl, hz1 7 _ rfl⟩ : _ ∧ _ ∧ _ ∧ _ ∧ _ ∧ _ ∧ _ ∧ _)
  have HB1 := hide (HB.out.trans (hb1.mono HB.out.size))
  clear hb1 hz1
  clear HZ HB HO
  go_wp2
  have hBf := below8 HB1.out (Nat.le_refl w.heap.size) (.int .u64 (wd (ofP (s.extract i (i + 1))) 0 : Nat)) (.int .u64 (wd (ofP (s.extract i (i + 1))) 1 : Nat)) (.int .u64 (wd (ofP (s.extract i (i + 1))) 2 : Nat)) (.int .u64 (wd (ofP (s.extract i (i + 1))) 3 : Nat)) (.int .u8 (s[i].toNat : Int)) (.bool true) (.int .i64 ((i : Int) + 1)) (.int .i64 0)
  refine bodyPost_ret (v := .agg #[.int .u64 (wd (ofP (s.extract i (i + 1))) 0 : Nat), .int .u64 (wd (ofP (s.extract i (i + 1))) 1 : Nat), .int .u64 (wd (ofP (s.extract i (i + 1))) 2 : Nat), .int .u64 (wd (ofP (s.extract i (i + 1))) 3 : Nat), .int .u8 (s[i].toNat : Int), .bool true, .int .i64 ((i : Int) + 1), .int .i64 0]) ?_ rfl ⟨?_, hBf⟩
  · clear hBf
    simp [results, Try.results32, go_sem, *]
  · rfl
end Go.Proofs.Ytolkbemclkgmmaa
