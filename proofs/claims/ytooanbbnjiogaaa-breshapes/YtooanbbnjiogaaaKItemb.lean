/- bracket.readItem: a [ that stands for itself. -/
import Derived.Test.YtooanbbnjiogaaaKItem
namespace Go.Proofs.Ytooanbbnjiogaaa
open Go.RowKit

set_option maxRecDepth 100000 in
set_option maxHeartbeats 2000000 in
theorem readItem_open (s : ByteArray) (hs : s.size ≤ 1073741824) (i : Nat) (h : i < s.size) (hm : byteAt s i = 91) (h1 : i + 1 < s.size) (hm2 : ¬ (byteAt s (i + 1) = 58 ∨ byteAt s (i + 1) = 61 ∨ byteAt s (i + 1) = 46)) (w : World) :
    Calls Try.prog 68 #[.string s, .int .i64 i] w fun e w' => e = .returned (.tuple #[.agg #[.int .u64 (wd (ofP (s.extract i (i + 1))) 0 : Nat), .int .u64 (wd (ofP (s.extract i (i + 1))) 1 : Nat), .int .u64 (wd (ofP (s.extract i (i + 1))) 2 : Nat), .int .u64 (wd (ofP (s.extract i (i + 1))) 3 : Nat), .int .u8 (byteAt s i), .bool true, .int .i64 (i + 1 : Nat)], .int .i64 0]) ∧ Below w.heap.size w w' := by
  rw [byteAt_in h] at hm ⊢
  have hb91 : ((s[i].toNat : Int) == 91) = true := by simp [hm]
  clear hm
  have hO := ofD (s.extract i (i + 1)) (by unfold maxLen; simp; omega)
  have HO := hide hO
  have hsz1 : (i : Int) + 1 ≤ (s.size : Int) := by omega
  have hw1 : IntKind.i64.wrap ((i : Int) + 1) = (i : Int) + 1 := by rw [IntKind.wrap_i64]; omega
  have hn1 : (0 : Int) ≤ (i : Int) := by omega
  have hn2 : (0 : Int) ≤ (i : Int) + 1 := by omega
  have hn3 : (i : Int) ≤ (i : Int) + 1 := by omega
  have hn4 : (i : Int) < (s.size : Int) := by omega
  clear hO
  rw [byteAt_in h1] at hm2
  have hidx : Lib.indexByte (⟨#[58, 61, 46]⟩ : ByteArray).data.toList ((s[i + 1].toNat : Int).toNat.toUInt8) = -1 := by
    have e : ((s[i + 1].toNat : Int).toNat.toUInt8) = s[i + 1] := by simp
    rw [e]
    refine idx3 _ (fun e => hm2 (.inl ?_)) (fun e => hm2 (.inr (.inl ?_))) (fun e => hm2 (.inr (.inr ?_))) <;> (rw [e]; rfl)
  have hI := Try.strings_IndexByte ⟨#[58, 61, 46]⟩ (s[i + 1].toNat : Int)
  rw [hidx] at hI
  have HI := hide hI
  clear hI hidx hm2
  go_enter Try.func68, Try.ntmps68
  go_wp2_with fail
  refine (HI.out _).mono ?_
  rintro e w0 ⟨rfl, hw0⟩
  have hw0 := hw0.symm
  subst hw0
  go_wp2_with fail
  have hZ := HoldsV.new w #[.int .u64 0, .int .u64 0, .int .u64 0, .int .u64 0, .int .u8 0, .bool false, .int .i64 0] 109
  have hzB : Below w.heap.size w (w.alloc (.cells #[.int .u64 0, .int .u64 0, .int .u64 0, .int .u64 0, .int .u8 0, .bool false, .int .i64 0] 109)) := (Below.refl _ _).alloc (Nat.le_refl _) _
  have HZ := hide hZ
  have HZB := hide hzB
  clear hZ hzB
  go_region_with (go_at_call 53; go_must (refine (HO.out _).mono ?_; rintro e w1 ⟨rfl, hb1⟩; have hz1 := HoldsV.below (w := (w.alloc (.cells #[.int .u64 0, .int .u64 0, .int .u64 0, .int .u64 0, .int .u8 0, .bool false, .int .i64 0] 109)).drew) (b := w.heap.size) (vs := (#[.int .u64 0, .int .u64 0, .int .u64 0, .int .u64 0, .int .u8 0, .bool false, .int .i64 0] : Array Value).toList) HZ.out hb1 (by simp); obtain ⟨⟨c0, f0⟩, ⟨c1, f1⟩, ⟨c2, f2⟩, ⟨c3, f3⟩, ⟨c4, f4⟩, ⟨c5, f5⟩, ⟨c6, f6⟩⟩ := (⟨hz1 0 _ rfl, hz1 1 _ rfl, hz1 2 _ rfl, hz1 3 _ rfl, hz1 4 _ rfl, hz1 5 _ rfl, hz1 6 _ rfl⟩ : _ ∧ _ ∧ _ ∧ _ ∧ _ ∧ _ ∧ _); have HB1 := hide (HZB.out.drew.trans (hb1.mono HZB.out.drew.size)); clear hb1 hz1))
  all_goals
    go_wp2
    have hBf := below7 HB1.out (Nat.le_refl w.heap.size) (.int .u64 (wd (ofP (s.extract i (i + 1))) 0 : Nat)) (.int .u64 (wd (ofP (s.extract i (i + 1))) 1 : Nat)) (.int .u64 (wd (ofP (s.extract i (i + 1))) 2 : Nat)) (.int .u64 (wd (ofP (s.extract i (i + 1))) 3 : Nat)) (.int .u8 (s[i].toNat : Int)) (.bool true) (.int .i64 ((i : Int) + 1))
    refine bodyPost_ret (v := .tuple #[.agg #[.int .u64 (wd (ofP (s.extract i (i + 1))) 0 : Nat), .int .u64 (wd (ofP (s.extract i (i + 1))) 1 : Nat), .int .u64 (wd (ofP (s.extract i (i + 1))) 2 : Nat), .int .u64 (wd (ofP (s.extract i (i + 1))) 3 : Nat), .int .u8 (s[i].toNat : Int), .bool true, .int .i64 ((i : Int) + 1)], .int .i64 0]) ?_ rfl ⟨?_, hBf⟩
    · clear hBf
      simp [results, Try.results68, go_sem, *]
    · rfl

set_option maxRecDepth 100000 in
set_option maxHeartbeats 2000000 in
theorem readItem_last (s : ByteArray) (hs : s.size ≤ 1073741824) (i : Nat) (h : i < s.size) (hm : byteAt s i = 91) (h1 : s.size ≤ i + 1) (w : World) :
    Calls Try.prog 68 #[.string s, .int .i64 i] w fun e w' => e = .returned (.tuple #[.agg #[.int .u64 (wd (ofP (s.extract i (i + 1))) 0 : Nat), .int .u64 (wd (ofP (s.extract i (i + 1))) 1 : Nat), .int .u64 (wd (ofP (s.extract i (i + 1))) 2 : Nat), .int .u64 (wd (ofP (s.extract i (i + 1))) 3 : Nat), .int .u8 (byteAt s i), .bool true, .int .i64 (i + 1 : Nat)], .int .i64 0]) ∧ Below w.heap.size w w' := by
  rw [byteAt_in h] at hm ⊢
  have hb91 : ((s[i].toNat : Int) == 91) = true := by simp [hm]
  clear hm
  have hO := ofD (s.extract i (i + 1)) (by unfold maxLen; simp; omega)
  have HO := hide hO
  have hsz1 : (i : Int) + 1 ≤ (s.size : Int) := by omega
  have hw1 : IntKind.i64.wrap ((i : Int) + 1) = (i : Int) + 1 := by rw [IntKind.wrap_i64]; omega
  have hn1 : (0 : Int) ≤ (i : Int) := by omega
  have hn2 : (0 : Int) ≤ (i : Int) + 1 := by omega
  have hn3 : (i : Int) ≤ (i : Int) + 1 := by omega
  have hn4 : (i : Int) < (s.size : Int) := by omega
  clear hO
  go_enter Try.func68, Try.ntmps68
  go_wp2_with fail
  have hZ := HoldsV.new w #[.int .u64 0, .int .u64 0, .int .u64 0, .int .u64 0, .int .u8 0, .bool false, .int .i64 0] 109
  have hzB : Below w.heap.size w (w.alloc (.cells #[.int .u64 0, .int .u64 0, .int .u64 0, .int .u64 0, .int .u8 0, .bool false, .int .i64 0] 109)) := (Below.refl _ _).alloc (Nat.le_refl _) _
  have HZ := hide hZ
  have HZB := hide hzB
  clear hZ hzB
  go_region_with (go_at_call 53; go_must (refine (HO.out _).mono ?_; rintro e w1 ⟨rfl, hb1⟩; have hz1 := HoldsV.below (w := (w.alloc (.cells #[.int .u64 0, .int .u64 0, .int .u64 0, .int .u64 0, .int .u8 0, .bool false, .int .i64 0] 109)).drew) (b := w.heap.size) (vs := (#[.int .u64 0, .int .u64 0, .int .u64 0, .int .u64 0, .int .u8 0, .bool false, .int .i64 0] : Array Value).toList) HZ.out hb1 (by simp); obtain ⟨⟨c0, f0⟩, ⟨c1, f1⟩, ⟨c2, f2⟩, ⟨c3, f3⟩, ⟨c4, f4⟩, ⟨c5, f5⟩, ⟨c6, f6⟩⟩ := (⟨hz1 0 _ rfl, hz1 1 _ rfl, hz1 2 _ rfl, hz1 3 _ rfl, hz1 4 _ rfl, hz1 5 _ rfl, hz1 6 _ rfl⟩ : _ ∧ _ ∧ _ ∧ _ ∧ _ ∧ _ ∧ _); have HB1 := hide (HZB.out.drew.trans (hb1.mono HZB.out.drew.size)); clear hb1 hz1))
  all_goals
    go_wp2
    have hBf := below7 HB1.out (Nat.le_refl w.heap.size) (.int .u64 (wd (ofP (s.extract i (i + 1))) 0 : Nat)) (.int .u64 (wd (ofP (s.extract i (i + 1))) 1 : Nat)) (.int .u64 (wd (ofP (s.extract i (i + 1))) 2 : Nat)) (.int .u64 (wd (ofP (s.extract i (i + 1))) 3 : Nat)) (.int .u8 (s[i].toNat : Int)) (.bool true) (.int .i64 ((i : Int) + 1))
    refine bodyPost_ret (v := .tuple #[.agg #[.int .u64 (wd (ofP (s.extract i (i + 1))) 0 : Nat), .int .u64 (wd (ofP (s.extract i (i + 1))) 1 : Nat), .int .u64 (wd (ofP (s.extract i (i + 1))) 2 : Nat), .int .u64 (wd (ofP (s.extract i (i + 1))) 3 : Nat), .int .u8 (s[i].toNat : Int), .bool true, .int .i64 ((i : Int) + 1)], .int .i64 0]) ?_ rfl ⟨?_, hBf⟩
    · clear hBf
      simp [results, Try.results68, go_sem, *]
    · rfl
end Go.Proofs.Ytooanbbnjiogaaa
