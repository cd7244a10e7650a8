/- bracket.readItem: any item, as itemS says. -/
import Derived.Test.YtiedliahmjiadaaKItem
import Derived.Test.YtiedliahmjiadaaKMark
set_option maxRecDepth 100000
set_option maxHeartbeats 2000000
namespace Go.Proofs.Ytiedliahmjiadaa
open Go.RowKit
theorem marked_cases {s : ByteArray} {i : Nat} (h : markedB s i = true) : byteAt s i = 91 ∧ ∃ h1 : i + 1 < s.size, (s[i + 1] = 58 ∨ s[i + 1] = 61 ∨ s[i + 1] = 46) := by
 simp only [markedB, Bool.and_eq_true, Bool.or_eq_true, beq_iff_eq] at h
 obtain ⟨h0, h⟩ := h
 have h1 : i + 1 < s.size := by
  rcases h with (h | h) | h <;> exact byteAt_lt h (by omega)
 rw [byteAt_in h1] at h
 refine ⟨h0, h1, ?_⟩
 rcases h with (h | h) | h
 ·exact .inl (UInt8.toNat_inj.1 (by show s[i + 1].toNat = 58; omega))
 ·exact .inr (.inl (UInt8.toNat_inj.1 (by show s[i + 1].toNat = 61; omega)))
 ·exact .inr (.inr (UInt8.toNat_inj.1 (by show s[i + 1].toNat = 46; omega)))
theorem readMarked_any (s : ByteArray) (hs : s.size ≤ 1073741824) (i : Nat) (h : markedB s i = true) (w : World) (hg : Glob w) :
  Calls Try.prog 81 #[.string s, .int .i64 i] w fun e w' => e = .returned (.tuple #[.agg #[.int .u64 (wd (markS s i).q 0 : Nat), .int .u64 (wd (markS s i).q 1 : Nat), .int .u64 (wd (markS s i).q 2 : Nat), .int .u64 (wd (markS s i).q 3 : Nat), .int .u8 (markS s i).b, .bool (markS s i).bound, .int .i64 ((markS s i).next : Nat)], .int .i64 (markS s i).e]) ∧ Below w.heap.size w w' := by
 obtain ⟨-, h1, hm | hm | hm⟩ := marked_cases h
 ·exact readMarked_colon s hs i h1 hm w hg
 ·exact readMarked_equal s hs i h1 hm w hg
 ·exact readMarked_dot s hs i h1 hm w hg
theorem readItem_mark (s : ByteArray) (hs : s.size ≤ 1073741824) (i : Nat) (h : markedB s i = true) (w : World) (hg : Glob w) (t : It) (ht : markS s i = t) :
  Calls Try.prog 76 #[.string s, .int .i64 i] w fun e w' => e = .returned (.tuple #[.agg #[.int .u64 (wd t.q 0 : Nat), .int .u64 (wd t.q 1 : Nat), .int .u64 (wd t.q 2 : Nat), .int .u64 (wd t.q 3 : Nat), .int .u8 t.b, .bool t.bound, .int .i64 (t.next : Nat)], .int .i64 t.e]) ∧ Below w.heap.size w w' := by
 have hR := readMarked_any s hs i h
 rw [ht] at hR
 have HR := hide hR
 obtain ⟨h91, h1, hm⟩ := marked_cases h
 have h0 : i < s.size := by omega
 rw [byteAt_in h0] at h91
 have hb91 : ((s[i].toNat : Int) == 91) = true := by simp [h91]
 have hidx := idx3_yes s[i + 1] hm
 have hI := Try.strings_IndexByte ⟨#[58, 61, 46]⟩ (s[i + 1].toNat : Int)
 have e : ((s[i + 1].toNat : Int).toNat.toUInt8) = s[i + 1] := by simp
 rw [e] at hI
 obtain ⟨x, hx⟩ : ∃ x, Lib.indexByte [58, 61, 46] s[i + 1] = x := ⟨_, rfl⟩
 have hI2 : ∀ w, Calls Try.prog 80 #[.string ⟨#[58, 61, 46]⟩, .int .u8 (s[i + 1].toNat : Int)] w fun e w' => e = .returned (.int .i64 x) ∧ w' = w := by rw [← hx]; exact hI
 rw [hx] at hidx
 have HI := hide hI2
 have HG := hide (hg.below ((Below.refl w.heap.size w).alloc (Nat.le_refl _) (.cells #[.int .u64 0, .int .u64 0, .int .u64 0, .int .u64 0, .int .u8 0, .bool false, .int .i64 0] 130)) (Nat.le_refl _))
 have HZ := hide (HoldsV.new w #[.int .u64 0, .int .u64 0, .int .u64 0, .int .u64 0, .int .u8 0, .bool false, .int .i64 0] 130)
 have HB := hide ((Below.refl w.heap.size w).alloc (Nat.le_refl _) (.cells #[.int .u64 0, .int .u64 0, .int .u64 0, .int .u64 0, .int .u8 0, .bool false, .int .i64 0] 130))
 clear hI hI2 hx e hm hR h91 ht h
 go_enter Try.func76, Try.ntmps76
 go_wp2_with fail
 refine (HI.out _).mono ?_
 rintro e w0 ⟨rfl, hw0⟩
 have hw0 := hw0.symm
 subst hw0
 go_wp2_with fail
 refine (HR.out _ HG.out).mono ?_
 rintro e w1 ⟨rfl, hb1⟩
 have hz1 := HZ.out.below hb1 (by simp)
 obtain ⟨⟨c0, f0⟩, ⟨c1, f1⟩, ⟨c2, f2⟩, ⟨c3, f3⟩, ⟨c4, f4⟩, ⟨c5, f5⟩, ⟨c6, f6⟩⟩ := (⟨hz1 0 _ rfl, hz1 1 _ rfl, hz1 2 _ rfl, hz1 3 _ rfl, hz1 4 _ rfl, hz1 5 _ rfl, hz1 6 _ rfl⟩ : _ ∧ _ ∧ _ ∧ _ ∧ _ ∧ _ ∧ _)
 have HB1 := hide (HB.out.trans (hb1.mono HB.out.size))
 clear hb1 hz1 HZ HB HG HR HI
 go_wp2
 have hBf := below7 HB1.out (Nat.le_refl w.heap.size) (.int .u64 (wd t.q 0 : Nat)) (.int .u64 (wd t.q 1 : Nat)) (.int .u64 (wd t.q 2 : Nat)) (.int .u64 (wd t.q 3 : Nat)) (.int .u8 t.b) (.bool t.bound) (.int .i64 (t.next : Nat))
 refine bodyPost_ret (v := .tuple #[.agg #[.int .u64 (wd t.q 0 : Nat), .int .u64 (wd t.q 1 : Nat), .int .u64 (wd t.q 2 : Nat), .int .u64 (wd t.q 3 : Nat), .int .u8 t.b, .bool t.bound, .int .i64 (t.next : Nat)], .int .i64 t.e]) ?_ rfl ⟨?_, hBf⟩
 ·clear hBf
  simp [results, Try.results76, go_sem, *]
 ·rfl
theorem readItem_any (s : ByteArray) (hs : s.size ≤ 1073741824) (i : Nat) (w : World) (hg : Glob w) :
  Calls Try.prog 76 #[.string s, .int .i64 i] w fun e w' => e = .returned (.tuple #[.agg #[.int .u64 (wd (itemS s i).q 0 : Nat), .int .u64 (wd (itemS s i).q 1 : Nat), .int .u64 (wd (itemS s i).q 2 : Nat), .int .u64 (wd (itemS s i).q 3 : Nat), .int .u8 (itemS s i).b, .bool (itemS s i).bound, .int .i64 ((itemS s i).next : Nat)], .int .i64 (itemS s i).e]) ∧ Below w.heap.size w w' := by
 by_cases h : i < s.size
 ·by_cases hm : markedB s i = true
  ·have e : itemS s i = markS s i := by rw [itemS, if_pos h, if_pos hm]
   rw [e]
   exact readItem_mark s hs i hm w hg _ rfl
  ·have e : itemS s i = ⟨0, ofP (s.extract i (i + 1)), byteAt s i, true, i + 1⟩ := by rw [itemS, if_pos h, if_neg hm]
   rw [e]
   by_cases h91 : byteAt s i = 91
   ·by_cases h1 : i + 1 < s.size
    ·exact readItem_open s hs i h h91 h1 (fun hx => hm (by
      simp only [markedB, Bool.and_eq_true, Bool.or_eq_true, beq_iff_eq]
      exact ⟨h91, by rcases hx with hx | hx | hx <;> simp [hx]⟩)) w
    ·exact readItem_last s hs i h h91 (by omega) w
   ·exact readItem_other s hs i h h91 w
 ·have e : itemS s i = .err 6 := by rw [itemS, if_neg h]
  rw [e]
  simp only [It.err]
  unfold noneP
  rw [wd_none, wd_none, wd_none, wd_none]
  exact readItem_end s i (by omega) w
end Go.Proofs.Ytiedliahmjiadaa
