/- bracket.readItem: any item, as xan says. -/
import Derived.Test.YtaapmphdnholaaaGreatDoorKItem
import Derived.Test.YtaapmphdnholaaaGreatDoorKMark
set_option maxRecDepth 100000
set_option maxHeartbeats 2000000
namespace Go.Proofs.YtaapmphdnholaaaGreatDoor
open Go.RowKit
theorem xeq {s : ByteArray} {i : Nat} (h : xb9 s i = true) : xac s i = 91 ∧ ∃ h1 : i + 1 < s.size, (s[i + 1] = 58 ∨ s[i + 1] = 61 ∨ s[i + 1] = 46) := by
 simp only [xb9, Bool.and_eq_true, Bool.or_eq_true, beq_iff_eq] at h
 obtain ⟨h0, h⟩ := h
 have h1 : i + 1 < s.size := by
  rcases h with (h | h) | h <;> exact xa7 h (by omega)
 rw [xah h1] at h
 refine ⟨h0, h1, ?_⟩
 rcases h with (h | h) | h
 ·exact .inl (UInt8.toNat_inj.1 (by show s[i + 1].toNat = 58; omega))
 ·exact .inr (.inl (UInt8.toNat_inj.1 (by show s[i + 1].toNat = 61; omega)))
 ·exact .inr (.inr (UInt8.toNat_inj.1 (by show s[i + 1].toNat = 46; omega)))
theorem xit (s : ByteArray) (hs : s.size ≤ 1073741824) (i : Nat) (h : xb9 s i = true) (w : World) (hg : Glob w) :
  Calls Tryz.prog 110 #[.string s, .int .i64 i] w fun e w' => e = .returned (.tuple #[.agg #[.int .u64 (wd (xa1 s i).q 0), .int .u64 (wd (xa1 s i).q 1), .int .u64 (wd (xa1 s i).q 2), .int .u64 (wd (xa1 s i).q 3), .int .u8 (xa1 s i).b, .bool (xa1 s i).bound, .int .i64 ((xa1 s i).next : Nat)], .int .i64 (xa1 s i).e]) ∧ Below w.heap.size w w' := by
 obtain ⟨-, h1, hm | hm | hm⟩ := xeq h
 ·exact xgt s hs i h1 hm w hg
 ·exact xgu s hs i h1 hm w hg
 ·exact xis s hs i h1 hm w hg
theorem xjw (s : ByteArray) (hs : s.size ≤ 1073741824) (i : Nat) (h : xb9 s i = true) (w : World) (hg : Glob w) (t : It) (ht : xa1 s i = t) :
  Calls Tryz.prog 100 #[.string s, .int .i64 i] w fun e w' => e = .returned (.tuple #[.agg #[.int .u64 (wd t.q 0), .int .u64 (wd t.q 1), .int .u64 (wd t.q 2), .int .u64 (wd t.q 3), .int .u8 t.b, .bool t.bound, .int .i64 t.next], .int .i64 t.e]) ∧ Below w.heap.size w w' := by
 have hR := xit s hs i h
 rw [ht] at hR
 have HR := hide hR
 obtain ⟨h91, h1, hm⟩ := xeq h
 have h0 : i < s.size := by omega
 rw [xah h0] at h91
 have hb91 : ((s[i].toNat : Int) == 91) = true := by simp [h91]
 have hidx := idx3_yes s[i + 1] hm
 have hI := Tryz.strings_IndexByte ⟨#[58, 61, 46]⟩ (s[i + 1].toNat : Int)
 have e : ((s[i + 1].toNat : Int).toNat.toUInt8) = s[i + 1] := by simp
 rw [e] at hI
 obtain ⟨x, hx⟩ : ∃ x, Lib.indexByte [58, 61, 46] s[i + 1] = x := ⟨_, rfl⟩
 have hI2 : ∀ w, Calls Tryz.prog 59 #[.string ⟨#[58, 61, 46]⟩, .int .u8 (s[i + 1].toNat : Int)] w fun e w' => e = .returned (.int .i64 x) ∧ w' = w := by rw [← hx]; exact hI
 rw [hx] at hidx
 have HI := hide hI2
 have HG := hide (hg.below ((Below.refl w.heap.size w).alloc (Nat.le_refl _) (.cells #[.int .u64 0, .int .u64 0, .int .u64 0, .int .u64 0, .int .u8 0, .bool false, .int .i64 0] 137)) (Nat.le_refl _))
 have HZ := hide (HoldsV.new w #[.int .u64 0, .int .u64 0, .int .u64 0, .int .u64 0, .int .u8 0, .bool false, .int .i64 0] 137)
 have HB := hide ((Below.refl w.heap.size w).alloc (Nat.le_refl _) (.cells #[.int .u64 0, .int .u64 0, .int .u64 0, .int .u64 0, .int .u8 0, .bool false, .int .i64 0] 137))
 clear hI hI2 hx e hm hR h91 ht h
 go_enter Tryz.func100, Tryz.ntmps100
 go_wp2_with fail
 refine (HI.out _).mono ?_
 rintro e w0 ⟨rfl, hw0⟩
 have hw0 := hw0.symm
 subst hw0
 go_wp2_with fail
 refine (HR.out _ HG.out).mono ?_
 rintro e w1 ⟨rfl, hb1⟩
 have hz1 := HZ.out.below hb1 (by simp)
 obtain ⟨⟨c0, f0⟩, ⟨c1, f1⟩, ⟨c2, f2⟩, ⟨c3, f3⟩, ⟨c4, f4⟩, ⟨c5, f5⟩, ⟨c6, f6⟩⟩ := (⟨hz1 0 _ rfl, hz1 1 _ rfl, hz1 2 _ rfl, hz1 3 _ rfl, hz1 4 _ rfl, hz1 5 _ rfl, hz1 6 _ rfl⟩ : _ ∧ _ ∧ _ ∧ _ ∧ _ ∧ _ ∧ _)
 have HB1 := hide (HB.out.trans (hb1.mono HB.out.size))
 clear hb1 hz1 HZ HB HG HR HI
 go_wp2
 have hBf := xhj HB1.out (Nat.le_refl w.heap.size) (.int .u64 (wd t.q 0)) (.int .u64 (wd t.q 1)) (.int .u64 (wd t.q 2)) (.int .u64 (wd t.q 3)) (.int .u8 t.b) (.bool t.bound) (.int .i64 t.next)
 refine bodyPost_ret (v := .tuple #[.agg #[.int .u64 (wd t.q 0), .int .u64 (wd t.q 1), .int .u64 (wd t.q 2), .int .u64 (wd t.q 3), .int .u8 t.b, .bool t.bound, .int .i64 t.next], .int .i64 t.e]) ?_ rfl ⟨?_, hBf⟩
 ·clear hBf
  simp [results, Tryz.results100, go_sem, *]
 ·rfl
theorem xgn (s : ByteArray) (hs : s.size ≤ 1073741824) (i : Nat) (w : World) (hg : Glob w) :
  Calls Tryz.prog 100 #[.string s, .int .i64 i] w fun e w' => e = .returned (.tuple #[.agg #[.int .u64 (wd (xan s i).q 0), .int .u64 (wd (xan s i).q 1), .int .u64 (wd (xan s i).q 2), .int .u64 (wd (xan s i).q 3), .int .u8 (xan s i).b, .bool (xan s i).bound, .int .i64 ((xan s i).next : Nat)], .int .i64 (xan s i).e]) ∧ Below w.heap.size w w' := by
 by_cases h : i < s.size
 ·by_cases hm : xb9 s i = true
  ·have e : xan s i = xa1 s i := by rw [xan, if_pos h, if_pos hm]
   rw [e]
   exact xjw s hs i hm w hg _ rfl
  ·have e : xan s i = ⟨0, ofP (s.extract i (i + 1)), xac s i, true, i + 1⟩ := by rw [xan, if_pos h, if_neg hm]
   rw [e]
   by_cases h91 : xac s i = 91
   ·by_cases h1 : i + 1 < s.size
    ·exact xju s hs i h h91 h1 (fun hx => hm (by
      simp only [xb9, Bool.and_eq_true, Bool.or_eq_true, beq_iff_eq]
      exact ⟨h91, by rcases hx with hx | hx | hx <;> simp [hx]⟩)) w
    ·exact xjv s hs i h h91 (by omega) w
   ·exact xir s hs i h h91 w
 ·have e : xan s i = .err 6 := by rw [xan, if_neg h]
  rw [e]
  simp only [It.err]
  unfold xad
  rw [xaa, xaa, xaa, xaa]
  exact xk6 s i (by omega) w
end Go.Proofs.YtaapmphdnholaaaGreatDoor
