/- bracket: items and ranges: what an entry is; the document's item as one; readRange. -/
import Derived.Test.YtolpakpdkheanaaKMark
set_option maxRecDepth 100000
set_option maxHeartbeats 2000000
namespace Go.Proofs.Ytolpakpdkheanaa.br
open Go.RowKit
theorem xpm (s : ByteArray) (i : Nat) : 0 ≤ (xa4 s i).b ∧ (xa4 s i).b < 256 := by
 unfold xa4
 split
 ·rename_i h
  split
  ·unfold xa2
   rcases xbn s (i + 3) (mkAt s i) with h | ⟨c, h, h1, h2⟩
   ·rw [if_pos h]; exact ⟨by simp [It.err], by simp [It.err]⟩
   ·rw [if_neg (by omega)]
    split
    ·exact ⟨by simp, by simp⟩
    ·split
     ·have := xfa s (i + 2)
      have h3 : i + 2 < s.size := by omega
      rw [xan h3] at this ⊢
      exact ⟨by simp, by simp; omega⟩
     ·exact ⟨by simp [It.err], by simp [It.err]⟩
  ·have := xfa s i
   rw [xan h] at this ⊢
   exact ⟨by simp, by simp; omega⟩
 ·exact ⟨by simp [It.err], by simp [It.err]⟩
noncomputable def xg4 (s : ByteArray) (a : It) : It :=
 if a.next + 1 = s.size then .err 6
 else if a.bound = false then .err 7
 else if (xa4 s (a.next + 1)).e ≠ 0 then .err (xa4 s (a.next + 1)).e
 else if (xa4 s (a.next + 1)).bound = false ∨ xef s (xa4 s (a.next + 1)).next = true ∨ (xa4 s (a.next + 1)).b < a.b then .err 7
 else ⟨0, sP a.b.toNat (xa4 s (a.next + 1)).b.toNat, 0, false, (xa4 s (a.next + 1)).next⟩
noncomputable def xa6 (s : ByteArray) (i : Nat) : It :=
 if (xa4 s i).e ≠ 0 then .err (xa4 s i).e
 else if xef s (xa4 s i).next = true then xg4 s (xa4 s i)
 else ⟨0, (xa4 s i).q, 0, false, (xa4 s i).next⟩
theorem xa9 {B : Nat} {a w : World} (h : Below B a w) {b : Nat} (hb : B ≤ b) (v0 v1 v2 v3 : Value) : Below B a ((((w.setCell ⟨b, 0, none⟩ v0).setCell ⟨b, 1, none⟩ v1).setCell ⟨b, 2, none⟩ v2).setCell ⟨b, 3, none⟩ v3) :=
 (((h.setCell (p := ⟨b, 0, none⟩) hb _).setCell (p := ⟨b, 1, none⟩) hb _).setCell (p := ⟨b, 2, none⟩) hb _).setCell (p := ⟨b, 3, none⟩) hb _
theorem xhv (s : ByteArray) (hs : s.size ≤ 1073741824) (a : It) (ha : a.next + 1 ≤ s.size) (hab : 0 ≤ a.b ∧ a.b < 256) (w : World) (hg : Glob w) (t : It) (ht : xg4 s a = t) :
  Calls Try.prog 94 #[.string s, .agg #[.int .u64 (wd a.q 0), .int .u64 (wd a.q 1), .int .u64 (wd a.q 2), .int .u64 (wd a.q 3), .int .u8 a.b, .bool a.bound, .int .i64 a.next]] w fun e w' => e = .returned (.tuple #[.agg #[.int .u64 (wd t.q 0), .int .u64 (wd t.q 1), .int .u64 (wd t.q 2), .int .u64 (wd t.q 3)], .int .i64 t.next, .int .i64 t.e]) ∧ Below w.heap.size w w' := by
 have hA : HoldsV ((w.alloc (.cells #[.int .u64 (wd a.q 0), .int .u64 (wd a.q 1), .int .u64 (wd a.q 2), .int .u64 (wd a.q 3), .int .u8 a.b, .bool a.bound, .int .i64 a.next] 170)).alloc (.cells #[.int .u64 0, .int .u64 0, .int .u64 0, .int .u64 0] 38)) w.heap.size (#[.int .u64 (wd a.q 0), .int .u64 (wd a.q 1), .int .u64 (wd a.q 2), .int .u64 (wd a.q 3), .int .u8 a.b, .bool a.bound, .int .i64 a.next] : Array Value).toList := (HoldsV.new w #[.int .u64 (wd a.q 0), .int .u64 (wd a.q 1), .int .u64 (wd a.q 2), .int .u64 (wd a.q 3), .int .u8 a.b, .bool a.bound, .int .i64 a.next] 170).below ((Below.refl _ _).alloc (Nat.le_refl _) (.cells #[.int .u64 0, .int .u64 0, .int .u64 0, .int .u64 0] 38)) (by simp)
 have hR : HoldsV ((w.alloc (.cells #[.int .u64 (wd a.q 0), .int .u64 (wd a.q 1), .int .u64 (wd a.q 2), .int .u64 (wd a.q 3), .int .u8 a.b, .bool a.bound, .int .i64 a.next] 170)).alloc (.cells #[.int .u64 0, .int .u64 0, .int .u64 0, .int .u64 0] 38)) (w.heap.size + 1) (#[.int .u64 0, .int .u64 0, .int .u64 0, .int .u64 0] : Array Value).toList := by
  have h := HoldsV.new (w.alloc (.cells #[.int .u64 (wd a.q 0), .int .u64 (wd a.q 1), .int .u64 (wd a.q 2), .int .u64 (wd a.q 3), .int .u8 a.b, .bool a.bound, .int .i64 a.next] 170)) #[.int .u64 0, .int .u64 0, .int .u64 0, .int .u64 0] 38
  rwa [World.size_alloc] at h
 have hB0 : Below w.heap.size w ((w.alloc (.cells #[.int .u64 (wd a.q 0), .int .u64 (wd a.q 1), .int .u64 (wd a.q 2), .int .u64 (wd a.q 3), .int .u8 a.b, .bool a.bound, .int .i64 a.next] 170)).alloc (.cells #[.int .u64 0, .int .u64 0, .int .u64 0, .int .u64 0] 38)) := ((Below.refl w.heap.size w).alloc (Nat.le_refl _) _).alloc (by simp) _
 have hsz0 : ((w.alloc (.cells #[.int .u64 (wd a.q 0), .int .u64 (wd a.q 1), .int .u64 (wd a.q 2), .int .u64 (wd a.q 3), .int .u8 a.b, .bool a.bound, .int .i64 a.next] 170)).alloc (.cells #[.int .u64 0, .int .u64 0, .int .u64 0, .int .u64 0] 38)).heap.size = w.heap.size + 1 + 1 := by simp
 have hG0 := hg.below hB0 (Nat.le_refl _)
 obtain ⟨W0, hW0⟩ : ∃ W0, (w.alloc (.cells #[.int .u64 (wd a.q 0), .int .u64 (wd a.q 1), .int .u64 (wd a.q 2), .int .u64 (wd a.q 3), .int .u8 a.b, .bool a.bound, .int .i64 a.next] 170)).alloc (.cells #[.int .u64 0, .int .u64 0, .int .u64 0, .int .u64 0] 38) = W0 := ⟨_, rfl⟩
 rw [hW0] at hA hR hB0 hG0 hsz0
 have HA := hide hA
 have HR := hide hR
 have HB := hide hB0
 have HG := hide hG0
 obtain ⟨⟨a0, af0⟩, ⟨a1, af1⟩, ⟨a2, af2⟩, ⟨a3, af3⟩, ⟨a4, af4⟩, ⟨a5, af5⟩, ⟨a6, af6⟩⟩ := (⟨hA 0 _ rfl, hA 1 _ rfl, hA 2 _ rfl, hA 3 _ rfl, hA 4 _ rfl, hA 5 _ rfl, hA 6 _ rfl⟩ : _ ∧ _ ∧ _ ∧ _ ∧ _ ∧ _ ∧ _)
 obtain ⟨⟨r0, rf0⟩, ⟨r1, rf1⟩, ⟨r2, rf2⟩, ⟨r3, rf3⟩⟩ := (⟨hR 0 _ rfl, hR 1 _ rfl, hR 2 _ rfl, hR 3 _ rfl⟩ : _ ∧ _ ∧ _ ∧ _)
 clear hA hR hB0 hG0
 unfold xg4 at ht
 by_cases h6 : a.next + 1 = s.size
 ·rw [if_pos h6] at ht
  subst ht
  simp only [It.err]
  unfold xad
  rw [xaa, xaa, xaa, xaa]
  go_enter Try.func94, Try.ntmps94
  go_wp2
  refine bodyPost_ret (v := .tuple #[.agg #[.int .u64 0, .int .u64 0, .int .u64 0, .int .u64 0], .int .i64 0, .int .i64 6]) ?_ rfl ⟨rfl, xa9 HB.out (Nat.le_succ w.heap.size) _ _ _ _⟩
  simp [results, Try.results94, go_sem, *]
 rw [if_neg h6] at ht
 have hn6 : ((a.next : Int) + 1 == (s.size : Int)) = false := by rw [beq_eq_false_iff_ne]; omega
 by_cases h7 : a.bound = false
 ·rw [if_pos h7] at ht
  subst ht
  simp only [It.err]
  unfold xad
  rw [xaa, xaa, xaa, xaa]
  have hnb : (!a.bound) = true := by rw [h7]; rfl
  clear h7
  go_enter Try.func94, Try.ntmps94
  go_wp2
  refine bodyPost_ret (v := .tuple #[.agg #[.int .u64 0, .int .u64 0, .int .u64 0, .int .u64 0], .int .i64 0, .int .i64 7]) ?_ rfl ⟨rfl, xa9 HB.out (Nat.le_succ w.heap.size) _ _ _ _⟩
  simp [results, Try.results94, go_sem, *]
 rw [if_neg h7] at ht
 have hnb : (!a.bound) = false := by simpa using h7
 clear h7
 have hI := xfc s hs (a.next + 1)
 have hub := xpm s (a.next + 1)
 have hun := (xdl s (a.next + 1)).1
 generalize xa4 s (a.next + 1) = u at *
 by_cases he : u.e = 0
 ·rw [if_neg (by simp [he])] at ht
  have hne : (u.e != 0) = false := by simp [he]
  by_cases hbu : u.bound = false
  ·rw [if_pos (.inl hbu)] at ht
   have hnu : (!u.bound) = true := by rw [hbu]; rfl
   clear hbu he
   subst ht
   simp only [It.err]
   unfold xad
   rw [xaa, xaa, xaa, xaa]
   have HI := hide hI
   clear hI
   go_enter Try.func94, Try.ntmps94
   go_wp2_with fail
   refine (HI.out _ HG.out).mono ?_
   rintro e w1 ⟨rfl, hb1⟩
   have hlt1 : w.heap.size + 1 < w1.heap.size := by have := hb1.size; omega
   have hal := (Below.refl w1.heap.size w1).alloc (Nat.le_refl _) (.cells #[.int .u64 (wd u.q 0), .int .u64 (wd u.q 1), .int .u64 (wd u.q 2), .int .u64 (wd u.q 3), .int .u8 u.b, .bool u.bound, .int .i64 u.next] 170)
   have hA := (HA.out.below hb1 (by omega)).below hal (by omega)
   have hR := (HR.out.below hb1 (by omega)).below hal (by omega)
   have hU := HoldsV.new w1 #[.int .u64 (wd u.q 0), .int .u64 (wd u.q 1), .int .u64 (wd u.q 2), .int .u64 (wd u.q 3), .int .u8 u.b, .bool u.bound, .int .i64 u.next] 170
   have hB2 := (HB.out.trans (hb1.mono HB.out.size)).alloc (HB.out.trans (hb1.mono HB.out.size)).size (.cells #[.int .u64 (wd u.q 0), .int .u64 (wd u.q 1), .int .u64 (wd u.q 2), .int .u64 (wd u.q 3), .int .u8 u.b, .bool u.bound, .int .i64 u.next] 170)
   have hsz2 : (w1.alloc (.cells #[.int .u64 (wd u.q 0), .int .u64 (wd u.q 1), .int .u64 (wd u.q 2), .int .u64 (wd u.q 3), .int .u8 u.b, .bool u.bound, .int .i64 u.next] 170)).heap.size = w1.heap.size + 1 := by simp
   obtain ⟨W2, hW2⟩ : ∃ W2, w1.alloc (.cells #[.int .u64 (wd u.q 0), .int .u64 (wd u.q 1), .int .u64 (wd u.q 2), .int .u64 (wd u.q 3), .int .u8 u.b, .bool u.bound, .int .i64 u.next] 170) = W2 := ⟨_, rfl⟩
   rw [hW2] at hA hR hU hB2 hsz2
   clear hb1 hal HI a0 af0 a1 af1 a2 af2 a3 af3 a4 af4 a5 af5 a6 af6 r0 rf0 r1 rf1 r2 rf2 r3 rf3
   have HA := hide hA
   have HR := hide hR
   have HU := hide hU
   have HB := hide hB2
   obtain ⟨⟨a0, af0⟩, ⟨a1, af1⟩, ⟨a2, af2⟩, ⟨a3, af3⟩, ⟨a4, af4⟩, ⟨a5, af5⟩, ⟨a6, af6⟩⟩ := (⟨hA 0 _ rfl, hA 1 _ rfl, hA 2 _ rfl, hA 3 _ rfl, hA 4 _ rfl, hA 5 _ rfl, hA 6 _ rfl⟩ : _ ∧ _ ∧ _ ∧ _ ∧ _ ∧ _ ∧ _)
   obtain ⟨⟨r0, rf0⟩, ⟨r1, rf1⟩, ⟨r2, rf2⟩, ⟨r3, rf3⟩⟩ := (⟨hR 0 _ rfl, hR 1 _ rfl, hR 2 _ rfl, hR 3 _ rfl⟩ : _ ∧ _ ∧ _ ∧ _)
   obtain ⟨⟨u0, uf0⟩, ⟨u1, uf1⟩, ⟨u2, uf2⟩, ⟨u3, uf3⟩, ⟨u4, uf4⟩, ⟨u5, uf5⟩, ⟨u6, uf6⟩⟩ := (⟨hU 0 _ rfl, hU 1 _ rfl, hU 2 _ rfl, hU 3 _ rfl, hU 4 _ rfl, hU 5 _ rfl, hU 6 _ rfl⟩ : _ ∧ _ ∧ _ ∧ _ ∧ _ ∧ _ ∧ _)
   clear hA hR hU hB2
   go_wp2
   refine bodyPost_ret (v := .tuple #[.agg #[.int .u64 0, .int .u64 0, .int .u64 0, .int .u64 0], .int .i64 0, .int .i64 7]) ?_ rfl ⟨rfl, xa9 HB.out (Nat.le_succ w.heap.size) _ _ _ _⟩
   simp [results, Try.results94, go_sem, *]
  ·have hnu : (!u.bound) = false := by simpa using hbu
   have hJ := xi8 s u.next (by omega)
   by_cases hj : xef s u.next = true
   ·rw [if_pos (.inr (.inl hj))] at ht
    rw [hj] at hJ
    have HJ := hide hJ
    clear hbu he hj hJ
    subst ht
    simp only [It.err]
    unfold xad
    rw [xaa, xaa, xaa, xaa]
    have HI := hide hI
    clear hI
    go_enter Try.func94, Try.ntmps94
    go_wp2_with fail
    refine (HI.out _ HG.out).mono ?_
    rintro e w1 ⟨rfl, hb1⟩
    have hlt1 : w.heap.size + 1 < w1.heap.size := by have := hb1.size; omega
    have hal := (Below.refl w1.heap.size w1).alloc (Nat.le_refl _) (.cells #[.int .u64 (wd u.q 0), .int .u64 (wd u.q 1), .int .u64 (wd u.q 2), .int .u64 (wd u.q 3), .int .u8 u.b, .bool u.bound, .int .i64 u.next] 170)
    have hA := (HA.out.below hb1 (by omega)).below hal (by omega)
    have hR := (HR.out.below hb1 (by omega)).below hal (by omega)
    have hU := HoldsV.new w1 #[.int .u64 (wd u.q 0), .int .u64 (wd u.q 1), .int .u64 (wd u.q 2), .int .u64 (wd u.q 3), .int .u8 u.b, .bool u.bound, .int .i64 u.next] 170
    have hB2 := (HB.out.trans (hb1.mono HB.out.size)).alloc (HB.out.trans (hb1.mono HB.out.size)).size (.cells #[.int .u64 (wd u.q 0), .int .u64 (wd u.q 1), .int .u64 (wd u.q 2), .int .u64 (wd u.q 3), .int .u8 u.b, .bool u.bound, .int .i64 u.next] 170)
    have hsz2 : (w1.alloc (.cells #[.int .u64 (wd u.q 0), .int .u64 (wd u.q 1), .int .u64 (wd u.q 2), .int .u64 (wd u.q 3), .int .u8 u.b, .bool u.bound, .int .i64 u.next] 170)).heap.size = w1.heap.size + 1 := by simp
    obtain ⟨W2, hW2⟩ : ∃ W2, w1.alloc (.cells #[.int .u64 (wd u.q 0), .int .u64 (wd u.q 1), .int .u64 (wd u.q 2), .int .u64 (wd u.q 3), .int .u8 u.b, .bool u.bound, .int .i64 u.next] 170) = W2 := ⟨_, rfl⟩
    rw [hW2] at hA hR hU hB2 hsz2
    clear hb1 hal HI a0 af0 a1 af1 a2 af2 a3 af3 a4 af4 a5 af5 a6 af6 r0 rf0 r1 rf1 r2 rf2 r3 rf3
    have HA := hide hA
    have HR := hide hR
    have HU := hide hU
    have HB := hide hB2
    obtain ⟨⟨a0, af0⟩, ⟨a1, af1⟩, ⟨a2, af2⟩, ⟨a3, af3⟩, ⟨a4, af4⟩, ⟨a5, af5⟩, ⟨a6, af6⟩⟩ := (⟨hA 0 _ rfl, hA 1 _ rfl, hA 2 _ rfl, hA 3 _ rfl, hA 4 _ rfl, hA 5 _ rfl, hA 6 _ rfl⟩ : _ ∧ _ ∧ _ ∧ _ ∧ _ ∧ _ ∧ _)
    obtain ⟨⟨r0, rf0⟩, ⟨r1, rf1⟩, ⟨r2, rf2⟩, ⟨r3, rf3⟩⟩ := (⟨hR 0 _ rfl, hR 1 _ rfl, hR 2 _ rfl, hR 3 _ rfl⟩ : _ ∧ _ ∧ _ ∧ _)
    obtain ⟨⟨u0, uf0⟩, ⟨u1, uf1⟩, ⟨u2, uf2⟩, ⟨u3, uf3⟩, ⟨u4, uf4⟩, ⟨u5, uf5⟩, ⟨u6, uf6⟩⟩ := (⟨hU 0 _ rfl, hU 1 _ rfl, hU 2 _ rfl, hU 3 _ rfl, hU 4 _ rfl, hU 5 _ rfl, hU 6 _ rfl⟩ : _ ∧ _ ∧ _ ∧ _ ∧ _ ∧ _ ∧ _)
    clear hA hR hU hB2
    go_wp2_with fail
    refine (HJ.out _).mono ?_
    rintro e w3 ⟨rfl, hw3⟩
    have hw3 := hw3.symm
    subst hw3
    go_wp2
    refine bodyPost_ret (v := .tuple #[.agg #[.int .u64 0, .int .u64 0, .int .u64 0, .int .u64 0], .int .i64 0, .int .i64 7]) ?_ rfl ⟨rfl, xa9 HB.out (Nat.le_succ w.heap.size) _ _ _ _⟩
    simp [results, Try.results94, go_sem, *]
   ·rw [Bool.not_eq_true] at hj
    rw [hj] at hJ
    have HJ := hide hJ
    by_cases hlt : u.b < a.b
    ·rw [if_pos (.inr (.inr hlt))] at ht
     have HS := hide (spanBad a.b u.b hlt)
     clear hbu he hj hJ
     subst ht
     simp only [It.err]
     unfold xad
     rw [xaa, xaa, xaa, xaa]
     have HI := hide hI
     clear hI
     go_enter Try.func94, Try.ntmps94
     go_wp2_with fail
     refine (HI.out _ HG.out).mono ?_
     rintro e w1 ⟨rfl, hb1⟩
     have hlt1 : w.heap.size + 1 < w1.heap.size := by have := hb1.size; omega
     have hal := (Below.refl w1.heap.size w1).alloc (Nat.le_refl _) (.cells #[.int .u64 (wd u.q 0), .int .u64 (wd u.q 1), .int .u64 (wd u.q 2), .int .u64 (wd u.q 3), .int .u8 u.b, .bool u.bound, .int .i64 u.next] 170)
     have hA := (HA.out.below hb1 (by omega)).below hal (by omega)
     have hR := (HR.out.below hb1 (by omega)).below hal (by omega)
     have hU := HoldsV.new w1 #[.int .u64 (wd u.q 0), .int .u64 (wd u.q 1), .int .u64 (wd u.q 2), .int .u64 (wd u.q 3), .int .u8 u.b, .bool u.bound, .int .i64 u.next] 170
     have hB2 := (HB.out.trans (hb1.mono HB.out.size)).alloc (HB.out.trans (hb1.mono HB.out.size)).size (.cells #[.int .u64 (wd u.q 0), .int .u64 (wd u.q 1), .int .u64 (wd u.q 2), .int .u64 (wd u.q 3), .int .u8 u.b, .bool u.bound, .int .i64 u.next] 170)
     have hsz2 : (w1.alloc (.cells #[.int .u64 (wd u.q 0), .int .u64 (wd u.q 1), .int .u64 (wd u.q 2), .int .u64 (wd u.q 3), .int .u8 u.b, .bool u.bound, .int .i64 u.next] 170)).heap.size = w1.heap.size + 1 := by simp
     obtain ⟨W2, hW2⟩ : ∃ W2, w1.alloc (.cells #[.int .u64 (wd u.q 0), .int .u64 (wd u.q 1), .int .u64 (wd u.q 2), .int .u64 (wd u.q 3), .int .u8 u.b, .bool u.bound, .int .i64 u.next] 170) = W2 := ⟨_, rfl⟩
     rw [hW2] at hA hR hU hB2 hsz2
     clear hb1 hal HI a0 af0 a1 af1 a2 af2 a3 af3 a4 af4 a5 af5 a6 af6 r0 rf0 r1 rf1 r2 rf2 r3 rf3
     have HA := hide hA
     have HR := hide hR
     have HU := hide hU
     have HB := hide hB2
     obtain ⟨⟨a0, af0⟩, ⟨a1, af1⟩, ⟨a2, af2⟩, ⟨a3, af3⟩, ⟨a4, af4⟩, ⟨a5, af5⟩, ⟨a6, af6⟩⟩ := (⟨hA 0 _ rfl, hA 1 _ rfl, hA 2 _ rfl, hA 3 _ rfl, hA 4 _ rfl, hA 5 _ rfl, hA 6 _ rfl⟩ : _ ∧ _ ∧ _ ∧ _ ∧ _ ∧ _ ∧ _)
     obtain ⟨⟨r0, rf0⟩, ⟨r1, rf1⟩, ⟨r2, rf2⟩, ⟨r3, rf3⟩⟩ := (⟨hR 0 _ rfl, hR 1 _ rfl, hR 2 _ rfl, hR 3 _ rfl⟩ : _ ∧ _ ∧ _ ∧ _)
     obtain ⟨⟨u0, uf0⟩, ⟨u1, uf1⟩, ⟨u2, uf2⟩, ⟨u3, uf3⟩, ⟨u4, uf4⟩, ⟨u5, uf5⟩, ⟨u6, uf6⟩⟩ := (⟨hU 0 _ rfl, hU 1 _ rfl, hU 2 _ rfl, hU 3 _ rfl, hU 4 _ rfl, hU 5 _ rfl, hU 6 _ rfl⟩ : _ ∧ _ ∧ _ ∧ _ ∧ _ ∧ _ ∧ _)
     clear hA hR hU hB2
     go_wp2_with fail
     refine (HJ.out _).mono ?_
     rintro e w3 ⟨rfl, hw3⟩
     have hw3 := hw3.symm
     subst hw3
     go_wp2_with fail
     refine (HS.out _).mono ?_
     rintro e w3 ⟨rfl, hb3⟩
     have hlt3 : w1.heap.size < w3.heap.size := by have := hb3.size; omega
     have hal := (Below.refl w3.heap.size w3).alloc (Nat.le_refl _) (.cells #[.int .u64 (wd xad 0), .int .u64 (wd xad 1), .int .u64 (wd xad 2), .int .u64 (wd xad 3)] 38)
     have hR := (HR.out.below hb3 (by omega)).below hal (by omega)
     have hU := (HU.out.below hb3 (by omega)).below hal (by omega)
     have hQ := HoldsV.new w3 #[.int .u64 (wd xad 0), .int .u64 (wd xad 1), .int .u64 (wd xad 2), .int .u64 (wd xad 3)] 38
     have hB4 := (HB.out.trans (hb3.mono HB.out.size)).alloc (HB.out.trans (hb3.mono HB.out.size)).size (.cells #[.int .u64 (wd xad 0), .int .u64 (wd xad 1), .int .u64 (wd xad 2), .int .u64 (wd xad 3)] 38)
     obtain ⟨W4, hW4⟩ : ∃ W4, w3.alloc (.cells #[.int .u64 (wd xad 0), .int .u64 (wd xad 1), .int .u64 (wd xad 2), .int .u64 (wd xad 3)] 38) = W4 := ⟨_, rfl⟩
     rw [hW4] at hR hU hQ hB4
     clear hb3 hal a0 af0 a1 af1 a2 af2 a3 af3 a4 af4 a5 af5 a6 af6 r0 rf0 r1 rf1 r2 rf2 r3 rf3 u0 uf0 u1 uf1 u2 uf2 u3 uf3 u4 uf4 u5 uf5 u6 uf6
     have HB := hide hB4
     obtain ⟨⟨r0, rf0⟩, ⟨r1, rf1⟩, ⟨r2, rf2⟩, ⟨r3, rf3⟩⟩ := (⟨hR 0 _ rfl, hR 1 _ rfl, hR 2 _ rfl, hR 3 _ rfl⟩ : _ ∧ _ ∧ _ ∧ _)
     obtain ⟨⟨u0, uf0⟩, ⟨u1, uf1⟩, ⟨u2, uf2⟩, ⟨u3, uf3⟩, ⟨u4, uf4⟩, ⟨u5, uf5⟩, ⟨u6, uf6⟩⟩ := (⟨hU 0 _ rfl, hU 1 _ rfl, hU 2 _ rfl, hU 3 _ rfl, hU 4 _ rfl, hU 5 _ rfl, hU 6 _ rfl⟩ : _ ∧ _ ∧ _ ∧ _ ∧ _ ∧ _ ∧ _)
     obtain ⟨⟨q0, qf0⟩, ⟨q1, qf1⟩, ⟨q2, qf2⟩, ⟨q3, qf3⟩⟩ := (⟨hQ 0 _ rfl, hQ 1 _ rfl, hQ 2 _ rfl, hQ 3 _ rfl⟩ : _ ∧ _ ∧ _ ∧ _)
     clear hR hU hQ hB4
     go_wp2
     refine bodyPost_ret (v := .tuple #[.agg #[.int .u64 0, .int .u64 0, .int .u64 0, .int .u64 0], .int .i64 0, .int .i64 7]) ?_ rfl ⟨rfl, xa9 HB.out (Nat.le_succ w.heap.size) _ _ _ _⟩
     simp [results, Try.results94, go_sem, *]
    ·rw [if_neg (by rintro (h | h | h); exact hbu h; rw [hj] at h; cases h; exact hlt h)] at ht
     have HS := hide (spanD a.b u.b hab.1 (by omega) hub.2)
     clear hbu he hj hJ
     subst ht
     simp only []
     have HI := hide hI
     clear hI
     go_enter Try.func94, Try.ntmps94
     go_wp2_with fail
     refine (HI.out _ HG.out).mono ?_
     rintro e w1 ⟨rfl, hb1⟩
     have hlt1 : w.heap.size + 1 < w1.heap.size := by have := hb1.size; omega
     have hal := (Below.refl w1.heap.size w1).alloc (Nat.le_refl _) (.cells #[.int .u64 (wd u.q 0), .int .u64 (wd u.q 1), .int .u64 (wd u.q 2), .int .u64 (wd u.q 3), .int .u8 u.b, .bool u.bound, .int .i64 u.next] 170)
     have hA := (HA.out.below hb1 (by omega)).below hal (by omega)
     have hR := (HR.out.below hb1 (by omega)).below hal (by omega)
     have hU := HoldsV.new w1 #[.int .u64 (wd u.q 0), .int .u64 (wd u.q 1), .int .u64 (wd u.q 2), .int .u64 (wd u.q 3), .int .u8 u.b, .bool u.bound, .int .i64 u.next] 170
     have hB2 := (HB.out.trans (hb1.mono HB.out.size)).alloc (HB.out.trans (hb1.mono HB.out.size)).size (.cells #[.int .u64 (wd u.q 0), .int .u64 (wd u.q 1), .int .u64 (wd u.q 2), .int .u64 (wd u.q 3), .int .u8 u.b, .bool u.bound, .int .i64 u.next] 170)
     have hsz2 : (w1.alloc (.cells #[.int .u64 (wd u.q 0), .int .u64 (wd u.q 1), .int .u64 (wd u.q 2), .int .u64 (wd u.q 3), .int .u8 u.b, .bool u.bound, .int .i64 u.next] 170)).heap.size = w1.heap.size + 1 := by simp
     obtain ⟨W2, hW2⟩ : ∃ W2, w1.alloc (.cells #[.int .u64 (wd u.q 0), .int .u64 (wd u.q 1), .int .u64 (wd u.q 2), .int .u64 (wd u.q 3), .int .u8 u.b, .bool u.bound, .int .i64 u.next] 170) = W2 := ⟨_, rfl⟩
     rw [hW2] at hA hR hU hB2 hsz2
     clear hb1 hal HI a0 af0 a1 af1 a2 af2 a3 af3 a4 af4 a5 af5 a6 af6 r0 rf0 r1 rf1 r2 rf2 r3 rf3
     have HA := hide hA
     have HR := hide hR
     have HU := hide hU
     have HB := hide hB2
     obtain ⟨⟨a0, af0⟩, ⟨a1, af1⟩, ⟨a2, af2⟩, ⟨a3, af3⟩, ⟨a4, af4⟩, ⟨a5, af5⟩, ⟨a6, af6⟩⟩ := (⟨hA 0 _ rfl, hA 1 _ rfl, hA 2 _ rfl, hA 3 _ rfl, hA 4 _ rfl, hA 5 _ rfl, hA 6 _ rfl⟩ : _ ∧ _ ∧ _ ∧ _ ∧ _ ∧ _ ∧ _)
     obtain ⟨⟨r0, rf0⟩, ⟨r1, rf1⟩, ⟨r2, rf2⟩, ⟨r3, rf3⟩⟩ := (⟨hR 0 _ rfl, hR 1 _ rfl, hR 2 _ rfl, hR 3 _ rfl⟩ : _ ∧ _ ∧ _ ∧ _)
     obtain ⟨⟨u0, uf0⟩, ⟨u1, uf1⟩, ⟨u2, uf2⟩, ⟨u3, uf3⟩, ⟨u4, uf4⟩, ⟨u5, uf5⟩, ⟨u6, uf6⟩⟩ := (⟨hU 0 _ rfl, hU 1 _ rfl, hU 2 _ rfl, hU 3 _ rfl, hU 4 _ rfl, hU 5 _ rfl, hU 6 _ rfl⟩ : _ ∧ _ ∧ _ ∧ _ ∧ _ ∧ _ ∧ _)
     clear hA hR hU hB2
     go_wp2_with fail
     refine (HJ.out _).mono ?_
     rintro e w3 ⟨rfl, hw3⟩
     have hw3 := hw3.symm
     subst hw3
     go_wp2_with fail
     refine (HS.out _).mono ?_
     rintro e w3 ⟨rfl, hb3⟩
     have hlt3 : w1.heap.size < w3.heap.size := by have := hb3.size; omega
     have hal := (Below.refl w3.heap.size w3).alloc (Nat.le_refl _) (.cells #[.int .u64 (wd (sP a.b.toNat u.b.toNat) 0), .int .u64 (wd (sP a.b.toNat u.b.toNat) 1), .int .u64 (wd (sP a.b.toNat u.b.toNat) 2), .int .u64 (wd (sP a.b.toNat u.b.toNat) 3)] 38)
     have hR := (HR.out.below hb3 (by omega)).below hal (by omega)
     have hU := (HU.out.below hb3 (by omega)).below hal (by omega)
     have hQ := HoldsV.new w3 #[.int .u64 (wd (sP a.b.toNat u.b.toNat) 0), .int .u64 (wd (sP a.b.toNat u.b.toNat) 1), .int .u64 (wd (sP a.b.toNat u.b.toNat) 2), .int .u64 (wd (sP a.b.toNat u.b.toNat) 3)] 38
     have hB4 := (HB.out.trans (hb3.mono HB.out.size)).alloc (HB.out.trans (hb3.mono HB.out.size)).size (.cells #[.int .u64 (wd (sP a.b.toNat u.b.toNat) 0), .int .u64 (wd (sP a.b.toNat u.b.toNat) 1), .int .u64 (wd (sP a.b.toNat u.b.toNat) 2), .int .u64 (wd (sP a.b.toNat u.b.toNat) 3)] 38)
     obtain ⟨W4, hW4⟩ : ∃ W4, w3.alloc (.cells #[.int .u64 (wd (sP a.b.toNat u.b.toNat) 0), .int .u64 (wd (sP a.b.toNat u.b.toNat) 1), .int .u64 (wd (sP a.b.toNat u.b.toNat) 2), .int .u64 (wd (sP a.b.toNat u.b.toNat) 3)] 38) = W4 := ⟨_, rfl⟩
     rw [hW4] at hR hU hQ hB4
     clear hb3 hal a0 af0 a1 af1 a2 af2 a3 af3 a4 af4 a5 af5 a6 af6 r0 rf0 r1 rf1 r2 rf2 r3 rf3 u0 uf0 u1 uf1 u2 uf2 u3 uf3 u4 uf4 u5 uf5 u6 uf6
     have HB := hide hB4
     obtain ⟨⟨r0, rf0⟩, ⟨r1, rf1⟩, ⟨r2, rf2⟩, ⟨r3, rf3⟩⟩ := (⟨hR 0 _ rfl, hR 1 _ rfl, hR 2 _ rfl, hR 3 _ rfl⟩ : _ ∧ _ ∧ _ ∧ _)
     obtain ⟨⟨u0, uf0⟩, ⟨u1, uf1⟩, ⟨u2, uf2⟩, ⟨u3, uf3⟩, ⟨u4, uf4⟩, ⟨u5, uf5⟩, ⟨u6, uf6⟩⟩ := (⟨hU 0 _ rfl, hU 1 _ rfl, hU 2 _ rfl, hU 3 _ rfl, hU 4 _ rfl, hU 5 _ rfl, hU 6 _ rfl⟩ : _ ∧ _ ∧ _ ∧ _ ∧ _ ∧ _ ∧ _)
     obtain ⟨⟨q0, qf0⟩, ⟨q1, qf1⟩, ⟨q2, qf2⟩, ⟨q3, qf3⟩⟩ := (⟨hQ 0 _ rfl, hQ 1 _ rfl, hQ 2 _ rfl, hQ 3 _ rfl⟩ : _ ∧ _ ∧ _ ∧ _)
     clear hR hU hQ hB4
     go_wp2_with fail
     go_region
     all_goals
      go_wp2
      refine bodyPost_ret (v := .tuple #[.agg #[.int .u64 (wd (sP a.b.toNat u.b.toNat) 0), .int .u64 (wd (sP a.b.toNat u.b.toNat) 1), .int .u64 (wd (sP a.b.toNat u.b.toNat) 2), .int .u64 (wd (sP a.b.toNat u.b.toNat) 3)], .int .i64 u.next, .int .i64 0]) ?_ rfl ⟨rfl, xa9 HB.out.drew (Nat.le_succ w.heap.size) _ _ _ _⟩
      simp [results, Try.results94, go_sem, *]
 ·rw [if_pos he] at ht
  have hne : (u.e != 0) = true := by simp [he]
  clear he
  subst ht
  simp only [It.err]
  unfold xad
  rw [xaa, xaa, xaa, xaa]
  have HI := hide hI
  clear hI
  go_enter Try.func94, Try.ntmps94
  go_wp2_with fail
  refine (HI.out _ HG.out).mono ?_
  rintro e w1 ⟨rfl, hb1⟩
  have hlt1 : w.heap.size + 1 < w1.heap.size := by have := hb1.size; omega
  have hal := (Below.refl w1.heap.size w1).alloc (Nat.le_refl _) (.cells #[.int .u64 (wd u.q 0), .int .u64 (wd u.q 1), .int .u64 (wd u.q 2), .int .u64 (wd u.q 3), .int .u8 u.b, .bool u.bound, .int .i64 u.next] 170)
  have hA := (HA.out.below hb1 (by omega)).below hal (by omega)
  have hR := (HR.out.below hb1 (by omega)).below hal (by omega)
  have hU := HoldsV.new w1 #[.int .u64 (wd u.q 0), .int .u64 (wd u.q 1), .int .u64 (wd u.q 2), .int .u64 (wd u.q 3), .int .u8 u.b, .bool u.bound, .int .i64 u.next] 170
  have hB2 := (HB.out.trans (hb1.mono HB.out.size)).alloc (HB.out.trans (hb1.mono HB.out.size)).size (.cells #[.int .u64 (wd u.q 0), .int .u64 (wd u.q 1), .int .u64 (wd u.q 2), .int .u64 (wd u.q 3), .int .u8 u.b, .bool u.bound, .int .i64 u.next] 170)
  have hsz2 : (w1.alloc (.cells #[.int .u64 (wd u.q 0), .int .u64 (wd u.q 1), .int .u64 (wd u.q 2), .int .u64 (wd u.q 3), .int .u8 u.b, .bool u.bound, .int .i64 u.next] 170)).heap.size = w1.heap.size + 1 := by simp
  obtain ⟨W2, hW2⟩ : ∃ W2, w1.alloc (.cells #[.int .u64 (wd u.q 0), .int .u64 (wd u.q 1), .int .u64 (wd u.q 2), .int .u64 (wd u.q 3), .int .u8 u.b, .bool u.bound, .int .i64 u.next] 170) = W2 := ⟨_, rfl⟩
  rw [hW2] at hA hR hU hB2 hsz2
  clear hb1 hal HI a0 af0 a1 af1 a2 af2 a3 af3 a4 af4 a5 af5 a6 af6 r0 rf0 r1 rf1 r2 rf2 r3 rf3
  have HA := hide hA
  have HR := hide hR
  have HU := hide hU
  have HB := hide hB2
  obtain ⟨⟨a0, af0⟩, ⟨a1, af1⟩, ⟨a2, af2⟩, ⟨a3, af3⟩, ⟨a4, af4⟩, ⟨a5, af5⟩, ⟨a6, af6⟩⟩ := (⟨hA 0 _ rfl, hA 1 _ rfl, hA 2 _ rfl, hA 3 _ rfl, hA 4 _ rfl, hA 5 _ rfl, hA 6 _ rfl⟩ : _ ∧ _ ∧ _ ∧ _ ∧ _ ∧ _ ∧ _)
  obtain ⟨⟨r0, rf0⟩, ⟨r1, rf1⟩, ⟨r2, rf2⟩, ⟨r3, rf3⟩⟩ := (⟨hR 0 _ rfl, hR 1 _ rfl, hR 2 _ rfl, hR 3 _ rfl⟩ : _ ∧ _ ∧ _ ∧ _)
  obtain ⟨⟨u0, uf0⟩, ⟨u1, uf1⟩, ⟨u2, uf2⟩, ⟨u3, uf3⟩, ⟨u4, uf4⟩, ⟨u5, uf5⟩, ⟨u6, uf6⟩⟩ := (⟨hU 0 _ rfl, hU 1 _ rfl, hU 2 _ rfl, hU 3 _ rfl, hU 4 _ rfl, hU 5 _ rfl, hU 6 _ rfl⟩ : _ ∧ _ ∧ _ ∧ _ ∧ _ ∧ _ ∧ _)
  clear hA hR hU hB2
  go_wp2
  refine bodyPost_ret (v := .tuple #[.agg #[.int .u64 0, .int .u64 0, .int .u64 0, .int .u64 0], .int .i64 0, .int .i64 u.e]) ?_ rfl ⟨rfl, xa9 HB.out (Nat.le_succ w.heap.size) _ _ _ _⟩
  simp [results, Try.results94, go_sem, *]
end Go.Proofs.Ytolpakpdkheanaa.br
