/- bracket.readEntry: an item, or a range that begins with it, as xa6 says. -/
import Derived.Test.YtolpakpdkheanaaKRange
import Derived.KernelRfl
set_option maxRecDepth 100000
set_option maxHeartbeats 2000000
namespace Go.Proofs.Ytolpakpdkheanaa.br
open Go.RowKit
theorem xeg (s : ByteArray) (hs : s.size ≤ 1073741824) (i : Nat) (w : World) (hg : Glob w) (t : It) (ht : xa6 s i = t) :
  Calls Try.prog 86 #[.string s, .int .i64 i] w fun e w' => e = .returned (.tuple #[.agg #[.int .u64 (wd t.q 0), .int .u64 (wd t.q 1), .int .u64 (wd t.q 2), .int .u64 (wd t.q 3)], .int .i64 t.next, .int .i64 t.e]) ∧ Below w.heap.size w w' := by
 have hR := HoldsV.new w #[.int .u64 0, .int .u64 0, .int .u64 0, .int .u64 0] 38
 have hB0 := (Below.refl w.heap.size w).alloc (Nat.le_refl _) (.cells #[.int .u64 0, .int .u64 0, .int .u64 0, .int .u64 0] 38)
 have hsz0 : (w.alloc (.cells #[.int .u64 0, .int .u64 0, .int .u64 0, .int .u64 0] 38)).heap.size = w.heap.size + 1 := by simp
 have hG0 := hg.below hB0 (Nat.le_refl _)
 obtain ⟨W0, hW0⟩ : ∃ W0, w.alloc (.cells #[.int .u64 0, .int .u64 0, .int .u64 0, .int .u64 0] 38) = W0 := ⟨_, rfl⟩
 rw [hW0] at hR hB0 hG0 hsz0
 have HR := hide hR
 have HB := hide hB0
 have HG := hide hG0
 obtain ⟨⟨r0, rf0⟩, ⟨r1, rf1⟩, ⟨r2, rf2⟩, ⟨r3, rf3⟩⟩ := (⟨hR 0 _ rfl, hR 1 _ rfl, hR 2 _ rfl, hR 3 _ rfl⟩ : _ ∧ _ ∧ _ ∧ _)
 clear hR hB0 hG0
 unfold xa6 at ht
 have hI := xfc s hs i
 have hub := xpm s i
 have hun := (xdl s i).1
 generalize xa4 s i = u at *
 have HI := hide hI
 clear hI
 by_cases he : u.e = 0
 ·rw [if_neg (by simp [he])] at ht
  have hne : (u.e != 0) = false := by simp [he]
  have hJ := xi8 s u.next (by omega)
  by_cases hj : xef s u.next = true
  ·rw [if_pos hj] at ht
   have hlt : u.next < s.size := by
    simp only [xef, Bool.and_eq_true, beq_iff_eq] at hj
    exact xcg hj.1 (by omega)
   rw [hj] at hJ
   have HJ := hide hJ
   have HQ : Hid (∀ w, Glob w → _) := fun w hg => xhv s hs u (by omega) hub w hg t ht
   clear he hj hJ ht
   go_enter Try.func86, Try.ntmps86
   go_wp2_with fail
   refine (HI.out _ HG.out).mono ?_
   rintro e w1 ⟨rfl, hb1⟩
   have hlt1 : w.heap.size < w1.heap.size := by have := hb1.size; omega
   have hal := (Below.refl w1.heap.size w1).alloc (Nat.le_refl _) (.cells #[.int .u64 (wd u.q 0), .int .u64 (wd u.q 1), .int .u64 (wd u.q 2), .int .u64 (wd u.q 3), .int .u8 u.b, .bool u.bound, .int .i64 u.next] 170)
   have hR := (HR.out.below hb1 (by omega)).below hal (by omega)
   have hU := HoldsV.new w1 #[.int .u64 (wd u.q 0), .int .u64 (wd u.q 1), .int .u64 (wd u.q 2), .int .u64 (wd u.q 3), .int .u8 u.b, .bool u.bound, .int .i64 u.next] 170
   have hG2 := (HG.out.below hb1 (Nat.le_refl _)).below hal (Nat.le_refl _)
   have hB2 := (HB.out.trans (hb1.mono HB.out.size)).alloc (HB.out.trans (hb1.mono HB.out.size)).size (.cells #[.int .u64 (wd u.q 0), .int .u64 (wd u.q 1), .int .u64 (wd u.q 2), .int .u64 (wd u.q 3), .int .u8 u.b, .bool u.bound, .int .i64 u.next] 170)
   have hsz2 : (w1.alloc (.cells #[.int .u64 (wd u.q 0), .int .u64 (wd u.q 1), .int .u64 (wd u.q 2), .int .u64 (wd u.q 3), .int .u8 u.b, .bool u.bound, .int .i64 u.next] 170)).heap.size = w1.heap.size + 1 := by simp
   obtain ⟨W2, hW2⟩ : ∃ W2, w1.alloc (.cells #[.int .u64 (wd u.q 0), .int .u64 (wd u.q 1), .int .u64 (wd u.q 2), .int .u64 (wd u.q 3), .int .u8 u.b, .bool u.bound, .int .i64 u.next] 170) = W2 := ⟨_, rfl⟩
   rw [hW2] at hR hU hB2 hsz2 hG2
   clear hb1 hal HI r0 rf0 r1 rf1 r2 rf2 r3 rf3
   have HR := hide hR
   have HU := hide hU
   have HB := hide hB2
   have HG := hide hG2
   obtain ⟨⟨r0, rf0⟩, ⟨r1, rf1⟩, ⟨r2, rf2⟩, ⟨r3, rf3⟩⟩ := (⟨hR 0 _ rfl, hR 1 _ rfl, hR 2 _ rfl, hR 3 _ rfl⟩ : _ ∧ _ ∧ _ ∧ _)
   obtain ⟨⟨u0, uf0⟩, ⟨u1, uf1⟩, ⟨u2, uf2⟩, ⟨u3, uf3⟩, ⟨u4, uf4⟩, ⟨u5, uf5⟩, ⟨u6, uf6⟩⟩ := (⟨hU 0 _ rfl, hU 1 _ rfl, hU 2 _ rfl, hU 3 _ rfl, hU 4 _ rfl, hU 5 _ rfl, hU 6 _ rfl⟩ : _ ∧ _ ∧ _ ∧ _ ∧ _ ∧ _ ∧ _)
   clear hR hU hB2 hG2
   go_wp2_with fail
   refine (HJ.out _).mono ?_
   rintro e w3 ⟨rfl, hw3⟩
   have hw3 := hw3.symm
   subst hw3
   go_wp2_with fail
   refine (HQ.out _ HG.out).mono ?_
   rintro e w3 ⟨rfl, hb3⟩
   have hR := HR.out.below hb3 (by omega)
   have HB3 := hide (HB.out.trans (hb3.mono HB.out.size))
   clear hb3 r0 rf0 r1 rf1 r2 rf2 r3 rf3 u0 uf0 u1 uf1 u2 uf2 u3 uf3 u4 uf4 u5 uf5 u6 uf6
   obtain ⟨⟨r0, rf0⟩, ⟨r1, rf1⟩, ⟨r2, rf2⟩, ⟨r3, rf3⟩⟩ := (⟨hR 0 _ rfl, hR 1 _ rfl, hR 2 _ rfl, hR 3 _ rfl⟩ : _ ∧ _ ∧ _ ∧ _)
   clear hR
   go_wp2
   refine bodyPost_ret (v := .tuple #[.agg #[.int .u64 (wd t.q 0), .int .u64 (wd t.q 1), .int .u64 (wd t.q 2), .int .u64 (wd t.q 3)], .int .i64 t.next, .int .i64 t.e]) ?_ rfl ⟨rfl, xa9 HB3.out (Nat.le_refl w.heap.size) _ _ _ _⟩
   simp [results, Try.results86, go_sem, *]
  ·rw [if_neg hj] at ht
   rw [Bool.not_eq_true] at hj
   rw [hj] at hJ
   have HJ := hide hJ
   clear he hj hJ
   subst ht
   simp only []
   go_enter Try.func86, Try.ntmps86
   go_wp2_with fail
   refine (HI.out _ HG.out).mono ?_
   rintro e w1 ⟨rfl, hb1⟩
   have hlt1 : w.heap.size < w1.heap.size := by have := hb1.size; omega
   have hal := (Below.refl w1.heap.size w1).alloc (Nat.le_refl _) (.cells #[.int .u64 (wd u.q 0), .int .u64 (wd u.q 1), .int .u64 (wd u.q 2), .int .u64 (wd u.q 3), .int .u8 u.b, .bool u.bound, .int .i64 u.next] 170)
   have hR := (HR.out.below hb1 (by omega)).below hal (by omega)
   have hU := HoldsV.new w1 #[.int .u64 (wd u.q 0), .int .u64 (wd u.q 1), .int .u64 (wd u.q 2), .int .u64 (wd u.q 3), .int .u8 u.b, .bool u.bound, .int .i64 u.next] 170
   have hG2 := (HG.out.below hb1 (Nat.le_refl _)).below hal (Nat.le_refl _)
   have hB2 := (HB.out.trans (hb1.mono HB.out.size)).alloc (HB.out.trans (hb1.mono HB.out.size)).size (.cells #[.int .u64 (wd u.q 0), .int .u64 (wd u.q 1), .int .u64 (wd u.q 2), .int .u64 (wd u.q 3), .int .u8 u.b, .bool u.bound, .int .i64 u.next] 170)
   have hsz2 : (w1.alloc (.cells #[.int .u64 (wd u.q 0), .int .u64 (wd u.q 1), .int .u64 (wd u.q 2), .int .u64 (wd u.q 3), .int .u8 u.b, .bool u.bound, .int .i64 u.next] 170)).heap.size = w1.heap.size + 1 := by simp
   obtain ⟨W2, hW2⟩ : ∃ W2, w1.alloc (.cells #[.int .u64 (wd u.q 0), .int .u64 (wd u.q 1), .int .u64 (wd u.q 2), .int .u64 (wd u.q 3), .int .u8 u.b, .bool u.bound, .int .i64 u.next] 170) = W2 := ⟨_, rfl⟩
   rw [hW2] at hR hU hB2 hsz2 hG2
   clear hb1 hal HI r0 rf0 r1 rf1 r2 rf2 r3 rf3
   have HR := hide hR
   have HU := hide hU
   have HB := hide hB2
   have HG := hide hG2
   obtain ⟨⟨r0, rf0⟩, ⟨r1, rf1⟩, ⟨r2, rf2⟩, ⟨r3, rf3⟩⟩ := (⟨hR 0 _ rfl, hR 1 _ rfl, hR 2 _ rfl, hR 3 _ rfl⟩ : _ ∧ _ ∧ _ ∧ _)
   obtain ⟨⟨u0, uf0⟩, ⟨u1, uf1⟩, ⟨u2, uf2⟩, ⟨u3, uf3⟩, ⟨u4, uf4⟩, ⟨u5, uf5⟩, ⟨u6, uf6⟩⟩ := (⟨hU 0 _ rfl, hU 1 _ rfl, hU 2 _ rfl, hU 3 _ rfl, hU 4 _ rfl, hU 5 _ rfl, hU 6 _ rfl⟩ : _ ∧ _ ∧ _ ∧ _ ∧ _ ∧ _ ∧ _)
   clear hR hU hB2 hG2
   go_wp2_with fail
   refine (HJ.out _).mono ?_
   rintro e w3 ⟨rfl, hw3⟩
   have hw3 := hw3.symm
   subst hw3
   go_wp2_with fail
   go_region
   all_goals
    go_wp2
    refine bodyPost_ret (v := .tuple #[.agg #[.int .u64 (wd u.q 0), .int .u64 (wd u.q 1), .int .u64 (wd u.q 2), .int .u64 (wd u.q 3)], .int .i64 u.next, .int .i64 0]) ?_ rfl ⟨rfl, xa9 HB.out.drew (Nat.le_refl w.heap.size) _ _ _ _⟩
    simp [results, Try.results86, go_sem, *]
 ·rw [if_pos he] at ht
  have hne : (u.e != 0) = true := by simp [he]
  clear he
  subst ht
  simp only [It.err]
  unfold xad
  rw [xaa, xaa, xaa, xaa]
  go_enter Try.func86, Try.ntmps86
  go_wp2_with fail
  refine (HI.out _ HG.out).mono ?_
  rintro e w1 ⟨rfl, hb1⟩
  have hlt1 : w.heap.size < w1.heap.size := by have := hb1.size; omega
  have hal := (Below.refl w1.heap.size w1).alloc (Nat.le_refl _) (.cells #[.int .u64 (wd u.q 0), .int .u64 (wd u.q 1), .int .u64 (wd u.q 2), .int .u64 (wd u.q 3), .int .u8 u.b, .bool u.bound, .int .i64 u.next] 170)
  have hR := (HR.out.below hb1 (by omega)).below hal (by omega)
  have hU := HoldsV.new w1 #[.int .u64 (wd u.q 0), .int .u64 (wd u.q 1), .int .u64 (wd u.q 2), .int .u64 (wd u.q 3), .int .u8 u.b, .bool u.bound, .int .i64 u.next] 170
  have hG2 := (HG.out.below hb1 (Nat.le_refl _)).below hal (Nat.le_refl _)
  have hB2 := (HB.out.trans (hb1.mono HB.out.size)).alloc (HB.out.trans (hb1.mono HB.out.size)).size (.cells #[.int .u64 (wd u.q 0), .int .u64 (wd u.q 1), .int .u64 (wd u.q 2), .int .u64 (wd u.q 3), .int .u8 u.b, .bool u.bound, .int .i64 u.next] 170)
  have hsz2 : (w1.alloc (.cells #[.int .u64 (wd u.q 0), .int .u64 (wd u.q 1), .int .u64 (wd u.q 2), .int .u64 (wd u.q 3), .int .u8 u.b, .bool u.bound, .int .i64 u.next] 170)).heap.size = w1.heap.size + 1 := by simp
  obtain ⟨W2, hW2⟩ : ∃ W2, w1.alloc (.cells #[.int .u64 (wd u.q 0), .int .u64 (wd u.q 1), .int .u64 (wd u.q 2), .int .u64 (wd u.q 3), .int .u8 u.b, .bool u.bound, .int .i64 u.next] 170) = W2 := ⟨_, rfl⟩
  rw [hW2] at hR hU hB2 hsz2 hG2
  clear hb1 hal HI r0 rf0 r1 rf1 r2 rf2 r3 rf3
  have HR := hide hR
  have HU := hide hU
  have HB := hide hB2
  have HG := hide hG2
  obtain ⟨⟨r0, rf0⟩, ⟨r1, rf1⟩, ⟨r2, rf2⟩, ⟨r3, rf3⟩⟩ := (⟨hR 0 _ rfl, hR 1 _ rfl, hR 2 _ rfl, hR 3 _ rfl⟩ : _ ∧ _ ∧ _ ∧ _)
  obtain ⟨⟨u0, uf0⟩, ⟨u1, uf1⟩, ⟨u2, uf2⟩, ⟨u3, uf3⟩, ⟨u4, uf4⟩, ⟨u5, uf5⟩, ⟨u6, uf6⟩⟩ := (⟨hU 0 _ rfl, hU 1 _ rfl, hU 2 _ rfl, hU 3 _ rfl, hU 4 _ rfl, hU 5 _ rfl, hU 6 _ rfl⟩ : _ ∧ _ ∧ _ ∧ _ ∧ _ ∧ _ ∧ _)
  clear hR hU hB2 hG2
  go_wp2
  refine bodyPost_ret (v := .tuple #[.agg #[.int .u64 0, .int .u64 0, .int .u64 0, .int .u64 0], .int .i64 0, .int .i64 u.e]) ?_ rfl ⟨rfl, xa9 HB.out (Nat.le_refl w.heap.size) _ _ _ _⟩
  simp [results, Try.results86, go_sem, *]
theorem xd2 (s : ByteArray) (i : Nat) (h : (xa6 s i).e = 0) : i < (xa6 s i).next ∧ (xa6 s i).next ≤ s.size := by
 have h1 := xdl s i
 unfold xa6 at h ⊢
 by_cases he : (xa4 s i).e = 0
 ·rw [if_neg (by simp [he])] at h ⊢
  have h2 := h1.2 he
  by_cases hj : xef s (xa4 s i).next = true
  ·rw [if_pos hj] at h ⊢
   have h3 := xdl s ((xa4 s i).next + 1)
   unfold xg4 at h ⊢
   split at h
   ·simp [It.err] at h
   rename_i c1
   split at h
   ·simp [It.err] at h
   rename_i c2
   split at h
   ·rename_i c3; simp only [It.err] at h; exact absurd h c3
   rename_i c3
   split at h
   ·simp [It.err] at h
   rename_i c4
   rw [if_neg c1, if_neg c2, if_neg c3, if_neg c4]
   have h4 := h3.2 (by simpa using c3)
   exact ⟨by simp; omega, by simp; omega⟩
  ·rw [if_neg hj]
   exact ⟨h2, h1.1⟩
 ·rw [if_pos he] at h
  simp only [It.err] at h
  exact absurd h he
noncomputable def xbe (s : ByteArray) : Nat → Bool → (Nat → Bool) → Nat → It
 | 0, _, _, _ => .err 6
 | f + 1, first, q, i => if first = false ∧ xag s i = 93 then ⟨0, q, 0, false, i⟩ else if (xa6 s i).e ≠ 0 then .err (xa6 s i).e else xbe s f false (orP q (xa6 s i).q) (xa6 s i).next
theorem xgd (s : ByteArray) (f : Nat) (q : Nat → Bool) (i : Nat) (h : xag s i = 93) : xbe s (f + 1) false q i = ⟨0, q, 0, false, i⟩ := by simp [xbe, h]
theorem xjc (s : ByteArray) (f : Nat) (first : Bool) (q : Nat → Bool) (i : Nat) (h : ¬ (first = false ∧ xag s i = 93)) (he : (xa6 s i).e ≠ 0) : xbe s (f + 1) first q i = .err (xa6 s i).e := by rw [xbe, if_neg h, if_pos he]
theorem xg5 (s : ByteArray) (f : Nat) (first : Bool) (q : Nat → Bool) (i : Nat) (h : ¬ (first = false ∧ xag s i = 93)) (he : (xa6 s i).e = 0) : xbe s (f + 1) first q i = xbe s f false (orP q (xa6 s i).q) (xa6 s i).next := by rw [xbe, if_neg h, if_neg (by simp [he])]
noncomputable def xco (s : ByteArray) (i : Nat) : It :=
 if xag s i = 91 then
  if xag s (i + 1) = 94 then
   if (xbe s (s.size + 2) true xad (i + 2)).e ≠ 0 then .err (xbe s (s.size + 2) true xad (i + 2)).e
   else ⟨0, notP (xbe s (s.size + 2) true xad (i + 2)).q, 0, false, (xbe s (s.size + 2) true xad (i + 2)).next + 1⟩
  else
   if (xbe s (s.size + 2) true xad (i + 1)).e ≠ 0 then .err (xbe s (s.size + 2) true xad (i + 1)).e
   else ⟨0, (xbe s (s.size + 2) true xad (i + 1)).q, 0, false, (xbe s (s.size + 2) true xad (i + 1)).next + 1⟩
 else .err 1
end Go.Proofs.Ytolpakpdkheanaa.br
namespace Go.Proofs.Ytolpakpdkheanaa.br
section
variable (cq : ByteArray → Nat → Bool)
end
end Go.Proofs.Ytolpakpdkheanaa.br
