/- The document's ranged: an item with the range that it may begin. -/
import Derived.Test.YtaapmphdnholaaaGreatDoorKEntry
set_option maxRecDepth 100000
set_option maxHeartbeats 4000000
namespace Go.Proofs.YtaapmphdnholaaaGreatDoor
open Go.RowKit
noncomputable def rgS (s : ByteArray) (i : Nat) : It :=
 if (xan s i).e ≠ 0 then xan s i
 else if xbk s (xan s i).next = false then xan s i
 else if (xan s i).next + 1 = s.size then .err 6
 else if (xan s i).bound = false then .err 7
 else if (xan s ((xan s i).next + 1)).e ≠ 0 then xan s ((xan s i).next + 1)
 else if (xan s ((xan s i).next + 1)).bound = false then .err 7
 else if (xan s ((xan s i).next + 1)).b < (xan s i).b then .err 7
 else if xbk s (xan s ((xan s i).next + 1)).next = true then .err 7
 else ⟨0, sP (xan s i).b.toNat (xan s ((xan s i).next + 1)).b.toNat, 0, false, (xan s ((xan s i).next + 1)).next⟩
theorem xhm (s : ByteArray) (i : Nat) : (rgS s i).e = (xa2 s i).e ∧ ((xa2 s i).e = 0 → (rgS s i).q = (xa2 s i).q ∧ (rgS s i).next = (xa2 s i).next) := by
 unfold rgS xa2 xhl
 by_cases h1 : (xan s i).e = 0
 ·simp only [ne_eq, h1, not_true_eq_false, if_false]
  by_cases h2 : xbk s (xan s i).next = true
  ·simp only [h2, Bool.true_eq_false, if_false, if_true]
   by_cases h3 : (xan s i).next + 1 = s.size
   ·simp [h3, It.err]
   ·simp only [h3, if_false]
    by_cases h4 : (xan s i).bound = false
    ·simp [h4, It.err]
    ·simp only [h4]
     by_cases h5 : (xan s ((xan s i).next + 1)).e = 0
     ·simp only [h5, not_true_eq_false, if_false]
      by_cases h6 : (xan s ((xan s i).next + 1)).bound = false
      ·simp [h6, It.err]
      ·by_cases h7 : (xan s ((xan s i).next + 1)).b < (xan s i).b
       ·simp [h6, h7, It.err]
       ·by_cases h8 : xbk s (xan s ((xan s i).next + 1)).next = true
        ·simp [h6, h7, h8, It.err]
        ·simp [h6, h7, h8]
     ·simp [h5, It.err]
  ·simp [h2, h1]
 ·simp [h1, It.err]
theorem xf7 (s : ByteArray) (hs : s.size ≤ 1073741824) (i : Nat) (hi : i < s.size) (w : World) (t : It) (ht : rgS s i = t) :
  Calls Tryz.prog 63 #[.string s, .int .i64 i] w fun e w' => e = .returned (.agg #[.int .u64 (wd t.q 0), .int .u64 (wd t.q 1), .int .u64 (wd t.q 2), .int .u64 (wd t.q 3), .int .u8 t.b, .bool t.bound, .int .i64 t.next, .int .i64 t.e]) ∧ Below w.heap.size w w' := by
 have hR := HoldsV.new w #[.int .u64 0, .int .u64 0, .int .u64 0, .int .u64 0, .int .u8 0, .bool false, .int .i64 0, .int .i64 0] 103
 have hB0 := (Below.refl w.heap.size w).alloc (Nat.le_refl _) (.cells #[.int .u64 0, .int .u64 0, .int .u64 0, .int .u64 0, .int .u8 0, .bool false, .int .i64 0, .int .i64 0] 103)
 have hsz0 : (w.alloc (.cells #[.int .u64 0, .int .u64 0, .int .u64 0, .int .u64 0, .int .u8 0, .bool false, .int .i64 0, .int .i64 0] 103)).heap.size = w.heap.size + 1 := by simp
 obtain ⟨W0, hW0⟩ : ∃ W0, w.alloc (.cells #[.int .u64 0, .int .u64 0, .int .u64 0, .int .u64 0, .int .u8 0, .bool false, .int .i64 0, .int .i64 0] 103) = W0 := ⟨_, rfl⟩
 rw [hW0] at hR hB0 hsz0
 have HR := hide hR
 have HB := hide hB0
 obtain ⟨⟨r0, rf0⟩, ⟨r1, rf1⟩, ⟨r2, rf2⟩, ⟨r3, rf3⟩, ⟨r4, rf4⟩, ⟨r5, rf5⟩, ⟨r6, rf6⟩, ⟨r7, rf7⟩⟩ := (⟨hR 0 _ rfl, hR 1 _ rfl, hR 2 _ rfl, hR 3 _ rfl, hR 4 _ rfl, hR 5 _ rfl, hR 6 _ rfl, hR 7 _ rfl⟩ : _ ∧ _ ∧ _ ∧ _ ∧ _ ∧ _ ∧ _ ∧ _)
 clear hR hB0
 unfold rgS at ht
 have hI := xhk s hs i hi
 have hub := xj0 s i
 have hun := (xch s i).1
 generalize xan s i = u at *
 have HI := hide hI
 clear hI
 by_cases he : u.e = 0
 ·rw [if_neg (by simp [he])] at ht
  have hne : (u.e != 0) = false := by simp [he]
  have hJ := xoh s hs u.next (by omega)
  by_cases hj : xbk s u.next = true
  ·rw [if_neg (by rw [hj]; simp)] at ht
   have hlt : u.next < s.size := by
    simp only [xbk, Bool.and_eq_true, beq_iff_eq] at hj
    exact xa7 hj.1 (by omega)
   rw [hj] at hJ
   have HJ := hide hJ
   clear he hj hJ
   by_cases h6 : u.next + 1 = s.size
   ·rw [if_pos h6] at ht
    subst ht
    simp only [It.err]
    unfold xad
    rw [xaa, xaa, xaa, xaa]
    go_enter Tryz.func63, Tryz.ntmps63
    go_wp2_with fail
    refine (HI.out _).mono ?_
    rintro e w1 ⟨rfl, hbw1⟩
    have hsw1 := hbw1.size
    have hltw1 : w.heap.size < w1.heap.size := by omega
    have hal := (Below.refl w1.heap.size w1).alloc (Nat.le_refl _) (.cells #[.int .u64 (wd u.q 0), .int .u64 (wd u.q 1), .int .u64 (wd u.q 2), .int .u64 (wd u.q 3), .int .u8 u.b, .bool u.bound, .int .i64 u.next, .int .i64 u.e] 103)
    have hR := (HR.out.below hbw1 (by omega)).below hal (by omega)
    have hu := HoldsV.new w1 #[.int .u64 (wd u.q 0), .int .u64 (wd u.q 1), .int .u64 (wd u.q 2), .int .u64 (wd u.q 3), .int .u8 u.b, .bool u.bound, .int .i64 u.next, .int .i64 u.e] 103
    have hBn := (HB.out.trans (hbw1.mono HB.out.size)).alloc (HB.out.trans (hbw1.mono HB.out.size)).size (.cells #[.int .u64 (wd u.q 0), .int .u64 (wd u.q 1), .int .u64 (wd u.q 2), .int .u64 (wd u.q 3), .int .u8 u.b, .bool u.bound, .int .i64 u.next, .int .i64 u.e] 103)
    have hszu : (w1.alloc (.cells #[.int .u64 (wd u.q 0), .int .u64 (wd u.q 1), .int .u64 (wd u.q 2), .int .u64 (wd u.q 3), .int .u8 u.b, .bool u.bound, .int .i64 u.next, .int .i64 u.e] 103)).heap.size = w1.heap.size + 1 := by simp
    obtain ⟨Wu, hWu⟩ : ∃ Wu, w1.alloc (.cells #[.int .u64 (wd u.q 0), .int .u64 (wd u.q 1), .int .u64 (wd u.q 2), .int .u64 (wd u.q 3), .int .u8 u.b, .bool u.bound, .int .i64 u.next, .int .i64 u.e] 103) = Wu := ⟨_, rfl⟩
    rw [hWu] at hR hu hBn hszu
    clear hbw1 hal r0 rf0 r1 rf1 r2 rf2 r3 rf3 r4 rf4 r5 rf5 r6 rf6 r7 rf7 
    have HR := hide hR
    have Hu := hide hu
    have HB := hide hBn
    obtain ⟨⟨r0, rf0⟩, ⟨r1, rf1⟩, ⟨r2, rf2⟩, ⟨r3, rf3⟩, ⟨r4, rf4⟩, ⟨r5, rf5⟩, ⟨r6, rf6⟩, ⟨r7, rf7⟩⟩ := (⟨hR 0 _ rfl, hR 1 _ rfl, hR 2 _ rfl, hR 3 _ rfl, hR 4 _ rfl, hR 5 _ rfl, hR 6 _ rfl, hR 7 _ rfl⟩ : _ ∧ _ ∧ _ ∧ _ ∧ _ ∧ _ ∧ _ ∧ _)
    obtain ⟨⟨u0, uf0⟩, ⟨u1, uf1⟩, ⟨u2, uf2⟩, ⟨u3, uf3⟩, ⟨u4, uf4⟩, ⟨u5, uf5⟩, ⟨u6, uf6⟩, ⟨u7, uf7⟩⟩ := (⟨hu 0 _ rfl, hu 1 _ rfl, hu 2 _ rfl, hu 3 _ rfl, hu 4 _ rfl, hu 5 _ rfl, hu 6 _ rfl, hu 7 _ rfl⟩ : _ ∧ _ ∧ _ ∧ _ ∧ _ ∧ _ ∧ _ ∧ _)
    clear hR hu hBn
    go_wp2_with fail
    refine (HJ.out _).mono ?_
    rintro e wj ⟨rfl, hwj⟩
    have hwj := hwj.symm
    subst hwj
    go_wp2
    refine bodyPost_ret (v := .agg #[.int .u64 0, .int .u64 0, .int .u64 0, .int .u64 0, .int .u8 0, .bool false, .int .i64 0, .int .i64 6]) ?_ rfl ⟨rfl, xdv HB.out (Nat.le_refl w.heap.size) _ _ _ _ _ _ _ _⟩
    simp [results, Tryz.results63, go_sem, *]
   rw [if_neg h6] at ht
   have hn6 : ((u.next : Int) + 1 == (s.size : Int)) = false := by rw [beq_eq_false_iff_ne]; omega
   by_cases h7 : u.bound = false
   ·rw [if_pos h7] at ht
    have hnb : (!u.bound) = true := by rw [h7]; rfl
    clear h7
    subst ht
    simp only [It.err]
    unfold xad
    rw [xaa, xaa, xaa, xaa]
    go_enter Tryz.func63, Tryz.ntmps63
    go_wp2_with fail
    refine (HI.out _).mono ?_
    rintro e w1 ⟨rfl, hbw1⟩
    have hsw1 := hbw1.size
    have hltw1 : w.heap.size < w1.heap.size := by omega
    have hal := (Below.refl w1.heap.size w1).alloc (Nat.le_refl _) (.cells #[.int .u64 (wd u.q 0), .int .u64 (wd u.q 1), .int .u64 (wd u.q 2), .int .u64 (wd u.q 3), .int .u8 u.b, .bool u.bound, .int .i64 u.next, .int .i64 u.e] 103)
    have hR := (HR.out.below hbw1 (by omega)).below hal (by omega)
    have hu := HoldsV.new w1 #[.int .u64 (wd u.q 0), .int .u64 (wd u.q 1), .int .u64 (wd u.q 2), .int .u64 (wd u.q 3), .int .u8 u.b, .bool u.bound, .int .i64 u.next, .int .i64 u.e] 103
    have hBn := (HB.out.trans (hbw1.mono HB.out.size)).alloc (HB.out.trans (hbw1.mono HB.out.size)).size (.cells #[.int .u64 (wd u.q 0), .int .u64 (wd u.q 1), .int .u64 (wd u.q 2), .int .u64 (wd u.q 3), .int .u8 u.b, .bool u.bound, .int .i64 u.next, .int .i64 u.e] 103)
    have hszu : (w1.alloc (.cells #[.int .u64 (wd u.q 0), .int .u64 (wd u.q 1), .int .u64 (wd u.q 2), .int .u64 (wd u.q 3), .int .u8 u.b, .bool u.bound, .int .i64 u.next, .int .i64 u.e] 103)).heap.size = w1.heap.size + 1 := by simp
    obtain ⟨Wu, hWu⟩ : ∃ Wu, w1.alloc (.cells #[.int .u64 (wd u.q 0), .int .u64 (wd u.q 1), .int .u64 (wd u.q 2), .int .u64 (wd u.q 3), .int .u8 u.b, .bool u.bound, .int .i64 u.next, .int .i64 u.e] 103) = Wu := ⟨_, rfl⟩
    rw [hWu] at hR hu hBn hszu
    clear hbw1 hal r0 rf0 r1 rf1 r2 rf2 r3 rf3 r4 rf4 r5 rf5 r6 rf6 r7 rf7 
    have HR := hide hR
    have Hu := hide hu
    have HB := hide hBn
    obtain ⟨⟨r0, rf0⟩, ⟨r1, rf1⟩, ⟨r2, rf2⟩, ⟨r3, rf3⟩, ⟨r4, rf4⟩, ⟨r5, rf5⟩, ⟨r6, rf6⟩, ⟨r7, rf7⟩⟩ := (⟨hR 0 _ rfl, hR 1 _ rfl, hR 2 _ rfl, hR 3 _ rfl, hR 4 _ rfl, hR 5 _ rfl, hR 6 _ rfl, hR 7 _ rfl⟩ : _ ∧ _ ∧ _ ∧ _ ∧ _ ∧ _ ∧ _ ∧ _)
    obtain ⟨⟨u0, uf0⟩, ⟨u1, uf1⟩, ⟨u2, uf2⟩, ⟨u3, uf3⟩, ⟨u4, uf4⟩, ⟨u5, uf5⟩, ⟨u6, uf6⟩, ⟨u7, uf7⟩⟩ := (⟨hu 0 _ rfl, hu 1 _ rfl, hu 2 _ rfl, hu 3 _ rfl, hu 4 _ rfl, hu 5 _ rfl, hu 6 _ rfl, hu 7 _ rfl⟩ : _ ∧ _ ∧ _ ∧ _ ∧ _ ∧ _ ∧ _ ∧ _)
    clear hR hu hBn
    go_wp2_with fail
    refine (HJ.out _).mono ?_
    rintro e wj ⟨rfl, hwj⟩
    have hwj := hwj.symm
    subst hwj
    go_wp2
    refine bodyPost_ret (v := .agg #[.int .u64 0, .int .u64 0, .int .u64 0, .int .u64 0, .int .u8 0, .bool false, .int .i64 0, .int .i64 7]) ?_ rfl ⟨rfl, xdv HB.out (Nat.le_refl w.heap.size) _ _ _ _ _ _ _ _⟩
    simp [results, Tryz.results63, go_sem, *]
   rw [if_neg h7] at ht
   have hnb : (!u.bound) = false := by simpa using h7
   clear h7
   have hK := xhk s hs (u.next + 1) (by omega)
   have hvb := xj0 s (u.next + 1)
   have hvn := (xch s (u.next + 1)).1
   generalize xan s (u.next + 1) = v at *
   have HK := hide hK
   clear hK
   by_cases he2 : v.e = 0
   ·rw [if_neg (by simp [he2])] at ht
    have hne2 : (v.e != 0) = false := by simp [he2]
    clear he2
    by_cases h8 : v.bound = false
    ·rw [if_pos h8] at ht
     have hnv : (!v.bound) = true := by rw [h8]; rfl
     clear h8
     subst ht
     simp only [It.err]
     unfold xad
     rw [xaa, xaa, xaa, xaa]
     go_enter Tryz.func63, Tryz.ntmps63
     go_wp2_with fail
     refine (HI.out _).mono ?_
     rintro e w1 ⟨rfl, hbw1⟩
     have hsw1 := hbw1.size
     have hltw1 : w.heap.size < w1.heap.size := by omega
     have hal := (Below.refl w1.heap.size w1).alloc (Nat.le_refl _) (.cells #[.int .u64 (wd u.q 0), .int .u64 (wd u.q 1), .int .u64 (wd u.q 2), .int .u64 (wd u.q 3), .int .u8 u.b, .bool u.bound, .int .i64 u.next, .int .i64 u.e] 103)
     have hR := (HR.out.below hbw1 (by omega)).below hal (by omega)
     have hu := HoldsV.new w1 #[.int .u64 (wd u.q 0), .int .u64 (wd u.q 1), .int .u64 (wd u.q 2), .int .u64 (wd u.q 3), .int .u8 u.b, .bool u.bound, .int .i64 u.next, .int .i64 u.e] 103
     have hBn := (HB.out.trans (hbw1.mono HB.out.size)).alloc (HB.out.trans (hbw1.mono HB.out.size)).size (.cells #[.int .u64 (wd u.q 0), .int .u64 (wd u.q 1), .int .u64 (wd u.q 2), .int .u64 (wd u.q 3), .int .u8 u.b, .bool u.bound, .int .i64 u.next, .int .i64 u.e] 103)
     have hszu : (w1.alloc (.cells #[.int .u64 (wd u.q 0), .int .u64 (wd u.q 1), .int .u64 (wd u.q 2), .int .u64 (wd u.q 3), .int .u8 u.b, .bool u.bound, .int .i64 u.next, .int .i64 u.e] 103)).heap.size = w1.heap.size + 1 := by simp
     obtain ⟨Wu, hWu⟩ : ∃ Wu, w1.alloc (.cells #[.int .u64 (wd u.q 0), .int .u64 (wd u.q 1), .int .u64 (wd u.q 2), .int .u64 (wd u.q 3), .int .u8 u.b, .bool u.bound, .int .i64 u.next, .int .i64 u.e] 103) = Wu := ⟨_, rfl⟩
     rw [hWu] at hR hu hBn hszu
     clear hbw1 hal r0 rf0 r1 rf1 r2 rf2 r3 rf3 r4 rf4 r5 rf5 r6 rf6 r7 rf7 
     have HR := hide hR
     have Hu := hide hu
     have HB := hide hBn
     obtain ⟨⟨r0, rf0⟩, ⟨r1, rf1⟩, ⟨r2, rf2⟩, ⟨r3, rf3⟩, ⟨r4, rf4⟩, ⟨r5, rf5⟩, ⟨r6, rf6⟩, ⟨r7, rf7⟩⟩ := (⟨hR 0 _ rfl, hR 1 _ rfl, hR 2 _ rfl, hR 3 _ rfl, hR 4 _ rfl, hR 5 _ rfl, hR 6 _ rfl, hR 7 _ rfl⟩ : _ ∧ _ ∧ _ ∧ _ ∧ _ ∧ _ ∧ _ ∧ _)
     obtain ⟨⟨u0, uf0⟩, ⟨u1, uf1⟩, ⟨u2, uf2⟩, ⟨u3, uf3⟩, ⟨u4, uf4⟩, ⟨u5, uf5⟩, ⟨u6, uf6⟩, ⟨u7, uf7⟩⟩ := (⟨hu 0 _ rfl, hu 1 _ rfl, hu 2 _ rfl, hu 3 _ rfl, hu 4 _ rfl, hu 5 _ rfl, hu 6 _ rfl, hu 7 _ rfl⟩ : _ ∧ _ ∧ _ ∧ _ ∧ _ ∧ _ ∧ _ ∧ _)
     clear hR hu hBn
     go_wp2_with fail
     refine (HJ.out _).mono ?_
     rintro e wj ⟨rfl, hwj⟩
     have hwj := hwj.symm
     subst hwj
     go_wp2_with fail
     refine (HK.out _).mono ?_
     rintro e w3 ⟨rfl, hbw3⟩
     have hsw3 := hbw3.size
     have hltw3 : w.heap.size < w3.heap.size := by omega
     have hal := (Below.refl w3.heap.size w3).alloc (Nat.le_refl _) (.cells #[.int .u64 (wd v.q 0), .int .u64 (wd v.q 1), .int .u64 (wd v.q 2), .int .u64 (wd v.q 3), .int .u8 v.b, .bool v.bound, .int .i64 v.next, .int .i64 v.e] 103)
     have hR := (HR.out.below hbw3 (by omega)).below hal (by omega)
     have hu := (Hu.out.below hbw3 (by omega)).below hal (by omega)
     have hv := HoldsV.new w3 #[.int .u64 (wd v.q 0), .int .u64 (wd v.q 1), .int .u64 (wd v.q 2), .int .u64 (wd v.q 3), .int .u8 v.b, .bool v.bound, .int .i64 v.next, .int .i64 v.e] 103
     have hBn := (HB.out.trans (hbw3.mono HB.out.size)).alloc (HB.out.trans (hbw3.mono HB.out.size)).size (.cells #[.int .u64 (wd v.q 0), .int .u64 (wd v.q 1), .int .u64 (wd v.q 2), .int .u64 (wd v.q 3), .int .u8 v.b, .bool v.bound, .int .i64 v.next, .int .i64 v.e] 103)
     have hszv : (w3.alloc (.cells #[.int .u64 (wd v.q 0), .int .u64 (wd v.q 1), .int .u64 (wd v.q 2), .int .u64 (wd v.q 3), .int .u8 v.b, .bool v.bound, .int .i64 v.next, .int .i64 v.e] 103)).heap.size = w3.heap.size + 1 := by simp
     obtain ⟨Wv, hWv⟩ : ∃ Wv, w3.alloc (.cells #[.int .u64 (wd v.q 0), .int .u64 (wd v.q 1), .int .u64 (wd v.q 2), .int .u64 (wd v.q 3), .int .u8 v.b, .bool v.bound, .int .i64 v.next, .int .i64 v.e] 103) = Wv := ⟨_, rfl⟩
     rw [hWv] at hR hu hv hBn hszv
     clear hbw3 hal r0 rf0 r1 rf1 r2 rf2 r3 rf3 r4 rf4 r5 rf5 r6 rf6 r7 rf7 u0 uf0 u1 uf1 u2 uf2 u3 uf3 u4 uf4 u5 uf5 u6 uf6 u7 uf7
     have HR := hide hR
     have Hu := hide hu
     have Hv := hide hv
     have HB := hide hBn
     obtain ⟨⟨r0, rf0⟩, ⟨r1, rf1⟩, ⟨r2, rf2⟩, ⟨r3, rf3⟩, ⟨r4, rf4⟩, ⟨r5, rf5⟩, ⟨r6, rf6⟩, ⟨r7, rf7⟩⟩ := (⟨hR 0 _ rfl, hR 1 _ rfl, hR 2 _ rfl, hR 3 _ rfl, hR 4 _ rfl, hR 5 _ rfl, hR 6 _ rfl, hR 7 _ rfl⟩ : _ ∧ _ ∧ _ ∧ _ ∧ _ ∧ _ ∧ _ ∧ _)
     obtain ⟨⟨u0, uf0⟩, ⟨u1, uf1⟩, ⟨u2, uf2⟩, ⟨u3, uf3⟩, ⟨u4, uf4⟩, ⟨u5, uf5⟩, ⟨u6, uf6⟩, ⟨u7, uf7⟩⟩ := (⟨hu 0 _ rfl, hu 1 _ rfl, hu 2 _ rfl, hu 3 _ rfl, hu 4 _ rfl, hu 5 _ rfl, hu 6 _ rfl, hu 7 _ rfl⟩ : _ ∧ _ ∧ _ ∧ _ ∧ _ ∧ _ ∧ _ ∧ _)
     obtain ⟨⟨v0, vf0⟩, ⟨v1, vf1⟩, ⟨v2, vf2⟩, ⟨v3, vf3⟩, ⟨v4, vf4⟩, ⟨v5, vf5⟩, ⟨v6, vf6⟩, ⟨v7, vf7⟩⟩ := (⟨hv 0 _ rfl, hv 1 _ rfl, hv 2 _ rfl, hv 3 _ rfl, hv 4 _ rfl, hv 5 _ rfl, hv 6 _ rfl, hv 7 _ rfl⟩ : _ ∧ _ ∧ _ ∧ _ ∧ _ ∧ _ ∧ _ ∧ _)
     clear hR hu hv hBn
     go_wp2
     refine bodyPost_ret (v := .agg #[.int .u64 0, .int .u64 0, .int .u64 0, .int .u64 0, .int .u8 0, .bool false, .int .i64 0, .int .i64 7]) ?_ rfl ⟨rfl, xdv HB.out (Nat.le_refl w.heap.size) _ _ _ _ _ _ _ _⟩
     simp [results, Tryz.results63, go_sem, *]
    rw [if_neg h8] at ht
    have hnv : (!v.bound) = false := by simpa using h8
    clear h8
    by_cases hlt2 : v.b < u.b
    ·rw [if_pos hlt2] at ht
     subst ht
     simp only [It.err]
     unfold xad
     rw [xaa, xaa, xaa, xaa]
     go_enter Tryz.func63, Tryz.ntmps63
     go_wp2_with fail
     refine (HI.out _).mono ?_
     rintro e w1 ⟨rfl, hbw1⟩
     have hsw1 := hbw1.size
     have hltw1 : w.heap.size < w1.heap.size := by omega
     have hal := (Below.refl w1.heap.size w1).alloc (Nat.le_refl _) (.cells #[.int .u64 (wd u.q 0), .int .u64 (wd u.q 1), .int .u64 (wd u.q 2), .int .u64 (wd u.q 3), .int .u8 u.b, .bool u.bound, .int .i64 u.next, .int .i64 u.e] 103)
     have hR := (HR.out.below hbw1 (by omega)).below hal (by omega)
     have hu := HoldsV.new w1 #[.int .u64 (wd u.q 0), .int .u64 (wd u.q 1), .int .u64 (wd u.q 2), .int .u64 (wd u.q 3), .int .u8 u.b, .bool u.bound, .int .i64 u.next, .int .i64 u.e] 103
     have hBn := (HB.out.trans (hbw1.mono HB.out.size)).alloc (HB.out.trans (hbw1.mono HB.out.size)).size (.cells #[.int .u64 (wd u.q 0), .int .u64 (wd u.q 1), .int .u64 (wd u.q 2), .int .u64 (wd u.q 3), .int .u8 u.b, .bool u.bound, .int .i64 u.next, .int .i64 u.e] 103)
     have hszu : (w1.alloc (.cells #[.int .u64 (wd u.q 0), .int .u64 (wd u.q 1), .int .u64 (wd u.q 2), .int .u64 (wd u.q 3), .int .u8 u.b, .bool u.bound, .int .i64 u.next, .int .i64 u.e] 103)).heap.size = w1.heap.size + 1 := by simp
     obtain ⟨Wu, hWu⟩ : ∃ Wu, w1.alloc (.cells #[.int .u64 (wd u.q 0), .int .u64 (wd u.q 1), .int .u64 (wd u.q 2), .int .u64 (wd u.q 3), .int .u8 u.b, .bool u.bound, .int .i64 u.next, .int .i64 u.e] 103) = Wu := ⟨_, rfl⟩
     rw [hWu] at hR hu hBn hszu
     clear hbw1 hal r0 rf0 r1 rf1 r2 rf2 r3 rf3 r4 rf4 r5 rf5 r6 rf6 r7 rf7 
     have HR := hide hR
     have Hu := hide hu
     have HB := hide hBn
     obtain ⟨⟨r0, rf0⟩, ⟨r1, rf1⟩, ⟨r2, rf2⟩, ⟨r3, rf3⟩, ⟨r4, rf4⟩, ⟨r5, rf5⟩, ⟨r6, rf6⟩, ⟨r7, rf7⟩⟩ := (⟨hR 0 _ rfl, hR 1 _ rfl, hR 2 _ rfl, hR 3 _ rfl, hR 4 _ rfl, hR 5 _ rfl, hR 6 _ rfl, hR 7 _ rfl⟩ : _ ∧ _ ∧ _ ∧ _ ∧ _ ∧ _ ∧ _ ∧ _)
     obtain ⟨⟨u0, uf0⟩, ⟨u1, uf1⟩, ⟨u2, uf2⟩, ⟨u3, uf3⟩, ⟨u4, uf4⟩, ⟨u5, uf5⟩, ⟨u6, uf6⟩, ⟨u7, uf7⟩⟩ := (⟨hu 0 _ rfl, hu 1 _ rfl, hu 2 _ rfl, hu 3 _ rfl, hu 4 _ rfl, hu 5 _ rfl, hu 6 _ rfl, hu 7 _ rfl⟩ : _ ∧ _ ∧ _ ∧ _ ∧ _ ∧ _ ∧ _ ∧ _)
     clear hR hu hBn
     go_wp2_with fail
     refine (HJ.out _).mono ?_
     rintro e wj ⟨rfl, hwj⟩
     have hwj := hwj.symm
     subst hwj
     go_wp2_with fail
     refine (HK.out _).mono ?_
     rintro e w3 ⟨rfl, hbw3⟩
     have hsw3 := hbw3.size
     have hltw3 : w.heap.size < w3.heap.size := by omega
     have hal := (Below.refl w3.heap.size w3).alloc (Nat.le_refl _) (.cells #[.int .u64 (wd v.q 0), .int .u64 (wd v.q 1), .int .u64 (wd v.q 2), .int .u64 (wd v.q 3), .int .u8 v.b, .bool v.bound, .int .i64 v.next, .int .i64 v.e] 103)
     have hR := (HR.out.below hbw3 (by omega)).below hal (by omega)
     have hu := (Hu.out.below hbw3 (by omega)).below hal (by omega)
     have hv := HoldsV.new w3 #[.int .u64 (wd v.q 0), .int .u64 (wd v.q 1), .int .u64 (wd v.q 2), .int .u64 (wd v.q 3), .int .u8 v.b, .bool v.bound, .int .i64 v.next, .int .i64 v.e] 103
     have hBn := (HB.out.trans (hbw3.mono HB.out.size)).alloc (HB.out.trans (hbw3.mono HB.out.size)).size (.cells #[.int .u64 (wd v.q 0), .int .u64 (wd v.q 1), .int .u64 (wd v.q 2), .int .u64 (wd v.q 3), .int .u8 v.b, .bool v.bound, .int .i64 v.next, .int .i64 v.e] 103)
     have hszv : (w3.alloc (.cells #[.int .u64 (wd v.q 0), .int .u64 (wd v.q 1), .int .u64 (wd v.q 2), .int .u64 (wd v.q 3), .int .u8 v.b, .bool v.bound, .int .i64 v.next, .int .i64 v.e] 103)).heap.size = w3.heap.size + 1 := by simp
     obtain ⟨Wv, hWv⟩ : ∃ Wv, w3.alloc (.cells #[.int .u64 (wd v.q 0), .int .u64 (wd v.q 1), .int .u64 (wd v.q 2), .int .u64 (wd v.q 3), .int .u8 v.b, .bool v.bound, .int .i64 v.next, .int .i64 v.e] 103) = Wv := ⟨_, rfl⟩
     rw [hWv] at hR hu hv hBn hszv
     clear hbw3 hal r0 rf0 r1 rf1 r2 rf2 r3 rf3 r4 rf4 r5 rf5 r6 rf6 r7 rf7 u0 uf0 u1 uf1 u2 uf2 u3 uf3 u4 uf4 u5 uf5 u6 uf6 u7 uf7
     have HR := hide hR
     have Hu := hide hu
     have Hv := hide hv
     have HB := hide hBn
     obtain ⟨⟨r0, rf0⟩, ⟨r1, rf1⟩, ⟨r2, rf2⟩, ⟨r3, rf3⟩, ⟨r4, rf4⟩, ⟨r5, rf5⟩, ⟨r6, rf6⟩, ⟨r7, rf7⟩⟩ := (⟨hR 0 _ rfl, hR 1 _ rfl, hR 2 _ rfl, hR 3 _ rfl, hR 4 _ rfl, hR 5 _ rfl, hR 6 _ rfl, hR 7 _ rfl⟩ : _ ∧ _ ∧ _ ∧ _ ∧ _ ∧ _ ∧ _ ∧ _)
     obtain ⟨⟨u0, uf0⟩, ⟨u1, uf1⟩, ⟨u2, uf2⟩, ⟨u3, uf3⟩, ⟨u4, uf4⟩, ⟨u5, uf5⟩, ⟨u6, uf6⟩, ⟨u7, uf7⟩⟩ := (⟨hu 0 _ rfl, hu 1 _ rfl, hu 2 _ rfl, hu 3 _ rfl, hu 4 _ rfl, hu 5 _ rfl, hu 6 _ rfl, hu 7 _ rfl⟩ : _ ∧ _ ∧ _ ∧ _ ∧ _ ∧ _ ∧ _ ∧ _)
     obtain ⟨⟨v0, vf0⟩, ⟨v1, vf1⟩, ⟨v2, vf2⟩, ⟨v3, vf3⟩, ⟨v4, vf4⟩, ⟨v5, vf5⟩, ⟨v6, vf6⟩, ⟨v7, vf7⟩⟩ := (⟨hv 0 _ rfl, hv 1 _ rfl, hv 2 _ rfl, hv 3 _ rfl, hv 4 _ rfl, hv 5 _ rfl, hv 6 _ rfl, hv 7 _ rfl⟩ : _ ∧ _ ∧ _ ∧ _ ∧ _ ∧ _ ∧ _ ∧ _)
     clear hR hu hv hBn
     go_wp2
     refine bodyPost_ret (v := .agg #[.int .u64 0, .int .u64 0, .int .u64 0, .int .u64 0, .int .u8 0, .bool false, .int .i64 0, .int .i64 7]) ?_ rfl ⟨rfl, xdv HB.out (Nat.le_refl w.heap.size) _ _ _ _ _ _ _ _⟩
     simp [results, Tryz.results63, go_sem, *]
    rw [if_neg hlt2] at ht
    have hJ2 := xoh s hs v.next (by omega)
    by_cases hj2 : xbk s v.next = true
    ·rw [if_pos hj2] at ht
     rw [hj2] at hJ2
     have HJ2 := hide hJ2
     clear hj2 hJ2
     subst ht
     simp only [It.err]
     unfold xad
     rw [xaa, xaa, xaa, xaa]
     go_enter Tryz.func63, Tryz.ntmps63
     go_wp2_with fail
     refine (HI.out _).mono ?_
     rintro e w1 ⟨rfl, hbw1⟩
     have hsw1 := hbw1.size
     have hltw1 : w.heap.size < w1.heap.size := by omega
     have hal := (Below.refl w1.heap.size w1).alloc (Nat.le_refl _) (.cells #[.int .u64 (wd u.q 0), .int .u64 (wd u.q 1), .int .u64 (wd u.q 2), .int .u64 (wd u.q 3), .int .u8 u.b, .bool u.bound, .int .i64 u.next, .int .i64 u.e] 103)
     have hR := (HR.out.below hbw1 (by omega)).below hal (by omega)
     have hu := HoldsV.new w1 #[.int .u64 (wd u.q 0), .int .u64 (wd u.q 1), .int .u64 (wd u.q 2), .int .u64 (wd u.q 3), .int .u8 u.b, .bool u.bound, .int .i64 u.next, .int .i64 u.e] 103
     have hBn := (HB.out.trans (hbw1.mono HB.out.size)).alloc (HB.out.trans (hbw1.mono HB.out.size)).size (.cells #[.int .u64 (wd u.q 0), .int .u64 (wd u.q 1), .int .u64 (wd u.q 2), .int .u64 (wd u.q 3), .int .u8 u.b, .bool u.bound, .int .i64 u.next, .int .i64 u.e] 103)
     have hszu : (w1.alloc (.cells #[.int .u64 (wd u.q 0), .int .u64 (wd u.q 1), .int .u64 (wd u.q 2), .int .u64 (wd u.q 3), .int .u8 u.b, .bool u.bound, .int .i64 u.next, .int .i64 u.e] 103)).heap.size = w1.heap.size + 1 := by simp
     obtain ⟨Wu, hWu⟩ : ∃ Wu, w1.alloc (.cells #[.int .u64 (wd u.q 0), .int .u64 (wd u.q 1), .int .u64 (wd u.q 2), .int .u64 (wd u.q 3), .int .u8 u.b, .bool u.bound, .int .i64 u.next, .int .i64 u.e] 103) = Wu := ⟨_, rfl⟩
     rw [hWu] at hR hu hBn hszu
     clear hbw1 hal r0 rf0 r1 rf1 r2 rf2 r3 rf3 r4 rf4 r5 rf5 r6 rf6 r7 rf7 
     have HR := hide hR
     have Hu := hide hu
     have HB := hide hBn
     obtain ⟨⟨r0, rf0⟩, ⟨r1, rf1⟩, ⟨r2, rf2⟩, ⟨r3, rf3⟩, ⟨r4, rf4⟩, ⟨r5, rf5⟩, ⟨r6, rf6⟩, ⟨r7, rf7⟩⟩ := (⟨hR 0 _ rfl, hR 1 _ rfl, hR 2 _ rfl, hR 3 _ rfl, hR 4 _ rfl, hR 5 _ rfl, hR 6 _ rfl, hR 7 _ rfl⟩ : _ ∧ _ ∧ _ ∧ _ ∧ _ ∧ _ ∧ _ ∧ _)
     obtain ⟨⟨u0, uf0⟩, ⟨u1, uf1⟩, ⟨u2, uf2⟩, ⟨u3, uf3⟩, ⟨u4, uf4⟩, ⟨u5, uf5⟩, ⟨u6, uf6⟩, ⟨u7, uf7⟩⟩ := (⟨hu 0 _ rfl, hu 1 _ rfl, hu 2 _ rfl, hu 3 _ rfl, hu 4 _ rfl, hu 5 _ rfl, hu 6 _ rfl, hu 7 _ rfl⟩ : _ ∧ _ ∧ _ ∧ _ ∧ _ ∧ _ ∧ _ ∧ _)
     clear hR hu hBn
     go_wp2_with fail
     refine (HJ.out _).mono ?_
     rintro e wj ⟨rfl, hwj⟩
     have hwj := hwj.symm
     subst hwj
     go_wp2_with fail
     refine (HK.out _).mono ?_
     rintro e w3 ⟨rfl, hbw3⟩
     have hsw3 := hbw3.size
     have hltw3 : w.heap.size < w3.heap.size := by omega
     have hal := (Below.refl w3.heap.size w3).alloc (Nat.le_refl _) (.cells #[.int .u64 (wd v.q 0), .int .u64 (wd v.q 1), .int .u64 (wd v.q 2), .int .u64 (wd v.q 3), .int .u8 v.b, .bool v.bound, .int .i64 v.next, .int .i64 v.e] 103)
     have hR := (HR.out.below hbw3 (by omega)).below hal (by omega)
     have hu := (Hu.out.below hbw3 (by omega)).below hal (by omega)
     have hv := HoldsV.new w3 #[.int .u64 (wd v.q 0), .int .u64 (wd v.q 1), .int .u64 (wd v.q 2), .int .u64 (wd v.q 3), .int .u8 v.b, .bool v.bound, .int .i64 v.next, .int .i64 v.e] 103
     have hBn := (HB.out.trans (hbw3.mono HB.out.size)).alloc (HB.out.trans (hbw3.mono HB.out.size)).size (.cells #[.int .u64 (wd v.q 0), .int .u64 (wd v.q 1), .int .u64 (wd v.q 2), .int .u64 (wd v.q 3), .int .u8 v.b, .bool v.bound, .int .i64 v.next, .int .i64 v.e] 103)
     have hszv : (w3.alloc (.cells #[.int .u64 (wd v.q 0), .int .u64 (wd v.q 1), .int .u64 (wd v.q 2), .int .u64 (wd v.q 3), .int .u8 v.b, .bool v.bound, .int .i64 v.next, .int .i64 v.e] 103)).heap.size = w3.heap.size + 1 := by simp
     obtain ⟨Wv, hWv⟩ : ∃ Wv, w3.alloc (.cells #[.int .u64 (wd v.q 0), .int .u64 (wd v.q 1), .int .u64 (wd v.q 2), .int .u64 (wd v.q 3), .int .u8 v.b, .bool v.bound, .int .i64 v.next, .int .i64 v.e] 103) = Wv := ⟨_, rfl⟩
     rw [hWv] at hR hu hv hBn hszv
     clear hbw3 hal r0 rf0 r1 rf1 r2 rf2 r3 rf3 r4 rf4 r5 rf5 r6 rf6 r7 rf7 u0 uf0 u1 uf1 u2 uf2 u3 uf3 u4 uf4 u5 uf5 u6 uf6 u7 uf7
     have HR := hide hR
     have Hu := hide hu
     have Hv := hide hv
     have HB := hide hBn
     obtain ⟨⟨r0, rf0⟩, ⟨r1, rf1⟩, ⟨r2, rf2⟩, ⟨r3, rf3⟩, ⟨r4, rf4⟩, ⟨r5, rf5⟩, ⟨r6, rf6⟩, ⟨r7, rf7⟩⟩ := (⟨hR 0 _ rfl, hR 1 _ rfl, hR 2 _ rfl, hR 3 _ rfl, hR 4 _ rfl, hR 5 _ rfl, hR 6 _ rfl, hR 7 _ rfl⟩ : _ ∧ _ ∧ _ ∧ _ ∧ _ ∧ _ ∧ _ ∧ _)
     obtain ⟨⟨u0, uf0⟩, ⟨u1, uf1⟩, ⟨u2, uf2⟩, ⟨u3, uf3⟩, ⟨u4, uf4⟩, ⟨u5, uf5⟩, ⟨u6, uf6⟩, ⟨u7, uf7⟩⟩ := (⟨hu 0 _ rfl, hu 1 _ rfl, hu 2 _ rfl, hu 3 _ rfl, hu 4 _ rfl, hu 5 _ rfl, hu 6 _ rfl, hu 7 _ rfl⟩ : _ ∧ _ ∧ _ ∧ _ ∧ _ ∧ _ ∧ _ ∧ _)
     obtain ⟨⟨v0, vf0⟩, ⟨v1, vf1⟩, ⟨v2, vf2⟩, ⟨v3, vf3⟩, ⟨v4, vf4⟩, ⟨v5, vf5⟩, ⟨v6, vf6⟩, ⟨v7, vf7⟩⟩ := (⟨hv 0 _ rfl, hv 1 _ rfl, hv 2 _ rfl, hv 3 _ rfl, hv 4 _ rfl, hv 5 _ rfl, hv 6 _ rfl, hv 7 _ rfl⟩ : _ ∧ _ ∧ _ ∧ _ ∧ _ ∧ _ ∧ _ ∧ _)
     clear hR hu hv hBn
     go_wp2_with fail
     refine (HJ2.out _).mono ?_
     rintro e wj ⟨rfl, hwj⟩
     have hwj := hwj.symm
     subst hwj
     go_wp2
     refine bodyPost_ret (v := .agg #[.int .u64 0, .int .u64 0, .int .u64 0, .int .u64 0, .int .u8 0, .bool false, .int .i64 0, .int .i64 7]) ?_ rfl ⟨rfl, xdv HB.out (Nat.le_refl w.heap.size) _ _ _ _ _ _ _ _⟩
     simp [results, Tryz.results63, go_sem, *]
    rw [if_neg hj2] at ht
    rw [Bool.not_eq_true] at hj2
    rw [hj2] at hJ2
    have HJ2 := hide hJ2
    clear hj2 hJ2
    have HS := hide (xog u.b v.b hub.1 (by omega) hvb.2)
    subst ht
    simp only []
    go_enter Tryz.func63, Tryz.ntmps63
    go_wp2_with fail
    refine (HI.out _).mono ?_
    rintro e w1 ⟨rfl, hbw1⟩
    have hsw1 := hbw1.size
    have hltw1 : w.heap.size < w1.heap.size := by omega
    have hal := (Below.refl w1.heap.size w1).alloc (Nat.le_refl _) (.cells #[.int .u64 (wd u.q 0), .int .u64 (wd u.q 1), .int .u64 (wd u.q 2), .int .u64 (wd u.q 3), .int .u8 u.b, .bool u.bound, .int .i64 u.next, .int .i64 u.e] 103)
    have hR := (HR.out.below hbw1 (by omega)).below hal (by omega)
    have hu := HoldsV.new w1 #[.int .u64 (wd u.q 0), .int .u64 (wd u.q 1), .int .u64 (wd u.q 2), .int .u64 (wd u.q 3), .int .u8 u.b, .bool u.bound, .int .i64 u.next, .int .i64 u.e] 103
    have hBn := (HB.out.trans (hbw1.mono HB.out.size)).alloc (HB.out.trans (hbw1.mono HB.out.size)).size (.cells #[.int .u64 (wd u.q 0), .int .u64 (wd u.q 1), .int .u64 (wd u.q 2), .int .u64 (wd u.q 3), .int .u8 u.b, .bool u.bound, .int .i64 u.next, .int .i64 u.e] 103)
    have hszu : (w1.alloc (.cells #[.int .u64 (wd u.q 0), .int .u64 (wd u.q 1), .int .u64 (wd u.q 2), .int .u64 (wd u.q 3), .int .u8 u.b, .bool u.bound, .int .i64 u.next, .int .i64 u.e] 103)).heap.size = w1.heap.size + 1 := by simp
    obtain ⟨Wu, hWu⟩ : ∃ Wu, w1.alloc (.cells #[.int .u64 (wd u.q 0), .int .u64 (wd u.q 1), .int .u64 (wd u.q 2), .int .u64 (wd u.q 3), .int .u8 u.b, .bool u.bound, .int .i64 u.next, .int .i64 u.e] 103) = Wu := ⟨_, rfl⟩
    rw [hWu] at hR hu hBn hszu
    clear hbw1 hal r0 rf0 r1 rf1 r2 rf2 r3 rf3 r4 rf4 r5 rf5 r6 rf6 r7 rf7 
    have HR := hide hR
    have Hu := hide hu
    have HB := hide hBn
    obtain ⟨⟨r0, rf0⟩, ⟨r1, rf1⟩, ⟨r2, rf2⟩, ⟨r3, rf3⟩, ⟨r4, rf4⟩, ⟨r5, rf5⟩, ⟨r6, rf6⟩, ⟨r7, rf7⟩⟩ := (⟨hR 0 _ rfl, hR 1 _ rfl, hR 2 _ rfl, hR 3 _ rfl, hR 4 _ rfl, hR 5 _ rfl, hR 6 _ rfl, hR 7 _ rfl⟩ : _ ∧ _ ∧ _ ∧ _ ∧ _ ∧ _ ∧ _ ∧ _)
    obtain ⟨⟨u0, uf0⟩, ⟨u1, uf1⟩, ⟨u2, uf2⟩, ⟨u3, uf3⟩, ⟨u4, uf4⟩, ⟨u5, uf5⟩, ⟨u6, uf6⟩, ⟨u7, uf7⟩⟩ := (⟨hu 0 _ rfl, hu 1 _ rfl, hu 2 _ rfl, hu 3 _ rfl, hu 4 _ rfl, hu 5 _ rfl, hu 6 _ rfl, hu 7 _ rfl⟩ : _ ∧ _ ∧ _ ∧ _ ∧ _ ∧ _ ∧ _ ∧ _)
    clear hR hu hBn
    go_wp2_with fail
    refine (HJ.out _).mono ?_
    rintro e wj ⟨rfl, hwj⟩
    have hwj := hwj.symm
    subst hwj
    go_wp2_with fail
    refine (HK.out _).mono ?_
    rintro e w3 ⟨rfl, hbw3⟩
    have hsw3 := hbw3.size
    have hltw3 : w.heap.size < w3.heap.size := by omega
    have hal := (Below.refl w3.heap.size w3).alloc (Nat.le_refl _) (.cells #[.int .u64 (wd v.q 0), .int .u64 (wd v.q 1), .int .u64 (wd v.q 2), .int .u64 (wd v.q 3), .int .u8 v.b, .bool v.bound, .int .i64 v.next, .int .i64 v.e] 103)
    have hR := (HR.out.below hbw3 (by omega)).below hal (by omega)
    have hu := (Hu.out.below hbw3 (by omega)).below hal (by omega)
    have hv := HoldsV.new w3 #[.int .u64 (wd v.q 0), .int .u64 (wd v.q 1), .int .u64 (wd v.q 2), .int .u64 (wd v.q 3), .int .u8 v.b, .bool v.bound, .int .i64 v.next, .int .i64 v.e] 103
    have hBn := (HB.out.trans (hbw3.mono HB.out.size)).alloc (HB.out.trans (hbw3.mono HB.out.size)).size (.cells #[.int .u64 (wd v.q 0), .int .u64 (wd v.q 1), .int .u64 (wd v.q 2), .int .u64 (wd v.q 3), .int .u8 v.b, .bool v.bound, .int .i64 v.next, .int .i64 v.e] 103)
    have hszv : (w3.alloc (.cells #[.int .u64 (wd v.q 0), .int .u64 (wd v.q 1), .int .u64 (wd v.q 2), .int .u64 (wd v.q 3), .int .u8 v.b, .bool v.bound, .int .i64 v.next, .int .i64 v.e] 103)).heap.size = w3.heap.size + 1 := by simp
    obtain ⟨Wv, hWv⟩ : ∃ Wv, w3.alloc (.cells #[.int .u64 (wd v.q 0), .int .u64 (wd v.q 1), .int .u64 (wd v.q 2), .int .u64 (wd v.q 3), .int .u8 v.b, .bool v.bound, .int .i64 v.next, .int .i64 v.e] 103) = Wv := ⟨_, rfl⟩
    rw [hWv] at hR hu hv hBn hszv
    clear hbw3 hal r0 rf0 r1 rf1 r2 rf2 r3 rf3 r4 rf4 r5 rf5 r6 rf6 r7 rf7 u0 uf0 u1 uf1 u2 uf2 u3 uf3 u4 uf4 u5 uf5 u6 uf6 u7 uf7
    have HR := hide hR
    have Hu := hide hu
    have Hv := hide hv
    have HB := hide hBn
    obtain ⟨⟨r0, rf0⟩, ⟨r1, rf1⟩, ⟨r2, rf2⟩, ⟨r3, rf3⟩, ⟨r4, rf4⟩, ⟨r5, rf5⟩, ⟨r6, rf6⟩, ⟨r7, rf7⟩⟩ := (⟨hR 0 _ rfl, hR 1 _ rfl, hR 2 _ rfl, hR 3 _ rfl, hR 4 _ rfl, hR 5 _ rfl, hR 6 _ rfl, hR 7 _ rfl⟩ : _ ∧ _ ∧ _ ∧ _ ∧ _ ∧ _ ∧ _ ∧ _)
    obtain ⟨⟨u0, uf0⟩, ⟨u1, uf1⟩, ⟨u2, uf2⟩, ⟨u3, uf3⟩, ⟨u4, uf4⟩, ⟨u5, uf5⟩, ⟨u6, uf6⟩, ⟨u7, uf7⟩⟩ := (⟨hu 0 _ rfl, hu 1 _ rfl, hu 2 _ rfl, hu 3 _ rfl, hu 4 _ rfl, hu 5 _ rfl, hu 6 _ rfl, hu 7 _ rfl⟩ : _ ∧ _ ∧ _ ∧ _ ∧ _ ∧ _ ∧ _ ∧ _)
    obtain ⟨⟨v0, vf0⟩, ⟨v1, vf1⟩, ⟨v2, vf2⟩, ⟨v3, vf3⟩, ⟨v4, vf4⟩, ⟨v5, vf5⟩, ⟨v6, vf6⟩, ⟨v7, vf7⟩⟩ := (⟨hv 0 _ rfl, hv 1 _ rfl, hv 2 _ rfl, hv 3 _ rfl, hv 4 _ rfl, hv 5 _ rfl, hv 6 _ rfl, hv 7 _ rfl⟩ : _ ∧ _ ∧ _ ∧ _ ∧ _ ∧ _ ∧ _ ∧ _)
    clear hR hu hv hBn
    go_wp2_with fail
    refine (HJ2.out _).mono ?_
    rintro e wj ⟨rfl, hwj⟩
    have hwj := hwj.symm
    subst hwj
    go_wp2_with fail
    refine (HS.out _).mono ?_
    rintro e w5 ⟨rfl, hb5⟩
    have hal := (Below.refl w5.heap.size w5).alloc (Nat.le_refl _) (.cells #[.int .u64 (wd (sP u.b.toNat v.b.toNat) 0), .int .u64 (wd (sP u.b.toNat v.b.toNat) 1), .int .u64 (wd (sP u.b.toNat v.b.toNat) 2), .int .u64 (wd (sP u.b.toNat v.b.toNat) 3)] 33)
    have hlt5 : w.heap.size < w5.heap.size := by have := hb5.size; omega
    have hlt6 : w3.heap.size < w5.heap.size := by have := hb5.size; omega
    have hR := (HR.out.below hb5 (by omega)).below hal (by omega)
    have hv := (Hv.out.below hb5 (by omega)).below hal (by omega)
    have hQ := HoldsV.new w5 #[.int .u64 (wd (sP u.b.toNat v.b.toNat) 0), .int .u64 (wd (sP u.b.toNat v.b.toNat) 1), .int .u64 (wd (sP u.b.toNat v.b.toNat) 2), .int .u64 (wd (sP u.b.toNat v.b.toNat) 3)] 33
    have hBn := (HB.out.trans (hb5.mono HB.out.size)).alloc (HB.out.trans (hb5.mono HB.out.size)).size (.cells #[.int .u64 (wd (sP u.b.toNat v.b.toNat) 0), .int .u64 (wd (sP u.b.toNat v.b.toNat) 1), .int .u64 (wd (sP u.b.toNat v.b.toNat) 2), .int .u64 (wd (sP u.b.toNat v.b.toNat) 3)] 33)
    obtain ⟨W6, hW6⟩ : ∃ W6, w5.alloc (.cells #[.int .u64 (wd (sP u.b.toNat v.b.toNat) 0), .int .u64 (wd (sP u.b.toNat v.b.toNat) 1), .int .u64 (wd (sP u.b.toNat v.b.toNat) 2), .int .u64 (wd (sP u.b.toNat v.b.toNat) 3)] 33) = W6 := ⟨_, rfl⟩
    rw [hW6] at hR hv hQ hBn
    clear hb5 hal r0 rf0 r1 rf1 r2 rf2 r3 rf3 r4 rf4 r5 rf5 r6 rf6 r7 rf7 u0 uf0 u1 uf1 u2 uf2 u3 uf3 u4 uf4 u5 uf5 u6 uf6 u7 uf7 v0 vf0 v1 vf1 v2 vf2 v3 vf3 v4 vf4 v5 vf5 v6 vf6 v7 vf7
    have HB := hide hBn
    obtain ⟨⟨r0, rf0⟩, ⟨r1, rf1⟩, ⟨r2, rf2⟩, ⟨r3, rf3⟩, ⟨r4, rf4⟩, ⟨r5, rf5⟩, ⟨r6, rf6⟩, ⟨r7, rf7⟩⟩ := (⟨hR 0 _ rfl, hR 1 _ rfl, hR 2 _ rfl, hR 3 _ rfl, hR 4 _ rfl, hR 5 _ rfl, hR 6 _ rfl, hR 7 _ rfl⟩ : _ ∧ _ ∧ _ ∧ _ ∧ _ ∧ _ ∧ _ ∧ _)
    obtain ⟨⟨v0, vf0⟩, ⟨v1, vf1⟩, ⟨v2, vf2⟩, ⟨v3, vf3⟩, ⟨v4, vf4⟩, ⟨v5, vf5⟩, ⟨v6, vf6⟩, ⟨v7, vf7⟩⟩ := (⟨hv 0 _ rfl, hv 1 _ rfl, hv 2 _ rfl, hv 3 _ rfl, hv 4 _ rfl, hv 5 _ rfl, hv 6 _ rfl, hv 7 _ rfl⟩ : _ ∧ _ ∧ _ ∧ _ ∧ _ ∧ _ ∧ _ ∧ _)
    obtain ⟨⟨q0, qf0⟩, ⟨q1, qf1⟩, ⟨q2, qf2⟩, ⟨q3, qf3⟩⟩ := (⟨hQ 0 _ rfl, hQ 1 _ rfl, hQ 2 _ rfl, hQ 3 _ rfl⟩ : _ ∧ _ ∧ _ ∧ _)
    clear hR hv hQ hBn
    go_wp2
    refine bodyPost_ret (v := .agg #[.int .u64 (wd (sP u.b.toNat v.b.toNat) 0), .int .u64 (wd (sP u.b.toNat v.b.toNat) 1), .int .u64 (wd (sP u.b.toNat v.b.toNat) 2), .int .u64 (wd (sP u.b.toNat v.b.toNat) 3), .int .u8 0, .bool false, .int .i64 v.next, .int .i64 0]) ?_ rfl ⟨rfl, xdv HB.out (Nat.le_refl w.heap.size) _ _ _ _ _ _ _ _⟩
    simp [results, Tryz.results63, go_sem, *]
   ·rw [if_pos he2] at ht
    have hne2 : (v.e != 0) = true := by simp [he2]
    clear he2
    subst ht
    go_enter Tryz.func63, Tryz.ntmps63
    go_wp2_with fail
    refine (HI.out _).mono ?_
    rintro e w1 ⟨rfl, hbw1⟩
    have hsw1 := hbw1.size
    have hltw1 : w.heap.size < w1.heap.size := by omega
    have hal := (Below.refl w1.heap.size w1).alloc (Nat.le_refl _) (.cells #[.int .u64 (wd u.q 0), .int .u64 (wd u.q 1), .int .u64 (wd u.q 2), .int .u64 (wd u.q 3), .int .u8 u.b, .bool u.bound, .int .i64 u.next, .int .i64 u.e] 103)
    have hR := (HR.out.below hbw1 (by omega)).below hal (by omega)
    have hu := HoldsV.new w1 #[.int .u64 (wd u.q 0), .int .u64 (wd u.q 1), .int .u64 (wd u.q 2), .int .u64 (wd u.q 3), .int .u8 u.b, .bool u.bound, .int .i64 u.next, .int .i64 u.e] 103
    have hBn := (HB.out.trans (hbw1.mono HB.out.size)).alloc (HB.out.trans (hbw1.mono HB.out.size)).size (.cells #[.int .u64 (wd u.q 0), .int .u64 (wd u.q 1), .int .u64 (wd u.q 2), .int .u64 (wd u.q 3), .int .u8 u.b, .bool u.bound, .int .i64 u.next, .int .i64 u.e] 103)
    have hszu : (w1.alloc (.cells #[.int .u64 (wd u.q 0), .int .u64 (wd u.q 1), .int .u64 (wd u.q 2), .int .u64 (wd u.q 3), .int .u8 u.b, .bool u.bound, .int .i64 u.next, .int .i64 u.e] 103)).heap.size = w1.heap.size + 1 := by simp
    obtain ⟨Wu, hWu⟩ : ∃ Wu, w1.alloc (.cells #[.int .u64 (wd u.q 0), .int .u64 (wd u.q 1), .int .u64 (wd u.q 2), .int .u64 (wd u.q 3), .int .u8 u.b, .bool u.bound, .int .i64 u.next, .int .i64 u.e] 103) = Wu := ⟨_, rfl⟩
    rw [hWu] at hR hu hBn hszu
    clear hbw1 hal r0 rf0 r1 rf1 r2 rf2 r3 rf3 r4 rf4 r5 rf5 r6 rf6 r7 rf7 
    have HR := hide hR
    have Hu := hide hu
    have HB := hide hBn
    obtain ⟨⟨r0, rf0⟩, ⟨r1, rf1⟩, ⟨r2, rf2⟩, ⟨r3, rf3⟩, ⟨r4, rf4⟩, ⟨r5, rf5⟩, ⟨r6, rf6⟩, ⟨r7, rf7⟩⟩ := (⟨hR 0 _ rfl, hR 1 _ rfl, hR 2 _ rfl, hR 3 _ rfl, hR 4 _ rfl, hR 5 _ rfl, hR 6 _ rfl, hR 7 _ rfl⟩ : _ ∧ _ ∧ _ ∧ _ ∧ _ ∧ _ ∧ _ ∧ _)
    obtain ⟨⟨u0, uf0⟩, ⟨u1, uf1⟩, ⟨u2, uf2⟩, ⟨u3, uf3⟩, ⟨u4, uf4⟩, ⟨u5, uf5⟩, ⟨u6, uf6⟩, ⟨u7, uf7⟩⟩ := (⟨hu 0 _ rfl, hu 1 _ rfl, hu 2 _ rfl, hu 3 _ rfl, hu 4 _ rfl, hu 5 _ rfl, hu 6 _ rfl, hu 7 _ rfl⟩ : _ ∧ _ ∧ _ ∧ _ ∧ _ ∧ _ ∧ _ ∧ _)
    clear hR hu hBn
    go_wp2_with fail
    refine (HJ.out _).mono ?_
    rintro e wj ⟨rfl, hwj⟩
    have hwj := hwj.symm
    subst hwj
    go_wp2_with fail
    refine (HK.out _).mono ?_
    rintro e w3 ⟨rfl, hbw3⟩
    have hsw3 := hbw3.size
    have hltw3 : w.heap.size < w3.heap.size := by omega
    have hal := (Below.refl w3.heap.size w3).alloc (Nat.le_refl _) (.cells #[.int .u64 (wd v.q 0), .int .u64 (wd v.q 1), .int .u64 (wd v.q 2), .int .u64 (wd v.q 3), .int .u8 v.b, .bool v.bound, .int .i64 v.next, .int .i64 v.e] 103)
    have hR := (HR.out.below hbw3 (by omega)).below hal (by omega)
    have hu := (Hu.out.below hbw3 (by omega)).below hal (by omega)
    have hv := HoldsV.new w3 #[.int .u64 (wd v.q 0), .int .u64 (wd v.q 1), .int .u64 (wd v.q 2), .int .u64 (wd v.q 3), .int .u8 v.b, .bool v.bound, .int .i64 v.next, .int .i64 v.e] 103
    have hBn := (HB.out.trans (hbw3.mono HB.out.size)).alloc (HB.out.trans (hbw3.mono HB.out.size)).size (.cells #[.int .u64 (wd v.q 0), .int .u64 (wd v.q 1), .int .u64 (wd v.q 2), .int .u64 (wd v.q 3), .int .u8 v.b, .bool v.bound, .int .i64 v.next, .int .i64 v.e] 103)
    have hszv : (w3.alloc (.cells #[.int .u64 (wd v.q 0), .int .u64 (wd v.q 1), .int .u64 (wd v.q 2), .int .u64 (wd v.q 3), .int .u8 v.b, .bool v.bound, .int .i64 v.next, .int .i64 v.e] 103)).heap.size = w3.heap.size + 1 := by simp
    obtain ⟨Wv, hWv⟩ : ∃ Wv, w3.alloc (.cells #[.int .u64 (wd v.q 0), .int .u64 (wd v.q 1), .int .u64 (wd v.q 2), .int .u64 (wd v.q 3), .int .u8 v.b, .bool v.bound, .int .i64 v.next, .int .i64 v.e] 103) = Wv := ⟨_, rfl⟩
    rw [hWv] at hR hu hv hBn hszv
    clear hbw3 hal r0 rf0 r1 rf1 r2 rf2 r3 rf3 r4 rf4 r5 rf5 r6 rf6 r7 rf7 u0 uf0 u1 uf1 u2 uf2 u3 uf3 u4 uf4 u5 uf5 u6 uf6 u7 uf7
    have HR := hide hR
    have Hu := hide hu
    have Hv := hide hv
    have HB := hide hBn
    obtain ⟨⟨r0, rf0⟩, ⟨r1, rf1⟩, ⟨r2, rf2⟩, ⟨r3, rf3⟩, ⟨r4, rf4⟩, ⟨r5, rf5⟩, ⟨r6, rf6⟩, ⟨r7, rf7⟩⟩ := (⟨hR 0 _ rfl, hR 1 _ rfl, hR 2 _ rfl, hR 3 _ rfl, hR 4 _ rfl, hR 5 _ rfl, hR 6 _ rfl, hR 7 _ rfl⟩ : _ ∧ _ ∧ _ ∧ _ ∧ _ ∧ _ ∧ _ ∧ _)
    obtain ⟨⟨u0, uf0⟩, ⟨u1, uf1⟩, ⟨u2, uf2⟩, ⟨u3, uf3⟩, ⟨u4, uf4⟩, ⟨u5, uf5⟩, ⟨u6, uf6⟩, ⟨u7, uf7⟩⟩ := (⟨hu 0 _ rfl, hu 1 _ rfl, hu 2 _ rfl, hu 3 _ rfl, hu 4 _ rfl, hu 5 _ rfl, hu 6 _ rfl, hu 7 _ rfl⟩ : _ ∧ _ ∧ _ ∧ _ ∧ _ ∧ _ ∧ _ ∧ _)
    obtain ⟨⟨v0, vf0⟩, ⟨v1, vf1⟩, ⟨v2, vf2⟩, ⟨v3, vf3⟩, ⟨v4, vf4⟩, ⟨v5, vf5⟩, ⟨v6, vf6⟩, ⟨v7, vf7⟩⟩ := (⟨hv 0 _ rfl, hv 1 _ rfl, hv 2 _ rfl, hv 3 _ rfl, hv 4 _ rfl, hv 5 _ rfl, hv 6 _ rfl, hv 7 _ rfl⟩ : _ ∧ _ ∧ _ ∧ _ ∧ _ ∧ _ ∧ _ ∧ _)
    clear hR hu hv hBn
    go_wp2
    refine bodyPost_ret (v := .agg #[.int .u64 (wd v.q 0), .int .u64 (wd v.q 1), .int .u64 (wd v.q 2), .int .u64 (wd v.q 3), .int .u8 v.b, .bool v.bound, .int .i64 v.next, .int .i64 v.e]) ?_ rfl ⟨rfl, xdv HB.out (Nat.le_refl w.heap.size) _ _ _ _ _ _ _ _⟩
    simp [results, Tryz.results63, go_sem, *]
  ·rw [Bool.not_eq_true] at hj
   rw [if_pos hj] at ht
   rw [hj] at hJ
   have HJ := hide hJ
   clear he hj hJ
   subst ht
   go_enter Tryz.func63, Tryz.ntmps63
   go_wp2_with fail
   refine (HI.out _).mono ?_
   rintro e w1 ⟨rfl, hbw1⟩
   have hsw1 := hbw1.size
   have hltw1 : w.heap.size < w1.heap.size := by omega
   have hal := (Below.refl w1.heap.size w1).alloc (Nat.le_refl _) (.cells #[.int .u64 (wd u.q 0), .int .u64 (wd u.q 1), .int .u64 (wd u.q 2), .int .u64 (wd u.q 3), .int .u8 u.b, .bool u.bound, .int .i64 u.next, .int .i64 u.e] 103)
   have hR := (HR.out.below hbw1 (by omega)).below hal (by omega)
   have hu := HoldsV.new w1 #[.int .u64 (wd u.q 0), .int .u64 (wd u.q 1), .int .u64 (wd u.q 2), .int .u64 (wd u.q 3), .int .u8 u.b, .bool u.bound, .int .i64 u.next, .int .i64 u.e] 103
   have hBn := (HB.out.trans (hbw1.mono HB.out.size)).alloc (HB.out.trans (hbw1.mono HB.out.size)).size (.cells #[.int .u64 (wd u.q 0), .int .u64 (wd u.q 1), .int .u64 (wd u.q 2), .int .u64 (wd u.q 3), .int .u8 u.b, .bool u.bound, .int .i64 u.next, .int .i64 u.e] 103)
   have hszu : (w1.alloc (.cells #[.int .u64 (wd u.q 0), .int .u64 (wd u.q 1), .int .u64 (wd u.q 2), .int .u64 (wd u.q 3), .int .u8 u.b, .bool u.bound, .int .i64 u.next, .int .i64 u.e] 103)).heap.size = w1.heap.size + 1 := by simp
   obtain ⟨Wu, hWu⟩ : ∃ Wu, w1.alloc (.cells #[.int .u64 (wd u.q 0), .int .u64 (wd u.q 1), .int .u64 (wd u.q 2), .int .u64 (wd u.q 3), .int .u8 u.b, .bool u.bound, .int .i64 u.next, .int .i64 u.e] 103) = Wu := ⟨_, rfl⟩
   rw [hWu] at hR hu hBn hszu
   clear hbw1 hal r0 rf0 r1 rf1 r2 rf2 r3 rf3 r4 rf4 r5 rf5 r6 rf6 r7 rf7 
   have HR := hide hR
   have Hu := hide hu
   have HB := hide hBn
   obtain ⟨⟨r0, rf0⟩, ⟨r1, rf1⟩, ⟨r2, rf2⟩, ⟨r3, rf3⟩, ⟨r4, rf4⟩, ⟨r5, rf5⟩, ⟨r6, rf6⟩, ⟨r7, rf7⟩⟩ := (⟨hR 0 _ rfl, hR 1 _ rfl, hR 2 _ rfl, hR 3 _ rfl, hR 4 _ rfl, hR 5 _ rfl, hR 6 _ rfl, hR 7 _ rfl⟩ : _ ∧ _ ∧ _ ∧ _ ∧ _ ∧ _ ∧ _ ∧ _)
   obtain ⟨⟨u0, uf0⟩, ⟨u1, uf1⟩, ⟨u2, uf2⟩, ⟨u3, uf3⟩, ⟨u4, uf4⟩, ⟨u5, uf5⟩, ⟨u6, uf6⟩, ⟨u7, uf7⟩⟩ := (⟨hu 0 _ rfl, hu 1 _ rfl, hu 2 _ rfl, hu 3 _ rfl, hu 4 _ rfl, hu 5 _ rfl, hu 6 _ rfl, hu 7 _ rfl⟩ : _ ∧ _ ∧ _ ∧ _ ∧ _ ∧ _ ∧ _ ∧ _)
   clear hR hu hBn
   go_wp2_with fail
   refine (HJ.out _).mono ?_
   rintro e wj ⟨rfl, hwj⟩
   have hwj := hwj.symm
   subst hwj
   go_wp2
   refine bodyPost_ret (v := .agg #[.int .u64 (wd u.q 0), .int .u64 (wd u.q 1), .int .u64 (wd u.q 2), .int .u64 (wd u.q 3), .int .u8 u.b, .bool u.bound, .int .i64 u.next, .int .i64 u.e]) ?_ rfl ⟨rfl, xdv HB.out (Nat.le_refl w.heap.size) _ _ _ _ _ _ _ _⟩
   simp [results, Tryz.results63, go_sem, *]
 ·rw [if_pos he] at ht
  have hne : (u.e != 0) = true := by simp [he]
  clear he
  subst ht
  go_enter Tryz.func63, Tryz.ntmps63
  go_wp2_with fail
  refine (HI.out _).mono ?_
  rintro e w1 ⟨rfl, hbw1⟩
  have hsw1 := hbw1.size
  have hltw1 : w.heap.size < w1.heap.size := by omega
  have hal := (Below.refl w1.heap.size w1).alloc (Nat.le_refl _) (.cells #[.int .u64 (wd u.q 0), .int .u64 (wd u.q 1), .int .u64 (wd u.q 2), .int .u64 (wd u.q 3), .int .u8 u.b, .bool u.bound, .int .i64 u.next, .int .i64 u.e] 103)
  have hR := (HR.out.below hbw1 (by omega)).below hal (by omega)
  have hu := HoldsV.new w1 #[.int .u64 (wd u.q 0), .int .u64 (wd u.q 1), .int .u64 (wd u.q 2), .int .u64 (wd u.q 3), .int .u8 u.b, .bool u.bound, .int .i64 u.next, .int .i64 u.e] 103
  have hBn := (HB.out.trans (hbw1.mono HB.out.size)).alloc (HB.out.trans (hbw1.mono HB.out.size)).size (.cells #[.int .u64 (wd u.q 0), .int .u64 (wd u.q 1), .int .u64 (wd u.q 2), .int .u64 (wd u.q 3), .int .u8 u.b, .bool u.bound, .int .i64 u.next, .int .i64 u.e] 103)
  have hszu : (w1.alloc (.cells #[.int .u64 (wd u.q 0), .int .u64 (wd u.q 1), .int .u64 (wd u.q 2), .int .u64 (wd u.q 3), .int .u8 u.b, .bool u.bound, .int .i64 u.next, .int .i64 u.e] 103)).heap.size = w1.heap.size + 1 := by simp
  obtain ⟨Wu, hWu⟩ : ∃ Wu, w1.alloc (.cells #[.int .u64 (wd u.q 0), .int .u64 (wd u.q 1), .int .u64 (wd u.q 2), .int .u64 (wd u.q 3), .int .u8 u.b, .bool u.bound, .int .i64 u.next, .int .i64 u.e] 103) = Wu := ⟨_, rfl⟩
  rw [hWu] at hR hu hBn hszu
  clear hbw1 hal r0 rf0 r1 rf1 r2 rf2 r3 rf3 r4 rf4 r5 rf5 r6 rf6 r7 rf7 
  have HR := hide hR
  have Hu := hide hu
  have HB := hide hBn
  obtain ⟨⟨r0, rf0⟩, ⟨r1, rf1⟩, ⟨r2, rf2⟩, ⟨r3, rf3⟩, ⟨r4, rf4⟩, ⟨r5, rf5⟩, ⟨r6, rf6⟩, ⟨r7, rf7⟩⟩ := (⟨hR 0 _ rfl, hR 1 _ rfl, hR 2 _ rfl, hR 3 _ rfl, hR 4 _ rfl, hR 5 _ rfl, hR 6 _ rfl, hR 7 _ rfl⟩ : _ ∧ _ ∧ _ ∧ _ ∧ _ ∧ _ ∧ _ ∧ _)
  obtain ⟨⟨u0, uf0⟩, ⟨u1, uf1⟩, ⟨u2, uf2⟩, ⟨u3, uf3⟩, ⟨u4, uf4⟩, ⟨u5, uf5⟩, ⟨u6, uf6⟩, ⟨u7, uf7⟩⟩ := (⟨hu 0 _ rfl, hu 1 _ rfl, hu 2 _ rfl, hu 3 _ rfl, hu 4 _ rfl, hu 5 _ rfl, hu 6 _ rfl, hu 7 _ rfl⟩ : _ ∧ _ ∧ _ ∧ _ ∧ _ ∧ _ ∧ _ ∧ _)
  clear hR hu hBn
  go_wp2
  refine bodyPost_ret (v := .agg #[.int .u64 (wd u.q 0), .int .u64 (wd u.q 1), .int .u64 (wd u.q 2), .int .u64 (wd u.q 3), .int .u8 u.b, .bool u.bound, .int .i64 u.next, .int .i64 u.e]) ?_ rfl ⟨rfl, xdv HB.out (Nat.le_refl w.heap.size) _ _ _ _ _ _ _ _⟩
  simp [results, Tryz.results63, go_sem, *]
end Go.Proofs.YtaapmphdnholaaaGreatDoor
