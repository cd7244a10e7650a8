/- bracket: items and ranges: what an entry is; the document's item as one; readRange. -/
import Derived.Test.YtjfkhlmoppbbgaaGreatDoorKMark
namespace Go.Proofs.YtjfkhlmoppbbgaaGreatDoor.br
open Go.RowKit

theorem itemS_b (s : ByteArray) (i : Nat) : 0 ≤ (itemS s i).b ∧ (itemS s i).b < 256 := by
  unfold itemS
  split
  · rename_i h
    split
    · unfold markS
      rcases closeI_bounds s (i + 3) (mkAt s i) with h | ⟨c, h, h1, h2⟩
      · rw [if_pos h]; exact ⟨by simp [It.err], by simp [It.err]⟩
      · rw [if_neg (by omega)]
        split
        · exact ⟨by simp, by simp⟩
        · split
          · have := byteAt_range s (i + 2)
            have h3 : i + 2 < s.size := by omega
            rw [byteAt_in h3] at this ⊢
            exact ⟨by simp, by simp; omega⟩
          · exact ⟨by simp [It.err], by simp [It.err]⟩
    · have := byteAt_range s i
      rw [byteAt_in h] at this ⊢
      exact ⟨by simp, by simp; omega⟩
  · exact ⟨by simp [It.err], by simp [It.err]⟩

/-- What follows an item that a - stands behind. -/
noncomputable def rangeS (s : ByteArray) (a : It) : It :=
  if a.next + 1 = s.size then .err 6
  else if a.bound = false then .err 7
  else if (itemS s (a.next + 1)).e ≠ 0 then .err (itemS s (a.next + 1)).e
  else if (itemS s (a.next + 1)).bound = false ∨ joinsB s (itemS s (a.next + 1)).next = true ∨ (itemS s (a.next + 1)).b < a.b then .err 7
  else ⟨0, spanP a.b.toNat (itemS s (a.next + 1)).b.toNat, 0, false, (itemS s (a.next + 1)).next⟩

/-- An item, or a range that begins with it. -/
noncomputable def entryS (s : ByteArray) (i : Nat) : It :=
  if (itemS s i).e ≠ 0 then .err (itemS s i).e
  else if joinsB s (itemS s i).next = true then rangeS s (itemS s i)
  else ⟨0, (itemS s i).q, 0, false, (itemS s i).next⟩

theorem below4 {B : Nat} {a w : World} (h : Below B a w) {b : Nat} (hb : B ≤ b) (v0 v1 v2 v3 : Value) : Below B a ((((w.setCell ⟨b, 0, none⟩ v0).setCell ⟨b, 1, none⟩ v1).setCell ⟨b, 2, none⟩ v2).setCell ⟨b, 3, none⟩ v3) :=
  (((h.setCell (p := ⟨b, 0, none⟩) hb _).setCell (p := ⟨b, 1, none⟩) hb _).setCell (p := ⟨b, 2, none⟩) hb _).setCell (p := ⟨b, 3, none⟩) hb _

set_option maxRecDepth 100000 in
set_option maxHeartbeats 2000000 in
theorem readRange_any (s : ByteArray) (hs : s.size ≤ 1073741824) (a : It) (ha : a.next + 1 ≤ s.size) (hab : 0 ≤ a.b ∧ a.b < 256) (w : World) (hg : Glob w) (t : It) (ht : rangeS s a = t) :
    Calls Tryz.prog 277 #[.string s, .agg #[.int .u64 (wd a.q 0 : Nat), .int .u64 (wd a.q 1 : Nat), .int .u64 (wd a.q 2 : Nat), .int .u64 (wd a.q 3 : Nat), .int .u8 a.b, .bool a.bound, .int .i64 (a.next : Nat)]] w fun e w' => e = .returned (.tuple #[.agg #[.int .u64 (wd t.q 0 : Nat), .int .u64 (wd t.q 1 : Nat), .int .u64 (wd t.q 2 : Nat), .int .u64 (wd t.q 3 : Nat)], .int .i64 (t.next : Nat), .int .i64 t.e]) ∧ Below w.heap.size w w' := by
  have hA : HoldsV ((w.alloc (.cells #[.int .u64 (wd a.q 0 : Nat), .int .u64 (wd a.q 1 : Nat), .int .u64 (wd a.q 2 : Nat), .int .u64 (wd a.q 3 : Nat), .int .u8 a.b, .bool a.bound, .int .i64 (a.next : Nat)] 396)).alloc (.cells #[.int .u64 0, .int .u64 0, .int .u64 0, .int .u64 0] 122)) w.heap.size (#[.int .u64 (wd a.q 0 : Nat), .int .u64 (wd a.q 1 : Nat), .int .u64 (wd a.q 2 : Nat), .int .u64 (wd a.q 3 : Nat), .int .u8 a.b, .bool a.bound, .int .i64 (a.next : Nat)] : Array Value).toList := (HoldsV.new w #[.int .u64 (wd a.q 0 : Nat), .int .u64 (wd a.q 1 : Nat), .int .u64 (wd a.q 2 : Nat), .int .u64 (wd a.q 3 : Nat), .int .u8 a.b, .bool a.bound, .int .i64 (a.next : Nat)] 396).below ((Below.refl _ _).alloc (Nat.le_refl _) (.cells #[.int .u64 0, .int .u64 0, .int .u64 0, .int .u64 0] 122)) (by simp)
  have hR : HoldsV ((w.alloc (.cells #[.int .u64 (wd a.q 0 : Nat), .int .u64 (wd a.q 1 : Nat), .int .u64 (wd a.q 2 : Nat), .int .u64 (wd a.q 3 : Nat), .int .u8 a.b, .bool a.bound, .int .i64 (a.next : Nat)] 396)).alloc (.cells #[.int .u64 0, .int .u64 0, .int .u64 0, .int .u64 0] 122)) (w.heap.size + 1) (#[.int .u64 0, .int .u64 0, .int .u64 0, .int .u64 0] : Array Value).toList := by
    have h := HoldsV.new (w.alloc (.cells #[.int .u64 (wd a.q 0 : Nat), .int .u64 (wd a.q 1 : Nat), .int .u64 (wd a.q 2 : Nat), .int .u64 (wd a.q 3 : Nat), .int .u8 a.b, .bool a.bound, .int .i64 (a.next : Nat)] 396)) #[.int .u64 0, .int .u64 0, .int .u64 0, .int .u64 0] 122
    rwa [World.size_alloc] at h
  have hB0 : Below w.heap.size w ((w.alloc (.cells #[.int .u64 (wd a.q 0 : Nat), .int .u64 (wd a.q 1 : Nat), .int .u64 (wd a.q 2 : Nat), .int .u64 (wd a.q 3 : Nat), .int .u8 a.b, .bool a.bound, .int .i64 (a.next : Nat)] 396)).alloc (.cells #[.int .u64 0, .int .u64 0, .int .u64 0, .int .u64 0] 122)) := ((Below.refl w.heap.size w).alloc (Nat.le_refl _) _).alloc (by simp) _
  have hsz0 : ((w.alloc (.cells #[.int .u64 (wd a.q 0 : Nat), .int .u64 (wd a.q 1 : Nat), .int .u64 (wd a.q 2 : Nat), .int .u64 (wd a.q 3 : Nat), .int .u8 a.b, .bool a.bound, .int .i64 (a.next : Nat)] 396)).alloc (.cells #[.int .u64 0, .int .u64 0, .int .u64 0, .int .u64 0] 122)).heap.size = w.heap.size + 1 + 1 := by simp
  have hG0 := hg.below hB0 (Nat.le_refl _)
  obtain ⟨W0, hW0⟩ : ∃ W0, (w.alloc (.cells #[.int .u64 (wd a.q 0 : Nat), .int .u64 (wd a.q 1 : Nat), .int .u64 (wd a.q 2 : Nat), .int .u64 (wd a.q 3 : Nat), .int .u8 a.b, .bool a.bound, .int .i64 (a.next : Nat)] 396)).alloc (.cells #[.int .u64 0, .int .u64 0, .int .u64 0, .int .u64 0] 122) = W0 := ⟨_, rfl⟩
  rw [hW0] at hA hR hB0 hG0 hsz0
  have HA := hide hA
  have HR := hide hR
  have HB := hide hB0
  have HG := hide hG0
  obtain ⟨⟨a0, af0⟩, ⟨a1, af1⟩, ⟨a2, af2⟩, ⟨a3, af3⟩, ⟨a4, af4⟩, ⟨a5, af5⟩, ⟨a6, af6⟩⟩ := (⟨hA 0 _ rfl, hA 1 _ rfl, hA 2 _ rfl, hA 3 _ rfl, hA 4 _ rfl, hA 5 _ rfl, hA 6 _ rfl⟩ : _ ∧ _ ∧ _ ∧ _ ∧ _ ∧ _ ∧ _)
  obtain ⟨⟨r0, rf0⟩, ⟨r1, rf1⟩, ⟨r2, rf2⟩, ⟨r3, rf3⟩⟩ := (⟨hR 0 _ rfl, hR 1 _ rfl, hR 2 _ rfl, hR 3 _ rfl⟩ : _ ∧ _ ∧ _ ∧ _)
  clear hA hR hB0 hG0
  unfold rangeS at ht
  by_cases h6 : a.next + 1 = s.size
  · rw [if_pos h6] at ht
    subst ht
    simp only [It.err]
    unfold noneP
    rw [wd_none, wd_none, wd_none, wd_none]
    go_enter Tryz.func277, Tryz.ntmps277
    go_wp2
    refine bodyPost_ret (v := .tuple #[.agg #[.int .u64 0, .int .u64 0, .int .u64 0, .int .u64 0], .int .i64 0, .int .i64 6]) ?_ rfl ⟨rfl, below4 HB.out (Nat.le_succ w.heap.size) _ _ _ _⟩
    simp [results, Tryz.results277, go_sem, *]
  rw [if_neg h6] at ht
  have hn6 : ((a.next : Int) + 1 == (s.size : Int)) = false := by rw [beq_eq_false_iff_ne]; omega
  by_cases h7 : a.bound = false
  · rw [if_pos h7] at ht
    subst ht
    simp only [It.err]
    unfold noneP
    rw [wd_none, wd_none, wd_none, wd_none]
    have hnb : (!a.bound) = true := by rw [h7]; rfl
    clear h7
    go_enter Tryz.func277, Tryz.ntmps277
    go_wp2
    refine bodyPost_ret (v := .tuple #[.agg #[.int .u64 0, .int .u64 0, .int .u64 0, .int .u64 0], .int .i64 0, .int .i64 7]) ?_ rfl ⟨rfl, below4 HB.out (Nat.le_succ w.heap.size) _ _ _ _⟩
    simp [results, Tryz.results277, go_sem, *]
  rw [if_neg h7] at ht
  have hnb : (!a.bound) = false := by simpa using h7
  clear h7
  have hI := readItem_any s hs (a.next + 1)
  have hub := itemS_b s (a.next + 1)
  have hun := (itemS_next s (a.next + 1)).1
  generalize itemS s (a.next + 1) = u at *
  by_cases he : u.e = 0
  · rw [if_neg (by simp [he])] at ht
    have hne : (u.e != 0) = false := by simp [he]
    by_cases hbu : u.bound = false
    · rw [if_pos (.inl hbu)] at ht
      have hnu : (!u.bound) = true := by rw [hbu]; rfl
      clear hbu he
      subst ht
      simp only [It.err]
      unfold noneP
      rw [wd_none, wd_none, wd_none, wd_none]
      have HI := hide hI
      clear hI
      go_enter Tryz.func277, Tryz.ntmps277
      go_wp2_with fail
      refine (HI.out _ HG.out).mono ?_
      rintro e w1 ⟨rfl, hb1⟩
      have hlt1 : w.heap.size + 1 < w1.heap.size := by have := hb1.size; omega
      have hal := (Below.refl w1.heap.size w1).alloc (Nat.le_refl _) (.cells #[.int .u64 (wd u.q 0 : Nat), .int .u64 (wd u.q 1 : Nat), .int .u64 (wd u.q 2 : Nat), .int .u64 (wd u.q 3 : Nat), .int .u8 u.b, .bool u.bound, .int .i64 (u.next : Nat)] 396)
      have hA := (HA.out.below hb1 (by omega)).below hal (by omega)
      have hR := (HR.out.below hb1 (by omega)).below hal (by omega)
      have hU := HoldsV.new w1 #[.int .u64 (wd u.q 0 : Nat), .int .u64 (wd u.q 1 : Nat), .int .u64 (wd u.q 2 : Nat), .int .u64 (wd u.q 3 : Nat), .int .u8 u.b, .bool u.bound, .int .i64 (u.next : Nat)] 396
      have hB2 := (HB.out.trans (hb1.mono HB.out.size)).alloc (HB.out.trans (hb1.mono HB.out.size)).size (.cells #[.int .u64 (wd u.q 0 : Nat), .int .u64 (wd u.q 1 : Nat), .int .u64 (wd u.q 2 : Nat), .int .u64 (wd u.q 3 : Nat), .int .u8 u.b, .bool u.bound, .int .i64 (u.next : Nat)] 396)
      have hsz2 : (w1.alloc (.cells #[.int .u64 (wd u.q 0 : Nat), .int .u64 (wd u.q 1 : Nat), .int .u64 (wd u.q 2 : Nat), .int .u64 (wd u.q 3 : Nat), .int .u8 u.b, .bool u.bound, .int .i64 (u.next : Nat)] 396)).heap.size = w1.heap.size + 1 := by simp
      obtain ⟨W2, hW2⟩ : ∃ W2, w1.alloc (.cells #[.int .u64 (wd u.q 0 : Nat), .int .u64 (wd u.q 1 : Nat), .int .u64 (wd u.q 2 : Nat), .int .u64 (wd u.q 3 : Nat), .int .u8 u.b, .bool u.bound, .int .i64 (u.next : Nat)] 396) = W2 := ⟨_, rfl⟩
      rw [hW2] at hA hR hU hB2 hsz2
      clear hb1 hal HI a0 af0 a1 af1 a2 af2 a3 af3 a4 af4 a5 af5 a6 af6 r0 rf0 r1 rf1 r2 rf2 r3 rf3
      have HA := hide hA
      have HR := hide hR
      have HU := hide hU
      have HB := hide hB2
      obtain ⟨⟨a0, af0⟩, ⟨a1, af1⟩, ⟨a2, af2⟩, ⟨a3, af3⟩, ⟨a4, af4⟩, ⟨a5, af5⟩, ⟨a6, af6⟩⟩ := (⟨hA 0 _ rfl, hA 1 _ rfl, hA 2 _ rfl, hA 3 _ rfl, hA 4 _ rfl, hA 5 _ rfl, hA 6 _ rfl⟩ : _ ∧ _ ∧ _ ∧ _ ∧ _ ∧ _ ∧ _)
      obtain ⟨⟨r0, rf0⟩, ⟨r1, rf1⟩, ⟨r2, rf2⟩, ⟨r3, rf3⟩⟩ := (⟨hR 0 _ rfl, hR 1 _ rfl, hR 2 _ rfl, hR 3 _ rfl⟩ : _ ∧ _ ∧ _ ∧ _)
      obtain ⟨⟨u0, uf0⟩, ⟨u1, uf1⟩, ⟨u2, uf2⟩, ⟨u3, uf3⟩, ⟨u4, uf4⟩, ⟨u5, uf5⟩, ⟨u6, uf6⟩⟩ := (⟨hU 0 _ rfl, hU 1 _ rfl, hU 2 _ rfl, hU 3 _ rfl, hU 4 _ rfl, hU 5 _ rfl, hU 6 _ rfl⟩ : _ ∧ _ ∧ _ ∧ _ ∧ _ ∧ _ ∧ _)
      clear hA hR hU hB2
      go_wp2
      refine bodyPost_ret (v := .tuple #[.agg #[.int .u64 0, .int .u64 0, .int .u64 0, .int .u64 0], .int .i64 0, .int .i64 7]) ?_ rfl ⟨rfl, below4 HB.out (Nat.le_succ w.heap.size) _ _ _ _⟩
      simp [results, Tryz.results277, go_sem, *]
    · have hnu : (!u.bound) = false := by simpa using hbu
      have hJ := joins_any s u.next (by omega)
      by_cases hj : joinsB s u.next = true
      · rw [if_pos (.inr (.inl hj))] at ht
        rw [hj] at hJ
        have HJ := hide hJ
        clear hbu he hj hJ
        subst ht
        simp only [It.err]
        unfold noneP
        rw [wd_none, wd_none, wd_none, wd_none]
        have HI := hide hI
        clear hI
        go_enter Tryz.func277, Tryz.ntmps277
        go_wp2_with fail
        refine (HI.out _ HG.out).mono ?_
        rintro e w1 ⟨rfl, hb1⟩
        have hlt1 : w.heap.size + 1 < w1.heap.size := by have := hb1.size; omega
        have hal := (Below.refl w1.heap.size w1).alloc (Nat.le_refl _) (.cells #[.int .u64 (wd u.q 0 : Nat), .int .u64 (wd u.q 1 : Nat), .int .u64 (wd u.q 2 : Nat), .int .u64 (wd u.q 3 : Nat), .int .u8 u.b, .bool u.bound, .int .i64 (u.next : Nat)] 396)
        have hA := (HA.out.below hb1 (by omega)).below hal (by omega)
        have hR := (HR.out.below hb1 (by omega)).below hal (by omega)
        have hU := HoldsV.new w1 #[.int .u64 (wd u.q 0 : Nat), .int .u64 (wd u.q 1 : Nat), .int .u64 (wd u.q 2 : Nat), .int .u64 (wd u.q 3 : Nat), .int .u8 u.b, .bool u.bound, .int .i64 (u.next : Nat)] 396
        have hB2 := (HB.out.trans (hb1.mono HB.out.size)).alloc (HB.out.trans (hb1.mono HB.out.size)).size (.cells #[.int .u64 (wd u.q 0 : Nat), .int .u64 (wd u.q 1 : Nat), .int .u64 (wd u.q 2 : Nat), .int .u64 (wd u.q 3 : Nat), .int .u8 u.b, .bool u.bound, .int .i64 (u.next : Nat)] 396)
        have hsz2 : (w1.alloc (.cells #[.int .u64 (wd u.q 0 : Nat), .int .u64 (wd u.q 1 : Nat), .int .u64 (wd u.q 2 : Nat), .int .u64 (wd u.q 3 : Nat), .int .u8 u.b, .bool u.bound, .int .i64 (u.next : Nat)] 396)).heap.size = w1.heap.size + 1 := by simp
        obtain ⟨W2, hW2⟩ : ∃ W2, w1.alloc (.cells #[.int .u64 (wd u.q 0 : Nat), .int .u64 (wd u.q 1 : Nat), .int .u64 (wd u.q 2 : Nat), .int .u64 (wd u.q 3 : Nat), .int .u8 u.b, .bool u.bound, .int .i64 (u.next : Nat)] 396) = W2 := ⟨_, rfl⟩
        rw [hW2] at hA hR hU hB2 hsz2
        clear hb1 hal HI a0 af0 a1 af1 a2 af2 a3 af3 a4 af4 a5 af5 a6 af6 r0 rf0 r1 rf1 r2 rf2 r3 rf3
        have HA := hide hA
        have HR := hide hR
        have HU := hide hU
        have HB := hide hB2
        obtain ⟨⟨a0, af0⟩, ⟨a1, af1⟩, ⟨a2, af2⟩, ⟨a3, af3⟩, ⟨a4, af4⟩, ⟨a5, af5⟩, ⟨a6, af6⟩⟩ := (⟨hA 0 _ rfl, hA 1 _ rfl, hA 2 _ rfl, hA 3 _ rfl, hA 4 _ rfl, hA 5 _ rfl, hA 6 _ rfl⟩ : _ ∧ _ ∧ _ ∧ _ ∧ _ ∧ _ ∧ _)
        obtain ⟨⟨r0, rf0⟩, ⟨r1, rf1⟩, ⟨r2, rf2⟩, ⟨r3, rf3⟩⟩ := (⟨hR 0 _ rfl, hR 1 _ rfl, hR 2 _ rfl, hR 3 _ rfl⟩ : _ ∧ _ ∧ _ ∧ _)
        obtain ⟨⟨u0, uf0⟩, ⟨u1, uf1⟩, ⟨u2, uf2⟩, ⟨u3, uf3⟩, ⟨u4, uf4⟩, ⟨u5, uf5⟩, ⟨u6, uf6⟩⟩ := (⟨hU 0 _ rfl, hU 1 _ rfl, hU 2 _ rfl, hU 3 _ rfl, hU 4 _ rfl, hU 5 _ rfl, hU 6 _ rfl⟩ : _ ∧ _ ∧ _ ∧ _ ∧ _ ∧ _ ∧ _)
        clear hA hR hU hB2
        go_wp2_with fail
        refine (HJ.out _).mono ?_
        rintro e w3 ⟨rfl, hw3⟩
        have hw3 := hw3.symm
        subst hw3
        go_wp2
        refine bodyPost_ret (v := .tuple #[.agg #[.int .u64 0, .int .u64 0, .int .u64 0, .int .u64 0], .int .i64 0, .int .i64 7]) ?_ rfl ⟨rfl, below4 HB.out (Nat.le_succ w.heap.size) _ _ _ _⟩
        simp [results, Tryz.results277, go_sem, *]
      · rw [Bool.not_eq_true] at hj
        rw [hj] at hJ
        have HJ := hide hJ
        by_cases hlt : u.b < a.b
        · rw [if_pos (.inr (.inr hlt))] at ht
          have HS := hide (spanBad a.b u.b hlt)
          clear hbu he hj hJ
          subst ht
          simp only [It.err]
          unfold noneP
          rw [wd_none, wd_none, wd_none, wd_none]
          have HI := hide hI
          clear hI
          go_enter Tryz.func277, Tryz.ntmps277
          go_wp2_with fail
          refine (HI.out _ HG.out).mono ?_
          rintro e w1 ⟨rfl, hb1⟩
          have hlt1 : w.heap.size + 1 < w1.heap.size := by have := hb1.size; omega
          have hal := (Below.refl w1.heap.size w1).alloc (Nat.le_refl _) (.cells #[.int .u64 (wd u.q 0 : Nat), .int .u64 (wd u.q 1 : Nat), .int .u64 (wd u.q 2 : Nat), .int .u64 (wd u.q 3 : Nat), .int .u8 u.b, .bool u.bound, .int .i64 (u.next : Nat)] 396)
          have hA := (HA.out.below hb1 (by omega)).below hal (by omega)
          have hR := (HR.out.below hb1 (by omega)).below hal (by omega)
          have hU := HoldsV.new w1 #[.int .u64 (wd u.q 0 : Nat), .int .u64 (wd u.q 1 : Nat), .int .u64 (wd u.q 2 : Nat), .int .u64 (wd u.q 3 : Nat), .int .u8 u.b, .bool u.bound, .int .i64 (u.next : Nat)] 396
          have hB2 := (HB.out.trans (hb1.mono HB.out.size)).alloc (HB.out.trans (hb1.mono HB.out.size)).size (.cells #[.int .u64 (wd u.q 0 : Nat), .int .u64 (wd u.q 1 : Nat), .int .u64 (wd u.q 2 : Nat), .int .u64 (wd u.q 3 : Nat), .int .u8 u.b, .bool u.bound, .int .i64 (u.next : Nat)] 396)
          have hsz2 : (w1.alloc (.cells #[.int .u64 (wd u.q 0 : Nat), .int .u64 (wd u.q 1 : Nat), .int .u64 (wd u.q 2 : Nat), .int .u64 (wd u.q 3 : Nat), .int .u8 u.b, .bool u.bound, .int .i64 (u.next : Nat)] 396)).heap.size = w1.heap.size + 1 := by simp
          obtain ⟨W2, hW2⟩ : ∃ W2, w1.alloc (.cells #[.int .u64 (wd u.q 0 : Nat), .int .u64 (wd u.q 1 : Nat), .int .u64 (wd u.q 2 : Nat), .int .u64 (wd u.q 3 : Nat), .int .u8 u.b, .bool u.bound, .int .i64 (u.next : Nat)] 396) = W2 := ⟨_, rfl⟩
          rw [hW2] at hA hR hU hB2 hsz2
          clear hb1 hal HI a0 af0 a1 af1 a2 af2 a3 af3 a4 af4 a5 af5 a6 af6 r0 rf0 r1 rf1 r2 rf2 r3 rf3
          have HA := hide hA
          have HR := hide hR
          have HU := hide hU
          have HB := hide hB2
          obtain ⟨⟨a0, af0⟩, ⟨a1, af1⟩, ⟨a2, af2⟩, ⟨a3, af3⟩, ⟨a4, af4⟩, ⟨a5, af5⟩, ⟨a6, af6⟩⟩ := (⟨hA 0 _ rfl, hA 1 _ rfl, hA 2 _ rfl, hA 3 _ rfl, hA 4 _ rfl, hA 5 _ rfl, hA 6 _ rfl⟩ : _ ∧ _ ∧ _ ∧ _ ∧ _ ∧ _ ∧ _)
          obtain ⟨⟨r0, rf0⟩, ⟨r1, rf1⟩, ⟨r2, rf2⟩, ⟨r3, rf3⟩⟩ := (⟨hR 0 _ rfl, hR 1 _ rfl, hR 2 _ rfl, hR 3 _ rfl⟩ : _ ∧ _ ∧ _ ∧ _)
          obtain ⟨⟨u0, uf0⟩, ⟨u1, uf1⟩, ⟨u2, uf2⟩, ⟨u3, uf3⟩, ⟨u4, uf4⟩, ⟨u5, uf5⟩, ⟨u6, uf6⟩⟩ := (⟨hU 0 _ rfl, hU 1 _ rfl, hU 2 _ rfl, hU 3 _ rfl, hU 4 _ rfl, hU 5 _ rfl, hU 6 _ rfl⟩ : _ ∧ _ ∧ _ ∧ _ ∧ _ ∧ _ ∧ _)
          clear hA hR hU hB2
          go_wp2_with fail
          refine (HJ.out _).mono ?_
          rintro e w3 ⟨rfl, hw3⟩
          have hw3 := hw3.symm
          subst hw3
          go_wp2_with fail
          refine (HS.out _).mono ?_
          rintro e w3 ⟨rfl, hb3⟩
          have hlt3 : w1.heap.size < w3.heap.size := by have := hb3.size; omega
          have hal := (Below.refl w3.heap.size w3).alloc (Nat.le_refl _) (.cells #[.int .u64 (wd noneP 0 : Nat), .int .u64 (wd noneP 1 : Nat), .int .u64 (wd noneP 2 : Nat), .int .u64 (wd noneP 3 : Nat)] 122)
          have hR := (HR.out.below hb3 (by omega)).below hal (by omega)
          have hU := (HU.out.below hb3 (by omega)).below hal (by omega)
          have hQ := HoldsV.new w3 #[.int .u64 (wd noneP 0 : Nat), .int .u64 (wd noneP 1 : Nat), .int .u64 (wd noneP 2 : Nat), .int .u64 (wd noneP 3 : Nat)] 122
          have hB4 := (HB.out.trans (hb3.mono HB.out.size)).alloc (HB.out.trans (hb3.mono HB.out.size)).size (.cells #[.int .u64 (wd noneP 0 : Nat), .int .u64 (wd noneP 1 : Nat), .int .u64 (wd noneP 2 : Nat), .int .u64 (wd noneP 3 : Nat)] 122)
          obtain ⟨W4, hW4⟩ : ∃ W4, w3.alloc (.cells #[.int .u64 (wd noneP 0 : Nat), .int .u64 (wd noneP 1 : Nat), .int .u64 (wd noneP 2 : Nat), .int .u64 (wd noneP 3 : Nat)] 122) = W4 := ⟨_, rfl⟩
          rw [hW4] at hR hU hQ hB4
          clear hb3 hal a0 af0 a1 af1 a2 af2 a3 af3 a4 af4 a5 af5 a6 af6 r0 rf0 r1 rf1 r2 rf2 r3 rf3 u0 uf0 u1 uf1 u2 uf2 u3 uf3 u4 uf4 u5 uf5 u6 uf6
          have HB := hide hB4
          obtain ⟨⟨r0, rf0⟩, ⟨r1, rf1⟩, ⟨r2, rf2⟩, ⟨r3, rf3⟩⟩ := (⟨hR 0 _ rfl, hR 1 _ rfl, hR 2 _ rfl, hR 3 _ rfl⟩ : _ ∧ _ ∧ _ ∧ _)
          obtain ⟨⟨u0, uf0⟩, ⟨u1, uf1⟩, ⟨u2, uf2⟩, ⟨u3, uf3⟩, ⟨u4, uf4⟩, ⟨u5, uf5⟩, ⟨u6, uf6⟩⟩ := (⟨hU 0 _ rfl, hU 1 _ rfl, hU 2 _ rfl, hU 3 _ rfl, hU 4 _ rfl, hU 5 _ rfl, hU 6 _ rfl⟩ : _ ∧ _ ∧ _ ∧ _ ∧ _ ∧ _ ∧ _)
          obtain ⟨⟨q0, qf0⟩, ⟨q1, qf1⟩, ⟨q2, qf2⟩, ⟨q3, qf3⟩⟩ := (⟨hQ 0 _ rfl, hQ 1 _ rfl, hQ 2 _ rfl, hQ 3 _ rfl⟩ : _ ∧ _ ∧ _ ∧ _)
          clear hR hU hQ hB4
          go_wp2
          refine bodyPost_ret (v := .tuple #[.agg #[.int .u64 0, .int .u64 0, .int .u64 0, .int .u64 0], .int .i64 0, .int .i64 7]) ?_ rfl ⟨rfl, below4 HB.out (Nat.le_succ w.heap.size) _ _ _ _⟩
          simp [results, Tryz.results277, go_sem, *]
        · rw [if_neg (by rintro (h | h | h); exact hbu h; rw [hj] at h; cases h; exact hlt h)] at ht
          have HS := hide (spanD a.b u.b hab.1 (by omega) hub.2)
          clear hbu he hj hJ
          subst ht
          simp only []
          have HI := hide hI
          clear hI
          go_enter Tryz.func277, Tryz.ntmps277
          go_wp2_with fail
          refine (HI.out _ HG.out).mono ?_
          rintro e w1 ⟨rfl, hb1⟩
          have hlt1 : w.heap.size + 1 < w1.heap.size := by have := hb1.size; omega
          have hal := (Below.refl w1.heap.size w1).alloc (Nat.le_refl _) (.cells #[.int .u64 (wd u.q 0 : Nat), .int .u64 (wd u.q 1 : Nat), .int .u64 (wd u.q 2 : Nat), .int .u64 (wd u.q 3 : Nat), .int .u8 u.b, .bool u.bound, .int .i64 (u.next : Nat)] 396)
          have hA := (HA.out.below hb1 (by omega)).below hal (by omega)
          have hR := (HR.out.below hb1 (by omega)).below hal (by omega)
          have hU := HoldsV.new w1 #[.int .u64 (wd u.q 0 : Nat), .int .u64 (wd u.q 1 : Nat), .int .u64 (wd u.q 2 : Nat), .int .u64 (wd u.q 3 : Nat), .int .u8 u.b, .bool u.bound, .int .i64 (u.next : Nat)] 396
          have hB2 := (HB.out.trans (hb1.mono HB.out.size)).alloc (HB.out.trans (hb1.mono HB.out.size)).size (.cells #[.int .u64 (wd u.q 0 : Nat), .int .u64 (wd u.q 1 : Nat), .int .u64 (wd u.q 2 : Nat), .int .u64 (wd u.q 3 : Nat), .int .u8 u.b, .bool u.bound, .int .i64 (u.next : Nat)] 396)
          have hsz2 : (w1.alloc (.cells #[.int .u64 (wd u.q 0 : Nat), .int .u64 (wd u.q 1 : Nat), .int .u64 (wd u.q 2 : Nat), .int .u64 (wd u.q 3 : Nat), .int .u8 u.b, .bool u.bound, .int .i64 (u.next : Nat)] 396)).heap.size = w1.heap.size + 1 := by simp
          obtain ⟨W2, hW2⟩ : ∃ W2, w1.alloc (.cells #[.int .u64 (wd u.q 0 : Nat), .int .u64 (wd u.q 1 : Nat), .int .u64 (wd u.q 2 : Nat), .int .u64 (wd u.q 3 : Nat), .int .u8 u.b, .bool u.bound, .int .i64 (u.next : Nat)] 396) = W2 := ⟨_, rfl⟩
          rw [hW2] at hA hR hU hB2 hsz2
          clear hb1 hal HI a0 af0 a1 af1 a2 af2 a3 af3 a4 af4 a5 af5 a6 af6 r0 rf0 r1 rf1 r2 rf2 r3 rf3
          have HA := hide hA
          have HR := hide hR
          have HU := hide hU
          have HB := hide hB2
          obtain ⟨⟨a0, af0⟩, ⟨a1, af1⟩, ⟨a2, af2⟩, ⟨a3, af3⟩, ⟨a4, af4⟩, ⟨a5, af5⟩, ⟨a6, af6⟩⟩ := (⟨hA 0 _ rfl, hA 1 _ rfl, hA 2 _ rfl, hA 3 _ rfl, hA 4 _ rfl, hA 5 _ rfl, hA 6 _ rfl⟩ : _ ∧ _ ∧ _ ∧ _ ∧ _ ∧ _ ∧ _)
          obtain ⟨⟨r0, rf0⟩, ⟨r1, rf1⟩, ⟨r2, rf2⟩, ⟨r3, rf3⟩⟩ := (⟨hR 0 _ rfl, hR 1 _ rfl, hR 2 _ rfl, hR 3 _ rfl⟩ : _ ∧ _ ∧ _ ∧ _)
          obtain ⟨⟨u0, uf0⟩, ⟨u1, uf1⟩, ⟨u2, uf2⟩, ⟨u3, uf3⟩, ⟨u4, uf4⟩, ⟨u5, uf5⟩, ⟨u6, uf6⟩⟩ := (⟨hU 0 _ rfl, hU 1 _ rfl, hU 2 _ rfl, hU 3 _ rfl, hU 4 _ rfl, hU 5 _ rfl, hU 6 _ rfl⟩ : _ ∧ _ ∧ _ ∧ _ ∧ _ ∧ _ ∧ _)
          clear hA hR hU hB2
          go_wp2_with fail
          refine (HJ.out _).mono ?_
          rintro e w3 ⟨rfl, hw3⟩
          have hw3 := hw3.symm
          subst hw3
          go_wp2_with fail
          refine (HS.out _).mono ?_
          rintro e w3 ⟨rfl, hb3⟩
          have hlt3 : w1.heap.size < w3.heap.size := by have := hb3.size; omega
          have hal := (Below.refl w3.heap.size w3).alloc (Nat.le_refl _) (.cells #[.int .u64 (wd (spanP a.b.toNat u.b.toNat) 0 : Nat), .int .u64 (wd (spanP a.b.toNat u.b.toNat) 1 : Nat), .int .u64 (wd (spanP a.b.toNat u.b.toNat) 2 : Nat), .int .u64 (wd (spanP a.b.toNat u.b.toNat) 3 : Nat)] 122)
          have hR := (HR.out.below hb3 (by omega)).below hal (by omega)
          have hU := (HU.out.below hb3 (by omega)).below hal (by omega)
          have hQ := HoldsV.new w3 #[.int .u64 (wd (spanP a.b.toNat u.b.toNat) 0 : Nat), .int .u64 (wd (spanP a.b.toNat u.b.toNat) 1 : Nat), .int .u64 (wd (spanP a.b.toNat u.b.toNat) 2 : Nat), .int .u64 (wd (spanP a.b.toNat u.b.toNat) 3 : Nat)] 122
          have hB4 := (HB.out.trans (hb3.mono HB.out.size)).alloc (HB.out.trans (hb3.mono HB.out.size)).size (.cells #[.int .u64 (wd (spanP a.b.toNat u.b.toNat) 0 : Nat), .int .u64 (wd (spanP a.b.toNat u.b.toNat) 1 : Nat), .int .u64 (wd (spanP a.b.toNat u.b.toNat) 2 : Nat), .int .u64 (wd (spanP a.b.toNat u.b.toNat) 3 : Nat)] 122)
          obtain ⟨W4, hW4⟩ : ∃ W4, w3.alloc (.cells #[.int .u64 (wd (spanP a.b.toNat u.b.toNat) 0 : Nat), .int .u64 (wd (spanP a.b.toNat u.b.toNat) 1 : Nat), .int .u64 (wd (spanP a.b.toNat u.b.toNat) 2 : Nat), .int .u64 (wd (spanP a.b.toNat u.b.toNat) 3 : Nat)] 122) = W4 := ⟨_, rfl⟩
          rw [hW4] at hR hU hQ hB4
          clear hb3 hal a0 af0 a1 af1 a2 af2 a3 af3 a4 af4 a5 af5 a6 af6 r0 rf0 r1 rf1 r2 rf2 r3 rf3 u0 uf0 u1 uf1 u2 uf2 u3 uf3 u4 uf4 u5 uf5 u6 uf6
          have HB := hide hB4
          obtain ⟨⟨r0, rf0⟩, ⟨r1, rf1⟩, ⟨r2, rf2⟩, ⟨r3, rf3⟩⟩ := (⟨hR 0 _ rfl, hR 1 _ rfl, hR 2 _ rfl, hR 3 _ rfl⟩ : _ ∧ _ ∧ _ ∧ _)
          obtain ⟨⟨u0, uf0⟩, ⟨u1, uf1⟩, ⟨u2, uf2⟩, ⟨u3, uf3⟩, ⟨u4, uf4⟩, ⟨u5, uf5⟩, ⟨u6, uf6⟩⟩ := (⟨hU 0 _ rfl, hU 1 _ rfl, hU 2 _ rfl, hU 3 _ rfl, hU 4 _ rfl, hU 5 _ rfl, hU 6 _ rfl⟩ : _ ∧ _ ∧ _ ∧ _ ∧ _ ∧ _ ∧ _)
          obtain ⟨⟨q0, qf0⟩, ⟨q1, qf1⟩, ⟨q2, qf2⟩, ⟨q3, qf3⟩⟩ := (⟨hQ 0 _ rfl, hQ 1 _ rfl, hQ 2 _ rfl, hQ 3 _ rfl⟩ : _ ∧ _ ∧ _ ∧ _)
          clear hR hU hQ hB4
          go_wp2_with fail
          go_region
          all_goals
            go_wp2
            refine bodyPost_ret (v := .tuple #[.agg #[.int .u64 (wd (spanP a.b.toNat u.b.toNat) 0 : Nat), .int .u64 (wd (spanP a.b.toNat u.b.toNat) 1 : Nat), .int .u64 (wd (spanP a.b.toNat u.b.toNat) 2 : Nat), .int .u64 (wd (spanP a.b.toNat u.b.toNat) 3 : Nat)], .int .i64 (u.next : Nat), .int .i64 0]) ?_ rfl ⟨rfl, below4 HB.out.drew (Nat.le_succ w.heap.size) _ _ _ _⟩
            simp [results, Tryz.results277, go_sem, *]
  · rw [if_pos he] at ht
    have hne : (u.e != 0) = true := by simp [he]
    clear he
    subst ht
    simp only [It.err]
    unfold noneP
    rw [wd_none, wd_none, wd_none, wd_none]
    have HI := hide hI
    clear hI
    go_enter Tryz.func277, Tryz.ntmps277
    go_wp2_with fail
    refine (HI.out _ HG.out).mono ?_
    rintro e w1 ⟨rfl, hb1⟩
    have hlt1 : w.heap.size + 1 < w1.heap.size := by have := hb1.size; omega
    have hal := (Below.refl w1.heap.size w1).alloc (Nat.le_refl _) (.cells #[.int .u64 (wd u.q 0 : Nat), .int .u64 (wd u.q 1 : Nat), .int .u64 (wd u.q 2 : Nat), .int .u64 (wd u.q 3 : Nat), .int .u8 u.b, .bool u.bound, .int .i64 (u.next : Nat)] 396)
    have hA := (HA.out.below hb1 (by omega)).below hal (by omega)
    have hR := (HR.out.below hb1 (by omega)).below hal (by omega)
    have hU := HoldsV.new w1 #[.int .u64 (wd u.q 0 : Nat), .int .u64 (wd u.q 1 : Nat), .int .u64 (wd u.q 2 : Nat), .int .u64 (wd u.q 3 : Nat), .int .u8 u.b, .bool u.bound, .int .i64 (u.next : Nat)] 396
    have hB2 := (HB.out.trans (hb1.mono HB.out.size)).alloc (HB.out.trans (hb1.mono HB.out.size)).size (.cells #[.int .u64 (wd u.q 0 : Nat), .int .u64 (wd u.q 1 : Nat), .int .u64 (wd u.q 2 : Nat), .int .u64 (wd u.q 3 : Nat), .int .u8 u.b, .bool u.bound, .int .i64 (u.next : Nat)] 396)
    have hsz2 : (w1.alloc (.cells #[.int .u64 (wd u.q 0 : Nat), .int .u64 (wd u.q 1 : Nat), .int .u64 (wd u.q 2 : Nat), .int .u64 (wd u.q 3 : Nat), .int .u8 u.b, .bool u.bound, .int .i64 (u.next : Nat)] 396)).heap.size = w1.heap.size + 1 := by simp
    obtain ⟨W2, hW2⟩ : ∃ W2, w1.alloc (.cells #[.int .u64 (wd u.q 0 : Nat), .int .u64 (wd u.q 1 : Nat), .int .u64 (wd u.q 2 : Nat), .int .u64 (wd u.q 3 : Nat), .int .u8 u.b, .bool u.bound, .int .i64 (u.next : Nat)] 396) = W2 := ⟨_, rfl⟩
    rw [hW2] at hA hR hU hB2 hsz2
    clear hb1 hal HI a0 af0 a1 af1 a2 af2 a3 af3 a4 af4 a5 af5 a6 af6 r0 rf0 r1 rf1 r2 rf2 r3 rf3
    have HA := hide hA
    have HR := hide hR
    have HU := hide hU
    have HB := hide hB2
    obtain ⟨⟨a0, af0⟩, ⟨a1, af1⟩, ⟨a2, af2⟩, ⟨a3, af3⟩, ⟨a4, af4⟩, ⟨a5, af5⟩, ⟨a6, af6⟩⟩ := (⟨hA 0 _ rfl, hA 1 _ rfl, hA 2 _ rfl, hA 3 _ rfl, hA 4 _ rfl, hA 5 _ rfl, hA 6 _ rfl⟩ : _ ∧ _ ∧ _ ∧ _ ∧ _ ∧ _ ∧ _)
    obtain ⟨⟨r0, rf0⟩, ⟨r1, rf1⟩, ⟨r2, rf2⟩, ⟨r3, rf3⟩⟩ := (⟨hR 0 _ rfl, hR 1 _ rfl, hR 2 _ rfl, hR 3 _ rfl⟩ : _ ∧ _ ∧ _ ∧ _)
    obtain ⟨⟨u0, uf0⟩, ⟨u1, uf1⟩, ⟨u2, uf2⟩, ⟨u3, uf3⟩, ⟨u4, uf4⟩, ⟨u5, uf5⟩, ⟨u6, uf6⟩⟩ := (⟨hU 0 _ rfl, hU 1 _ rfl, hU 2 _ rfl, hU 3 _ rfl, hU 4 _ rfl, hU 5 _ rfl, hU 6 _ rfl⟩ : _ ∧ _ ∧ _ ∧ _ ∧ _ ∧ _ ∧ _)
    clear hA hR hU hB2
    go_wp2
    refine bodyPost_ret (v := .tuple #[.agg #[.int .u64 0, .int .u64 0, .int .u64 0, .int .u64 0], .int .i64 0, .int .i64 u.e]) ?_ rfl ⟨rfl, below4 HB.out (Nat.le_succ w.heap.size) _ _ _ _⟩
    simp [results, Tryz.results277, go_sem, *]
end Go.Proofs.YtjfkhlmoppbbgaaGreatDoor.br
