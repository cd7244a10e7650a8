/- The document's Parse at a [, without a ^ behind it. -/
import Derived.Test.YtaapmphdnholaaaGreatDoorKRanged
import Derived.Test.YtaapmphdnholaaaGreatDoorKParseP
set_option maxRecDepth 100000
set_option maxHeartbeats 4000000
namespace Go.Proofs.YtaapmphdnholaaaGreatDoor
open Go.RowKit
theorem xf8 (s : ByteArray) (i : Nat) (h : s.size ≤ i) : xa2 s i = .err 6 := by
 have e : xan s i = .err 6 := by rw [xan, if_neg (by omega)]
 rw [xa2, e, if_pos (by simp [It.err])]
 rfl
theorem xiu (s : ByteArray) (hs : s.size ≤ 1073741824) (i : Nat) (h91 : xac s i = 91) (h94 : ¬ xac s (i + 1) = 94) (w : World) (r t : It) (hr : xbi s (s.size + 2) true xad (i + 1) = r)
  (ht : (if r.e ≠ 0 then It.err r.e else ⟨0, r.q, 0, false, r.next + 1⟩) = t) :
  Calls Tryz.prog 42 #[.string s, .int .i64 i] w fun e w' => e = .returned (.tuple #[.agg #[.int .u64 (wd t.q 0), .int .u64 (wd t.q 1), .int .u64 (wd t.q 2), .int .u64 (wd t.q 3)], .int .i64 t.next, .int .i64 t.e]) ∧ Below w.heap.size w w' := by
 have h0 : i < s.size := xa7 h91 (by omega)
 rw [xah h0] at h91
 have hb91 : ((s[i].toNat : Int) != 91) = false := by simp [h91]
 have HT := hide ht
 have HR0 := hide hr
 have h94n := h94
 clear ht hr h91 h94
 have hR := (HoldsV.new w #[.int .u64 0, .int .u64 0, .int .u64 0, .int .u64 0] 33).below ((Below.refl _ _).alloc (Nat.le_refl _) (.cells #[.int .u64 0, .int .u64 0, .int .u64 0, .int .u64 0] 33)) (by simp)
 have hQ : HoldsV ((w.alloc (.cells #[.int .u64 0, .int .u64 0, .int .u64 0, .int .u64 0] 33)).alloc (.cells #[.int .u64 0, .int .u64 0, .int .u64 0, .int .u64 0] 33)) (w.heap.size + 1) (#[.int .u64 0, .int .u64 0, .int .u64 0, .int .u64 0] : Array Value).toList := by
  have h := HoldsV.new (w.alloc (.cells #[.int .u64 0, .int .u64 0, .int .u64 0, .int .u64 0] 33)) #[.int .u64 0, .int .u64 0, .int .u64 0, .int .u64 0] 33
  rwa [World.size_alloc] at h
 have hB0 : Below w.heap.size w ((w.alloc (.cells #[.int .u64 0, .int .u64 0, .int .u64 0, .int .u64 0] 33)).alloc (.cells #[.int .u64 0, .int .u64 0, .int .u64 0, .int .u64 0] 33)) := ((Below.refl w.heap.size w).alloc (Nat.le_refl _) _).alloc (by simp) _
 have hsz0 : ((w.alloc (.cells #[.int .u64 0, .int .u64 0, .int .u64 0, .int .u64 0] 33)).alloc (.cells #[.int .u64 0, .int .u64 0, .int .u64 0, .int .u64 0] 33)).heap.size = w.heap.size + 1 + 1 := by simp
 by_cases h1 : i + 1 < s.size
 ·rw [xah h1] at h94n
  have hb94 : ((s[i + 1].toNat : Int) == 94) = false := by simp [h94n]
  clear h94n
  go_enter Tryz.func42, Tryz.ntmps42
  go_wp2_with fail
  go_loopw [1, 9] (fun p c wr => ∃ (nn : Nat) (q : Nat → Bool) (k f : Nat), p = .int .i64 k ∧ c = .int .i64 nn ∧ k ≤ s.size ∧ nn ≤ k ∧ s.size + 1 - k ≤ f ∧ Hid (xbi s f (nn == 0) q k = r) ∧ HoldsV wr w.heap.size [.int .u64 0, .int .u64 0, .int .u64 0, .int .u64 0] ∧ HoldsV wr (w.heap.size + 1) [.int .u64 (wd q 0), .int .u64 (wd q 1), .int .u64 (wd q 2), .int .u64 (wd q 3)] ∧ Below w.heap.size w wr ∧ w.heap.size + 1 < wr.heap.size) (fun p _ _ => s.size + 1 - (intOf p).toNat)
  case atStart =>
   refine ⟨0, xad, i + 1, s.size + 2, by go_num, rfl, by omega, by omega, by omega, HR0.out, hR, ?_, hB0, by omega⟩
   unfold xad
   rw [xaa, xaa, xaa, xaa]
   exact hQ
  case round =>
   clear hR hQ hB0 hsz0 HR0 hb91
   obtain ⟨nn, q, k, f, rfl, rfl, hk, hnk, hf, HL, hR, hQ, hB, hwr⟩ := hrel
   obtain ⟨f, rfl⟩ : ∃ g, f = g + 1 := ⟨f - 1, by omega⟩
   have HR := hide hR
   have HQ := hide hQ
   have HB := hide hB
   obtain ⟨⟨r0, rf0⟩, ⟨r1, rf1⟩, ⟨r2, rf2⟩, ⟨r3, rf3⟩⟩ := (⟨hR 0 _ rfl, hR 1 _ rfl, hR 2 _ rfl, hR 3 _ rfl⟩ : _ ∧ _ ∧ _ ∧ _)
   obtain ⟨⟨q0, qf0⟩, ⟨q1, qf1⟩, ⟨q2, qf2⟩, ⟨q3, qf3⟩⟩ := (⟨hQ 0 _ rfl, hQ 1 _ rfl, hQ 2 _ rfl, hQ 3 _ rfl⟩ : _ ∧ _ ∧ _ ∧ _)
   clear hR hQ hB
   by_cases hks : k < s.size
   ·by_cases hc : (nn == 0) = false ∧ xac s k = 93
    ·obtain ⟨hn0, h93⟩ := hc
     have hL := HL.out
     rw [hn0, xcy s f q k h93] at hL
     have HL2 := hide hL
     rw [xah hks] at h93
     have hq93 : ((s[k].toNat : Int) == 93) = true := by simp [h93]
     have hnp : (0 : Int) < (nn : Int) := by simp at hn0; omega
     clear hL h93 HL hn0
     go_wp2
     refine bodyPost_ret (v := .tuple #[.agg #[.int .u64 (wd q 0), .int .u64 (wd q 1), .int .u64 (wd q 2), .int .u64 (wd q 3)], .int .i64 ((k : Int) + 1), .int .i64 0]) ?_ rfl ⟨?_, xa3 HB.out (Nat.le_refl w.heap.size) _ _ _ _⟩
     ·simp [results, Tryz.results42, go_sem, *]
     ·have h1 := HL2.out
      have h2 := HT.out
      subst h1
      rw [if_neg (by simp)] at h2
      subst h2
      rfl
    ·have hE : ∀ w, _ := fun w => xf7 s hs k hks w _ rfl
     have hrg := xhm s k
     have hcond : ((decide ((0 : Int) < (nn : Int))) && ((s[k].toNat : Int) == 93)) = false := by
      rw [← xah hks, Bool.eq_false_iff]
      intro h
      rw [Bool.and_eq_true, decide_eq_true_eq, beq_iff_eq] at h
      exact hc ⟨by simp; omega, h.2⟩
     by_cases he : (xa2 s k).e = 0
     ·have hL := HL.out
      rw [xdp s f _ q k hc he] at hL
      have hnx := xb4 s k he
      obtain ⟨e1, e2⟩ := hrg
      obtain ⟨e2, e3⟩ := e2 he
      rw [he] at e1
      rw [← e2, ← e3] at hL
      rw [← e3] at hnx
      generalize rgS s k = u at *
      have HL2 := hide (show xbi s f (nn + 1 == 0) (orP q u.q) u.next = r by rw [show (nn + 1 == 0) = false by simp]; exact hL)
      have HE := hide hE
      have hne : (u.e != 0) = false := by simp [e1]
      clear hL hE HL he e1 e2 e3 hc
      rcases Nat.eq_zero_or_pos nn with hz | hz
      ·subst hz
       clear hcond
       go_wp2_with fail
       refine (HE.out _).mono ?_
       rintro e w1 ⟨rfl, hb1⟩
       have hs1 := hb1.size
       have hal := (Below.refl w1.heap.size w1).alloc (Nat.le_refl _) (.cells #[.int .u64 (wd u.q 0), .int .u64 (wd u.q 1), .int .u64 (wd u.q 2), .int .u64 (wd u.q 3), .int .u8 u.b, .bool u.bound, .int .i64 u.next, .int .i64 u.e] 103)
       have hR := (HR.out.below hb1 (by omega)).below hal (by omega)
       have hQ := (HQ.out.below hb1 (by omega)).below hal (by omega)
       have hU := HoldsV.new w1 #[.int .u64 (wd u.q 0), .int .u64 (wd u.q 1), .int .u64 (wd u.q 2), .int .u64 (wd u.q 3), .int .u8 u.b, .bool u.bound, .int .i64 u.next, .int .i64 u.e] 103
       have hB2 := (HB.out.trans (hb1.mono HB.out.size)).alloc (HB.out.trans (hb1.mono HB.out.size)).size (.cells #[.int .u64 (wd u.q 0), .int .u64 (wd u.q 1), .int .u64 (wd u.q 2), .int .u64 (wd u.q 3), .int .u8 u.b, .bool u.bound, .int .i64 u.next, .int .i64 u.e] 103)
       have hsz2 : (w1.alloc (.cells #[.int .u64 (wd u.q 0), .int .u64 (wd u.q 1), .int .u64 (wd u.q 2), .int .u64 (wd u.q 3), .int .u8 u.b, .bool u.bound, .int .i64 u.next, .int .i64 u.e] 103)).heap.size = w1.heap.size + 1 := by simp
       obtain ⟨W2, hW2⟩ : ∃ W2, w1.alloc (.cells #[.int .u64 (wd u.q 0), .int .u64 (wd u.q 1), .int .u64 (wd u.q 2), .int .u64 (wd u.q 3), .int .u8 u.b, .bool u.bound, .int .i64 u.next, .int .i64 u.e] 103) = W2 := ⟨_, rfl⟩
       rw [hW2] at hR hQ hU hB2 hsz2
       clear hb1 hal r0 rf0 r1 rf1 r2 rf2 r3 rf3 q0 qf0 q1 qf1 q2 qf2 q3 qf3 HE
       have HR := hide hR
       have HQ := hide hQ
       have HU := hide hU
       have HB := hide hB2
       obtain ⟨⟨r0, rf0⟩, ⟨r1, rf1⟩, ⟨r2, rf2⟩, ⟨r3, rf3⟩⟩ := (⟨hR 0 _ rfl, hR 1 _ rfl, hR 2 _ rfl, hR 3 _ rfl⟩ : _ ∧ _ ∧ _ ∧ _)
       obtain ⟨⟨q0, qf0⟩, ⟨q1, qf1⟩, ⟨q2, qf2⟩, ⟨q3, qf3⟩⟩ := (⟨hQ 0 _ rfl, hQ 1 _ rfl, hQ 2 _ rfl, hQ 3 _ rfl⟩ : _ ∧ _ ∧ _ ∧ _)
       obtain ⟨⟨u0, uf0⟩, ⟨u1, uf1⟩, ⟨u2, uf2⟩, ⟨u3, uf3⟩, ⟨u4, uf4⟩, ⟨u5, uf5⟩, ⟨u6, uf6⟩, ⟨u7, uf7⟩⟩ := (⟨hU 0 _ rfl, hU 1 _ rfl, hU 2 _ rfl, hU 3 _ rfl, hU 4 _ rfl, hU 5 _ rfl, hU 6 _ rfl, hU 7 _ rfl⟩ : _ ∧ _ ∧ _ ∧ _ ∧ _ ∧ _ ∧ _ ∧ _)
       clear hR hQ hU hB2
       go_wp2_with fail
       refine (xi1 q u.q _).mono ?_
       rintro e w3 ⟨rfl, hb3⟩
       have hs3 := hb3.size
       have hR := HR.out.below hb3 (by omega)
       have hQ := HQ.out.below hb3 (by omega)
       have hU := HU.out.below hb3 (by omega)
       have HB3 := hide (HB.out.trans (hb3.mono HB.out.size))
       have HR3 := hide hR
       clear hb3 r0 rf0 r1 rf1 r2 rf2 r3 rf3 q0 qf0 q1 qf1 q2 qf2 q3 qf3 u0 uf0 u1 uf1 u2 uf2 u3 uf3 u4 uf4 u5 uf5 u6 uf6 u7 uf7 HB HR HQ HU
       obtain ⟨⟨q0, qf0⟩, ⟨q1, qf1⟩, ⟨q2, qf2⟩, ⟨q3, qf3⟩⟩ := (⟨hQ 0 _ rfl, hQ 1 _ rfl, hQ 2 _ rfl, hQ 3 _ rfl⟩ : _ ∧ _ ∧ _ ∧ _)
       obtain ⟨⟨u0, uf0⟩, ⟨u1, uf1⟩, ⟨u2, uf2⟩, ⟨u3, uf3⟩, ⟨u4, uf4⟩, ⟨u5, uf5⟩, ⟨u6, uf6⟩, ⟨u7, uf7⟩⟩ := (⟨hU 0 _ rfl, hU 1 _ rfl, hU 2 _ rfl, hU 3 _ rfl, hU 4 _ rfl, hU 5 _ rfl, hU 6 _ rfl, hU 7 _ rfl⟩ : _ ∧ _ ∧ _ ∧ _ ∧ _ ∧ _ ∧ _ ∧ _)
       have hQ3 := hide hQ
       clear hR hQ hU
       go_wp2
       refine ⟨⟨0 + 1, orP q u.q, u.next, f, by go_num, by go_num, by omega, by omega, by omega, HL2.out, HoldsV.other4 HR3.out (by omega) _ _ _ _, HoldsV.put4 hQ3.out _ _ _ _, xa3 HB3.out (Nat.le_succ _) _ _ _ _, by simp; omega⟩, by simp [intOf]; omega⟩
      ·by_cases h93 : ((s[k].toNat : Int) == 93) = true
       ·rw [h93] at hcond; simp at hcond; omega
       ·rw [Bool.not_eq_true] at h93
        have hnp : (0 : Int) < (nn : Int) := by omega
        clear hcond
        go_wp2_with fail
        refine (HE.out _).mono ?_
        rintro e w1 ⟨rfl, hb1⟩
        have hs1 := hb1.size
        have hal := (Below.refl w1.heap.size w1).alloc (Nat.le_refl _) (.cells #[.int .u64 (wd u.q 0), .int .u64 (wd u.q 1), .int .u64 (wd u.q 2), .int .u64 (wd u.q 3), .int .u8 u.b, .bool u.bound, .int .i64 u.next, .int .i64 u.e] 103)
        have hR := (HR.out.below hb1 (by omega)).below hal (by omega)
        have hQ := (HQ.out.below hb1 (by omega)).below hal (by omega)
        have hU := HoldsV.new w1 #[.int .u64 (wd u.q 0), .int .u64 (wd u.q 1), .int .u64 (wd u.q 2), .int .u64 (wd u.q 3), .int .u8 u.b, .bool u.bound, .int .i64 u.next, .int .i64 u.e] 103
        have hB2 := (HB.out.trans (hb1.mono HB.out.size)).alloc (HB.out.trans (hb1.mono HB.out.size)).size (.cells #[.int .u64 (wd u.q 0), .int .u64 (wd u.q 1), .int .u64 (wd u.q 2), .int .u64 (wd u.q 3), .int .u8 u.b, .bool u.bound, .int .i64 u.next, .int .i64 u.e] 103)
        have hsz2 : (w1.alloc (.cells #[.int .u64 (wd u.q 0), .int .u64 (wd u.q 1), .int .u64 (wd u.q 2), .int .u64 (wd u.q 3), .int .u8 u.b, .bool u.bound, .int .i64 u.next, .int .i64 u.e] 103)).heap.size = w1.heap.size + 1 := by simp
        obtain ⟨W2, hW2⟩ : ∃ W2, w1.alloc (.cells #[.int .u64 (wd u.q 0), .int .u64 (wd u.q 1), .int .u64 (wd u.q 2), .int .u64 (wd u.q 3), .int .u8 u.b, .bool u.bound, .int .i64 u.next, .int .i64 u.e] 103) = W2 := ⟨_, rfl⟩
        rw [hW2] at hR hQ hU hB2 hsz2
        clear hb1 hal r0 rf0 r1 rf1 r2 rf2 r3 rf3 q0 qf0 q1 qf1 q2 qf2 q3 qf3 HE
        have HR := hide hR
        have HQ := hide hQ
        have HU := hide hU
        have HB := hide hB2
        obtain ⟨⟨r0, rf0⟩, ⟨r1, rf1⟩, ⟨r2, rf2⟩, ⟨r3, rf3⟩⟩ := (⟨hR 0 _ rfl, hR 1 _ rfl, hR 2 _ rfl, hR 3 _ rfl⟩ : _ ∧ _ ∧ _ ∧ _)
        obtain ⟨⟨q0, qf0⟩, ⟨q1, qf1⟩, ⟨q2, qf2⟩, ⟨q3, qf3⟩⟩ := (⟨hQ 0 _ rfl, hQ 1 _ rfl, hQ 2 _ rfl, hQ 3 _ rfl⟩ : _ ∧ _ ∧ _ ∧ _)
        obtain ⟨⟨u0, uf0⟩, ⟨u1, uf1⟩, ⟨u2, uf2⟩, ⟨u3, uf3⟩, ⟨u4, uf4⟩, ⟨u5, uf5⟩, ⟨u6, uf6⟩, ⟨u7, uf7⟩⟩ := (⟨hU 0 _ rfl, hU 1 _ rfl, hU 2 _ rfl, hU 3 _ rfl, hU 4 _ rfl, hU 5 _ rfl, hU 6 _ rfl, hU 7 _ rfl⟩ : _ ∧ _ ∧ _ ∧ _ ∧ _ ∧ _ ∧ _ ∧ _)
        clear hR hQ hU hB2
        go_wp2_with fail
        refine (xi1 q u.q _).mono ?_
        rintro e w3 ⟨rfl, hb3⟩
        have hs3 := hb3.size
        have hR := HR.out.below hb3 (by omega)
        have hQ := HQ.out.below hb3 (by omega)
        have hU := HU.out.below hb3 (by omega)
        have HB3 := hide (HB.out.trans (hb3.mono HB.out.size))
        have HR3 := hide hR
        clear hb3 r0 rf0 r1 rf1 r2 rf2 r3 rf3 q0 qf0 q1 qf1 q2 qf2 q3 qf3 u0 uf0 u1 uf1 u2 uf2 u3 uf3 u4 uf4 u5 uf5 u6 uf6 u7 uf7 HB HR HQ HU
        obtain ⟨⟨q0, qf0⟩, ⟨q1, qf1⟩, ⟨q2, qf2⟩, ⟨q3, qf3⟩⟩ := (⟨hQ 0 _ rfl, hQ 1 _ rfl, hQ 2 _ rfl, hQ 3 _ rfl⟩ : _ ∧ _ ∧ _ ∧ _)
        obtain ⟨⟨u0, uf0⟩, ⟨u1, uf1⟩, ⟨u2, uf2⟩, ⟨u3, uf3⟩, ⟨u4, uf4⟩, ⟨u5, uf5⟩, ⟨u6, uf6⟩, ⟨u7, uf7⟩⟩ := (⟨hU 0 _ rfl, hU 1 _ rfl, hU 2 _ rfl, hU 3 _ rfl, hU 4 _ rfl, hU 5 _ rfl, hU 6 _ rfl, hU 7 _ rfl⟩ : _ ∧ _ ∧ _ ∧ _ ∧ _ ∧ _ ∧ _ ∧ _)
        have hQ3 := hide hQ
        clear hR hQ hU
        go_wp2
        refine ⟨⟨nn + 1, orP q u.q, u.next, f, by go_num, by go_num, by omega, by omega, by omega, HL2.out, HoldsV.other4 HR3.out (by omega) _ _ _ _, HoldsV.put4 hQ3.out _ _ _ _, xa3 HB3.out (Nat.le_succ _) _ _ _ _, by simp; omega⟩, by simp [intOf]; omega⟩
     ·have hL := HL.out
      rw [xc9 s f _ q k hc he, ← hrg.1] at hL
      rw [← hrg.1] at he
      clear hrg
      generalize rgS s k = u at *
      have HNE := hide he
      have HE := hide hE
      have hne : (u.e != 0) = true := by simp [he]
      have HLe := hide hL
      clear hL hE he HL hc
      rcases Nat.eq_zero_or_pos nn with hz | hz
      ·subst hz
       clear hcond
       go_wp2_with fail
       refine (HE.out _).mono ?_
       rintro e w1 ⟨rfl, hb1⟩
       have hs1 := hb1.size
       have hal := (Below.refl w1.heap.size w1).alloc (Nat.le_refl _) (.cells #[.int .u64 (wd u.q 0), .int .u64 (wd u.q 1), .int .u64 (wd u.q 2), .int .u64 (wd u.q 3), .int .u8 u.b, .bool u.bound, .int .i64 u.next, .int .i64 u.e] 103)
       have hR := (HR.out.below hb1 (by omega)).below hal (by omega)
       have hQ := (HQ.out.below hb1 (by omega)).below hal (by omega)
       have hU := HoldsV.new w1 #[.int .u64 (wd u.q 0), .int .u64 (wd u.q 1), .int .u64 (wd u.q 2), .int .u64 (wd u.q 3), .int .u8 u.b, .bool u.bound, .int .i64 u.next, .int .i64 u.e] 103
       have hB2 := (HB.out.trans (hb1.mono HB.out.size)).alloc (HB.out.trans (hb1.mono HB.out.size)).size (.cells #[.int .u64 (wd u.q 0), .int .u64 (wd u.q 1), .int .u64 (wd u.q 2), .int .u64 (wd u.q 3), .int .u8 u.b, .bool u.bound, .int .i64 u.next, .int .i64 u.e] 103)
       have hsz2 : (w1.alloc (.cells #[.int .u64 (wd u.q 0), .int .u64 (wd u.q 1), .int .u64 (wd u.q 2), .int .u64 (wd u.q 3), .int .u8 u.b, .bool u.bound, .int .i64 u.next, .int .i64 u.e] 103)).heap.size = w1.heap.size + 1 := by simp
       obtain ⟨W2, hW2⟩ : ∃ W2, w1.alloc (.cells #[.int .u64 (wd u.q 0), .int .u64 (wd u.q 1), .int .u64 (wd u.q 2), .int .u64 (wd u.q 3), .int .u8 u.b, .bool u.bound, .int .i64 u.next, .int .i64 u.e] 103) = W2 := ⟨_, rfl⟩
       rw [hW2] at hR hQ hU hB2 hsz2
       clear hb1 hal r0 rf0 r1 rf1 r2 rf2 r3 rf3 q0 qf0 q1 qf1 q2 qf2 q3 qf3 HE
       have HR := hide hR
       have HQ := hide hQ
       have HU := hide hU
       have HB := hide hB2
       obtain ⟨⟨r0, rf0⟩, ⟨r1, rf1⟩, ⟨r2, rf2⟩, ⟨r3, rf3⟩⟩ := (⟨hR 0 _ rfl, hR 1 _ rfl, hR 2 _ rfl, hR 3 _ rfl⟩ : _ ∧ _ ∧ _ ∧ _)
       obtain ⟨⟨q0, qf0⟩, ⟨q1, qf1⟩, ⟨q2, qf2⟩, ⟨q3, qf3⟩⟩ := (⟨hQ 0 _ rfl, hQ 1 _ rfl, hQ 2 _ rfl, hQ 3 _ rfl⟩ : _ ∧ _ ∧ _ ∧ _)
       obtain ⟨⟨u0, uf0⟩, ⟨u1, uf1⟩, ⟨u2, uf2⟩, ⟨u3, uf3⟩, ⟨u4, uf4⟩, ⟨u5, uf5⟩, ⟨u6, uf6⟩, ⟨u7, uf7⟩⟩ := (⟨hU 0 _ rfl, hU 1 _ rfl, hU 2 _ rfl, hU 3 _ rfl, hU 4 _ rfl, hU 5 _ rfl, hU 6 _ rfl, hU 7 _ rfl⟩ : _ ∧ _ ∧ _ ∧ _ ∧ _ ∧ _ ∧ _ ∧ _)
       clear hR hQ hU hB2
       go_wp2_with fail
       go_region
       all_goals
        go_wp2
        refine bodyPost_ret (v := .tuple #[.agg #[.int .u64 0, .int .u64 0, .int .u64 0, .int .u64 0], .int .i64 0, .int .i64 u.e]) ?_ rfl ⟨?_, xa3 HB.out.drew (Nat.le_refl w.heap.size) _ _ _ _⟩
        ·simp [results, Tryz.results42, go_sem, *]
        ·have h1 := HLe.out
         have h2 := HT.out
         rw [← h1] at h2
         split at h2
         ·subst h2
          simp only [It.err]
          unfold xad
          rw [xaa, xaa, xaa, xaa]
          rfl
         ·rename_i hh
          exact absurd HNE.out hh
      ·by_cases h93 : ((s[k].toNat : Int) == 93) = true
       ·rw [h93] at hcond; simp at hcond; omega
       ·rw [Bool.not_eq_true] at h93
        have hnp : (0 : Int) < (nn : Int) := by omega
        clear hcond
        go_wp2_with fail
        refine (HE.out _).mono ?_
        rintro e w1 ⟨rfl, hb1⟩
        have hs1 := hb1.size
        have hal := (Below.refl w1.heap.size w1).alloc (Nat.le_refl _) (.cells #[.int .u64 (wd u.q 0), .int .u64 (wd u.q 1), .int .u64 (wd u.q 2), .int .u64 (wd u.q 3), .int .u8 u.b, .bool u.bound, .int .i64 u.next, .int .i64 u.e] 103)
        have hR := (HR.out.below hb1 (by omega)).below hal (by omega)
        have hQ := (HQ.out.below hb1 (by omega)).below hal (by omega)
        have hU := HoldsV.new w1 #[.int .u64 (wd u.q 0), .int .u64 (wd u.q 1), .int .u64 (wd u.q 2), .int .u64 (wd u.q 3), .int .u8 u.b, .bool u.bound, .int .i64 u.next, .int .i64 u.e] 103
        have hB2 := (HB.out.trans (hb1.mono HB.out.size)).alloc (HB.out.trans (hb1.mono HB.out.size)).size (.cells #[.int .u64 (wd u.q 0), .int .u64 (wd u.q 1), .int .u64 (wd u.q 2), .int .u64 (wd u.q 3), .int .u8 u.b, .bool u.bound, .int .i64 u.next, .int .i64 u.e] 103)
        have hsz2 : (w1.alloc (.cells #[.int .u64 (wd u.q 0), .int .u64 (wd u.q 1), .int .u64 (wd u.q 2), .int .u64 (wd u.q 3), .int .u8 u.b, .bool u.bound, .int .i64 u.next, .int .i64 u.e] 103)).heap.size = w1.heap.size + 1 := by simp
        obtain ⟨W2, hW2⟩ : ∃ W2, w1.alloc (.cells #[.int .u64 (wd u.q 0), .int .u64 (wd u.q 1), .int .u64 (wd u.q 2), .int .u64 (wd u.q 3), .int .u8 u.b, .bool u.bound, .int .i64 u.next, .int .i64 u.e] 103) = W2 := ⟨_, rfl⟩
        rw [hW2] at hR hQ hU hB2 hsz2
        clear hb1 hal r0 rf0 r1 rf1 r2 rf2 r3 rf3 q0 qf0 q1 qf1 q2 qf2 q3 qf3 HE
        have HR := hide hR
        have HQ := hide hQ
        have HU := hide hU
        have HB := hide hB2
        obtain ⟨⟨r0, rf0⟩, ⟨r1, rf1⟩, ⟨r2, rf2⟩, ⟨r3, rf3⟩⟩ := (⟨hR 0 _ rfl, hR 1 _ rfl, hR 2 _ rfl, hR 3 _ rfl⟩ : _ ∧ _ ∧ _ ∧ _)
        obtain ⟨⟨q0, qf0⟩, ⟨q1, qf1⟩, ⟨q2, qf2⟩, ⟨q3, qf3⟩⟩ := (⟨hQ 0 _ rfl, hQ 1 _ rfl, hQ 2 _ rfl, hQ 3 _ rfl⟩ : _ ∧ _ ∧ _ ∧ _)
        obtain ⟨⟨u0, uf0⟩, ⟨u1, uf1⟩, ⟨u2, uf2⟩, ⟨u3, uf3⟩, ⟨u4, uf4⟩, ⟨u5, uf5⟩, ⟨u6, uf6⟩, ⟨u7, uf7⟩⟩ := (⟨hU 0 _ rfl, hU 1 _ rfl, hU 2 _ rfl, hU 3 _ rfl, hU 4 _ rfl, hU 5 _ rfl, hU 6 _ rfl, hU 7 _ rfl⟩ : _ ∧ _ ∧ _ ∧ _ ∧ _ ∧ _ ∧ _ ∧ _)
        clear hR hQ hU hB2
        go_wp2_with fail
        go_region
        all_goals
         go_wp2
         refine bodyPost_ret (v := .tuple #[.agg #[.int .u64 0, .int .u64 0, .int .u64 0, .int .u64 0], .int .i64 0, .int .i64 u.e]) ?_ rfl ⟨?_, xa3 HB.out.drew (Nat.le_refl w.heap.size) _ _ _ _⟩
         ·simp [results, Tryz.results42, go_sem, *]
         ·have h1 := HLe.out
          have h2 := HT.out
          rw [← h1] at h2
          split at h2
          ·subst h2
           simp only [It.err]
           unfold xad
           rw [xaa, xaa, xaa, xaa]
           rfl
          ·rename_i hh
           exact absurd HNE.out hh
   ·have hend := xf8 s k (by omega)
    have hL := HL.out
    rw [xc9 s f _ q k (by rw [xbc (by omega)]; simp) (by rw [hend]; simp [It.err]), hend] at hL
    have HLe := hide hL
    clear hL HL hend
    go_wp2
    refine bodyPost_ret (v := .tuple #[.agg #[.int .u64 0, .int .u64 0, .int .u64 0, .int .u64 0], .int .i64 0, .int .i64 6]) ?_ rfl ⟨?_, xa3 HB.out (Nat.le_refl w.heap.size) _ _ _ _⟩
    ·simp [results, Tryz.results42, go_sem, *]
    ·have h1 := HLe.out
     have h2 := HT.out
     rw [← h1] at h2
     split at h2
     ·subst h2
      simp only [It.err]
      unfold xad
      rw [xaa, xaa, xaa, xaa]
      rfl
     ·rename_i hh
      exact absurd (by simp [It.err]) hh
 ·clear h94n
  go_enter Tryz.func42, Tryz.ntmps42
  go_wp2_with fail
  go_loopw [1, 9] (fun p c wr => ∃ (nn : Nat) (q : Nat → Bool) (k f : Nat), p = .int .i64 k ∧ c = .int .i64 nn ∧ k ≤ s.size ∧ nn ≤ k ∧ s.size + 1 - k ≤ f ∧ Hid (xbi s f (nn == 0) q k = r) ∧ HoldsV wr w.heap.size [.int .u64 0, .int .u64 0, .int .u64 0, .int .u64 0] ∧ HoldsV wr (w.heap.size + 1) [.int .u64 (wd q 0), .int .u64 (wd q 1), .int .u64 (wd q 2), .int .u64 (wd q 3)] ∧ Below w.heap.size w wr ∧ w.heap.size + 1 < wr.heap.size) (fun p _ _ => s.size + 1 - (intOf p).toNat)
  case atStart =>
   refine ⟨0, xad, i + 1, s.size + 2, by go_num, rfl, by omega, by omega, by omega, HR0.out, hR, ?_, hB0, by omega⟩
   unfold xad
   rw [xaa, xaa, xaa, xaa]
   exact hQ
  case round =>
   clear hR hQ hB0 hsz0 HR0 hb91
   obtain ⟨nn, q, k, f, rfl, rfl, hk, hnk, hf, HL, hR, hQ, hB, hwr⟩ := hrel
   obtain ⟨f, rfl⟩ : ∃ g, f = g + 1 := ⟨f - 1, by omega⟩
   have HR := hide hR
   have HQ := hide hQ
   have HB := hide hB
   obtain ⟨⟨r0, rf0⟩, ⟨r1, rf1⟩, ⟨r2, rf2⟩, ⟨r3, rf3⟩⟩ := (⟨hR 0 _ rfl, hR 1 _ rfl, hR 2 _ rfl, hR 3 _ rfl⟩ : _ ∧ _ ∧ _ ∧ _)
   obtain ⟨⟨q0, qf0⟩, ⟨q1, qf1⟩, ⟨q2, qf2⟩, ⟨q3, qf3⟩⟩ := (⟨hQ 0 _ rfl, hQ 1 _ rfl, hQ 2 _ rfl, hQ 3 _ rfl⟩ : _ ∧ _ ∧ _ ∧ _)
   clear hR hQ hB
   by_cases hks : k < s.size
   ·by_cases hc : (nn == 0) = false ∧ xac s k = 93
    ·obtain ⟨hn0, h93⟩ := hc
     have hL := HL.out
     rw [hn0, xcy s f q k h93] at hL
     have HL2 := hide hL
     rw [xah hks] at h93
     have hq93 : ((s[k].toNat : Int) == 93) = true := by simp [h93]
     have hnp : (0 : Int) < (nn : Int) := by simp at hn0; omega
     clear hL h93 HL hn0
     go_wp2
     refine bodyPost_ret (v := .tuple #[.agg #[.int .u64 (wd q 0), .int .u64 (wd q 1), .int .u64 (wd q 2), .int .u64 (wd q 3)], .int .i64 ((k : Int) + 1), .int .i64 0]) ?_ rfl ⟨?_, xa3 HB.out (Nat.le_refl w.heap.size) _ _ _ _⟩
     ·simp [results, Tryz.results42, go_sem, *]
     ·have h1 := HL2.out
      have h2 := HT.out
      subst h1
      rw [if_neg (by simp)] at h2
      subst h2
      rfl
    ·have hE : ∀ w, _ := fun w => xf7 s hs k hks w _ rfl
     have hrg := xhm s k
     have hcond : ((decide ((0 : Int) < (nn : Int))) && ((s[k].toNat : Int) == 93)) = false := by
      rw [← xah hks, Bool.eq_false_iff]
      intro h
      rw [Bool.and_eq_true, decide_eq_true_eq, beq_iff_eq] at h
      exact hc ⟨by simp; omega, h.2⟩
     by_cases he : (xa2 s k).e = 0
     ·have hL := HL.out
      rw [xdp s f _ q k hc he] at hL
      have hnx := xb4 s k he
      obtain ⟨e1, e2⟩ := hrg
      obtain ⟨e2, e3⟩ := e2 he
      rw [he] at e1
      rw [← e2, ← e3] at hL
      rw [← e3] at hnx
      generalize rgS s k = u at *
      have HL2 := hide (show xbi s f (nn + 1 == 0) (orP q u.q) u.next = r by rw [show (nn + 1 == 0) = false by simp]; exact hL)
      have HE := hide hE
      have hne : (u.e != 0) = false := by simp [e1]
      clear hL hE HL he e1 e2 e3 hc
      rcases Nat.eq_zero_or_pos nn with hz | hz
      ·subst hz
       clear hcond
       go_wp2_with fail
       refine (HE.out _).mono ?_
       rintro e w1 ⟨rfl, hb1⟩
       have hs1 := hb1.size
       have hal := (Below.refl w1.heap.size w1).alloc (Nat.le_refl _) (.cells #[.int .u64 (wd u.q 0), .int .u64 (wd u.q 1), .int .u64 (wd u.q 2), .int .u64 (wd u.q 3), .int .u8 u.b, .bool u.bound, .int .i64 u.next, .int .i64 u.e] 103)
       have hR := (HR.out.below hb1 (by omega)).below hal (by omega)
       have hQ := (HQ.out.below hb1 (by omega)).below hal (by omega)
       have hU := HoldsV.new w1 #[.int .u64 (wd u.q 0), .int .u64 (wd u.q 1), .int .u64 (wd u.q 2), .int .u64 (wd u.q 3), .int .u8 u.b, .bool u.bound, .int .i64 u.next, .int .i64 u.e] 103
       have hB2 := (HB.out.trans (hb1.mono HB.out.size)).alloc (HB.out.trans (hb1.mono HB.out.size)).size (.cells #[.int .u64 (wd u.q 0), .int .u64 (wd u.q 1), .int .u64 (wd u.q 2), .int .u64 (wd u.q 3), .int .u8 u.b, .bool u.bound, .int .i64 u.next, .int .i64 u.e] 103)
       have hsz2 : (w1.alloc (.cells #[.int .u64 (wd u.q 0), .int .u64 (wd u.q 1), .int .u64 (wd u.q 2), .int .u64 (wd u.q 3), .int .u8 u.b, .bool u.bound, .int .i64 u.next, .int .i64 u.e] 103)).heap.size = w1.heap.size + 1 := by simp
       obtain ⟨W2, hW2⟩ : ∃ W2, w1.alloc (.cells #[.int .u64 (wd u.q 0), .int .u64 (wd u.q 1), .int .u64 (wd u.q 2), .int .u64 (wd u.q 3), .int .u8 u.b, .bool u.bound, .int .i64 u.next, .int .i64 u.e] 103) = W2 := ⟨_, rfl⟩
       rw [hW2] at hR hQ hU hB2 hsz2
       clear hb1 hal r0 rf0 r1 rf1 r2 rf2 r3 rf3 q0 qf0 q1 qf1 q2 qf2 q3 qf3 HE
       have HR := hide hR
       have HQ := hide hQ
       have HU := hide hU
       have HB := hide hB2
       obtain ⟨⟨r0, rf0⟩, ⟨r1, rf1⟩, ⟨r2, rf2⟩, ⟨r3, rf3⟩⟩ := (⟨hR 0 _ rfl, hR 1 _ rfl, hR 2 _ rfl, hR 3 _ rfl⟩ : _ ∧ _ ∧ _ ∧ _)
       obtain ⟨⟨q0, qf0⟩, ⟨q1, qf1⟩, ⟨q2, qf2⟩, ⟨q3, qf3⟩⟩ := (⟨hQ 0 _ rfl, hQ 1 _ rfl, hQ 2 _ rfl, hQ 3 _ rfl⟩ : _ ∧ _ ∧ _ ∧ _)
       obtain ⟨⟨u0, uf0⟩, ⟨u1, uf1⟩, ⟨u2, uf2⟩, ⟨u3, uf3⟩, ⟨u4, uf4⟩, ⟨u5, uf5⟩, ⟨u6, uf6⟩, ⟨u7, uf7⟩⟩ := (⟨hU 0 _ rfl, hU 1 _ rfl, hU 2 _ rfl, hU 3 _ rfl, hU 4 _ rfl, hU 5 _ rfl, hU 6 _ rfl, hU 7 _ rfl⟩ : _ ∧ _ ∧ _ ∧ _ ∧ _ ∧ _ ∧ _ ∧ _)
       clear hR hQ hU hB2
       go_wp2_with fail
       refine (xi1 q u.q _).mono ?_
       rintro e w3 ⟨rfl, hb3⟩
       have hs3 := hb3.size
       have hR := HR.out.below hb3 (by omega)
       have hQ := HQ.out.below hb3 (by omega)
       have hU := HU.out.below hb3 (by omega)
       have HB3 := hide (HB.out.trans (hb3.mono HB.out.size))
       have HR3 := hide hR
       clear hb3 r0 rf0 r1 rf1 r2 rf2 r3 rf3 q0 qf0 q1 qf1 q2 qf2 q3 qf3 u0 uf0 u1 uf1 u2 uf2 u3 uf3 u4 uf4 u5 uf5 u6 uf6 u7 uf7 HB HR HQ HU
       obtain ⟨⟨q0, qf0⟩, ⟨q1, qf1⟩, ⟨q2, qf2⟩, ⟨q3, qf3⟩⟩ := (⟨hQ 0 _ rfl, hQ 1 _ rfl, hQ 2 _ rfl, hQ 3 _ rfl⟩ : _ ∧ _ ∧ _ ∧ _)
       obtain ⟨⟨u0, uf0⟩, ⟨u1, uf1⟩, ⟨u2, uf2⟩, ⟨u3, uf3⟩, ⟨u4, uf4⟩, ⟨u5, uf5⟩, ⟨u6, uf6⟩, ⟨u7, uf7⟩⟩ := (⟨hU 0 _ rfl, hU 1 _ rfl, hU 2 _ rfl, hU 3 _ rfl, hU 4 _ rfl, hU 5 _ rfl, hU 6 _ rfl, hU 7 _ rfl⟩ : _ ∧ _ ∧ _ ∧ _ ∧ _ ∧ _ ∧ _ ∧ _)
       have hQ3 := hide hQ
       clear hR hQ hU
       go_wp2
       refine ⟨⟨0 + 1, orP q u.q, u.next, f, by go_num, by go_num, by omega, by omega, by omega, HL2.out, HoldsV.other4 HR3.out (by omega) _ _ _ _, HoldsV.put4 hQ3.out _ _ _ _, xa3 HB3.out (Nat.le_succ _) _ _ _ _, by simp; omega⟩, by simp [intOf]; omega⟩
      ·by_cases h93 : ((s[k].toNat : Int) == 93) = true
       ·rw [h93] at hcond; simp at hcond; omega
       ·rw [Bool.not_eq_true] at h93
        have hnp : (0 : Int) < (nn : Int) := by omega
        clear hcond
        go_wp2_with fail
        refine (HE.out _).mono ?_
        rintro e w1 ⟨rfl, hb1⟩
        have hs1 := hb1.size
        have hal := (Below.refl w1.heap.size w1).alloc (Nat.le_refl _) (.cells #[.int .u64 (wd u.q 0), .int .u64 (wd u.q 1), .int .u64 (wd u.q 2), .int .u64 (wd u.q 3), .int .u8 u.b, .bool u.bound, .int .i64 u.next, .int .i64 u.e] 103)
        have hR := (HR.out.below hb1 (by omega)).below hal (by omega)
        have hQ := (HQ.out.below hb1 (by omega)).below hal (by omega)
        have hU := HoldsV.new w1 #[.int .u64 (wd u.q 0), .int .u64 (wd u.q 1), .int .u64 (wd u.q 2), .int .u64 (wd u.q 3), .int .u8 u.b, .bool u.bound, .int .i64 u.next, .int .i64 u.e] 103
        have hB2 := (HB.out.trans (hb1.mono HB.out.size)).alloc (HB.out.trans (hb1.mono HB.out.size)).size (.cells #[.int .u64 (wd u.q 0), .int .u64 (wd u.q 1), .int .u64 (wd u.q 2), .int .u64 (wd u.q 3), .int .u8 u.b, .bool u.bound, .int .i64 u.next, .int .i64 u.e] 103)
        have hsz2 : (w1.alloc (.cells #[.int .u64 (wd u.q 0), .int .u64 (wd u.q 1), .int .u64 (wd u.q 2), .int .u64 (wd u.q 3), .int .u8 u.b, .bool u.bound, .int .i64 u.next, .int .i64 u.e] 103)).heap.size = w1.heap.size + 1 := by simp
        obtain ⟨W2, hW2⟩ : ∃ W2, w1.alloc (.cells #[.int .u64 (wd u.q 0), .int .u64 (wd u.q 1), .int .u64 (wd u.q 2), .int .u64 (wd u.q 3), .int .u8 u.b, .bool u.bound, .int .i64 u.next, .int .i64 u.e] 103) = W2 := ⟨_, rfl⟩
        rw [hW2] at hR hQ hU hB2 hsz2
        clear hb1 hal r0 rf0 r1 rf1 r2 rf2 r3 rf3 q0 qf0 q1 qf1 q2 qf2 q3 qf3 HE
        have HR := hide hR
        have HQ := hide hQ
        have HU := hide hU
        have HB := hide hB2
        obtain ⟨⟨r0, rf0⟩, ⟨r1, rf1⟩, ⟨r2, rf2⟩, ⟨r3, rf3⟩⟩ := (⟨hR 0 _ rfl, hR 1 _ rfl, hR 2 _ rfl, hR 3 _ rfl⟩ : _ ∧ _ ∧ _ ∧ _)
        obtain ⟨⟨q0, qf0⟩, ⟨q1, qf1⟩, ⟨q2, qf2⟩, ⟨q3, qf3⟩⟩ := (⟨hQ 0 _ rfl, hQ 1 _ rfl, hQ 2 _ rfl, hQ 3 _ rfl⟩ : _ ∧ _ ∧ _ ∧ _)
        obtain ⟨⟨u0, uf0⟩, ⟨u1, uf1⟩, ⟨u2, uf2⟩, ⟨u3, uf3⟩, ⟨u4, uf4⟩, ⟨u5, uf5⟩, ⟨u6, uf6⟩, ⟨u7, uf7⟩⟩ := (⟨hU 0 _ rfl, hU 1 _ rfl, hU 2 _ rfl, hU 3 _ rfl, hU 4 _ rfl, hU 5 _ rfl, hU 6 _ rfl, hU 7 _ rfl⟩ : _ ∧ _ ∧ _ ∧ _ ∧ _ ∧ _ ∧ _ ∧ _)
        clear hR hQ hU hB2
        go_wp2_with fail
        refine (xi1 q u.q _).mono ?_
        rintro e w3 ⟨rfl, hb3⟩
        have hs3 := hb3.size
        have hR := HR.out.below hb3 (by omega)
        have hQ := HQ.out.below hb3 (by omega)
        have hU := HU.out.below hb3 (by omega)
        have HB3 := hide (HB.out.trans (hb3.mono HB.out.size))
        have HR3 := hide hR
        clear hb3 r0 rf0 r1 rf1 r2 rf2 r3 rf3 q0 qf0 q1 qf1 q2 qf2 q3 qf3 u0 uf0 u1 uf1 u2 uf2 u3 uf3 u4 uf4 u5 uf5 u6 uf6 u7 uf7 HB HR HQ HU
        obtain ⟨⟨q0, qf0⟩, ⟨q1, qf1⟩, ⟨q2, qf2⟩, ⟨q3, qf3⟩⟩ := (⟨hQ 0 _ rfl, hQ 1 _ rfl, hQ 2 _ rfl, hQ 3 _ rfl⟩ : _ ∧ _ ∧ _ ∧ _)
        obtain ⟨⟨u0, uf0⟩, ⟨u1, uf1⟩, ⟨u2, uf2⟩, ⟨u3, uf3⟩, ⟨u4, uf4⟩, ⟨u5, uf5⟩, ⟨u6, uf6⟩, ⟨u7, uf7⟩⟩ := (⟨hU 0 _ rfl, hU 1 _ rfl, hU 2 _ rfl, hU 3 _ rfl, hU 4 _ rfl, hU 5 _ rfl, hU 6 _ rfl, hU 7 _ rfl⟩ : _ ∧ _ ∧ _ ∧ _ ∧ _ ∧ _ ∧ _ ∧ _)
        have hQ3 := hide hQ
        clear hR hQ hU
        go_wp2
        refine ⟨⟨nn + 1, orP q u.q, u.next, f, by go_num, by go_num, by omega, by omega, by omega, HL2.out, HoldsV.other4 HR3.out (by omega) _ _ _ _, HoldsV.put4 hQ3.out _ _ _ _, xa3 HB3.out (Nat.le_succ _) _ _ _ _, by simp; omega⟩, by simp [intOf]; omega⟩
     ·have hL := HL.out
      rw [xc9 s f _ q k hc he, ← hrg.1] at hL
      rw [← hrg.1] at he
      clear hrg
      generalize rgS s k = u at *
      have HNE := hide he
      have HE := hide hE
      have hne : (u.e != 0) = true := by simp [he]
      have HLe := hide hL
      clear hL hE he HL hc
      rcases Nat.eq_zero_or_pos nn with hz | hz
      ·subst hz
       clear hcond
       go_wp2_with fail
       refine (HE.out _).mono ?_
       rintro e w1 ⟨rfl, hb1⟩
       have hs1 := hb1.size
       have hal := (Below.refl w1.heap.size w1).alloc (Nat.le_refl _) (.cells #[.int .u64 (wd u.q 0), .int .u64 (wd u.q 1), .int .u64 (wd u.q 2), .int .u64 (wd u.q 3), .int .u8 u.b, .bool u.bound, .int .i64 u.next, .int .i64 u.e] 103)
       have hR := (HR.out.below hb1 (by omega)).below hal (by omega)
       have hQ := (HQ.out.below hb1 (by omega)).below hal (by omega)
       have hU := HoldsV.new w1 #[.int .u64 (wd u.q 0), .int .u64 (wd u.q 1), .int .u64 (wd u.q 2), .int .u64 (wd u.q 3), .int .u8 u.b, .bool u.bound, .int .i64 u.next, .int .i64 u.e] 103
       have hB2 := (HB.out.trans (hb1.mono HB.out.size)).alloc (HB.out.trans (hb1.mono HB.out.size)).size (.cells #[.int .u64 (wd u.q 0), .int .u64 (wd u.q 1), .int .u64 (wd u.q 2), .int .u64 (wd u.q 3), .int .u8 u.b, .bool u.bound, .int .i64 u.next, .int .i64 u.e] 103)
       have hsz2 : (w1.alloc (.cells #[.int .u64 (wd u.q 0), .int .u64 (wd u.q 1), .int .u64 (wd u.q 2), .int .u64 (wd u.q 3), .int .u8 u.b, .bool u.bound, .int .i64 u.next, .int .i64 u.e] 103)).heap.size = w1.heap.size + 1 := by simp
       obtain ⟨W2, hW2⟩ : ∃ W2, w1.alloc (.cells #[.int .u64 (wd u.q 0), .int .u64 (wd u.q 1), .int .u64 (wd u.q 2), .int .u64 (wd u.q 3), .int .u8 u.b, .bool u.bound, .int .i64 u.next, .int .i64 u.e] 103) = W2 := ⟨_, rfl⟩
       rw [hW2] at hR hQ hU hB2 hsz2
       clear hb1 hal r0 rf0 r1 rf1 r2 rf2 r3 rf3 q0 qf0 q1 qf1 q2 qf2 q3 qf3 HE
       have HR := hide hR
       have HQ := hide hQ
       have HU := hide hU
       have HB := hide hB2
       obtain ⟨⟨r0, rf0⟩, ⟨r1, rf1⟩, ⟨r2, rf2⟩, ⟨r3, rf3⟩⟩ := (⟨hR 0 _ rfl, hR 1 _ rfl, hR 2 _ rfl, hR 3 _ rfl⟩ : _ ∧ _ ∧ _ ∧ _)
       obtain ⟨⟨q0, qf0⟩, ⟨q1, qf1⟩, ⟨q2, qf2⟩, ⟨q3, qf3⟩⟩ := (⟨hQ 0 _ rfl, hQ 1 _ rfl, hQ 2 _ rfl, hQ 3 _ rfl⟩ : _ ∧ _ ∧ _ ∧ _)
       obtain ⟨⟨u0, uf0⟩, ⟨u1, uf1⟩, ⟨u2, uf2⟩, ⟨u3, uf3⟩, ⟨u4, uf4⟩, ⟨u5, uf5⟩, ⟨u6, uf6⟩, ⟨u7, uf7⟩⟩ := (⟨hU 0 _ rfl, hU 1 _ rfl, hU 2 _ rfl, hU 3 _ rfl, hU 4 _ rfl, hU 5 _ rfl, hU 6 _ rfl, hU 7 _ rfl⟩ : _ ∧ _ ∧ _ ∧ _ ∧ _ ∧ _ ∧ _ ∧ _)
       clear hR hQ hU hB2
       go_wp2_with fail
       go_region
       all_goals
        go_wp2
        refine bodyPost_ret (v := .tuple #[.agg #[.int .u64 0, .int .u64 0, .int .u64 0, .int .u64 0], .int .i64 0, .int .i64 u.e]) ?_ rfl ⟨?_, xa3 HB.out.drew (Nat.le_refl w.heap.size) _ _ _ _⟩
        ·simp [results, Tryz.results42, go_sem, *]
        ·have h1 := HLe.out
         have h2 := HT.out
         rw [← h1] at h2
         split at h2
         ·subst h2
          simp only [It.err]
          unfold xad
          rw [xaa, xaa, xaa, xaa]
          rfl
         ·rename_i hh
          exact absurd HNE.out hh
      ·by_cases h93 : ((s[k].toNat : Int) == 93) = true
       ·rw [h93] at hcond; simp at hcond; omega
       ·rw [Bool.not_eq_true] at h93
        have hnp : (0 : Int) < (nn : Int) := by omega
        clear hcond
        go_wp2_with fail
        refine (HE.out _).mono ?_
        rintro e w1 ⟨rfl, hb1⟩
        have hs1 := hb1.size
        have hal := (Below.refl w1.heap.size w1).alloc (Nat.le_refl _) (.cells #[.int .u64 (wd u.q 0), .int .u64 (wd u.q 1), .int .u64 (wd u.q 2), .int .u64 (wd u.q 3), .int .u8 u.b, .bool u.bound, .int .i64 u.next, .int .i64 u.e] 103)
        have hR := (HR.out.below hb1 (by omega)).below hal (by omega)
        have hQ := (HQ.out.below hb1 (by omega)).below hal (by omega)
        have hU := HoldsV.new w1 #[.int .u64 (wd u.q 0), .int .u64 (wd u.q 1), .int .u64 (wd u.q 2), .int .u64 (wd u.q 3), .int .u8 u.b, .bool u.bound, .int .i64 u.next, .int .i64 u.e] 103
        have hB2 := (HB.out.trans (hb1.mono HB.out.size)).alloc (HB.out.trans (hb1.mono HB.out.size)).size (.cells #[.int .u64 (wd u.q 0), .int .u64 (wd u.q 1), .int .u64 (wd u.q 2), .int .u64 (wd u.q 3), .int .u8 u.b, .bool u.bound, .int .i64 u.next, .int .i64 u.e] 103)
        have hsz2 : (w1.alloc (.cells #[.int .u64 (wd u.q 0), .int .u64 (wd u.q 1), .int .u64 (wd u.q 2), .int .u64 (wd u.q 3), .int .u8 u.b, .bool u.bound, .int .i64 u.next, .int .i64 u.e] 103)).heap.size = w1.heap.size + 1 := by simp
        obtain ⟨W2, hW2⟩ : ∃ W2, w1.alloc (.cells #[.int .u64 (wd u.q 0), .int .u64 (wd u.q 1), .int .u64 (wd u.q 2), .int .u64 (wd u.q 3), .int .u8 u.b, .bool u.bound, .int .i64 u.next, .int .i64 u.e] 103) = W2 := ⟨_, rfl⟩
        rw [hW2] at hR hQ hU hB2 hsz2
        clear hb1 hal r0 rf0 r1 rf1 r2 rf2 r3 rf3 q0 qf0 q1 qf1 q2 qf2 q3 qf3 HE
        have HR := hide hR
        have HQ := hide hQ
        have HU := hide hU
        have HB := hide hB2
        obtain ⟨⟨r0, rf0⟩, ⟨r1, rf1⟩, ⟨r2, rf2⟩, ⟨r3, rf3⟩⟩ := (⟨hR 0 _ rfl, hR 1 _ rfl, hR 2 _ rfl, hR 3 _ rfl⟩ : _ ∧ _ ∧ _ ∧ _)
        obtain ⟨⟨q0, qf0⟩, ⟨q1, qf1⟩, ⟨q2, qf2⟩, ⟨q3, qf3⟩⟩ := (⟨hQ 0 _ rfl, hQ 1 _ rfl, hQ 2 _ rfl, hQ 3 _ rfl⟩ : _ ∧ _ ∧ _ ∧ _)
        obtain ⟨⟨u0, uf0⟩, ⟨u1, uf1⟩, ⟨u2, uf2⟩, ⟨u3, uf3⟩, ⟨u4, uf4⟩, ⟨u5, uf5⟩, ⟨u6, uf6⟩, ⟨u7, uf7⟩⟩ := (⟨hU 0 _ rfl, hU 1 _ rfl, hU 2 _ rfl, hU 3 _ rfl, hU 4 _ rfl, hU 5 _ rfl, hU 6 _ rfl, hU 7 _ rfl⟩ : _ ∧ _ ∧ _ ∧ _ ∧ _ ∧ _ ∧ _ ∧ _)
        clear hR hQ hU hB2
        go_wp2_with fail
        go_region
        all_goals
         go_wp2
         refine bodyPost_ret (v := .tuple #[.agg #[.int .u64 0, .int .u64 0, .int .u64 0, .int .u64 0], .int .i64 0, .int .i64 u.e]) ?_ rfl ⟨?_, xa3 HB.out.drew (Nat.le_refl w.heap.size) _ _ _ _⟩
         ·simp [results, Tryz.results42, go_sem, *]
         ·have h1 := HLe.out
          have h2 := HT.out
          rw [← h1] at h2
          split at h2
          ·subst h2
           simp only [It.err]
           unfold xad
           rw [xaa, xaa, xaa, xaa]
           rfl
          ·rename_i hh
           exact absurd HNE.out hh
   ·have hend := xf8 s k (by omega)
    have hL := HL.out
    rw [xc9 s f _ q k (by rw [xbc (by omega)]; simp) (by rw [hend]; simp [It.err]), hend] at hL
    have HLe := hide hL
    clear hL HL hend
    go_wp2
    refine bodyPost_ret (v := .tuple #[.agg #[.int .u64 0, .int .u64 0, .int .u64 0, .int .u64 0], .int .i64 0, .int .i64 6]) ?_ rfl ⟨?_, xa3 HB.out (Nat.le_refl w.heap.size) _ _ _ _⟩
    ·simp [results, Tryz.results42, go_sem, *]
    ·have h1 := HLe.out
     have h2 := HT.out
     rw [← h1] at h2
     split at h2
     ·subst h2
      simp only [It.err]
      unfold xad
      rw [xaa, xaa, xaa, xaa]
      rfl
     ·rename_i hh
      exact absurd (by simp [It.err]) hh
theorem xla (s : ByteArray) (hs : s.size ≤ 1073741824) (i : Nat) (h91 : xac s i = 91) (h94 : xac s (i + 1) = 94) (w : World) (r t : It) (hr : xbi s (s.size + 2) true xad (i + 2) = r)
  (ht : (if r.e ≠ 0 then It.err r.e else ⟨0, notP r.q, 0, false, r.next + 1⟩) = t) :
  Calls Tryz.prog 42 #[.string s, .int .i64 i] w fun e w' => e = .returned (.tuple #[.agg #[.int .u64 (wd t.q 0), .int .u64 (wd t.q 1), .int .u64 (wd t.q 2), .int .u64 (wd t.q 3)], .int .i64 t.next, .int .i64 t.e]) ∧ Below w.heap.size w w' := by
 have h0 : i < s.size := xa7 h91 (by omega)
 have h1 : i + 1 < s.size := xa7 h94 (by omega)
 rw [xah h0] at h91
 have hb91 : ((s[i].toNat : Int) != 91) = false := by simp [h91]
 have HT := hide ht
 have HR0 := hide hr
 have h94n := h94
 clear ht hr h91 h94
 have hR := (HoldsV.new w #[.int .u64 0, .int .u64 0, .int .u64 0, .int .u64 0] 33).below ((Below.refl _ _).alloc (Nat.le_refl _) (.cells #[.int .u64 0, .int .u64 0, .int .u64 0, .int .u64 0] 33)) (by simp)
 have hQ : HoldsV ((w.alloc (.cells #[.int .u64 0, .int .u64 0, .int .u64 0, .int .u64 0] 33)).alloc (.cells #[.int .u64 0, .int .u64 0, .int .u64 0, .int .u64 0] 33)) (w.heap.size + 1) (#[.int .u64 0, .int .u64 0, .int .u64 0, .int .u64 0] : Array Value).toList := by
  have h := HoldsV.new (w.alloc (.cells #[.int .u64 0, .int .u64 0, .int .u64 0, .int .u64 0] 33)) #[.int .u64 0, .int .u64 0, .int .u64 0, .int .u64 0] 33
  rwa [World.size_alloc] at h
 have hB0 : Below w.heap.size w ((w.alloc (.cells #[.int .u64 0, .int .u64 0, .int .u64 0, .int .u64 0] 33)).alloc (.cells #[.int .u64 0, .int .u64 0, .int .u64 0, .int .u64 0] 33)) := ((Below.refl w.heap.size w).alloc (Nat.le_refl _) _).alloc (by simp) _
 have hsz0 : ((w.alloc (.cells #[.int .u64 0, .int .u64 0, .int .u64 0, .int .u64 0] 33)).alloc (.cells #[.int .u64 0, .int .u64 0, .int .u64 0, .int .u64 0] 33)).heap.size = w.heap.size + 1 + 1 := by simp
 rw [xah h1] at h94n
 have hb94 : ((s[i + 1].toNat : Int) == 94) = true := by simp [h94n]
 clear h94n
 go_enter Tryz.func42, Tryz.ntmps42
 go_wp2_with fail
 go_loopw [1, 9] (fun p c wr => ∃ (nn : Nat) (q : Nat → Bool) (k f : Nat), p = .int .i64 k ∧ c = .int .i64 nn ∧ k ≤ s.size ∧ nn ≤ k ∧ s.size + 1 - k ≤ f ∧ Hid (xbi s f (nn == 0) q k = r) ∧ HoldsV wr w.heap.size [.int .u64 0, .int .u64 0, .int .u64 0, .int .u64 0] ∧ HoldsV wr (w.heap.size + 1) [.int .u64 (wd q 0), .int .u64 (wd q 1), .int .u64 (wd q 2), .int .u64 (wd q 3)] ∧ Below w.heap.size w wr ∧ w.heap.size + 1 < wr.heap.size) (fun p _ _ => s.size + 1 - (intOf p).toNat)
 case atStart =>
  refine ⟨0, xad, i + 2, s.size + 2, by go_num, rfl, by omega, by omega, by omega, HR0.out, hR, ?_, hB0, by omega⟩
  unfold xad
  rw [xaa, xaa, xaa, xaa]
  exact hQ
 case round =>
  clear hR hQ hB0 hsz0 HR0 hb91
  obtain ⟨nn, q, k, f, rfl, rfl, hk, hnk, hf, HL, hR, hQ, hB, hwr⟩ := hrel
  obtain ⟨f, rfl⟩ : ∃ g, f = g + 1 := ⟨f - 1, by omega⟩
  have HR := hide hR
  have HQ := hide hQ
  have HB := hide hB
  obtain ⟨⟨r0, rf0⟩, ⟨r1, rf1⟩, ⟨r2, rf2⟩, ⟨r3, rf3⟩⟩ := (⟨hR 0 _ rfl, hR 1 _ rfl, hR 2 _ rfl, hR 3 _ rfl⟩ : _ ∧ _ ∧ _ ∧ _)
  obtain ⟨⟨q0, qf0⟩, ⟨q1, qf1⟩, ⟨q2, qf2⟩, ⟨q3, qf3⟩⟩ := (⟨hQ 0 _ rfl, hQ 1 _ rfl, hQ 2 _ rfl, hQ 3 _ rfl⟩ : _ ∧ _ ∧ _ ∧ _)
  clear hR hQ hB
  by_cases hks : k < s.size
  ·by_cases hc : (nn == 0) = false ∧ xac s k = 93
   ·obtain ⟨hn0, h93⟩ := hc
    have hL := HL.out
    rw [hn0, xcy s f q k h93] at hL
    have HL2 := hide hL
    rw [xah hks] at h93
    have hq93 : ((s[k].toNat : Int) == 93) = true := by simp [h93]
    have hnp : (0 : Int) < (nn : Int) := by simp at hn0; omega
    clear hL h93 HL hn0
    go_wp2_with fail
    refine (xq0 q _).mono ?_
    rintro e w3 ⟨rfl, hb3⟩
    have hR := HR.out.below hb3 (by omega)
    have hQ := HQ.out.below hb3 (by omega)
    have HB := hide (HB.out.trans (hb3.mono HB.out.size))
    clear hb3 r0 rf0 r1 rf1 r2 rf2 r3 rf3 q0 qf0 q1 qf1 q2 qf2 q3 qf3 HR HQ
    obtain ⟨⟨r0, rf0⟩, ⟨r1, rf1⟩, ⟨r2, rf2⟩, ⟨r3, rf3⟩⟩ := (⟨hR 0 _ rfl, hR 1 _ rfl, hR 2 _ rfl, hR 3 _ rfl⟩ : _ ∧ _ ∧ _ ∧ _)
    obtain ⟨⟨q0, qf0⟩, ⟨q1, qf1⟩, ⟨q2, qf2⟩, ⟨q3, qf3⟩⟩ := (⟨hQ 0 _ rfl, hQ 1 _ rfl, hQ 2 _ rfl, hQ 3 _ rfl⟩ : _ ∧ _ ∧ _ ∧ _)
    clear hR hQ
    go_wp2
    refine bodyPost_ret (v := .tuple #[.agg #[.int .u64 (wd (notP q) 0), .int .u64 (wd (notP q) 1), .int .u64 (wd (notP q) 2), .int .u64 (wd (notP q) 3)], .int .i64 ((k : Int) + 1), .int .i64 0]) ?_ rfl ⟨?_, xa3 (xa3 HB.out (Nat.le_succ w.heap.size) _ _ _ _) (Nat.le_refl w.heap.size) _ _ _ _⟩
    ·simp [results, Tryz.results42, go_sem, *]
    ·have h1 := HL2.out
     have h2 := HT.out
     subst h1
     rw [if_neg (by simp)] at h2
     subst h2
     rfl
   ·have hE : ∀ w, _ := fun w => xf7 s hs k hks w _ rfl
    have hrg := xhm s k
    have hcond : ((decide ((0 : Int) < (nn : Int))) && ((s[k].toNat : Int) == 93)) = false := by
     rw [← xah hks, Bool.eq_false_iff]
     intro h
     rw [Bool.and_eq_true, decide_eq_true_eq, beq_iff_eq] at h
     exact hc ⟨by simp; omega, h.2⟩
    by_cases he : (xa2 s k).e = 0
    ·have hL := HL.out
     rw [xdp s f _ q k hc he] at hL
     have hnx := xb4 s k he
     obtain ⟨e1, e2⟩ := hrg
     obtain ⟨e2, e3⟩ := e2 he
     rw [he] at e1
     rw [← e2, ← e3] at hL
     rw [← e3] at hnx
     generalize rgS s k = u at *
     have HL2 := hide (show xbi s f (nn + 1 == 0) (orP q u.q) u.next = r by rw [show (nn + 1 == 0) = false by simp]; exact hL)
     have HE := hide hE
     have hne : (u.e != 0) = false := by simp [e1]
     clear hL hE HL he e1 e2 e3 hc
     rcases Nat.eq_zero_or_pos nn with hz | hz
     ·subst hz
      clear hcond
      go_wp2_with fail
      refine (HE.out _).mono ?_
      rintro e w1 ⟨rfl, hb1⟩
      have hs1 := hb1.size
      have hal := (Below.refl w1.heap.size w1).alloc (Nat.le_refl _) (.cells #[.int .u64 (wd u.q 0), .int .u64 (wd u.q 1), .int .u64 (wd u.q 2), .int .u64 (wd u.q 3), .int .u8 u.b, .bool u.bound, .int .i64 u.next, .int .i64 u.e] 103)
      have hR := (HR.out.below hb1 (by omega)).below hal (by omega)
      have hQ := (HQ.out.below hb1 (by omega)).below hal (by omega)
      have hU := HoldsV.new w1 #[.int .u64 (wd u.q 0), .int .u64 (wd u.q 1), .int .u64 (wd u.q 2), .int .u64 (wd u.q 3), .int .u8 u.b, .bool u.bound, .int .i64 u.next, .int .i64 u.e] 103
      have hB2 := (HB.out.trans (hb1.mono HB.out.size)).alloc (HB.out.trans (hb1.mono HB.out.size)).size (.cells #[.int .u64 (wd u.q 0), .int .u64 (wd u.q 1), .int .u64 (wd u.q 2), .int .u64 (wd u.q 3), .int .u8 u.b, .bool u.bound, .int .i64 u.next, .int .i64 u.e] 103)
      have hsz2 : (w1.alloc (.cells #[.int .u64 (wd u.q 0), .int .u64 (wd u.q 1), .int .u64 (wd u.q 2), .int .u64 (wd u.q 3), .int .u8 u.b, .bool u.bound, .int .i64 u.next, .int .i64 u.e] 103)).heap.size = w1.heap.size + 1 := by simp
      obtain ⟨W2, hW2⟩ : ∃ W2, w1.alloc (.cells #[.int .u64 (wd u.q 0), .int .u64 (wd u.q 1), .int .u64 (wd u.q 2), .int .u64 (wd u.q 3), .int .u8 u.b, .bool u.bound, .int .i64 u.next, .int .i64 u.e] 103) = W2 := ⟨_, rfl⟩
      rw [hW2] at hR hQ hU hB2 hsz2
      clear hb1 hal r0 rf0 r1 rf1 r2 rf2 r3 rf3 q0 qf0 q1 qf1 q2 qf2 q3 qf3 HE
      have HR := hide hR
      have HQ := hide hQ
      have HU := hide hU
      have HB := hide hB2
      obtain ⟨⟨r0, rf0⟩, ⟨r1, rf1⟩, ⟨r2, rf2⟩, ⟨r3, rf3⟩⟩ := (⟨hR 0 _ rfl, hR 1 _ rfl, hR 2 _ rfl, hR 3 _ rfl⟩ : _ ∧ _ ∧ _ ∧ _)
      obtain ⟨⟨q0, qf0⟩, ⟨q1, qf1⟩, ⟨q2, qf2⟩, ⟨q3, qf3⟩⟩ := (⟨hQ 0 _ rfl, hQ 1 _ rfl, hQ 2 _ rfl, hQ 3 _ rfl⟩ : _ ∧ _ ∧ _ ∧ _)
      obtain ⟨⟨u0, uf0⟩, ⟨u1, uf1⟩, ⟨u2, uf2⟩, ⟨u3, uf3⟩, ⟨u4, uf4⟩, ⟨u5, uf5⟩, ⟨u6, uf6⟩, ⟨u7, uf7⟩⟩ := (⟨hU 0 _ rfl, hU 1 _ rfl, hU 2 _ rfl, hU 3 _ rfl, hU 4 _ rfl, hU 5 _ rfl, hU 6 _ rfl, hU 7 _ rfl⟩ : _ ∧ _ ∧ _ ∧ _ ∧ _ ∧ _ ∧ _ ∧ _)
      clear hR hQ hU hB2
      go_wp2_with fail
      refine (xi1 q u.q _).mono ?_
      rintro e w3 ⟨rfl, hb3⟩
      have hs3 := hb3.size
      have hR := HR.out.below hb3 (by omega)
      have hQ := HQ.out.below hb3 (by omega)
      have hU := HU.out.below hb3 (by omega)
      have HB3 := hide (HB.out.trans (hb3.mono HB.out.size))
      have HR3 := hide hR
      clear hb3 r0 rf0 r1 rf1 r2 rf2 r3 rf3 q0 qf0 q1 qf1 q2 qf2 q3 qf3 u0 uf0 u1 uf1 u2 uf2 u3 uf3 u4 uf4 u5 uf5 u6 uf6 u7 uf7 HB HR HQ HU
      obtain ⟨⟨q0, qf0⟩, ⟨q1, qf1⟩, ⟨q2, qf2⟩, ⟨q3, qf3⟩⟩ := (⟨hQ 0 _ rfl, hQ 1 _ rfl, hQ 2 _ rfl, hQ 3 _ rfl⟩ : _ ∧ _ ∧ _ ∧ _)
      obtain ⟨⟨u0, uf0⟩, ⟨u1, uf1⟩, ⟨u2, uf2⟩, ⟨u3, uf3⟩, ⟨u4, uf4⟩, ⟨u5, uf5⟩, ⟨u6, uf6⟩, ⟨u7, uf7⟩⟩ := (⟨hU 0 _ rfl, hU 1 _ rfl, hU 2 _ rfl, hU 3 _ rfl, hU 4 _ rfl, hU 5 _ rfl, hU 6 _ rfl, hU 7 _ rfl⟩ : _ ∧ _ ∧ _ ∧ _ ∧ _ ∧ _ ∧ _ ∧ _)
      have hQ3 := hide hQ
      clear hR hQ hU
      go_wp2
      refine ⟨⟨0 + 1, orP q u.q, u.next, f, by go_num, by go_num, by omega, by omega, by omega, HL2.out, HoldsV.other4 HR3.out (by omega) _ _ _ _, HoldsV.put4 hQ3.out _ _ _ _, xa3 HB3.out (Nat.le_succ _) _ _ _ _, by simp; omega⟩, by simp [intOf]; omega⟩
     ·by_cases h93 : ((s[k].toNat : Int) == 93) = true
      ·rw [h93] at hcond; simp at hcond; omega
      ·rw [Bool.not_eq_true] at h93
       have hnp : (0 : Int) < (nn : Int) := by omega
       clear hcond
       go_wp2_with fail
       refine (HE.out _).mono ?_
       rintro e w1 ⟨rfl, hb1⟩
       have hs1 := hb1.size
       have hal := (Below.refl w1.heap.size w1).alloc (Nat.le_refl _) (.cells #[.int .u64 (wd u.q 0), .int .u64 (wd u.q 1), .int .u64 (wd u.q 2), .int .u64 (wd u.q 3), .int .u8 u.b, .bool u.bound, .int .i64 u.next, .int .i64 u.e] 103)
       have hR := (HR.out.below hb1 (by omega)).below hal (by omega)
       have hQ := (HQ.out.below hb1 (by omega)).below hal (by omega)
       have hU := HoldsV.new w1 #[.int .u64 (wd u.q 0), .int .u64 (wd u.q 1), .int .u64 (wd u.q 2), .int .u64 (wd u.q 3), .int .u8 u.b, .bool u.bound, .int .i64 u.next, .int .i64 u.e] 103
       have hB2 := (HB.out.trans (hb1.mono HB.out.size)).alloc (HB.out.trans (hb1.mono HB.out.size)).size (.cells #[.int .u64 (wd u.q 0), .int .u64 (wd u.q 1), .int .u64 (wd u.q 2), .int .u64 (wd u.q 3), .int .u8 u.b, .bool u.bound, .int .i64 u.next, .int .i64 u.e] 103)
       have hsz2 : (w1.alloc (.cells #[.int .u64 (wd u.q 0), .int .u64 (wd u.q 1), .int .u64 (wd u.q 2), .int .u64 (wd u.q 3), .int .u8 u.b, .bool u.bound, .int .i64 u.next, .int .i64 u.e] 103)).heap.size = w1.heap.size + 1 := by simp
       obtain ⟨W2, hW2⟩ : ∃ W2, w1.alloc (.cells #[.int .u64 (wd u.q 0), .int .u64 (wd u.q 1), .int .u64 (wd u.q 2), .int .u64 (wd u.q 3), .int .u8 u.b, .bool u.bound, .int .i64 u.next, .int .i64 u.e] 103) = W2 := ⟨_, rfl⟩
       rw [hW2] at hR hQ hU hB2 hsz2
       clear hb1 hal r0 rf0 r1 rf1 r2 rf2 r3 rf3 q0 qf0 q1 qf1 q2 qf2 q3 qf3 HE
       have HR := hide hR
       have HQ := hide hQ
       have HU := hide hU
       have HB := hide hB2
       obtain ⟨⟨r0, rf0⟩, ⟨r1, rf1⟩, ⟨r2, rf2⟩, ⟨r3, rf3⟩⟩ := (⟨hR 0 _ rfl, hR 1 _ rfl, hR 2 _ rfl, hR 3 _ rfl⟩ : _ ∧ _ ∧ _ ∧ _)
       obtain ⟨⟨q0, qf0⟩, ⟨q1, qf1⟩, ⟨q2, qf2⟩, ⟨q3, qf3⟩⟩ := (⟨hQ 0 _ rfl, hQ 1 _ rfl, hQ 2 _ rfl, hQ 3 _ rfl⟩ : _ ∧ _ ∧ _ ∧ _)
       obtain ⟨⟨u0, uf0⟩, ⟨u1, uf1⟩, ⟨u2, uf2⟩, ⟨u3, uf3⟩, ⟨u4, uf4⟩, ⟨u5, uf5⟩, ⟨u6, uf6⟩, ⟨u7, uf7⟩⟩ := (⟨hU 0 _ rfl, hU 1 _ rfl, hU 2 _ rfl, hU 3 _ rfl, hU 4 _ rfl, hU 5 _ rfl, hU 6 _ rfl, hU 7 _ rfl⟩ : _ ∧ _ ∧ _ ∧ _ ∧ _ ∧ _ ∧ _ ∧ _)
       clear hR hQ hU hB2
       go_wp2_with fail
       refine (xi1 q u.q _).mono ?_
       rintro e w3 ⟨rfl, hb3⟩
       have hs3 := hb3.size
       have hR := HR.out.below hb3 (by omega)
       have hQ := HQ.out.below hb3 (by omega)
       have hU := HU.out.below hb3 (by omega)
       have HB3 := hide (HB.out.trans (hb3.mono HB.out.size))
       have HR3 := hide hR
       clear hb3 r0 rf0 r1 rf1 r2 rf2 r3 rf3 q0 qf0 q1 qf1 q2 qf2 q3 qf3 u0 uf0 u1 uf1 u2 uf2 u3 uf3 u4 uf4 u5 uf5 u6 uf6 u7 uf7 HB HR HQ HU
       obtain ⟨⟨q0, qf0⟩, ⟨q1, qf1⟩, ⟨q2, qf2⟩, ⟨q3, qf3⟩⟩ := (⟨hQ 0 _ rfl, hQ 1 _ rfl, hQ 2 _ rfl, hQ 3 _ rfl⟩ : _ ∧ _ ∧ _ ∧ _)
       obtain ⟨⟨u0, uf0⟩, ⟨u1, uf1⟩, ⟨u2, uf2⟩, ⟨u3, uf3⟩, ⟨u4, uf4⟩, ⟨u5, uf5⟩, ⟨u6, uf6⟩, ⟨u7, uf7⟩⟩ := (⟨hU 0 _ rfl, hU 1 _ rfl, hU 2 _ rfl, hU 3 _ rfl, hU 4 _ rfl, hU 5 _ rfl, hU 6 _ rfl, hU 7 _ rfl⟩ : _ ∧ _ ∧ _ ∧ _ ∧ _ ∧ _ ∧ _ ∧ _)
       have hQ3 := hide hQ
       clear hR hQ hU
       go_wp2
       refine ⟨⟨nn + 1, orP q u.q, u.next, f, by go_num, by go_num, by omega, by omega, by omega, HL2.out, HoldsV.other4 HR3.out (by omega) _ _ _ _, HoldsV.put4 hQ3.out _ _ _ _, xa3 HB3.out (Nat.le_succ _) _ _ _ _, by simp; omega⟩, by simp [intOf]; omega⟩
    ·have hL := HL.out
     rw [xc9 s f _ q k hc he, ← hrg.1] at hL
     rw [← hrg.1] at he
     clear hrg
     generalize rgS s k = u at *
     have HNE := hide he
     have HE := hide hE
     have hne : (u.e != 0) = true := by simp [he]
     have HLe := hide hL
     clear hL hE he HL hc
     rcases Nat.eq_zero_or_pos nn with hz | hz
     ·subst hz
      clear hcond
      go_wp2_with fail
      refine (HE.out _).mono ?_
      rintro e w1 ⟨rfl, hb1⟩
      have hs1 := hb1.size
      have hal := (Below.refl w1.heap.size w1).alloc (Nat.le_refl _) (.cells #[.int .u64 (wd u.q 0), .int .u64 (wd u.q 1), .int .u64 (wd u.q 2), .int .u64 (wd u.q 3), .int .u8 u.b, .bool u.bound, .int .i64 u.next, .int .i64 u.e] 103)
      have hR := (HR.out.below hb1 (by omega)).below hal (by omega)
      have hQ := (HQ.out.below hb1 (by omega)).below hal (by omega)
      have hU := HoldsV.new w1 #[.int .u64 (wd u.q 0), .int .u64 (wd u.q 1), .int .u64 (wd u.q 2), .int .u64 (wd u.q 3), .int .u8 u.b, .bool u.bound, .int .i64 u.next, .int .i64 u.e] 103
      have hB2 := (HB.out.trans (hb1.mono HB.out.size)).alloc (HB.out.trans (hb1.mono HB.out.size)).size (.cells #[.int .u64 (wd u.q 0), .int .u64 (wd u.q 1), .int .u64 (wd u.q 2), .int .u64 (wd u.q 3), .int .u8 u.b, .bool u.bound, .int .i64 u.next, .int .i64 u.e] 103)
      have hsz2 : (w1.alloc (.cells #[.int .u64 (wd u.q 0), .int .u64 (wd u.q 1), .int .u64 (wd u.q 2), .int .u64 (wd u.q 3), .int .u8 u.b, .bool u.bound, .int .i64 u.next, .int .i64 u.e] 103)).heap.size = w1.heap.size + 1 := by simp
      obtain ⟨W2, hW2⟩ : ∃ W2, w1.alloc (.cells #[.int .u64 (wd u.q 0), .int .u64 (wd u.q 1), .int .u64 (wd u.q 2), .int .u64 (wd u.q 3), .int .u8 u.b, .bool u.bound, .int .i64 u.next, .int .i64 u.e] 103) = W2 := ⟨_, rfl⟩
      rw [hW2] at hR hQ hU hB2 hsz2
      clear hb1 hal r0 rf0 r1 rf1 r2 rf2 r3 rf3 q0 qf0 q1 qf1 q2 qf2 q3 qf3 HE
      have HR := hide hR
      have HQ := hide hQ
      have HU := hide hU
      have HB := hide hB2
      obtain ⟨⟨r0, rf0⟩, ⟨r1, rf1⟩, ⟨r2, rf2⟩, ⟨r3, rf3⟩⟩ := (⟨hR 0 _ rfl, hR 1 _ rfl, hR 2 _ rfl, hR 3 _ rfl⟩ : _ ∧ _ ∧ _ ∧ _)
      obtain ⟨⟨q0, qf0⟩, ⟨q1, qf1⟩, ⟨q2, qf2⟩, ⟨q3, qf3⟩⟩ := (⟨hQ 0 _ rfl, hQ 1 _ rfl, hQ 2 _ rfl, hQ 3 _ rfl⟩ : _ ∧ _ ∧ _ ∧ _)
      obtain ⟨⟨u0, uf0⟩, ⟨u1, uf1⟩, ⟨u2, uf2⟩, ⟨u3, uf3⟩, ⟨u4, uf4⟩, ⟨u5, uf5⟩, ⟨u6, uf6⟩, ⟨u7, uf7⟩⟩ := (⟨hU 0 _ rfl, hU 1 _ rfl, hU 2 _ rfl, hU 3 _ rfl, hU 4 _ rfl, hU 5 _ rfl, hU 6 _ rfl, hU 7 _ rfl⟩ : _ ∧ _ ∧ _ ∧ _ ∧ _ ∧ _ ∧ _ ∧ _)
      clear hR hQ hU hB2
      go_wp2_with fail
      go_region
      all_goals
       go_wp2
       refine bodyPost_ret (v := .tuple #[.agg #[.int .u64 0, .int .u64 0, .int .u64 0, .int .u64 0], .int .i64 0, .int .i64 u.e]) ?_ rfl ⟨?_, xa3 HB.out.drew (Nat.le_refl w.heap.size) _ _ _ _⟩
       ·simp [results, Tryz.results42, go_sem, *]
       ·have h1 := HLe.out
        have h2 := HT.out
        rw [← h1] at h2
        split at h2
        ·subst h2
         simp only [It.err]
         unfold xad
         rw [xaa, xaa, xaa, xaa]
         rfl
        ·rename_i hh
         exact absurd HNE.out hh
     ·by_cases h93 : ((s[k].toNat : Int) == 93) = true
      ·rw [h93] at hcond; simp at hcond; omega
      ·rw [Bool.not_eq_true] at h93
       have hnp : (0 : Int) < (nn : Int) := by omega
       clear hcond
       go_wp2_with fail
       refine (HE.out _).mono ?_
       rintro e w1 ⟨rfl, hb1⟩
       have hs1 := hb1.size
       have hal := (Below.refl w1.heap.size w1).alloc (Nat.le_refl _) (.cells #[.int .u64 (wd u.q 0), .int .u64 (wd u.q 1), .int .u64 (wd u.q 2), .int .u64 (wd u.q 3), .int .u8 u.b, .bool u.bound, .int .i64 u.next, .int .i64 u.e] 103)
       have hR := (HR.out.below hb1 (by omega)).below hal (by omega)
       have hQ := (HQ.out.below hb1 (by omega)).below hal (by omega)
       have hU := HoldsV.new w1 #[.int .u64 (wd u.q 0), .int .u64 (wd u.q 1), .int .u64 (wd u.q 2), .int .u64 (wd u.q 3), .int .u8 u.b, .bool u.bound, .int .i64 u.next, .int .i64 u.e] 103
       have hB2 := (HB.out.trans (hb1.mono HB.out.size)).alloc (HB.out.trans (hb1.mono HB.out.size)).size (.cells #[.int .u64 (wd u.q 0), .int .u64 (wd u.q 1), .int .u64 (wd u.q 2), .int .u64 (wd u.q 3), .int .u8 u.b, .bool u.bound, .int .i64 u.next, .int .i64 u.e] 103)
       have hsz2 : (w1.alloc (.cells #[.int .u64 (wd u.q 0), .int .u64 (wd u.q 1), .int .u64 (wd u.q 2), .int .u64 (wd u.q 3), .int .u8 u.b, .bool u.bound, .int .i64 u.next, .int .i64 u.e] 103)).heap.size = w1.heap.size + 1 := by simp
       obtain ⟨W2, hW2⟩ : ∃ W2, w1.alloc (.cells #[.int .u64 (wd u.q 0), .int .u64 (wd u.q 1), .int .u64 (wd u.q 2), .int .u64 (wd u.q 3), .int .u8 u.b, .bool u.bound, .int .i64 u.next, .int .i64 u.e] 103) = W2 := ⟨_, rfl⟩
       rw [hW2] at hR hQ hU hB2 hsz2
       clear hb1 hal r0 rf0 r1 rf1 r2 rf2 r3 rf3 q0 qf0 q1 qf1 q2 qf2 q3 qf3 HE
       have HR := hide hR
       have HQ := hide hQ
       have HU := hide hU
       have HB := hide hB2
       obtain ⟨⟨r0, rf0⟩, ⟨r1, rf1⟩, ⟨r2, rf2⟩, ⟨r3, rf3⟩⟩ := (⟨hR 0 _ rfl, hR 1 _ rfl, hR 2 _ rfl, hR 3 _ rfl⟩ : _ ∧ _ ∧ _ ∧ _)
       obtain ⟨⟨q0, qf0⟩, ⟨q1, qf1⟩, ⟨q2, qf2⟩, ⟨q3, qf3⟩⟩ := (⟨hQ 0 _ rfl, hQ 1 _ rfl, hQ 2 _ rfl, hQ 3 _ rfl⟩ : _ ∧ _ ∧ _ ∧ _)
       obtain ⟨⟨u0, uf0⟩, ⟨u1, uf1⟩, ⟨u2, uf2⟩, ⟨u3, uf3⟩, ⟨u4, uf4⟩, ⟨u5, uf5⟩, ⟨u6, uf6⟩, ⟨u7, uf7⟩⟩ := (⟨hU 0 _ rfl, hU 1 _ rfl, hU 2 _ rfl, hU 3 _ rfl, hU 4 _ rfl, hU 5 _ rfl, hU 6 _ rfl, hU 7 _ rfl⟩ : _ ∧ _ ∧ _ ∧ _ ∧ _ ∧ _ ∧ _ ∧ _)
       clear hR hQ hU hB2
       go_wp2_with fail
       go_region
       all_goals
        go_wp2
        refine bodyPost_ret (v := .tuple #[.agg #[.int .u64 0, .int .u64 0, .int .u64 0, .int .u64 0], .int .i64 0, .int .i64 u.e]) ?_ rfl ⟨?_, xa3 HB.out.drew (Nat.le_refl w.heap.size) _ _ _ _⟩
        ·simp [results, Tryz.results42, go_sem, *]
        ·have h1 := HLe.out
         have h2 := HT.out
         rw [← h1] at h2
         split at h2
         ·subst h2
          simp only [It.err]
          unfold xad
          rw [xaa, xaa, xaa, xaa]
          rfl
         ·rename_i hh
          exact absurd HNE.out hh
  ·have hend := xf8 s k (by omega)
   have hL := HL.out
   rw [xc9 s f _ q k (by rw [xbc (by omega)]; simp) (by rw [hend]; simp [It.err]), hend] at hL
   have HLe := hide hL
   clear hL HL hend
   go_wp2
   refine bodyPost_ret (v := .tuple #[.agg #[.int .u64 0, .int .u64 0, .int .u64 0, .int .u64 0], .int .i64 0, .int .i64 6]) ?_ rfl ⟨?_, xa3 HB.out (Nat.le_refl w.heap.size) _ _ _ _⟩
   ·simp [results, Tryz.results42, go_sem, *]
   ·have h1 := HLe.out
    have h2 := HT.out
    rw [← h1] at h2
    split at h2
    ·subst h2
     simp only [It.err]
     unfold xad
     rw [xaa, xaa, xaa, xaa]
     rfl
    ·rename_i hh
     exact absurd (by simp [It.err]) hh
end Go.Proofs.YtaapmphdnholaaaGreatDoor
