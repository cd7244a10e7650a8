/- bracket.Parse at a [, without a ^ behind it. -/
import Derived.Test.YtolpakpdkheanaaKEntry
set_option maxRecDepth 100000
set_option maxHeartbeats 4000000
namespace Go.Proofs.Ytolpakpdkheanaa.br
open Go.RowKit
theorem HoldsV.put4 {w : World} {b : Nat} {o0 o1 o2 o3 : Value} (h : HoldsV w b [o0, o1, o2, o3]) (v0 v1 v2 v3 : Value) : HoldsV ((((w.setCell ⟨b, 0, none⟩ v0).setCell ⟨b, 1, none⟩ v1).setCell ⟨b, 2, none⟩ v2).setCell ⟨b, 3, none⟩ v3) b [v0, v1, v2, v3] := by
 obtain ⟨⟨c0, f0⟩, ⟨c1, f1⟩, ⟨c2, f2⟩, ⟨c3, f3⟩⟩ := (⟨h 0 _ rfl, h 1 _ rfl, h 2 _ rfl, h 3 _ rfl⟩ : _ ∧ _ ∧ _ ∧ _)
 intro i v hi
 match i, hi with
 | 0, hi => cases hi; simp [go_sem, *]
 | 1, hi => cases hi; simp [go_sem, *]
 | 2, hi => cases hi; simp [go_sem, *]
 | 3, hi => cases hi; simp [go_sem, *]
 | n + 4, hi => simp at hi
theorem HoldsV.other4 {w : World} {b b' : Nat} {vs : List Value} (h : HoldsV w b vs) (hne : b < b') (v0 v1 v2 v3 : Value) : HoldsV ((((w.setCell ⟨b', 0, none⟩ v0).setCell ⟨b', 1, none⟩ v1).setCell ⟨b', 2, none⟩ v2).setCell ⟨b', 3, none⟩ v3) b vs :=
 h.below (xa9 (Below.refl b' w) (Nat.le_refl _) _ _ _ _) hne
theorem Glob.succ {w : World} (h : Glob w) : 0 < w.heap.size + 1 := by
 obtain ⟨m, hm⟩ := h
 have : 0 < w.heap.size := World.block_lt_of_cell? w _ hm
 omega
theorem Glob.put4 {w : World} (h : Glob w) {b : Nat} (hb : 0 < b) (v0 v1 v2 v3 : Value) : Glob ((((w.setCell ⟨b, 0, none⟩ v0).setCell ⟨b, 1, none⟩ v1).setCell ⟨b, 2, none⟩ v2).setCell ⟨b, 3, none⟩ v3) := by
 obtain ⟨m, hm⟩ := h
 exact ⟨m, ((xa9 (Below.refl b w) (Nat.le_refl _) v0 v1 v2 v3).cell (p := ⟨0, 0, none⟩) hb).trans hm⟩
theorem xkw (s : ByteArray) (hs : s.size ≤ 1073741824) (i : Nat) (h91 : xag s i = 91) (h94 : ¬ xag s (i + 1) = 94) (w : World) (hg : Glob w) (r t : It) (hr : xbe s (s.size + 2) true xad (i + 1) = r)
  (ht : (if r.e ≠ 0 then It.err r.e else ⟨0, r.q, 0, false, r.next + 1⟩) = t) :
  Calls Try.prog 77 #[.string s, .int .i64 i] w fun e w' => e = .returned (.tuple #[.agg #[.int .u64 (wd t.q 0), .int .u64 (wd t.q 1), .int .u64 (wd t.q 2), .int .u64 (wd t.q 3)], .int .i64 t.next, .int .i64 t.e]) ∧ Below w.heap.size w w' := by
 have h0 : i < s.size := xcg h91 (by omega)
 have hS1 := xax s i 91 (by decide)
 rw [h91] at hS1
 have hS2 := xax s (i + 1) 94 (by decide)
 rw [show (xag s (i + 1) == 94) = false by simp [h94]] at hS2
 have HS1 := hide hS1
 have HS2 := hide hS2
 have HT := hide ht
 have HR0 := hide hr
 clear hS1 hS2 ht hr h91 h94
 have hR := (HoldsV.new w #[.int .u64 0, .int .u64 0, .int .u64 0, .int .u64 0] 38).below ((Below.refl _ _).alloc (Nat.le_refl _) (.cells #[.int .u64 0, .int .u64 0, .int .u64 0, .int .u64 0] 38)) (by simp)
 have hQ : HoldsV ((w.alloc (.cells #[.int .u64 0, .int .u64 0, .int .u64 0, .int .u64 0] 38)).alloc (.cells #[.int .u64 0, .int .u64 0, .int .u64 0, .int .u64 0] 38)) (w.heap.size + 1) (#[.int .u64 0, .int .u64 0, .int .u64 0, .int .u64 0] : Array Value).toList := by
  have h := HoldsV.new (w.alloc (.cells #[.int .u64 0, .int .u64 0, .int .u64 0, .int .u64 0] 38)) #[.int .u64 0, .int .u64 0, .int .u64 0, .int .u64 0] 38
  rwa [World.size_alloc] at h
 have hB0 : Below w.heap.size w ((w.alloc (.cells #[.int .u64 0, .int .u64 0, .int .u64 0, .int .u64 0] 38)).alloc (.cells #[.int .u64 0, .int .u64 0, .int .u64 0, .int .u64 0] 38)) := ((Below.refl w.heap.size w).alloc (Nat.le_refl _) _).alloc (by simp) _
 have hG0 := hg.below hB0 (Nat.le_refl _)
 have hsz0 : ((w.alloc (.cells #[.int .u64 0, .int .u64 0, .int .u64 0, .int .u64 0] 38)).alloc (.cells #[.int .u64 0, .int .u64 0, .int .u64 0, .int .u64 0] 38)).heap.size = w.heap.size + 1 + 1 := by simp
 go_enter Try.func77, Try.ntmps77
 go_wp2_with fail
 refine (HS1.out _).mono ?_
 rintro e ws ⟨rfl, hws⟩
 have hws := hws.symm
 subst hws
 go_wp2_with fail
 refine (HS2.out _).mono ?_
 rintro e ws ⟨rfl, hws⟩
 have hws := hws.symm
 subst hws
 go_wp2_with fail
 go_loopw [1, 9] (fun p fi wr => ∃ (first : Bool) (q : Nat → Bool) (k f : Nat), p = .int .i64 k ∧ fi = .bool first ∧ k ≤ s.size ∧ s.size + 1 - k ≤ f ∧ Hid (xbe s f first q k = r) ∧ HoldsV wr w.heap.size [.int .u64 0, .int .u64 0, .int .u64 0, .int .u64 0] ∧ HoldsV wr (w.heap.size + 1) [.int .u64 (wd q 0), .int .u64 (wd q 1), .int .u64 (wd q 2), .int .u64 (wd q 3)] ∧ Glob wr ∧ Below w.heap.size w wr ∧ w.heap.size + 1 < wr.heap.size) (fun p _ _ => s.size + 1 - (intOf p).toNat)
 case atStart =>
  refine ⟨true, xad, i + 1, s.size + 2, by go_num, rfl, by omega, by omega, HR0.out, hR, ?_, hG0, hB0, by omega⟩
  unfold xad
  rw [xaa, xaa, xaa, xaa]
  exact hQ
 case round =>
  clear hR hQ hB0 hG0 hsz0 HR0 HS1 HS2
  obtain ⟨first, q, k, f, rfl, rfl, hk, hf, HL, hR, hQ, hG, hB, hwr⟩ := hrel
  obtain ⟨f, rfl⟩ : ∃ g, f = g + 1 := ⟨f - 1, by omega⟩
  have HR := hide hR
  have HQ := hide hQ
  have HG := hide hG
  have HB := hide hB
  obtain ⟨⟨r0, rf0⟩, ⟨r1, rf1⟩, ⟨r2, rf2⟩, ⟨r3, rf3⟩⟩ := (⟨hR 0 _ rfl, hR 1 _ rfl, hR 2 _ rfl, hR 3 _ rfl⟩ : _ ∧ _ ∧ _ ∧ _)
  obtain ⟨⟨q0, qf0⟩, ⟨q1, qf1⟩, ⟨q2, qf2⟩, ⟨q3, qf3⟩⟩ := (⟨hQ 0 _ rfl, hQ 1 _ rfl, hQ 2 _ rfl, hQ 3 _ rfl⟩ : _ ∧ _ ∧ _ ∧ _)
  clear hR hQ hG hB
  by_cases hc : first = false ∧ xag s k = 93
  ·obtain ⟨rfl, h93⟩ := hc
   have hS := xax s k 93 (by decide)
   rw [h93] at hS
   have HS := hide hS
   have hL := HL.out
   rw [xgd s f q k h93] at hL
   have HL2 := hide hL
   clear hS hL h93 HL
   go_wp2_with fail
   refine (HS.out _).mono ?_
   rintro e ws ⟨rfl, hws⟩
   have hws := hws.symm
   subst hws
   go_wp2
   refine bodyPost_ret (v := .tuple #[.agg #[.int .u64 (wd q 0), .int .u64 (wd q 1), .int .u64 (wd q 2), .int .u64 (wd q 3)], .int .i64 ((k : Int) + 1), .int .i64 0]) ?_ rfl ⟨?_, xa9 HB.out (Nat.le_refl w.heap.size) _ _ _ _⟩
   ·simp [results, Try.results77, go_sem, *]
   ·have h1 := HL2.out
    have h2 := HT.out
    subst h1
    rw [if_neg (by simp)] at h2
    subst h2
    rfl
  ·have hE : ∀ w, Glob w → _ := fun w hg => xeg s hs k w hg _ rfl
   by_cases he : (xa6 s k).e = 0
   ·have hL := HL.out
    rw [xg5 s f first q k hc he] at hL
    have hnx := xd2 s k he
    generalize xa6 s k = u at *
    have HL2 := hide hL
    have HE := hide hE
    have hne : (u.e != 0) = false := by simp [he]
    clear hL hE HL he
    cases first with
    | true =>
     clear hc
     go_wp2_with fail
     refine (HE.out _ HG.out).mono ?_
     rintro e w1 ⟨rfl, hb1⟩
     have hs1 := hb1.size
     have hal := (Below.refl w1.heap.size w1).alloc (Nat.le_refl _) (.cells #[.int .u64 (wd u.q 0), .int .u64 (wd u.q 1), .int .u64 (wd u.q 2), .int .u64 (wd u.q 3)] 38)
     have hR := (HR.out.below hb1 (by omega)).below hal (by omega)
     have hQ := (HQ.out.below hb1 (by omega)).below hal (by omega)
     have hU := HoldsV.new w1 #[.int .u64 (wd u.q 0), .int .u64 (wd u.q 1), .int .u64 (wd u.q 2), .int .u64 (wd u.q 3)] 38
     have hG2 := (HG.out.below hb1 (Nat.le_refl _)).below hal (Nat.le_refl _)
     have hB2 := (HB.out.trans (hb1.mono HB.out.size)).alloc (HB.out.trans (hb1.mono HB.out.size)).size (.cells #[.int .u64 (wd u.q 0), .int .u64 (wd u.q 1), .int .u64 (wd u.q 2), .int .u64 (wd u.q 3)] 38)
     have hsz2 : (w1.alloc (.cells #[.int .u64 (wd u.q 0), .int .u64 (wd u.q 1), .int .u64 (wd u.q 2), .int .u64 (wd u.q 3)] 38)).heap.size = w1.heap.size + 1 := by simp
     obtain ⟨W2, hW2⟩ : ∃ W2, w1.alloc (.cells #[.int .u64 (wd u.q 0), .int .u64 (wd u.q 1), .int .u64 (wd u.q 2), .int .u64 (wd u.q 3)] 38) = W2 := ⟨_, rfl⟩
     rw [hW2] at hR hQ hU hG2 hB2 hsz2
     clear hb1 hal r0 rf0 r1 rf1 r2 rf2 r3 rf3 q0 qf0 q1 qf1 q2 qf2 q3 qf3 HG HE
     have HR := hide hR
     have HQ := hide hQ
     have HB := hide hB2
     have HG := hide hG2
     obtain ⟨⟨r0, rf0⟩, ⟨r1, rf1⟩, ⟨r2, rf2⟩, ⟨r3, rf3⟩⟩ := (⟨hR 0 _ rfl, hR 1 _ rfl, hR 2 _ rfl, hR 3 _ rfl⟩ : _ ∧ _ ∧ _ ∧ _)
     obtain ⟨⟨q0, qf0⟩, ⟨q1, qf1⟩, ⟨q2, qf2⟩, ⟨q3, qf3⟩⟩ := (⟨hQ 0 _ rfl, hQ 1 _ rfl, hQ 2 _ rfl, hQ 3 _ rfl⟩ : _ ∧ _ ∧ _ ∧ _)
     obtain ⟨⟨u0, uf0⟩, ⟨u1, uf1⟩, ⟨u2, uf2⟩, ⟨u3, uf3⟩⟩ := (⟨hU 0 _ rfl, hU 1 _ rfl, hU 2 _ rfl, hU 3 _ rfl⟩ : _ ∧ _ ∧ _ ∧ _)
     clear hR hQ hU hG2 hB2
     go_wp2_with fail
     refine (orD q u.q _).mono ?_
     rintro e w3 ⟨rfl, hb3⟩
     have hs3 := hb3.size
     have hR := HR.out.below hb3 (by omega)
     have hQ := HQ.out.below hb3 (by omega)
     have HG3 := hide (HG.out.below hb3 (Nat.le_refl _))
     have HB3 := hide (HB.out.trans (hb3.mono HB.out.size))
     have HR3 := hide hR
     clear hb3 r0 rf0 r1 rf1 r2 rf2 r3 rf3 q0 qf0 q1 qf1 q2 qf2 q3 qf3 u0 uf0 u1 uf1 u2 uf2 u3 uf3 HG HB HR HQ
     obtain ⟨⟨q0, qf0⟩, ⟨q1, qf1⟩, ⟨q2, qf2⟩, ⟨q3, qf3⟩⟩ := (⟨hQ 0 _ rfl, hQ 1 _ rfl, hQ 2 _ rfl, hQ 3 _ rfl⟩ : _ ∧ _ ∧ _ ∧ _)
     have hQ3 := hide hQ
     clear hR hQ
     go_wp2
     refine ⟨⟨false, orP q u.q, u.next, f, by go_num, rfl, by omega, by omega, HL2.out, HoldsV.other4 HR3.out (by omega) _ _ _ _, HoldsV.put4 hQ3.out _ _ _ _, HG3.out.put4 hg.succ _ _ _ _, xa9 HB3.out (Nat.le_succ _) _ _ _ _, by simp; omega⟩, by simp [intOf]; omega⟩
    | false =>
     have hS := xax s k 93 (by decide)
     rw [show (xag s k == 93) = false by rw [beq_eq_false_iff_ne]; exact fun h => hc ⟨rfl, h⟩] at hS
     have HS := hide hS
     clear hS hc
     go_wp2_with fail
     refine (HS.out _).mono ?_
     rintro e ws ⟨rfl, hws⟩
     have hws := hws.symm
     subst hws
     go_wp2_with fail
     refine (HE.out _ HG.out).mono ?_
     rintro e w1 ⟨rfl, hb1⟩
     have hs1 := hb1.size
     have hal := (Below.refl w1.heap.size w1).alloc (Nat.le_refl _) (.cells #[.int .u64 (wd u.q 0), .int .u64 (wd u.q 1), .int .u64 (wd u.q 2), .int .u64 (wd u.q 3)] 38)
     have hR := (HR.out.below hb1 (by omega)).below hal (by omega)
     have hQ := (HQ.out.below hb1 (by omega)).below hal (by omega)
     have hU := HoldsV.new w1 #[.int .u64 (wd u.q 0), .int .u64 (wd u.q 1), .int .u64 (wd u.q 2), .int .u64 (wd u.q 3)] 38
     have hG2 := (HG.out.below hb1 (Nat.le_refl _)).below hal (Nat.le_refl _)
     have hB2 := (HB.out.trans (hb1.mono HB.out.size)).alloc (HB.out.trans (hb1.mono HB.out.size)).size (.cells #[.int .u64 (wd u.q 0), .int .u64 (wd u.q 1), .int .u64 (wd u.q 2), .int .u64 (wd u.q 3)] 38)
     have hsz2 : (w1.alloc (.cells #[.int .u64 (wd u.q 0), .int .u64 (wd u.q 1), .int .u64 (wd u.q 2), .int .u64 (wd u.q 3)] 38)).heap.size = w1.heap.size + 1 := by simp
     obtain ⟨W2, hW2⟩ : ∃ W2, w1.alloc (.cells #[.int .u64 (wd u.q 0), .int .u64 (wd u.q 1), .int .u64 (wd u.q 2), .int .u64 (wd u.q 3)] 38) = W2 := ⟨_, rfl⟩
     rw [hW2] at hR hQ hU hG2 hB2 hsz2
     clear hb1 hal r0 rf0 r1 rf1 r2 rf2 r3 rf3 q0 qf0 q1 qf1 q2 qf2 q3 qf3 HG HE
     have HR := hide hR
     have HQ := hide hQ
     have HB := hide hB2
     have HG := hide hG2
     obtain ⟨⟨r0, rf0⟩, ⟨r1, rf1⟩, ⟨r2, rf2⟩, ⟨r3, rf3⟩⟩ := (⟨hR 0 _ rfl, hR 1 _ rfl, hR 2 _ rfl, hR 3 _ rfl⟩ : _ ∧ _ ∧ _ ∧ _)
     obtain ⟨⟨q0, qf0⟩, ⟨q1, qf1⟩, ⟨q2, qf2⟩, ⟨q3, qf3⟩⟩ := (⟨hQ 0 _ rfl, hQ 1 _ rfl, hQ 2 _ rfl, hQ 3 _ rfl⟩ : _ ∧ _ ∧ _ ∧ _)
     obtain ⟨⟨u0, uf0⟩, ⟨u1, uf1⟩, ⟨u2, uf2⟩, ⟨u3, uf3⟩⟩ := (⟨hU 0 _ rfl, hU 1 _ rfl, hU 2 _ rfl, hU 3 _ rfl⟩ : _ ∧ _ ∧ _ ∧ _)
     clear hR hQ hU hG2 hB2
     go_wp2_with fail
     refine (orD q u.q _).mono ?_
     rintro e w3 ⟨rfl, hb3⟩
     have hs3 := hb3.size
     have hR := HR.out.below hb3 (by omega)
     have hQ := HQ.out.below hb3 (by omega)
     have HG3 := hide (HG.out.below hb3 (Nat.le_refl _))
     have HB3 := hide (HB.out.trans (hb3.mono HB.out.size))
     have HR3 := hide hR
     clear hb3 r0 rf0 r1 rf1 r2 rf2 r3 rf3 q0 qf0 q1 qf1 q2 qf2 q3 qf3 u0 uf0 u1 uf1 u2 uf2 u3 uf3 HG HB HR HQ
     obtain ⟨⟨q0, qf0⟩, ⟨q1, qf1⟩, ⟨q2, qf2⟩, ⟨q3, qf3⟩⟩ := (⟨hQ 0 _ rfl, hQ 1 _ rfl, hQ 2 _ rfl, hQ 3 _ rfl⟩ : _ ∧ _ ∧ _ ∧ _)
     have hQ3 := hide hQ
     clear hR hQ
     go_wp2
     refine ⟨⟨false, orP q u.q, u.next, f, by go_num, rfl, by omega, by omega, HL2.out, HoldsV.other4 HR3.out (by omega) _ _ _ _, HoldsV.put4 hQ3.out _ _ _ _, HG3.out.put4 hg.succ _ _ _ _, xa9 HB3.out (Nat.le_succ _) _ _ _ _, by simp; omega⟩, by simp [intOf]; omega⟩
   ·have hL := HL.out
    rw [xjc s f first q k hc he] at hL
    generalize xa6 s k = u at *
    have HNE := hide he
    have HE := hide hE
    have hne : (u.e != 0) = true := by simp [he]
    have HLe := hide hL
    clear hL hE he HL
    cases first with
    | true =>
     clear hc
     go_wp2_with fail
     refine (HE.out _ HG.out).mono ?_
     rintro e w1 ⟨rfl, hb1⟩
     have hs1 := hb1.size
     have hal := (Below.refl w1.heap.size w1).alloc (Nat.le_refl _) (.cells #[.int .u64 (wd u.q 0), .int .u64 (wd u.q 1), .int .u64 (wd u.q 2), .int .u64 (wd u.q 3)] 38)
     have hR := (HR.out.below hb1 (by omega)).below hal (by omega)
     have hQ := (HQ.out.below hb1 (by omega)).below hal (by omega)
     have hU := HoldsV.new w1 #[.int .u64 (wd u.q 0), .int .u64 (wd u.q 1), .int .u64 (wd u.q 2), .int .u64 (wd u.q 3)] 38
     have hG2 := (HG.out.below hb1 (Nat.le_refl _)).below hal (Nat.le_refl _)
     have hB2 := (HB.out.trans (hb1.mono HB.out.size)).alloc (HB.out.trans (hb1.mono HB.out.size)).size (.cells #[.int .u64 (wd u.q 0), .int .u64 (wd u.q 1), .int .u64 (wd u.q 2), .int .u64 (wd u.q 3)] 38)
     have hsz2 : (w1.alloc (.cells #[.int .u64 (wd u.q 0), .int .u64 (wd u.q 1), .int .u64 (wd u.q 2), .int .u64 (wd u.q 3)] 38)).heap.size = w1.heap.size + 1 := by simp
     obtain ⟨W2, hW2⟩ : ∃ W2, w1.alloc (.cells #[.int .u64 (wd u.q 0), .int .u64 (wd u.q 1), .int .u64 (wd u.q 2), .int .u64 (wd u.q 3)] 38) = W2 := ⟨_, rfl⟩
     rw [hW2] at hR hQ hU hG2 hB2 hsz2
     clear hb1 hal r0 rf0 r1 rf1 r2 rf2 r3 rf3 q0 qf0 q1 qf1 q2 qf2 q3 qf3 HG HE
     have HR := hide hR
     have HQ := hide hQ
     have HB := hide hB2
     have HG := hide hG2
     obtain ⟨⟨r0, rf0⟩, ⟨r1, rf1⟩, ⟨r2, rf2⟩, ⟨r3, rf3⟩⟩ := (⟨hR 0 _ rfl, hR 1 _ rfl, hR 2 _ rfl, hR 3 _ rfl⟩ : _ ∧ _ ∧ _ ∧ _)
     obtain ⟨⟨q0, qf0⟩, ⟨q1, qf1⟩, ⟨q2, qf2⟩, ⟨q3, qf3⟩⟩ := (⟨hQ 0 _ rfl, hQ 1 _ rfl, hQ 2 _ rfl, hQ 3 _ rfl⟩ : _ ∧ _ ∧ _ ∧ _)
     obtain ⟨⟨u0, uf0⟩, ⟨u1, uf1⟩, ⟨u2, uf2⟩, ⟨u3, uf3⟩⟩ := (⟨hU 0 _ rfl, hU 1 _ rfl, hU 2 _ rfl, hU 3 _ rfl⟩ : _ ∧ _ ∧ _ ∧ _)
     clear hR hQ hU hG2 hB2
     go_wp2
     refine bodyPost_ret (v := .tuple #[.agg #[.int .u64 0, .int .u64 0, .int .u64 0, .int .u64 0], .int .i64 0, .int .i64 u.e]) ?_ rfl ⟨?_, xa9 HB.out (Nat.le_refl w.heap.size) _ _ _ _⟩
     ·simp [results, Try.results77, go_sem, *]
     ·have h1 := HLe.out
      have h2 := HT.out
      rw [← h1] at h2
      split at h2
      ·subst h2
       simp only [It.err]
       unfold xad
       rw [xaa, xaa, xaa, xaa]
       rfl
      ·rename_i hh
       exact absurd HNE.out hh
    | false =>
     have hS := xax s k 93 (by decide)
     rw [show (xag s k == 93) = false by rw [beq_eq_false_iff_ne]; exact fun h => hc ⟨rfl, h⟩] at hS
     have HS := hide hS
     clear hS hc
     go_wp2_with fail
     refine (HS.out _).mono ?_
     rintro e ws ⟨rfl, hws⟩
     have hws := hws.symm
     subst hws
     go_wp2_with fail
     refine (HE.out _ HG.out).mono ?_
     rintro e w1 ⟨rfl, hb1⟩
     have hs1 := hb1.size
     have hal := (Below.refl w1.heap.size w1).alloc (Nat.le_refl _) (.cells #[.int .u64 (wd u.q 0), .int .u64 (wd u.q 1), .int .u64 (wd u.q 2), .int .u64 (wd u.q 3)] 38)
     have hR := (HR.out.below hb1 (by omega)).below hal (by omega)
     have hQ := (HQ.out.below hb1 (by omega)).below hal (by omega)
     have hU := HoldsV.new w1 #[.int .u64 (wd u.q 0), .int .u64 (wd u.q 1), .int .u64 (wd u.q 2), .int .u64 (wd u.q 3)] 38
     have hG2 := (HG.out.below hb1 (Nat.le_refl _)).below hal (Nat.le_refl _)
     have hB2 := (HB.out.trans (hb1.mono HB.out.size)).alloc (HB.out.trans (hb1.mono HB.out.size)).size (.cells #[.int .u64 (wd u.q 0), .int .u64 (wd u.q 1), .int .u64 (wd u.q 2), .int .u64 (wd u.q 3)] 38)
     have hsz2 : (w1.alloc (.cells #[.int .u64 (wd u.q 0), .int .u64 (wd u.q 1), .int .u64 (wd u.q 2), .int .u64 (wd u.q 3)] 38)).heap.size = w1.heap.size + 1 := by simp
     obtain ⟨W2, hW2⟩ : ∃ W2, w1.alloc (.cells #[.int .u64 (wd u.q 0), .int .u64 (wd u.q 1), .int .u64 (wd u.q 2), .int .u64 (wd u.q 3)] 38) = W2 := ⟨_, rfl⟩
     rw [hW2] at hR hQ hU hG2 hB2 hsz2
     clear hb1 hal r0 rf0 r1 rf1 r2 rf2 r3 rf3 q0 qf0 q1 qf1 q2 qf2 q3 qf3 HG HE
     have HR := hide hR
     have HQ := hide hQ
     have HB := hide hB2
     have HG := hide hG2
     obtain ⟨⟨r0, rf0⟩, ⟨r1, rf1⟩, ⟨r2, rf2⟩, ⟨r3, rf3⟩⟩ := (⟨hR 0 _ rfl, hR 1 _ rfl, hR 2 _ rfl, hR 3 _ rfl⟩ : _ ∧ _ ∧ _ ∧ _)
     obtain ⟨⟨q0, qf0⟩, ⟨q1, qf1⟩, ⟨q2, qf2⟩, ⟨q3, qf3⟩⟩ := (⟨hQ 0 _ rfl, hQ 1 _ rfl, hQ 2 _ rfl, hQ 3 _ rfl⟩ : _ ∧ _ ∧ _ ∧ _)
     obtain ⟨⟨u0, uf0⟩, ⟨u1, uf1⟩, ⟨u2, uf2⟩, ⟨u3, uf3⟩⟩ := (⟨hU 0 _ rfl, hU 1 _ rfl, hU 2 _ rfl, hU 3 _ rfl⟩ : _ ∧ _ ∧ _ ∧ _)
     clear hR hQ hU hG2 hB2
     go_wp2
     refine bodyPost_ret (v := .tuple #[.agg #[.int .u64 0, .int .u64 0, .int .u64 0, .int .u64 0], .int .i64 0, .int .i64 u.e]) ?_ rfl ⟨?_, xa9 HB.out (Nat.le_refl w.heap.size) _ _ _ _⟩
     ·simp [results, Try.results77, go_sem, *]
     ·have h1 := HLe.out
      have h2 := HT.out
      rw [← h1] at h2
      split at h2
      ·subst h2
       simp only [It.err]
       unfold xad
       rw [xaa, xaa, xaa, xaa]
       rfl
      ·rename_i hh
       exact absurd HNE.out hh
theorem xpn (s : ByteArray) (hs : s.size ≤ 1073741824) (i : Nat) (h91 : xag s i = 91) (h94 : xag s (i + 1) = 94) (w : World) (hg : Glob w) (r t : It) (hr : xbe s (s.size + 2) true xad (i + 2) = r)
  (ht : (if r.e ≠ 0 then It.err r.e else ⟨0, notP r.q, 0, false, r.next + 1⟩) = t) :
  Calls Try.prog 77 #[.string s, .int .i64 i] w fun e w' => e = .returned (.tuple #[.agg #[.int .u64 (wd t.q 0), .int .u64 (wd t.q 1), .int .u64 (wd t.q 2), .int .u64 (wd t.q 3)], .int .i64 t.next, .int .i64 t.e]) ∧ Below w.heap.size w w' := by
 have h0 : i < s.size := xcg h91 (by omega)
 have h1 : i + 1 < s.size := xcg h94 (by omega)
 have hS1 := xax s i 91 (by decide)
 rw [h91] at hS1
 have hS2 := xax s (i + 1) 94 (by decide)
 rw [h94] at hS2
 have HS1 := hide hS1
 have HS2 := hide hS2
 have HT := hide ht
 have HR0 := hide hr
 clear hS1 hS2 ht hr h91 h94
 have hR := (HoldsV.new w #[.int .u64 0, .int .u64 0, .int .u64 0, .int .u64 0] 38).below ((Below.refl _ _).alloc (Nat.le_refl _) (.cells #[.int .u64 0, .int .u64 0, .int .u64 0, .int .u64 0] 38)) (by simp)
 have hQ : HoldsV ((w.alloc (.cells #[.int .u64 0, .int .u64 0, .int .u64 0, .int .u64 0] 38)).alloc (.cells #[.int .u64 0, .int .u64 0, .int .u64 0, .int .u64 0] 38)) (w.heap.size + 1) (#[.int .u64 0, .int .u64 0, .int .u64 0, .int .u64 0] : Array Value).toList := by
  have h := HoldsV.new (w.alloc (.cells #[.int .u64 0, .int .u64 0, .int .u64 0, .int .u64 0] 38)) #[.int .u64 0, .int .u64 0, .int .u64 0, .int .u64 0] 38
  rwa [World.size_alloc] at h
 have hB0 : Below w.heap.size w ((w.alloc (.cells #[.int .u64 0, .int .u64 0, .int .u64 0, .int .u64 0] 38)).alloc (.cells #[.int .u64 0, .int .u64 0, .int .u64 0, .int .u64 0] 38)) := ((Below.refl w.heap.size w).alloc (Nat.le_refl _) _).alloc (by simp) _
 have hG0 := hg.below hB0 (Nat.le_refl _)
 have hsz0 : ((w.alloc (.cells #[.int .u64 0, .int .u64 0, .int .u64 0, .int .u64 0] 38)).alloc (.cells #[.int .u64 0, .int .u64 0, .int .u64 0, .int .u64 0] 38)).heap.size = w.heap.size + 1 + 1 := by simp
 go_enter Try.func77, Try.ntmps77
 go_wp2_with fail
 refine (HS1.out _).mono ?_
 rintro e ws ⟨rfl, hws⟩
 have hws := hws.symm
 subst hws
 go_wp2_with fail
 refine (HS2.out _).mono ?_
 rintro e ws ⟨rfl, hws⟩
 have hws := hws.symm
 subst hws
 go_wp2_with fail
 go_loopw [1, 9] (fun p fi wr => ∃ (first : Bool) (q : Nat → Bool) (k f : Nat), p = .int .i64 k ∧ fi = .bool first ∧ k ≤ s.size ∧ s.size + 1 - k ≤ f ∧ Hid (xbe s f first q k = r) ∧ HoldsV wr w.heap.size [.int .u64 0, .int .u64 0, .int .u64 0, .int .u64 0] ∧ HoldsV wr (w.heap.size + 1) [.int .u64 (wd q 0), .int .u64 (wd q 1), .int .u64 (wd q 2), .int .u64 (wd q 3)] ∧ Glob wr ∧ Below w.heap.size w wr ∧ w.heap.size + 1 < wr.heap.size) (fun p _ _ => s.size + 1 - (intOf p).toNat)
 case atStart =>
  refine ⟨true, xad, i + 2, s.size + 2, by go_num, rfl, by omega, by omega, HR0.out, hR, ?_, hG0, hB0, by omega⟩
  unfold xad
  rw [xaa, xaa, xaa, xaa]
  exact hQ
 case round =>
  clear hR hQ hB0 hG0 hsz0 HR0 HS1 HS2
  obtain ⟨first, q, k, f, rfl, rfl, hk, hf, HL, hR, hQ, hG, hB, hwr⟩ := hrel
  obtain ⟨f, rfl⟩ : ∃ g, f = g + 1 := ⟨f - 1, by omega⟩
  have HR := hide hR
  have HQ := hide hQ
  have HG := hide hG
  have HB := hide hB
  obtain ⟨⟨r0, rf0⟩, ⟨r1, rf1⟩, ⟨r2, rf2⟩, ⟨r3, rf3⟩⟩ := (⟨hR 0 _ rfl, hR 1 _ rfl, hR 2 _ rfl, hR 3 _ rfl⟩ : _ ∧ _ ∧ _ ∧ _)
  obtain ⟨⟨q0, qf0⟩, ⟨q1, qf1⟩, ⟨q2, qf2⟩, ⟨q3, qf3⟩⟩ := (⟨hQ 0 _ rfl, hQ 1 _ rfl, hQ 2 _ rfl, hQ 3 _ rfl⟩ : _ ∧ _ ∧ _ ∧ _)
  clear hR hQ hG hB
  by_cases hc : first = false ∧ xag s k = 93
  ·obtain ⟨rfl, h93⟩ := hc
   have hS := xax s k 93 (by decide)
   rw [h93] at hS
   have HS := hide hS
   have hL := HL.out
   rw [xgd s f q k h93] at hL
   have HL2 := hide hL
   clear hS hL h93 HL
   go_wp2_with fail
   refine (HS.out _).mono ?_
   rintro e ws ⟨rfl, hws⟩
   have hws := hws.symm
   subst hws
   go_wp2_with fail
   refine (notD q _).mono ?_
   rintro e w3 ⟨rfl, hb3⟩
   have hR := HR.out.below hb3 (by omega)
   have hQ := HQ.out.below hb3 (by omega)
   have HB := hide (HB.out.trans (hb3.mono HB.out.size))
   clear hb3 r0 rf0 r1 rf1 r2 rf2 r3 rf3 q0 qf0 q1 qf1 q2 qf2 q3 qf3 HG HR HQ
   obtain ⟨⟨r0, rf0⟩, ⟨r1, rf1⟩, ⟨r2, rf2⟩, ⟨r3, rf3⟩⟩ := (⟨hR 0 _ rfl, hR 1 _ rfl, hR 2 _ rfl, hR 3 _ rfl⟩ : _ ∧ _ ∧ _ ∧ _)
   obtain ⟨⟨q0, qf0⟩, ⟨q1, qf1⟩, ⟨q2, qf2⟩, ⟨q3, qf3⟩⟩ := (⟨hQ 0 _ rfl, hQ 1 _ rfl, hQ 2 _ rfl, hQ 3 _ rfl⟩ : _ ∧ _ ∧ _ ∧ _)
   clear hR hQ
   go_wp2
   refine bodyPost_ret (v := .tuple #[.agg #[.int .u64 (wd (notP q) 0), .int .u64 (wd (notP q) 1), .int .u64 (wd (notP q) 2), .int .u64 (wd (notP q) 3)], .int .i64 ((k : Int) + 1), .int .i64 0]) ?_ rfl ⟨?_, xa9 (xa9 HB.out (Nat.le_succ w.heap.size) _ _ _ _) (Nat.le_refl w.heap.size) _ _ _ _⟩
   ·simp [results, Try.results77, go_sem, *]
   ·have h1 := HL2.out
    have h2 := HT.out
    subst h1
    rw [if_neg (by simp)] at h2
    subst h2
    rfl
  ·have hE : ∀ w, Glob w → _ := fun w hg => xeg s hs k w hg _ rfl
   by_cases he : (xa6 s k).e = 0
   ·have hL := HL.out
    rw [xg5 s f first q k hc he] at hL
    have hnx := xd2 s k he
    generalize xa6 s k = u at *
    have HL2 := hide hL
    have HE := hide hE
    have hne : (u.e != 0) = false := by simp [he]
    clear hL hE HL he
    cases first with
    | true =>
     clear hc
     go_wp2_with fail
     refine (HE.out _ HG.out).mono ?_
     rintro e w1 ⟨rfl, hb1⟩
     have hs1 := hb1.size
     have hal := (Below.refl w1.heap.size w1).alloc (Nat.le_refl _) (.cells #[.int .u64 (wd u.q 0), .int .u64 (wd u.q 1), .int .u64 (wd u.q 2), .int .u64 (wd u.q 3)] 38)
     have hR := (HR.out.below hb1 (by omega)).below hal (by omega)
     have hQ := (HQ.out.below hb1 (by omega)).below hal (by omega)
     have hU := HoldsV.new w1 #[.int .u64 (wd u.q 0), .int .u64 (wd u.q 1), .int .u64 (wd u.q 2), .int .u64 (wd u.q 3)] 38
     have hG2 := (HG.out.below hb1 (Nat.le_refl _)).below hal (Nat.le_refl _)
     have hB2 := (HB.out.trans (hb1.mono HB.out.size)).alloc (HB.out.trans (hb1.mono HB.out.size)).size (.cells #[.int .u64 (wd u.q 0), .int .u64 (wd u.q 1), .int .u64 (wd u.q 2), .int .u64 (wd u.q 3)] 38)
     have hsz2 : (w1.alloc (.cells #[.int .u64 (wd u.q 0), .int .u64 (wd u.q 1), .int .u64 (wd u.q 2), .int .u64 (wd u.q 3)] 38)).heap.size = w1.heap.size + 1 := by simp
     obtain ⟨W2, hW2⟩ : ∃ W2, w1.alloc (.cells #[.int .u64 (wd u.q 0), .int .u64 (wd u.q 1), .int .u64 (wd u.q 2), .int .u64 (wd u.q 3)] 38) = W2 := ⟨_, rfl⟩
     rw [hW2] at hR hQ hU hG2 hB2 hsz2
     clear hb1 hal r0 rf0 r1 rf1 r2 rf2 r3 rf3 q0 qf0 q1 qf1 q2 qf2 q3 qf3 HG HE
     have HR := hide hR
     have HQ := hide hQ
     have HB := hide hB2
     have HG := hide hG2
     obtain ⟨⟨r0, rf0⟩, ⟨r1, rf1⟩, ⟨r2, rf2⟩, ⟨r3, rf3⟩⟩ := (⟨hR 0 _ rfl, hR 1 _ rfl, hR 2 _ rfl, hR 3 _ rfl⟩ : _ ∧ _ ∧ _ ∧ _)
     obtain ⟨⟨q0, qf0⟩, ⟨q1, qf1⟩, ⟨q2, qf2⟩, ⟨q3, qf3⟩⟩ := (⟨hQ 0 _ rfl, hQ 1 _ rfl, hQ 2 _ rfl, hQ 3 _ rfl⟩ : _ ∧ _ ∧ _ ∧ _)
     obtain ⟨⟨u0, uf0⟩, ⟨u1, uf1⟩, ⟨u2, uf2⟩, ⟨u3, uf3⟩⟩ := (⟨hU 0 _ rfl, hU 1 _ rfl, hU 2 _ rfl, hU 3 _ rfl⟩ : _ ∧ _ ∧ _ ∧ _)
     clear hR hQ hU hG2 hB2
     go_wp2_with fail
     refine (orD q u.q _).mono ?_
     rintro e w3 ⟨rfl, hb3⟩
     have hs3 := hb3.size
     have hR := HR.out.below hb3 (by omega)
     have hQ := HQ.out.below hb3 (by omega)
     have HG3 := hide (HG.out.below hb3 (Nat.le_refl _))
     have HB3 := hide (HB.out.trans (hb3.mono HB.out.size))
     have HR3 := hide hR
     clear hb3 r0 rf0 r1 rf1 r2 rf2 r3 rf3 q0 qf0 q1 qf1 q2 qf2 q3 qf3 u0 uf0 u1 uf1 u2 uf2 u3 uf3 HG HB HR HQ
     obtain ⟨⟨q0, qf0⟩, ⟨q1, qf1⟩, ⟨q2, qf2⟩, ⟨q3, qf3⟩⟩ := (⟨hQ 0 _ rfl, hQ 1 _ rfl, hQ 2 _ rfl, hQ 3 _ rfl⟩ : _ ∧ _ ∧ _ ∧ _)
     have hQ3 := hide hQ
     clear hR hQ
     go_wp2
     refine ⟨⟨false, orP q u.q, u.next, f, by go_num, rfl, by omega, by omega, HL2.out, HoldsV.other4 HR3.out (by omega) _ _ _ _, HoldsV.put4 hQ3.out _ _ _ _, HG3.out.put4 hg.succ _ _ _ _, xa9 HB3.out (Nat.le_succ _) _ _ _ _, by simp; omega⟩, by simp [intOf]; omega⟩
    | false =>
     have hS := xax s k 93 (by decide)
     rw [show (xag s k == 93) = false by rw [beq_eq_false_iff_ne]; exact fun h => hc ⟨rfl, h⟩] at hS
     have HS := hide hS
     clear hS hc
     go_wp2_with fail
     refine (HS.out _).mono ?_
     rintro e ws ⟨rfl, hws⟩
     have hws := hws.symm
     subst hws
     go_wp2_with fail
     refine (HE.out _ HG.out).mono ?_
     rintro e w1 ⟨rfl, hb1⟩
     have hs1 := hb1.size
     have hal := (Below.refl w1.heap.size w1).alloc (Nat.le_refl _) (.cells #[.int .u64 (wd u.q 0), .int .u64 (wd u.q 1), .int .u64 (wd u.q 2), .int .u64 (wd u.q 3)] 38)
     have hR := (HR.out.below hb1 (by omega)).below hal (by omega)
     have hQ := (HQ.out.below hb1 (by omega)).below hal (by omega)
     have hU := HoldsV.new w1 #[.int .u64 (wd u.q 0), .int .u64 (wd u.q 1), .int .u64 (wd u.q 2), .int .u64 (wd u.q 3)] 38
     have hG2 := (HG.out.below hb1 (Nat.le_refl _)).below hal (Nat.le_refl _)
     have hB2 := (HB.out.trans (hb1.mono HB.out.size)).alloc (HB.out.trans (hb1.mono HB.out.size)).size (.cells #[.int .u64 (wd u.q 0), .int .u64 (wd u.q 1), .int .u64 (wd u.q 2), .int .u64 (wd u.q 3)] 38)
     have hsz2 : (w1.alloc (.cells #[.int .u64 (wd u.q 0), .int .u64 (wd u.q 1), .int .u64 (wd u.q 2), .int .u64 (wd u.q 3)] 38)).heap.size = w1.heap.size + 1 := by simp
     obtain ⟨W2, hW2⟩ : ∃ W2, w1.alloc (.cells #[.int .u64 (wd u.q 0), .int .u64 (wd u.q 1), .int .u64 (wd u.q 2), .int .u64 (wd u.q 3)] 38) = W2 := ⟨_, rfl⟩
     rw [hW2] at hR hQ hU hG2 hB2 hsz2
     clear hb1 hal r0 rf0 r1 rf1 r2 rf2 r3 rf3 q0 qf0 q1 qf1 q2 qf2 q3 qf3 HG HE
     have HR := hide hR
     have HQ := hide hQ
     have HB := hide hB2
     have HG := hide hG2
     obtain ⟨⟨r0, rf0⟩, ⟨r1, rf1⟩, ⟨r2, rf2⟩, ⟨r3, rf3⟩⟩ := (⟨hR 0 _ rfl, hR 1 _ rfl, hR 2 _ rfl, hR 3 _ rfl⟩ : _ ∧ _ ∧ _ ∧ _)
     obtain ⟨⟨q0, qf0⟩, ⟨q1, qf1⟩, ⟨q2, qf2⟩, ⟨q3, qf3⟩⟩ := (⟨hQ 0 _ rfl, hQ 1 _ rfl, hQ 2 _ rfl, hQ 3 _ rfl⟩ : _ ∧ _ ∧ _ ∧ _)
     obtain ⟨⟨u0, uf0⟩, ⟨u1, uf1⟩, ⟨u2, uf2⟩, ⟨u3, uf3⟩⟩ := (⟨hU 0 _ rfl, hU 1 _ rfl, hU 2 _ rfl, hU 3 _ rfl⟩ : _ ∧ _ ∧ _ ∧ _)
     clear hR hQ hU hG2 hB2
     go_wp2_with fail
     refine (orD q u.q _).mono ?_
     rintro e w3 ⟨rfl, hb3⟩
     have hs3 := hb3.size
     have hR := HR.out.below hb3 (by omega)
     have hQ := HQ.out.below hb3 (by omega)
     have HG3 := hide (HG.out.below hb3 (Nat.le_refl _))
     have HB3 := hide (HB.out.trans (hb3.mono HB.out.size))
     have HR3 := hide hR
     clear hb3 r0 rf0 r1 rf1 r2 rf2 r3 rf3 q0 qf0 q1 qf1 q2 qf2 q3 qf3 u0 uf0 u1 uf1 u2 uf2 u3 uf3 HG HB HR HQ
     obtain ⟨⟨q0, qf0⟩, ⟨q1, qf1⟩, ⟨q2, qf2⟩, ⟨q3, qf3⟩⟩ := (⟨hQ 0 _ rfl, hQ 1 _ rfl, hQ 2 _ rfl, hQ 3 _ rfl⟩ : _ ∧ _ ∧ _ ∧ _)
     have hQ3 := hide hQ
     clear hR hQ
     go_wp2
     refine ⟨⟨false, orP q u.q, u.next, f, by go_num, rfl, by omega, by omega, HL2.out, HoldsV.other4 HR3.out (by omega) _ _ _ _, HoldsV.put4 hQ3.out _ _ _ _, HG3.out.put4 hg.succ _ _ _ _, xa9 HB3.out (Nat.le_succ _) _ _ _ _, by simp; omega⟩, by simp [intOf]; omega⟩
   ·have hL := HL.out
    rw [xjc s f first q k hc he] at hL
    generalize xa6 s k = u at *
    have HNE := hide he
    have HE := hide hE
    have hne : (u.e != 0) = true := by simp [he]
    have HLe := hide hL
    clear hL hE he HL
    cases first with
    | true =>
     clear hc
     go_wp2_with fail
     refine (HE.out _ HG.out).mono ?_
     rintro e w1 ⟨rfl, hb1⟩
     have hs1 := hb1.size
     have hal := (Below.refl w1.heap.size w1).alloc (Nat.le_refl _) (.cells #[.int .u64 (wd u.q 0), .int .u64 (wd u.q 1), .int .u64 (wd u.q 2), .int .u64 (wd u.q 3)] 38)
     have hR := (HR.out.below hb1 (by omega)).below hal (by omega)
     have hQ := (HQ.out.below hb1 (by omega)).below hal (by omega)
     have hU := HoldsV.new w1 #[.int .u64 (wd u.q 0), .int .u64 (wd u.q 1), .int .u64 (wd u.q 2), .int .u64 (wd u.q 3)] 38
     have hG2 := (HG.out.below hb1 (Nat.le_refl _)).below hal (Nat.le_refl _)
     have hB2 := (HB.out.trans (hb1.mono HB.out.size)).alloc (HB.out.trans (hb1.mono HB.out.size)).size (.cells #[.int .u64 (wd u.q 0), .int .u64 (wd u.q 1), .int .u64 (wd u.q 2), .int .u64 (wd u.q 3)] 38)
     have hsz2 : (w1.alloc (.cells #[.int .u64 (wd u.q 0), .int .u64 (wd u.q 1), .int .u64 (wd u.q 2), .int .u64 (wd u.q 3)] 38)).heap.size = w1.heap.size + 1 := by simp
     obtain ⟨W2, hW2⟩ : ∃ W2, w1.alloc (.cells #[.int .u64 (wd u.q 0), .int .u64 (wd u.q 1), .int .u64 (wd u.q 2), .int .u64 (wd u.q 3)] 38) = W2 := ⟨_, rfl⟩
     rw [hW2] at hR hQ hU hG2 hB2 hsz2
     clear hb1 hal r0 rf0 r1 rf1 r2 rf2 r3 rf3 q0 qf0 q1 qf1 q2 qf2 q3 qf3 HG HE
     have HR := hide hR
     have HQ := hide hQ
     have HB := hide hB2
     have HG := hide hG2
     obtain ⟨⟨r0, rf0⟩, ⟨r1, rf1⟩, ⟨r2, rf2⟩, ⟨r3, rf3⟩⟩ := (⟨hR 0 _ rfl, hR 1 _ rfl, hR 2 _ rfl, hR 3 _ rfl⟩ : _ ∧ _ ∧ _ ∧ _)
     obtain ⟨⟨q0, qf0⟩, ⟨q1, qf1⟩, ⟨q2, qf2⟩, ⟨q3, qf3⟩⟩ := (⟨hQ 0 _ rfl, hQ 1 _ rfl, hQ 2 _ rfl, hQ 3 _ rfl⟩ : _ ∧ _ ∧ _ ∧ _)
     obtain ⟨⟨u0, uf0⟩, ⟨u1, uf1⟩, ⟨u2, uf2⟩, ⟨u3, uf3⟩⟩ := (⟨hU 0 _ rfl, hU 1 _ rfl, hU 2 _ rfl, hU 3 _ rfl⟩ : _ ∧ _ ∧ _ ∧ _)
     clear hR hQ hU hG2 hB2
     go_wp2
     refine bodyPost_ret (v := .tuple #[.agg #[.int .u64 0, .int .u64 0, .int .u64 0, .int .u64 0], .int .i64 0, .int .i64 u.e]) ?_ rfl ⟨?_, xa9 HB.out (Nat.le_refl w.heap.size) _ _ _ _⟩
     ·simp [results, Try.results77, go_sem, *]
     ·have h1 := HLe.out
      have h2 := HT.out
      rw [← h1] at h2
      split at h2
      ·subst h2
       simp only [It.err]
       unfold xad
       rw [xaa, xaa, xaa, xaa]
       rfl
      ·rename_i hh
       exact absurd HNE.out hh
    | false =>
     have hS := xax s k 93 (by decide)
     rw [show (xag s k == 93) = false by rw [beq_eq_false_iff_ne]; exact fun h => hc ⟨rfl, h⟩] at hS
     have HS := hide hS
     clear hS hc
     go_wp2_with fail
     refine (HS.out _).mono ?_
     rintro e ws ⟨rfl, hws⟩
     have hws := hws.symm
     subst hws
     go_wp2_with fail
     refine (HE.out _ HG.out).mono ?_
     rintro e w1 ⟨rfl, hb1⟩
     have hs1 := hb1.size
     have hal := (Below.refl w1.heap.size w1).alloc (Nat.le_refl _) (.cells #[.int .u64 (wd u.q 0), .int .u64 (wd u.q 1), .int .u64 (wd u.q 2), .int .u64 (wd u.q 3)] 38)
     have hR := (HR.out.below hb1 (by omega)).below hal (by omega)
     have hQ := (HQ.out.below hb1 (by omega)).below hal (by omega)
     have hU := HoldsV.new w1 #[.int .u64 (wd u.q 0), .int .u64 (wd u.q 1), .int .u64 (wd u.q 2), .int .u64 (wd u.q 3)] 38
     have hG2 := (HG.out.below hb1 (Nat.le_refl _)).below hal (Nat.le_refl _)
     have hB2 := (HB.out.trans (hb1.mono HB.out.size)).alloc (HB.out.trans (hb1.mono HB.out.size)).size (.cells #[.int .u64 (wd u.q 0), .int .u64 (wd u.q 1), .int .u64 (wd u.q 2), .int .u64 (wd u.q 3)] 38)
     have hsz2 : (w1.alloc (.cells #[.int .u64 (wd u.q 0), .int .u64 (wd u.q 1), .int .u64 (wd u.q 2), .int .u64 (wd u.q 3)] 38)).heap.size = w1.heap.size + 1 := by simp
     obtain ⟨W2, hW2⟩ : ∃ W2, w1.alloc (.cells #[.int .u64 (wd u.q 0), .int .u64 (wd u.q 1), .int .u64 (wd u.q 2), .int .u64 (wd u.q 3)] 38) = W2 := ⟨_, rfl⟩
     rw [hW2] at hR hQ hU hG2 hB2 hsz2
     clear hb1 hal r0 rf0 r1 rf1 r2 rf2 r3 rf3 q0 qf0 q1 qf1 q2 qf2 q3 qf3 HG HE
     have HR := hide hR
     have HQ := hide hQ
     have HB := hide hB2
     have HG := hide hG2
     obtain ⟨⟨r0, rf0⟩, ⟨r1, rf1⟩, ⟨r2, rf2⟩, ⟨r3, rf3⟩⟩ := (⟨hR 0 _ rfl, hR 1 _ rfl, hR 2 _ rfl, hR 3 _ rfl⟩ : _ ∧ _ ∧ _ ∧ _)
     obtain ⟨⟨q0, qf0⟩, ⟨q1, qf1⟩, ⟨q2, qf2⟩, ⟨q3, qf3⟩⟩ := (⟨hQ 0 _ rfl, hQ 1 _ rfl, hQ 2 _ rfl, hQ 3 _ rfl⟩ : _ ∧ _ ∧ _ ∧ _)
     obtain ⟨⟨u0, uf0⟩, ⟨u1, uf1⟩, ⟨u2, uf2⟩, ⟨u3, uf3⟩⟩ := (⟨hU 0 _ rfl, hU 1 _ rfl, hU 2 _ rfl, hU 3 _ rfl⟩ : _ ∧ _ ∧ _ ∧ _)
     clear hR hQ hU hG2 hB2
     go_wp2
     refine bodyPost_ret (v := .tuple #[.agg #[.int .u64 0, .int .u64 0, .int .u64 0, .int .u64 0], .int .i64 0, .int .i64 u.e]) ?_ rfl ⟨?_, xa9 HB.out (Nat.le_refl w.heap.size) _ _ _ _⟩
     ·simp [results, Try.results77, go_sem, *]
     ·have h1 := HLe.out
      have h2 := HT.out
      rw [← h1] at h2
      split at h2
      ·subst h2
       simp only [It.err]
       unfold xad
       rw [xaa, xaa, xaa, xaa]
       rfl
      ·rename_i hh
       exact absurd HNE.out hh
noncomputable def xay (s : ByteArray) (x : Int) : It := if 0 ≤ x then xco s x.toNat else .err 1
theorem xpo (s : ByteArray) (x : Int) (h : ∀ w, Calls Try.prog 85 #[.string s, .int .i64 x, .int .u8 91] w fun e w' => e = .returned (.bool false) ∧ w' = w) (w : World) :
  Calls Try.prog 77 #[.string s, .int .i64 x] w fun e w' => e = .returned (.tuple #[.agg #[.int .u64 0, .int .u64 0, .int .u64 0, .int .u64 0], .int .i64 0, .int .i64 1]) ∧ Below w.heap.size w w' := by
 have H := hide h
 clear h
 go_enter Try.func77, Try.ntmps77
 go_wp2_with fail
 refine (H.out _).mono ?_
 rintro e ws ⟨rfl, hws⟩
 have hws := hws.symm
 subst hws
 go_wp2
 refine bodyPost_ret (v := .tuple #[.agg #[.int .u64 0, .int .u64 0, .int .u64 0, .int .u64 0], .int .i64 0, .int .i64 1]) ?_ rfl ⟨rfl, (Below.refl w.heap.size w).alloc (Nat.le_refl _) _⟩
 simp [results, Try.results77, go_sem]
theorem parse_any (s : ByteArray) (hs : s.size ≤ 1073741824) (x : Int) (w : World) (hg : Glob w) :
  Calls Try.prog 77 #[.string s, .int .i64 x] w fun e w' => e = .returned (.tuple #[.agg #[.int .u64 (wd (xay s x).q 0), .int .u64 (wd (xay s x).q 1), .int .u64 (wd (xay s x).q 2), .int .u64 (wd (xay s x).q 3)], .int .i64 ((xay s x).next : Nat), .int .i64 (xay s x).e]) ∧ Below w.heap.size w w' := by
 have bad : xay s x = .err 1 → (∀ w, Calls Try.prog 85 #[.string s, .int .i64 x, .int .u8 91] w fun e w' => e = .returned (.bool false) ∧ w' = w) → Calls Try.prog 77 #[.string s, .int .i64 x] w fun e w' => e = .returned (.tuple #[.agg #[.int .u64 (wd (xay s x).q 0), .int .u64 (wd (xay s x).q 1), .int .u64 (wd (xay s x).q 2), .int .u64 (wd (xay s x).q 3)], .int .i64 ((xay s x).next : Nat), .int .i64 (xay s x).e]) ∧ Below w.heap.size w w' := by
  intro he h
  rw [he]
  simp only [It.err]
  unfold xad
  rw [xaa, xaa, xaa, xaa]
  exact xpo s x h w
 by_cases h0 : 0 ≤ x
 ·obtain ⟨i, rfl⟩ : ∃ i : Nat, x = i := ⟨x.toNat, by omega⟩
  have hp : xay s i = xco s i := by rw [xay, if_pos h0, Int.toNat_natCast]
  by_cases h91 : xag s i = 91
  ·rw [hp]
   by_cases h94 : xag s (i + 1) = 94
   ·exact xpn s hs i h91 h94 w hg _ _ rfl (by rw [xco, if_pos h91, if_pos h94])
   ·exact xkw s hs i h91 h94 w hg _ _ rfl (by rw [xco, if_pos h91, if_neg h94])
  ·refine bad (by rw [hp, xco, if_neg h91]) (fun w => ?_)
   have h := xax s i 91 (by decide) w
   rw [show (xag s i == 91) = false by simp [h91]] at h
   exact h
 ·exact bad (by rw [xay, if_neg h0]) (xnj s x (by omega) 91)
end Go.Proofs.Ytolpakpdkheanaa.br
