/- Walks: Class at every other name. -/
import Derived.Test.YtaapmphdnholaaaGreatDoorKDet
set_option maxRecDepth 100000
set_option maxHeartbeats 2000000
namespace Go.Proofs.YtaapmphdnholaaaGreatDoor
open Go.RowKit
theorem xmr (s : ByteArray) (n0 : (s.toList == [117, 112, 112, 101, 114]) = false) (n1 : (s.toList == [108, 111, 119, 101, 114]) = false) (n2 : (s.toList == [100, 105, 103, 105, 116]) = false) (n3 : (s.toList == [97, 108, 112, 104, 97]) = false) (n4 : (s.toList == [97, 108, 110, 117, 109]) = false) (n5 : (s.toList == [120, 100, 105, 103, 105, 116]) = false) (n6 : (s.toList == [98, 108, 97, 110, 107]) = false) (n7 : (s.toList == [115, 112, 97, 99, 101]) = false) (n8 : (s.toList == [103, 114, 97, 112, 104]) = false) (n9 : (s.toList == [112, 114, 105, 110, 116]) = false) (n10 : (s.toList == [112, 117, 110, 99, 116]) = false) (n11 : (s.toList == [99, 110, 116, 114, 108]) = false) (w : World) :
  Calls Tryz.prog 113 #[.string s] w fun e w' => e = .returned (.tuple #[.agg #[.int .u64 (wd xad 0), .int .u64 (wd xad 1), .int .u64 (wd xad 2), .int .u64 (wd xad 3)], .int .i64 8]) ∧ Below w.heap.size w w' := by
 unfold xad
 rw [xaa, xaa, xaa, xaa]
 go_enter Tryz.func113, Tryz.ntmps113
 go_wp2_with fail
 refine (xak 65 90 (by omega) (by omega) (by omega) _).mono ?_
 rintro e w1 ⟨rfl, hb1⟩
 have hR := (xaj w 33).below hb1 (by simp)
 have hB : Below w.heap.size w w1 := ((Below.refl _ _).alloc (Nat.le_refl _) _).trans (hb1.mono (by simp))
 clear hb1
 go_wp2_with fail
 refine (xak 97 122 (by omega) (by omega) (by omega) _).mono ?_
 rintro e w2 ⟨rfl, hb2⟩
 replace hR := hR.below hb2 hR.lt
 replace hB := hB.trans (hb2.mono hB.size)
 clear hb2
 go_wp2_with fail
 refine (xak 48 57 (by omega) (by omega) (by omega) _).mono ?_
 rintro e w3 ⟨rfl, hb3⟩
 replace hR := hR.below hb3 hR.lt
 replace hB := hB.trans (hb3.mono hB.size)
 clear hb3
 go_wp2_with fail
 replace hR : Holds4 (((w3.alloc (.cells #[.int .u64 (wd (sP 65 90) 0), .int .u64 (wd (sP 65 90) 1), .int .u64 (wd (sP 65 90) 2), .int .u64 (wd (sP 65 90) 3)] 33)).alloc (.cells #[.int .u64 (wd (sP 97 122) 0), .int .u64 (wd (sP 97 122) 1), .int .u64 (wd (sP 97 122) 2), .int .u64 (wd (sP 97 122) 3)] 33)).alloc (.cells #[.int .u64 (wd (sP 48 57) 0), .int .u64 (wd (sP 48 57) 1), .int .u64 (wd (sP 48 57) 2), .int .u64 (wd (sP 48 57) 3)] 33)) w.heap.size (fun _ => false) := ((hR.alloc _).alloc _).alloc _
 have hU : Holds4 (((w3.alloc (.cells #[.int .u64 (wd (sP 65 90) 0), .int .u64 (wd (sP 65 90) 1), .int .u64 (wd (sP 65 90) 2), .int .u64 (wd (sP 65 90) 3)] 33)).alloc (.cells #[.int .u64 (wd (sP 97 122) 0), .int .u64 (wd (sP 97 122) 1), .int .u64 (wd (sP 97 122) 2), .int .u64 (wd (sP 97 122) 3)] 33)).alloc (.cells #[.int .u64 (wd (sP 48 57) 0), .int .u64 (wd (sP 48 57) 1), .int .u64 (wd (sP 48 57) 2), .int .u64 (wd (sP 48 57) 3)] 33)) w3.heap.size (sP 65 90) := ((xae w3 (sP 65 90) 33).alloc _).alloc _
 have hL : Holds4 (((w3.alloc (.cells #[.int .u64 (wd (sP 65 90) 0), .int .u64 (wd (sP 65 90) 1), .int .u64 (wd (sP 65 90) 2), .int .u64 (wd (sP 65 90) 3)] 33)).alloc (.cells #[.int .u64 (wd (sP 97 122) 0), .int .u64 (wd (sP 97 122) 1), .int .u64 (wd (sP 97 122) 2), .int .u64 (wd (sP 97 122) 3)] 33)).alloc (.cells #[.int .u64 (wd (sP 48 57) 0), .int .u64 (wd (sP 48 57) 1), .int .u64 (wd (sP 48 57) 2), .int .u64 (wd (sP 48 57) 3)] 33)) (w3.heap.size + 1) (sP 97 122) := by
  have h := (xae (w3.alloc (.cells #[.int .u64 (wd (sP 65 90) 0), .int .u64 (wd (sP 65 90) 1), .int .u64 (wd (sP 65 90) 2), .int .u64 (wd (sP 65 90) 3)] 33)) (sP 97 122) 33).alloc (.cells #[.int .u64 (wd (sP 48 57) 0), .int .u64 (wd (sP 48 57) 1), .int .u64 (wd (sP 48 57) 2), .int .u64 (wd (sP 48 57) 3)] 33)
  rwa [World.size_alloc] at h
 have hD : Holds4 (((w3.alloc (.cells #[.int .u64 (wd (sP 65 90) 0), .int .u64 (wd (sP 65 90) 1), .int .u64 (wd (sP 65 90) 2), .int .u64 (wd (sP 65 90) 3)] 33)).alloc (.cells #[.int .u64 (wd (sP 97 122) 0), .int .u64 (wd (sP 97 122) 1), .int .u64 (wd (sP 97 122) 2), .int .u64 (wd (sP 97 122) 3)] 33)).alloc (.cells #[.int .u64 (wd (sP 48 57) 0), .int .u64 (wd (sP 48 57) 1), .int .u64 (wd (sP 48 57) 2), .int .u64 (wd (sP 48 57) 3)] 33)) (w3.heap.size + 1 + 1) (sP 48 57) := by
  have h := xae ((w3.alloc (.cells #[.int .u64 (wd (sP 65 90) 0), .int .u64 (wd (sP 65 90) 1), .int .u64 (wd (sP 65 90) 2), .int .u64 (wd (sP 65 90) 3)] 33)).alloc (.cells #[.int .u64 (wd (sP 97 122) 0), .int .u64 (wd (sP 97 122) 1), .int .u64 (wd (sP 97 122) 2), .int .u64 (wd (sP 97 122) 3)] 33)) (sP 48 57) 33
  rwa [World.size_alloc, World.size_alloc] at h
 replace hB : Below w.heap.size w (((w3.alloc (.cells #[.int .u64 (wd (sP 65 90) 0), .int .u64 (wd (sP 65 90) 1), .int .u64 (wd (sP 65 90) 2), .int .u64 (wd (sP 65 90) 3)] 33)).alloc (.cells #[.int .u64 (wd (sP 97 122) 0), .int .u64 (wd (sP 97 122) 1), .int .u64 (wd (sP 97 122) 2), .int .u64 (wd (sP 97 122) 3)] 33)).alloc (.cells #[.int .u64 (wd (sP 48 57) 0), .int .u64 (wd (sP 48 57) 1), .int .u64 (wd (sP 48 57) 2), .int .u64 (wd (sP 48 57) 3)] 33)) := ((hB.alloc hB.size _).alloc (by have := hB.size; simp; omega) _).alloc (by have := hB.size; simp; omega) _
 refine (orD _ _ _).mono ?_
 rintro e w4 ⟨rfl, hb4⟩
 replace hR := hR.below hb4 hR.lt
 replace hU := hU.below hb4 hU.lt
 replace hL := hL.below hb4 hL.lt
 replace hD := hD.below hb4 hD.lt
 replace hB := hB.trans (hb4.mono hB.size)
 clear hb4
 obtain ⟨⟨d0, d1, d2, d3⟩, -⟩ := id hD
 have lt := hD.lt
 go_wp2_with fail
 clear d0 d1 d2 d3 lt
 replace hR := hR.alloc (.cells #[.int .u64 (wd (orP (sP 65 90) (sP 97 122)) 0), .int .u64 (wd (orP (sP 65 90) (sP 97 122)) 1), .int .u64 (wd (orP (sP 65 90) (sP 97 122)) 2), .int .u64 (wd (orP (sP 65 90) (sP 97 122)) 3)] 33)
 replace hU := hU.alloc (.cells #[.int .u64 (wd (orP (sP 65 90) (sP 97 122)) 0), .int .u64 (wd (orP (sP 65 90) (sP 97 122)) 1), .int .u64 (wd (orP (sP 65 90) (sP 97 122)) 2), .int .u64 (wd (orP (sP 65 90) (sP 97 122)) 3)] 33)
 replace hL := hL.alloc (.cells #[.int .u64 (wd (orP (sP 65 90) (sP 97 122)) 0), .int .u64 (wd (orP (sP 65 90) (sP 97 122)) 1), .int .u64 (wd (orP (sP 65 90) (sP 97 122)) 2), .int .u64 (wd (orP (sP 65 90) (sP 97 122)) 3)] 33)
 replace hD := hD.alloc (.cells #[.int .u64 (wd (orP (sP 65 90) (sP 97 122)) 0), .int .u64 (wd (orP (sP 65 90) (sP 97 122)) 1), .int .u64 (wd (orP (sP 65 90) (sP 97 122)) 2), .int .u64 (wd (orP (sP 65 90) (sP 97 122)) 3)] 33)
 have hA := xae w4 (orP (sP 65 90) (sP 97 122)) 33
 replace hB := hB.alloc hB.size (.cells #[.int .u64 (wd (orP (sP 65 90) (sP 97 122)) 0), .int .u64 (wd (orP (sP 65 90) (sP 97 122)) 1), .int .u64 (wd (orP (sP 65 90) (sP 97 122)) 2), .int .u64 (wd (orP (sP 65 90) (sP 97 122)) 3)] 33)
 refine (orD _ _ _).mono ?_
 rintro e w5 ⟨rfl, hb5⟩
 replace hR := hR.below hb5 hR.lt
 replace hU := hU.below hb5 hU.lt
 replace hL := hL.below hb5 hL.lt
 replace hD := hD.below hb5 hD.lt
 replace hA := hA.below hb5 hA.lt
 replace hB := hB.trans (hb5.mono hB.size)
 clear hb5
 go_wp2_with fail
 replace hR := hR.alloc (.cells #[.int .u64 (wd (orP (orP (sP 65 90) (sP 97 122)) (sP 48 57)) 0), .int .u64 (wd (orP (orP (sP 65 90) (sP 97 122)) (sP 48 57)) 1), .int .u64 (wd (orP (orP (sP 65 90) (sP 97 122)) (sP 48 57)) 2), .int .u64 (wd (orP (orP (sP 65 90) (sP 97 122)) (sP 48 57)) 3)] 33)
 replace hU := hU.alloc (.cells #[.int .u64 (wd (orP (orP (sP 65 90) (sP 97 122)) (sP 48 57)) 0), .int .u64 (wd (orP (orP (sP 65 90) (sP 97 122)) (sP 48 57)) 1), .int .u64 (wd (orP (orP (sP 65 90) (sP 97 122)) (sP 48 57)) 2), .int .u64 (wd (orP (orP (sP 65 90) (sP 97 122)) (sP 48 57)) 3)] 33)
 replace hL := hL.alloc (.cells #[.int .u64 (wd (orP (orP (sP 65 90) (sP 97 122)) (sP 48 57)) 0), .int .u64 (wd (orP (orP (sP 65 90) (sP 97 122)) (sP 48 57)) 1), .int .u64 (wd (orP (orP (sP 65 90) (sP 97 122)) (sP 48 57)) 2), .int .u64 (wd (orP (orP (sP 65 90) (sP 97 122)) (sP 48 57)) 3)] 33)
 replace hD := hD.alloc (.cells #[.int .u64 (wd (orP (orP (sP 65 90) (sP 97 122)) (sP 48 57)) 0), .int .u64 (wd (orP (orP (sP 65 90) (sP 97 122)) (sP 48 57)) 1), .int .u64 (wd (orP (orP (sP 65 90) (sP 97 122)) (sP 48 57)) 2), .int .u64 (wd (orP (orP (sP 65 90) (sP 97 122)) (sP 48 57)) 3)] 33)
 replace hA := hA.alloc (.cells #[.int .u64 (wd (orP (orP (sP 65 90) (sP 97 122)) (sP 48 57)) 0), .int .u64 (wd (orP (orP (sP 65 90) (sP 97 122)) (sP 48 57)) 1), .int .u64 (wd (orP (orP (sP 65 90) (sP 97 122)) (sP 48 57)) 2), .int .u64 (wd (orP (orP (sP 65 90) (sP 97 122)) (sP 48 57)) 3)] 33)
 have hN := xae w5 (orP (orP (sP 65 90) (sP 97 122)) (sP 48 57)) 33
 replace hB := hB.alloc hB.size (.cells #[.int .u64 (wd (orP (orP (sP 65 90) (sP 97 122)) (sP 48 57)) 0), .int .u64 (wd (orP (orP (sP 65 90) (sP 97 122)) (sP 48 57)) 1), .int .u64 (wd (orP (orP (sP 65 90) (sP 97 122)) (sP 48 57)) 2), .int .u64 (wd (orP (orP (sP 65 90) (sP 97 122)) (sP 48 57)) 3)] 33)
 refine (xak 33 126 (by omega) (by omega) (by omega) _).mono ?_
 rintro e w6 ⟨rfl, hb6⟩
 replace hR := hR.below hb6 hR.lt
 replace hU := hU.below hb6 hU.lt
 replace hL := hL.below hb6 hL.lt
 replace hD := hD.below hb6 hD.lt
 replace hA := hA.below hb6 hA.lt
 replace hN := hN.below hb6 hN.lt
 replace hB := hB.trans (hb6.mono hB.size)
 clear hb6
 obtain ⟨⟨z0, z1, z2, z3⟩, zf0, zf1, zf2, zf3⟩ := id hR
 have ltz := hR.lt
 go_wp2
 have hB2 := (((hB.setCell (p := ⟨w.heap.size, 0, none⟩) (Nat.le_refl _) (.int .u64 0)).setCell (p := ⟨w.heap.size, 1, none⟩) (Nat.le_refl _) (.int .u64 0)).setCell (p := ⟨w.heap.size, 2, none⟩) (Nat.le_refl _) (.int .u64 0)).setCell (p := ⟨w.heap.size, 3, none⟩) (Nat.le_refl _) (.int .u64 0)
 exact bodyPost_ret (v := .tuple #[.agg #[.int .u64 0, .int .u64 0, .int .u64 0, .int .u64 0], .int .i64 8]) (by simp [results, Tryz.results113, go_sem, *]) rfl ⟨rfl, hB2.alloc hB2.size _⟩
theorem xog (lo hi : Int) (h0 : 0 ≤ lo) (h1 : lo ≤ hi) (h2 : hi < 256) (w : World) :
  Calls Tryz.prog 83 #[.int .u8 lo, .int .u8 hi] w fun e w' => e = .returned (.tuple #[.agg #[.int .u64 (wd (sP lo.toNat hi.toNat) 0), .int .u64 (wd (sP lo.toNat hi.toNat) 1), .int .u64 (wd (sP lo.toNat hi.toNat) 2), .int .u64 (wd (sP lo.toNat hi.toNat) 3)], .int .i64 0]) ∧ Below w.heap.size w w' := by
 have hnl : ¬ hi < lo := by omega
 have hspec : ∀ q : Nat → Bool, Is q (fun n => decide (lo ≤ (n : Int) ∧ (n : Int) ≤ hi)) → Is q (sP lo.toNat hi.toNat) := fun q hq n hn => by
  rw [hq n hn]; unfold sP; rw [Bool.eq_iff_iff]; simp only [decide_eq_true_eq]; omega
 have HS : Hid _ := hspec
 clear hspec
 go_enter Tryz.func83, Tryz.ntmps83
 go_wp2_with fail
 go_loopw [7] (fun i wr => ∃ (k : Nat) (t : Nat → Bool), k ≤ 256 ∧ i = .int .i64 k ∧ Is t (upTo k (fun n => decide (lo ≤ (n : Int) ∧ (n : Int) ≤ hi))) ∧ (∃ q, Holds4 wr w.heap.size q) ∧ Holds4 wr (w.heap.size + 1) t ∧ Below w.heap.size w wr) (fun i _ => (256 - intOf i).toNat)
 case atStart =>
  have e := xaj (w.alloc (.cells #[.int .u64 0, .int .u64 0, .int .u64 0, .int .u64 0] 33)) 33
  rw [World.size_alloc] at e
  exact ⟨0, fun _ => false, by omega, rfl, xg6 _, ⟨_, (xaj w 33).alloc _⟩, e, ((Below.refl _ _).alloc (Nat.le_refl _) _).alloc (by simp) _⟩
 case round =>
  obtain ⟨k, t, hk1, rfl, ht, ⟨q, hr⟩, hs, hB⟩ := hrel
  have hsz := hs.lt
  by_cases hlt : k < 256
  ·by_cases hlo : lo ≤ (k : Int)
   ·by_cases hhi : (k : Int) ≤ hi
    ·obtain ⟨⟨c0, c1, c2, c3⟩, f0, f1, f2, f3⟩ := id hs
     go_wp2_with fail
     refine (xfp t k (by omega) (by omega) _).mono ?_
     rintro e w2 ⟨t1, rfl, ht1, hb2⟩
     clear c0 c1 c2 c3 f0 f1 f2 f3
     have hs3 := hs.below hb2 hs.lt
     have hr2 := hr.below hb2 hr.lt
     have hB2 := hB.trans (hb2.mono hB.size)
     obtain ⟨⟨c0, c1, c2, c3⟩, f0, f1, f2, f3⟩ := id hs3
     go_wp2
     go_roundw
     case rel =>
      exact ⟨k + 1, t1, by omega, by go_num, xgw ht ht1 (by simp; omega), ⟨_, hr2.other t1 (by omega)⟩, hs3.put t1, xai hB2 (by omega) t1⟩
     case measure => simp [intOf]; omega
    ·go_wp2
     go_roundw
     case rel => exact ⟨k + 1, t, by omega, by go_num, xjl ht (by simp; omega), ⟨_, hr⟩, hs, hB⟩
     case measure => simp [intOf]; omega
   ·go_wp2
    go_roundw
    case rel => exact ⟨k + 1, t, by omega, by go_num, xjl ht (by simp; omega), ⟨_, hr⟩, hs, hB⟩
    case measure => simp [intOf]; omega
  ·obtain ⟨⟨c0, c1, c2, c3⟩, f0, f1, f2, f3⟩ := hs
   obtain ⟨⟨d0, d1, d2, d3⟩, g0, g1, g2, g3⟩ := hr
   go_wp2
   obtain ⟨e0, e1, e2, e3⟩ := wd_Is (HS.out _ (xg7 ht (by omega)))
   exact bodyPost_ret (v := .tuple #[.agg #[.int .u64 (wd t 0), .int .u64 (wd t 1), .int .u64 (wd t 2), .int .u64 (wd t 3)], .int .i64 0]) (by simp [results, Tryz.results83, go_sem, *]) rfl ⟨by rw [e0, e1, e2, e3], xai hB (by omega) _⟩
theorem xpj (w : World) : Calls Tryz.prog 108 #[.string ⟨#[117, 112, 112, 101, 114]⟩] w fun e w' => e = .returned (.string ⟨#[65, 66, 67, 68, 69, 70, 71, 72, 73, 74, 75, 76, 77, 78, 79, 80, 81, 82, 83, 84, 85, 86, 87, 88, 89, 90]⟩) ∧ w' = w := by
 go_enter Tryz.func108, Tryz.ntmps108
 go_wp2
 go_ret
 exact ⟨rfl, rfl⟩
theorem xms : card (ofP ⟨#[65, 66, 67, 68, 69, 70, 71, 72, 73, 74, 75, 76, 77, 78, 79, 80, 81, 82, 83, 84, 85, 86, 87, 88, 89, 90]⟩) = 26 := by decide +kernel
theorem xpk (w : World) : Calls Tryz.prog 108 #[.string ⟨#[108, 111, 119, 101, 114]⟩] w fun e w' => e = .returned (.string ⟨#[97, 98, 99, 100, 101, 102, 103, 104, 105, 106, 107, 108, 109, 110, 111, 112, 113, 114, 115, 116, 117, 118, 119, 120, 121, 122]⟩) ∧ w' = w := by
 go_enter Tryz.func108, Tryz.ntmps108
 go_wp2
 go_ret
 exact ⟨rfl, rfl⟩
theorem xmt : card (ofP ⟨#[97, 98, 99, 100, 101, 102, 103, 104, 105, 106, 107, 108, 109, 110, 111, 112, 113, 114, 115, 116, 117, 118, 119, 120, 121, 122]⟩) = 26 := by decide +kernel
theorem xpl (w : World) : Calls Tryz.prog 108 #[.string ⟨#[100, 105, 103, 105, 116]⟩] w fun e w' => e = .returned (.string ⟨#[48, 49, 50, 51, 52, 53, 54, 55, 56, 57]⟩) ∧ w' = w := by
 go_enter Tryz.func108, Tryz.ntmps108
 go_wp2
 go_ret
 exact ⟨rfl, rfl⟩
theorem xmu : card (ofP ⟨#[48, 49, 50, 51, 52, 53, 54, 55, 56, 57]⟩) = 10 := by decide +kernel
theorem xpm (w : World) : Calls Tryz.prog 108 #[.string ⟨#[97, 108, 112, 104, 97]⟩] w fun e w' => e = .returned (.string ⟨#[65, 66, 67, 68, 69, 70, 71, 72, 73, 74, 75, 76, 77, 78, 79, 80, 81, 82, 83, 84, 85, 86, 87, 88, 89, 90, 97, 98, 99, 100, 101, 102, 103, 104, 105, 106, 107, 108, 109, 110, 111, 112, 113, 114, 115, 116, 117, 118, 119, 120, 121, 122]⟩) ∧ w' = w := by
 go_enter Tryz.func108, Tryz.ntmps108
 go_wp2
 go_ret
 exact ⟨rfl, rfl⟩
theorem xmv : card (ofP ⟨#[65, 66, 67, 68, 69, 70, 71, 72, 73, 74, 75, 76, 77, 78, 79, 80, 81, 82, 83, 84, 85, 86, 87, 88, 89, 90, 97, 98, 99, 100, 101, 102, 103, 104, 105, 106, 107, 108, 109, 110, 111, 112, 113, 114, 115, 116, 117, 118, 119, 120, 121, 122]⟩) = 52 := by decide +kernel
theorem xpn (w : World) : Calls Tryz.prog 108 #[.string ⟨#[97, 108, 110, 117, 109]⟩] w fun e w' => e = .returned (.string ⟨#[65, 66, 67, 68, 69, 70, 71, 72, 73, 74, 75, 76, 77, 78, 79, 80, 81, 82, 83, 84, 85, 86, 87, 88, 89, 90, 97, 98, 99, 100, 101, 102, 103, 104, 105, 106, 107, 108, 109, 110, 111, 112, 113, 114, 115, 116, 117, 118, 119, 120, 121, 122, 48, 49, 50, 51, 52, 53, 54, 55, 56, 57]⟩) ∧ w' = w := by
 go_enter Tryz.func108, Tryz.ntmps108
 go_wp2
 go_ret
 exact ⟨rfl, rfl⟩
theorem xmw : card (ofP ⟨#[65, 66, 67, 68, 69, 70, 71, 72, 73, 74, 75, 76, 77, 78, 79, 80, 81, 82, 83, 84, 85, 86, 87, 88, 89, 90, 97, 98, 99, 100, 101, 102, 103, 104, 105, 106, 107, 108, 109, 110, 111, 112, 113, 114, 115, 116, 117, 118, 119, 120, 121, 122, 48, 49, 50, 51, 52, 53, 54, 55, 56, 57]⟩) = 62 := by decide +kernel
theorem xmx (w : World) : Calls Tryz.prog 108 #[.string ⟨#[120, 100, 105, 103, 105, 116]⟩] w fun e w' => e = .returned (.string ⟨#[48, 49, 50, 51, 52, 53, 54, 55, 56, 57, 65, 66, 67, 68, 69, 70, 97, 98, 99, 100, 101, 102]⟩) ∧ w' = w := by
 go_enter Tryz.func108, Tryz.ntmps108
 go_wp2
 go_ret
 exact ⟨rfl, rfl⟩
theorem xk3 : card (ofP ⟨#[48, 49, 50, 51, 52, 53, 54, 55, 56, 57, 65, 66, 67, 68, 69, 70, 97, 98, 99, 100, 101, 102]⟩) = 22 := by decide +kernel
theorem xpo (w : World) : Calls Tryz.prog 108 #[.string ⟨#[98, 108, 97, 110, 107]⟩] w fun e w' => e = .returned (.string ⟨#[32, 9]⟩) ∧ w' = w := by
 go_enter Tryz.func108, Tryz.ntmps108
 go_wp2
 go_ret
 exact ⟨rfl, rfl⟩
theorem xmy : card (ofP ⟨#[32, 9]⟩) = 2 := by decide +kernel
theorem xpp (w : World) : Calls Tryz.prog 108 #[.string ⟨#[115, 112, 97, 99, 101]⟩] w fun e w' => e = .returned (.string ⟨#[32, 9, 10, 11, 12, 13]⟩) ∧ w' = w := by
 go_enter Tryz.func108, Tryz.ntmps108
 go_wp2
 go_ret
 exact ⟨rfl, rfl⟩
theorem xmz : card (ofP ⟨#[32, 9, 10, 11, 12, 13]⟩) = 6 := by decide +kernel
theorem xpq (w : World) : Calls Tryz.prog 108 #[.string ⟨#[103, 114, 97, 112, 104]⟩] w fun e w' => e = .returned (.string ⟨#[33, 34, 35, 36, 37, 38, 39, 40, 41, 42, 43, 44, 45, 46, 47, 58, 59, 60, 61, 62, 63, 64, 91, 92, 93, 94, 95, 96, 123, 124, 125, 126, 65, 66, 67, 68, 69, 70, 71, 72, 73, 74, 75, 76, 77, 78, 79, 80, 81, 82, 83, 84, 85, 86, 87, 88, 89, 90, 97, 98, 99, 100, 101, 102, 103, 104, 105, 106, 107, 108, 109, 110, 111, 112, 113, 114, 115, 116, 117, 118, 119, 120, 121, 122, 48, 49, 50, 51, 52, 53, 54, 55, 56, 57]⟩) ∧ w' = w := by
 go_enter Tryz.func108, Tryz.ntmps108
 go_wp2
 go_ret
 exact ⟨rfl, rfl⟩
theorem xm0 : card (ofP ⟨#[33, 34, 35, 36, 37, 38, 39, 40, 41, 42, 43, 44, 45, 46, 47, 58, 59, 60, 61, 62, 63, 64, 91, 92, 93, 94, 95, 96, 123, 124, 125, 126, 65, 66, 67, 68, 69, 70, 71, 72, 73, 74, 75, 76, 77, 78, 79, 80, 81, 82, 83, 84, 85, 86, 87, 88, 89, 90, 97, 98, 99, 100, 101, 102, 103, 104, 105, 106, 107, 108, 109, 110, 111, 112, 113, 114, 115, 116, 117, 118, 119, 120, 121, 122, 48, 49, 50, 51, 52, 53, 54, 55, 56, 57]⟩) = 94 := by decide +kernel
theorem xpr (w : World) : Calls Tryz.prog 108 #[.string ⟨#[112, 114, 105, 110, 116]⟩] w fun e w' => e = .returned (.string ⟨#[33, 34, 35, 36, 37, 38, 39, 40, 41, 42, 43, 44, 45, 46, 47, 58, 59, 60, 61, 62, 63, 64, 91, 92, 93, 94, 95, 96, 123, 124, 125, 126, 65, 66, 67, 68, 69, 70, 71, 72, 73, 74, 75, 76, 77, 78, 79, 80, 81, 82, 83, 84, 85, 86, 87, 88, 89, 90, 97, 98, 99, 100, 101, 102, 103, 104, 105, 106, 107, 108, 109, 110, 111, 112, 113, 114, 115, 116, 117, 118, 119, 120, 121, 122, 48, 49, 50, 51, 52, 53, 54, 55, 56, 57, 32]⟩) ∧ w' = w := by
 go_enter Tryz.func108, Tryz.ntmps108
 go_wp2
 go_ret
 exact ⟨rfl, rfl⟩
theorem xm1 : card (ofP ⟨#[33, 34, 35, 36, 37, 38, 39, 40, 41, 42, 43, 44, 45, 46, 47, 58, 59, 60, 61, 62, 63, 64, 91, 92, 93, 94, 95, 96, 123, 124, 125, 126, 65, 66, 67, 68, 69, 70, 71, 72, 73, 74, 75, 76, 77, 78, 79, 80, 81, 82, 83, 84, 85, 86, 87, 88, 89, 90, 97, 98, 99, 100, 101, 102, 103, 104, 105, 106, 107, 108, 109, 110, 111, 112, 113, 114, 115, 116, 117, 118, 119, 120, 121, 122, 48, 49, 50, 51, 52, 53, 54, 55, 56, 57, 32]⟩) = 95 := by decide +kernel
theorem xps (w : World) : Calls Tryz.prog 108 #[.string ⟨#[112, 117, 110, 99, 116]⟩] w fun e w' => e = .returned (.string ⟨#[33, 34, 35, 36, 37, 38, 39, 40, 41, 42, 43, 44, 45, 46, 47, 58, 59, 60, 61, 62, 63, 64, 91, 92, 93, 94, 95, 96, 123, 124, 125, 126]⟩) ∧ w' = w := by
 go_enter Tryz.func108, Tryz.ntmps108
 go_wp2
 go_ret
 exact ⟨rfl, rfl⟩
theorem xm2 : card (ofP ⟨#[33, 34, 35, 36, 37, 38, 39, 40, 41, 42, 43, 44, 45, 46, 47, 58, 59, 60, 61, 62, 63, 64, 91, 92, 93, 94, 95, 96, 123, 124, 125, 126]⟩) = 32 := by decide +kernel
theorem xpt (s : ByteArray) (n0 : (s.toList == [117, 112, 112, 101, 114]) = false) (n1 : (s.toList == [108, 111, 119, 101, 114]) = false) (n2 : (s.toList == [100, 105, 103, 105, 116]) = false) (n3 : (s.toList == [97, 108, 112, 104, 97]) = false) (n4 : (s.toList == [97, 108, 110, 117, 109]) = false) (n5 : (s.toList == [120, 100, 105, 103, 105, 116]) = false) (n6 : (s.toList == [98, 108, 97, 110, 107]) = false) (n7 : (s.toList == [115, 112, 97, 99, 101]) = false) (n8 : (s.toList == [103, 114, 97, 112, 104]) = false) (n9 : (s.toList == [112, 114, 105, 110, 116]) = false) (n10 : (s.toList == [112, 117, 110, 99, 116]) = false) (w : World) : Calls Tryz.prog 108 #[.string s] w fun e w' => e = .returned (.string ⟨#[]⟩) ∧ w' = w := by
 go_enter Tryz.func108, Tryz.ntmps108
 go_wp2
 go_ret
 exact ⟨rfl, rfl⟩
theorem xm3 : card (ofP ⟨#[]⟩) = 0 := by decide +kernel
theorem xif  (w : World) :
  Calls Tryz.prog 98 #[.string ⟨#[117, 112, 112, 101, 114]⟩] w fun e w' => e = .returned (.tuple #[.agg #[.int .u64 (wd (ofP ⟨#[65, 66, 67, 68, 69, 70, 71, 72, 73, 74, 75, 76, 77, 78, 79, 80, 81, 82, 83, 84, 85, 86, 87, 88, 89, 90]⟩) 0), .int .u64 (wd (ofP ⟨#[65, 66, 67, 68, 69, 70, 71, 72, 73, 74, 75, 76, 77, 78, 79, 80, 81, 82, 83, 84, 85, 86, 87, 88, 89, 90]⟩) 1), .int .u64 (wd (ofP ⟨#[65, 66, 67, 68, 69, 70, 71, 72, 73, 74, 75, 76, 77, 78, 79, 80, 81, 82, 83, 84, 85, 86, 87, 88, 89, 90]⟩) 2), .int .u64 (wd (ofP ⟨#[65, 66, 67, 68, 69, 70, 71, 72, 73, 74, 75, 76, 77, 78, 79, 80, 81, 82, 83, 84, 85, 86, 87, 88, 89, 90]⟩) 3)], .int .i64 0]) ∧ Below w.heap.size w w' := by
 go_enter Tryz.func98, Tryz.ntmps98
 go_wp2_with fail
 refine (xpj _).mono ?_
 rintro e w0 ⟨rfl, rfl⟩
 go_wp2_with fail
 refine (xcw _ (by decide) _).mono ?_
 rintro e w1 ⟨rfl, hb1⟩
 have hr := (xaj w 33).below hb1 (by simp)
 have hB : Below w.heap.size w w1 := ((Below.refl _ _).alloc (Nat.le_refl _) _).trans (hb1.mono (by simp))
 clear hb1
 have hc := fun w => xbv (ofP ⟨#[65, 66, 67, 68, 69, 70, 71, 72, 73, 74, 75, 76, 77, 78, 79, 80, 81, 82, 83, 84, 85, 86, 87, 88, 89, 90]⟩) w
 rw [xms] at hc
 have HC : Hid _ := hc
 clear hc
 go_wp2_with fail
 have hv := xae w1 (ofP ⟨#[65, 66, 67, 68, 69, 70, 71, 72, 73, 74, 75, 76, 77, 78, 79, 80, 81, 82, 83, 84, 85, 86, 87, 88, 89, 90]⟩) 33
 replace hr := hr.alloc (.cells #[.int .u64 (wd (ofP ⟨#[65, 66, 67, 68, 69, 70, 71, 72, 73, 74, 75, 76, 77, 78, 79, 80, 81, 82, 83, 84, 85, 86, 87, 88, 89, 90]⟩) 0), .int .u64 (wd (ofP ⟨#[65, 66, 67, 68, 69, 70, 71, 72, 73, 74, 75, 76, 77, 78, 79, 80, 81, 82, 83, 84, 85, 86, 87, 88, 89, 90]⟩) 1), .int .u64 (wd (ofP ⟨#[65, 66, 67, 68, 69, 70, 71, 72, 73, 74, 75, 76, 77, 78, 79, 80, 81, 82, 83, 84, 85, 86, 87, 88, 89, 90]⟩) 2), .int .u64 (wd (ofP ⟨#[65, 66, 67, 68, 69, 70, 71, 72, 73, 74, 75, 76, 77, 78, 79, 80, 81, 82, 83, 84, 85, 86, 87, 88, 89, 90]⟩) 3)] 33)
 replace hB := hB.alloc hB.size (.cells #[.int .u64 (wd (ofP ⟨#[65, 66, 67, 68, 69, 70, 71, 72, 73, 74, 75, 76, 77, 78, 79, 80, 81, 82, 83, 84, 85, 86, 87, 88, 89, 90]⟩) 0), .int .u64 (wd (ofP ⟨#[65, 66, 67, 68, 69, 70, 71, 72, 73, 74, 75, 76, 77, 78, 79, 80, 81, 82, 83, 84, 85, 86, 87, 88, 89, 90]⟩) 1), .int .u64 (wd (ofP ⟨#[65, 66, 67, 68, 69, 70, 71, 72, 73, 74, 75, 76, 77, 78, 79, 80, 81, 82, 83, 84, 85, 86, 87, 88, 89, 90]⟩) 2), .int .u64 (wd (ofP ⟨#[65, 66, 67, 68, 69, 70, 71, 72, 73, 74, 75, 76, 77, 78, 79, 80, 81, 82, 83, 84, 85, 86, 87, 88, 89, 90]⟩) 3)] 33)
 refine (HC.out _).mono ?_
 rintro e w2 ⟨rfl, hb2⟩
 replace hr := hr.below hb2 hr.lt
 replace hv := hv.below hb2 hv.lt
 replace hB := hB.trans (hb2.mono hB.size)
 clear hb2
 obtain ⟨⟨c0, c1, c2, c3⟩, -⟩ := id hv
 obtain ⟨⟨d0, d1, d2, d3⟩, g0, g1, g2, g3⟩ := id hr
 go_wp2
 exact bodyPost_ret (v := .tuple #[.agg #[.int .u64 (wd (ofP ⟨#[65, 66, 67, 68, 69, 70, 71, 72, 73, 74, 75, 76, 77, 78, 79, 80, 81, 82, 83, 84, 85, 86, 87, 88, 89, 90]⟩) 0), .int .u64 (wd (ofP ⟨#[65, 66, 67, 68, 69, 70, 71, 72, 73, 74, 75, 76, 77, 78, 79, 80, 81, 82, 83, 84, 85, 86, 87, 88, 89, 90]⟩) 1), .int .u64 (wd (ofP ⟨#[65, 66, 67, 68, 69, 70, 71, 72, 73, 74, 75, 76, 77, 78, 79, 80, 81, 82, 83, 84, 85, 86, 87, 88, 89, 90]⟩) 2), .int .u64 (wd (ofP ⟨#[65, 66, 67, 68, 69, 70, 71, 72, 73, 74, 75, 76, 77, 78, 79, 80, 81, 82, 83, 84, 85, 86, 87, 88, 89, 90]⟩) 3)], .int .i64 0]) (by simp [results, Tryz.results98, go_sem, *]) rfl ⟨rfl, xai hB (by omega) _⟩
theorem xig  (w : World) :
  Calls Tryz.prog 98 #[.string ⟨#[108, 111, 119, 101, 114]⟩] w fun e w' => e = .returned (.tuple #[.agg #[.int .u64 (wd (ofP ⟨#[97, 98, 99, 100, 101, 102, 103, 104, 105, 106, 107, 108, 109, 110, 111, 112, 113, 114, 115, 116, 117, 118, 119, 120, 121, 122]⟩) 0), .int .u64 (wd (ofP ⟨#[97, 98, 99, 100, 101, 102, 103, 104, 105, 106, 107, 108, 109, 110, 111, 112, 113, 114, 115, 116, 117, 118, 119, 120, 121, 122]⟩) 1), .int .u64 (wd (ofP ⟨#[97, 98, 99, 100, 101, 102, 103, 104, 105, 106, 107, 108, 109, 110, 111, 112, 113, 114, 115, 116, 117, 118, 119, 120, 121, 122]⟩) 2), .int .u64 (wd (ofP ⟨#[97, 98, 99, 100, 101, 102, 103, 104, 105, 106, 107, 108, 109, 110, 111, 112, 113, 114, 115, 116, 117, 118, 119, 120, 121, 122]⟩) 3)], .int .i64 0]) ∧ Below w.heap.size w w' := by
 go_enter Tryz.func98, Tryz.ntmps98
 go_wp2_with fail
 refine (xpk _).mono ?_
 rintro e w0 ⟨rfl, rfl⟩
 go_wp2_with fail
 refine (xcw _ (by decide) _).mono ?_
 rintro e w1 ⟨rfl, hb1⟩
 have hr := (xaj w 33).below hb1 (by simp)
 have hB : Below w.heap.size w w1 := ((Below.refl _ _).alloc (Nat.le_refl _) _).trans (hb1.mono (by simp))
 clear hb1
 have hc := fun w => xbv (ofP ⟨#[97, 98, 99, 100, 101, 102, 103, 104, 105, 106, 107, 108, 109, 110, 111, 112, 113, 114, 115, 116, 117, 118, 119, 120, 121, 122]⟩) w
 rw [xmt] at hc
 have HC : Hid _ := hc
 clear hc
 go_wp2_with fail
 have hv := xae w1 (ofP ⟨#[97, 98, 99, 100, 101, 102, 103, 104, 105, 106, 107, 108, 109, 110, 111, 112, 113, 114, 115, 116, 117, 118, 119, 120, 121, 122]⟩) 33
 replace hr := hr.alloc (.cells #[.int .u64 (wd (ofP ⟨#[97, 98, 99, 100, 101, 102, 103, 104, 105, 106, 107, 108, 109, 110, 111, 112, 113, 114, 115, 116, 117, 118, 119, 120, 121, 122]⟩) 0), .int .u64 (wd (ofP ⟨#[97, 98, 99, 100, 101, 102, 103, 104, 105, 106, 107, 108, 109, 110, 111, 112, 113, 114, 115, 116, 117, 118, 119, 120, 121, 122]⟩) 1), .int .u64 (wd (ofP ⟨#[97, 98, 99, 100, 101, 102, 103, 104, 105, 106, 107, 108, 109, 110, 111, 112, 113, 114, 115, 116, 117, 118, 119, 120, 121, 122]⟩) 2), .int .u64 (wd (ofP ⟨#[97, 98, 99, 100, 101, 102, 103, 104, 105, 106, 107, 108, 109, 110, 111, 112, 113, 114, 115, 116, 117, 118, 119, 120, 121, 122]⟩) 3)] 33)
 replace hB := hB.alloc hB.size (.cells #[.int .u64 (wd (ofP ⟨#[97, 98, 99, 100, 101, 102, 103, 104, 105, 106, 107, 108, 109, 110, 111, 112, 113, 114, 115, 116, 117, 118, 119, 120, 121, 122]⟩) 0), .int .u64 (wd (ofP ⟨#[97, 98, 99, 100, 101, 102, 103, 104, 105, 106, 107, 108, 109, 110, 111, 112, 113, 114, 115, 116, 117, 118, 119, 120, 121, 122]⟩) 1), .int .u64 (wd (ofP ⟨#[97, 98, 99, 100, 101, 102, 103, 104, 105, 106, 107, 108, 109, 110, 111, 112, 113, 114, 115, 116, 117, 118, 119, 120, 121, 122]⟩) 2), .int .u64 (wd (ofP ⟨#[97, 98, 99, 100, 101, 102, 103, 104, 105, 106, 107, 108, 109, 110, 111, 112, 113, 114, 115, 116, 117, 118, 119, 120, 121, 122]⟩) 3)] 33)
 refine (HC.out _).mono ?_
 rintro e w2 ⟨rfl, hb2⟩
 replace hr := hr.below hb2 hr.lt
 replace hv := hv.below hb2 hv.lt
 replace hB := hB.trans (hb2.mono hB.size)
 clear hb2
 obtain ⟨⟨c0, c1, c2, c3⟩, -⟩ := id hv
 obtain ⟨⟨d0, d1, d2, d3⟩, g0, g1, g2, g3⟩ := id hr
 go_wp2
 exact bodyPost_ret (v := .tuple #[.agg #[.int .u64 (wd (ofP ⟨#[97, 98, 99, 100, 101, 102, 103, 104, 105, 106, 107, 108, 109, 110, 111, 112, 113, 114, 115, 116, 117, 118, 119, 120, 121, 122]⟩) 0), .int .u64 (wd (ofP ⟨#[97, 98, 99, 100, 101, 102, 103, 104, 105, 106, 107, 108, 109, 110, 111, 112, 113, 114, 115, 116, 117, 118, 119, 120, 121, 122]⟩) 1), .int .u64 (wd (ofP ⟨#[97, 98, 99, 100, 101, 102, 103, 104, 105, 106, 107, 108, 109, 110, 111, 112, 113, 114, 115, 116, 117, 118, 119, 120, 121, 122]⟩) 2), .int .u64 (wd (ofP ⟨#[97, 98, 99, 100, 101, 102, 103, 104, 105, 106, 107, 108, 109, 110, 111, 112, 113, 114, 115, 116, 117, 118, 119, 120, 121, 122]⟩) 3)], .int .i64 0]) (by simp [results, Tryz.results98, go_sem, *]) rfl ⟨rfl, xai hB (by omega) _⟩
theorem xih  (w : World) :
  Calls Tryz.prog 98 #[.string ⟨#[100, 105, 103, 105, 116]⟩] w fun e w' => e = .returned (.tuple #[.agg #[.int .u64 (wd (ofP ⟨#[48, 49, 50, 51, 52, 53, 54, 55, 56, 57]⟩) 0), .int .u64 (wd (ofP ⟨#[48, 49, 50, 51, 52, 53, 54, 55, 56, 57]⟩) 1), .int .u64 (wd (ofP ⟨#[48, 49, 50, 51, 52, 53, 54, 55, 56, 57]⟩) 2), .int .u64 (wd (ofP ⟨#[48, 49, 50, 51, 52, 53, 54, 55, 56, 57]⟩) 3)], .int .i64 0]) ∧ Below w.heap.size w w' := by
 go_enter Tryz.func98, Tryz.ntmps98
 go_wp2_with fail
 refine (xpl _).mono ?_
 rintro e w0 ⟨rfl, rfl⟩
 go_wp2_with fail
 refine (xcw _ (by decide) _).mono ?_
 rintro e w1 ⟨rfl, hb1⟩
 have hr := (xaj w 33).below hb1 (by simp)
 have hB : Below w.heap.size w w1 := ((Below.refl _ _).alloc (Nat.le_refl _) _).trans (hb1.mono (by simp))
 clear hb1
 have hc := fun w => xbv (ofP ⟨#[48, 49, 50, 51, 52, 53, 54, 55, 56, 57]⟩) w
 rw [xmu] at hc
 have HC : Hid _ := hc
 clear hc
 go_wp2_with fail
 have hv := xae w1 (ofP ⟨#[48, 49, 50, 51, 52, 53, 54, 55, 56, 57]⟩) 33
 replace hr := hr.alloc (.cells #[.int .u64 (wd (ofP ⟨#[48, 49, 50, 51, 52, 53, 54, 55, 56, 57]⟩) 0), .int .u64 (wd (ofP ⟨#[48, 49, 50, 51, 52, 53, 54, 55, 56, 57]⟩) 1), .int .u64 (wd (ofP ⟨#[48, 49, 50, 51, 52, 53, 54, 55, 56, 57]⟩) 2), .int .u64 (wd (ofP ⟨#[48, 49, 50, 51, 52, 53, 54, 55, 56, 57]⟩) 3)] 33)
 replace hB := hB.alloc hB.size (.cells #[.int .u64 (wd (ofP ⟨#[48, 49, 50, 51, 52, 53, 54, 55, 56, 57]⟩) 0), .int .u64 (wd (ofP ⟨#[48, 49, 50, 51, 52, 53, 54, 55, 56, 57]⟩) 1), .int .u64 (wd (ofP ⟨#[48, 49, 50, 51, 52, 53, 54, 55, 56, 57]⟩) 2), .int .u64 (wd (ofP ⟨#[48, 49, 50, 51, 52, 53, 54, 55, 56, 57]⟩) 3)] 33)
 refine (HC.out _).mono ?_
 rintro e w2 ⟨rfl, hb2⟩
 replace hr := hr.below hb2 hr.lt
 replace hv := hv.below hb2 hv.lt
 replace hB := hB.trans (hb2.mono hB.size)
 clear hb2
 obtain ⟨⟨c0, c1, c2, c3⟩, -⟩ := id hv
 obtain ⟨⟨d0, d1, d2, d3⟩, g0, g1, g2, g3⟩ := id hr
 go_wp2
 exact bodyPost_ret (v := .tuple #[.agg #[.int .u64 (wd (ofP ⟨#[48, 49, 50, 51, 52, 53, 54, 55, 56, 57]⟩) 0), .int .u64 (wd (ofP ⟨#[48, 49, 50, 51, 52, 53, 54, 55, 56, 57]⟩) 1), .int .u64 (wd (ofP ⟨#[48, 49, 50, 51, 52, 53, 54, 55, 56, 57]⟩) 2), .int .u64 (wd (ofP ⟨#[48, 49, 50, 51, 52, 53, 54, 55, 56, 57]⟩) 3)], .int .i64 0]) (by simp [results, Tryz.results98, go_sem, *]) rfl ⟨rfl, xai hB (by omega) _⟩
theorem xii  (w : World) :
  Calls Tryz.prog 98 #[.string ⟨#[97, 108, 112, 104, 97]⟩] w fun e w' => e = .returned (.tuple #[.agg #[.int .u64 (wd (ofP ⟨#[65, 66, 67, 68, 69, 70, 71, 72, 73, 74, 75, 76, 77, 78, 79, 80, 81, 82, 83, 84, 85, 86, 87, 88, 89, 90, 97, 98, 99, 100, 101, 102, 103, 104, 105, 106, 107, 108, 109, 110, 111, 112, 113, 114, 115, 116, 117, 118, 119, 120, 121, 122]⟩) 0), .int .u64 (wd (ofP ⟨#[65, 66, 67, 68, 69, 70, 71, 72, 73, 74, 75, 76, 77, 78, 79, 80, 81, 82, 83, 84, 85, 86, 87, 88, 89, 90, 97, 98, 99, 100, 101, 102, 103, 104, 105, 106, 107, 108, 109, 110, 111, 112, 113, 114, 115, 116, 117, 118, 119, 120, 121, 122]⟩) 1), .int .u64 (wd (ofP ⟨#[65, 66, 67, 68, 69, 70, 71, 72, 73, 74, 75, 76, 77, 78, 79, 80, 81, 82, 83, 84, 85, 86, 87, 88, 89, 90, 97, 98, 99, 100, 101, 102, 103, 104, 105, 106, 107, 108, 109, 110, 111, 112, 113, 114, 115, 116, 117, 118, 119, 120, 121, 122]⟩) 2), .int .u64 (wd (ofP ⟨#[65, 66, 67, 68, 69, 70, 71, 72, 73, 74, 75, 76, 77, 78, 79, 80, 81, 82, 83, 84, 85, 86, 87, 88, 89, 90, 97, 98, 99, 100, 101, 102, 103, 104, 105, 106, 107, 108, 109, 110, 111, 112, 113, 114, 115, 116, 117, 118, 119, 120, 121, 122]⟩) 3)], .int .i64 0]) ∧ Below w.heap.size w w' := by
 go_enter Tryz.func98, Tryz.ntmps98
 go_wp2_with fail
 refine (xpm _).mono ?_
 rintro e w0 ⟨rfl, rfl⟩
 go_wp2_with fail
 refine (xcw _ (by decide) _).mono ?_
 rintro e w1 ⟨rfl, hb1⟩
 have hr := (xaj w 33).below hb1 (by simp)
 have hB : Below w.heap.size w w1 := ((Below.refl _ _).alloc (Nat.le_refl _) _).trans (hb1.mono (by simp))
 clear hb1
 have hc := fun w => xbv (ofP ⟨#[65, 66, 67, 68, 69, 70, 71, 72, 73, 74, 75, 76, 77, 78, 79, 80, 81, 82, 83, 84, 85, 86, 87, 88, 89, 90, 97, 98, 99, 100, 101, 102, 103, 104, 105, 106, 107, 108, 109, 110, 111, 112, 113, 114, 115, 116, 117, 118, 119, 120, 121, 122]⟩) w
 rw [xmv] at hc
 have HC : Hid _ := hc
 clear hc
 go_wp2_with fail
 have hv := xae w1 (ofP ⟨#[65, 66, 67, 68, 69, 70, 71, 72, 73, 74, 75, 76, 77, 78, 79, 80, 81, 82, 83, 84, 85, 86, 87, 88, 89, 90, 97, 98, 99, 100, 101, 102, 103, 104, 105, 106, 107, 108, 109, 110, 111, 112, 113, 114, 115, 116, 117, 118, 119, 120, 121, 122]⟩) 33
 replace hr := hr.alloc (.cells #[.int .u64 (wd (ofP ⟨#[65, 66, 67, 68, 69, 70, 71, 72, 73, 74, 75, 76, 77, 78, 79, 80, 81, 82, 83, 84, 85, 86, 87, 88, 89, 90, 97, 98, 99, 100, 101, 102, 103, 104, 105, 106, 107, 108, 109, 110, 111, 112, 113, 114, 115, 116, 117, 118, 119, 120, 121, 122]⟩) 0), .int .u64 (wd (ofP ⟨#[65, 66, 67, 68, 69, 70, 71, 72, 73, 74, 75, 76, 77, 78, 79, 80, 81, 82, 83, 84, 85, 86, 87, 88, 89, 90, 97, 98, 99, 100, 101, 102, 103, 104, 105, 106, 107, 108, 109, 110, 111, 112, 113, 114, 115, 116, 117, 118, 119, 120, 121, 122]⟩) 1), .int .u64 (wd (ofP ⟨#[65, 66, 67, 68, 69, 70, 71, 72, 73, 74, 75, 76, 77, 78, 79, 80, 81, 82, 83, 84, 85, 86, 87, 88, 89, 90, 97, 98, 99, 100, 101, 102, 103, 104, 105, 106, 107, 108, 109, 110, 111, 112, 113, 114, 115, 116, 117, 118, 119, 120, 121, 122]⟩) 2), .int .u64 (wd (ofP ⟨#[65, 66, 67, 68, 69, 70, 71, 72, 73, 74, 75, 76, 77, 78, 79, 80, 81, 82, 83, 84, 85, 86, 87, 88, 89, 90, 97, 98, 99, 100, 101, 102, 103, 104, 105, 106, 107, 108, 109, 110, 111, 112, 113, 114, 115, 116, 117, 118, 119, 120, 121, 122]⟩) 3)] 33)
 replace hB := hB.alloc hB.size (.cells #[.int .u64 (wd (ofP ⟨#[65, 66, 67, 68, 69, 70, 71, 72, 73, 74, 75, 76, 77, 78, 79, 80, 81, 82, 83, 84, 85, 86, 87, 88, 89, 90, 97, 98, 99, 100, 101, 102, 103, 104, 105, 106, 107, 108, 109, 110, 111, 112, 113, 114, 115, 116, 117, 118, 119, 120, 121, 122]⟩) 0), .int .u64 (wd (ofP ⟨#[65, 66, 67, 68, 69, 70, 71, 72, 73, 74, 75, 76, 77, 78, 79, 80, 81, 82, 83, 84, 85, 86, 87, 88, 89, 90, 97, 98, 99, 100, 101, 102, 103, 104, 105, 106, 107, 108, 109, 110, 111, 112, 113, 114, 115, 116, 117, 118, 119, 120, 121, 122]⟩) 1), .int .u64 (wd (ofP ⟨#[65, 66, 67, 68, 69, 70, 71, 72, 73, 74, 75, 76, 77, 78, 79, 80, 81, 82, 83, 84, 85, 86, 87, 88, 89, 90, 97, 98, 99, 100, 101, 102, 103, 104, 105, 106, 107, 108, 109, 110, 111, 112, 113, 114, 115, 116, 117, 118, 119, 120, 121, 122]⟩) 2), .int .u64 (wd (ofP ⟨#[65, 66, 67, 68, 69, 70, 71, 72, 73, 74, 75, 76, 77, 78, 79, 80, 81, 82, 83, 84, 85, 86, 87, 88, 89, 90, 97, 98, 99, 100, 101, 102, 103, 104, 105, 106, 107, 108, 109, 110, 111, 112, 113, 114, 115, 116, 117, 118, 119, 120, 121, 122]⟩) 3)] 33)
 refine (HC.out _).mono ?_
 rintro e w2 ⟨rfl, hb2⟩
 replace hr := hr.below hb2 hr.lt
 replace hv := hv.below hb2 hv.lt
 replace hB := hB.trans (hb2.mono hB.size)
 clear hb2
 obtain ⟨⟨c0, c1, c2, c3⟩, -⟩ := id hv
 obtain ⟨⟨d0, d1, d2, d3⟩, g0, g1, g2, g3⟩ := id hr
 go_wp2
 exact bodyPost_ret (v := .tuple #[.agg #[.int .u64 (wd (ofP ⟨#[65, 66, 67, 68, 69, 70, 71, 72, 73, 74, 75, 76, 77, 78, 79, 80, 81, 82, 83, 84, 85, 86, 87, 88, 89, 90, 97, 98, 99, 100, 101, 102, 103, 104, 105, 106, 107, 108, 109, 110, 111, 112, 113, 114, 115, 116, 117, 118, 119, 120, 121, 122]⟩) 0), .int .u64 (wd (ofP ⟨#[65, 66, 67, 68, 69, 70, 71, 72, 73, 74, 75, 76, 77, 78, 79, 80, 81, 82, 83, 84, 85, 86, 87, 88, 89, 90, 97, 98, 99, 100, 101, 102, 103, 104, 105, 106, 107, 108, 109, 110, 111, 112, 113, 114, 115, 116, 117, 118, 119, 120, 121, 122]⟩) 1), .int .u64 (wd (ofP ⟨#[65, 66, 67, 68, 69, 70, 71, 72, 73, 74, 75, 76, 77, 78, 79, 80, 81, 82, 83, 84, 85, 86, 87, 88, 89, 90, 97, 98, 99, 100, 101, 102, 103, 104, 105, 106, 107, 108, 109, 110, 111, 112, 113, 114, 115, 116, 117, 118, 119, 120, 121, 122]⟩) 2), .int .u64 (wd (ofP ⟨#[65, 66, 67, 68, 69, 70, 71, 72, 73, 74, 75, 76, 77, 78, 79, 80, 81, 82, 83, 84, 85, 86, 87, 88, 89, 90, 97, 98, 99, 100, 101, 102, 103, 104, 105, 106, 107, 108, 109, 110, 111, 112, 113, 114, 115, 116, 117, 118, 119, 120, 121, 122]⟩) 3)], .int .i64 0]) (by simp [results, Tryz.results98, go_sem, *]) rfl ⟨rfl, xai hB (by omega) _⟩
theorem xij  (w : World) :
  Calls Tryz.prog 98 #[.string ⟨#[97, 108, 110, 117, 109]⟩] w fun e w' => e = .returned (.tuple #[.agg #[.int .u64 (wd (ofP ⟨#[65, 66, 67, 68, 69, 70, 71, 72, 73, 74, 75, 76, 77, 78, 79, 80, 81, 82, 83, 84, 85, 86, 87, 88, 89, 90, 97, 98, 99, 100, 101, 102, 103, 104, 105, 106, 107, 108, 109, 110, 111, 112, 113, 114, 115, 116, 117, 118, 119, 120, 121, 122, 48, 49, 50, 51, 52, 53, 54, 55, 56, 57]⟩) 0), .int .u64 (wd (ofP ⟨#[65, 66, 67, 68, 69, 70, 71, 72, 73, 74, 75, 76, 77, 78, 79, 80, 81, 82, 83, 84, 85, 86, 87, 88, 89, 90, 97, 98, 99, 100, 101, 102, 103, 104, 105, 106, 107, 108, 109, 110, 111, 112, 113, 114, 115, 116, 117, 118, 119, 120, 121, 122, 48, 49, 50, 51, 52, 53, 54, 55, 56, 57]⟩) 1), .int .u64 (wd (ofP ⟨#[65, 66, 67, 68, 69, 70, 71, 72, 73, 74, 75, 76, 77, 78, 79, 80, 81, 82, 83, 84, 85, 86, 87, 88, 89, 90, 97, 98, 99, 100, 101, 102, 103, 104, 105, 106, 107, 108, 109, 110, 111, 112, 113, 114, 115, 116, 117, 118, 119, 120, 121, 122, 48, 49, 50, 51, 52, 53, 54, 55, 56, 57]⟩) 2), .int .u64 (wd (ofP ⟨#[65, 66, 67, 68, 69, 70, 71, 72, 73, 74, 75, 76, 77, 78, 79, 80, 81, 82, 83, 84, 85, 86, 87, 88, 89, 90, 97, 98, 99, 100, 101, 102, 103, 104, 105, 106, 107, 108, 109, 110, 111, 112, 113, 114, 115, 116, 117, 118, 119, 120, 121, 122, 48, 49, 50, 51, 52, 53, 54, 55, 56, 57]⟩) 3)], .int .i64 0]) ∧ Below w.heap.size w w' := by
 go_enter Tryz.func98, Tryz.ntmps98
 go_wp2_with fail
 refine (xpn _).mono ?_
 rintro e w0 ⟨rfl, rfl⟩
 go_wp2_with fail
 refine (xcw _ (by decide) _).mono ?_
 rintro e w1 ⟨rfl, hb1⟩
 have hr := (xaj w 33).below hb1 (by simp)
 have hB : Below w.heap.size w w1 := ((Below.refl _ _).alloc (Nat.le_refl _) _).trans (hb1.mono (by simp))
 clear hb1
 have hc := fun w => xbv (ofP ⟨#[65, 66, 67, 68, 69, 70, 71, 72, 73, 74, 75, 76, 77, 78, 79, 80, 81, 82, 83, 84, 85, 86, 87, 88, 89, 90, 97, 98, 99, 100, 101, 102, 103, 104, 105, 106, 107, 108, 109, 110, 111, 112, 113, 114, 115, 116, 117, 118, 119, 120, 121, 122, 48, 49, 50, 51, 52, 53, 54, 55, 56, 57]⟩) w
 rw [xmw] at hc
 have HC : Hid _ := hc
 clear hc
 go_wp2_with fail
 have hv := xae w1 (ofP ⟨#[65, 66, 67, 68, 69, 70, 71, 72, 73, 74, 75, 76, 77, 78, 79, 80, 81, 82, 83, 84, 85, 86, 87, 88, 89, 90, 97, 98, 99, 100, 101, 102, 103, 104, 105, 106, 107, 108, 109, 110, 111, 112, 113, 114, 115, 116, 117, 118, 119, 120, 121, 122, 48, 49, 50, 51, 52, 53, 54, 55, 56, 57]⟩) 33
 replace hr := hr.alloc (.cells #[.int .u64 (wd (ofP ⟨#[65, 66, 67, 68, 69, 70, 71, 72, 73, 74, 75, 76, 77, 78, 79, 80, 81, 82, 83, 84, 85, 86, 87, 88, 89, 90, 97, 98, 99, 100, 101, 102, 103, 104, 105, 106, 107, 108, 109, 110, 111, 112, 113, 114, 115, 116, 117, 118, 119, 120, 121, 122, 48, 49, 50, 51, 52, 53, 54, 55, 56, 57]⟩) 0), .int .u64 (wd (ofP ⟨#[65, 66, 67, 68, 69, 70, 71, 72, 73, 74, 75, 76, 77, 78, 79, 80, 81, 82, 83, 84, 85, 86, 87, 88, 89, 90, 97, 98, 99, 100, 101, 102, 103, 104, 105, 106, 107, 108, 109, 110, 111, 112, 113, 114, 115, 116, 117, 118, 119, 120, 121, 122, 48, 49, 50, 51, 52, 53, 54, 55, 56, 57]⟩) 1), .int .u64 (wd (ofP ⟨#[65, 66, 67, 68, 69, 70, 71, 72, 73, 74, 75, 76, 77, 78, 79, 80, 81, 82, 83, 84, 85, 86, 87, 88, 89, 90, 97, 98, 99, 100, 101, 102, 103, 104, 105, 106, 107, 108, 109, 110, 111, 112, 113, 114, 115, 116, 117, 118, 119, 120, 121, 122, 48, 49, 50, 51, 52, 53, 54, 55, 56, 57]⟩) 2), .int .u64 (wd (ofP ⟨#[65, 66, 67, 68, 69, 70, 71, 72, 73, 74, 75, 76, 77, 78, 79, 80, 81, 82, 83, 84, 85, 86, 87, 88, 89, 90, 97, 98, 99, 100, 101, 102, 103, 104, 105, 106, 107, 108, 109, 110, 111, 112, 113, 114, 115, 116, 117, 118, 119, 120, 121, 122, 48, 49, 50, 51, 52, 53, 54, 55, 56, 57]⟩) 3)] 33)
 replace hB := hB.alloc hB.size (.cells #[.int .u64 (wd (ofP ⟨#[65, 66, 67, 68, 69, 70, 71, 72, 73, 74, 75, 76, 77, 78, 79, 80, 81, 82, 83, 84, 85, 86, 87, 88, 89, 90, 97, 98, 99, 100, 101, 102, 103, 104, 105, 106, 107, 108, 109, 110, 111, 112, 113, 114, 115, 116, 117, 118, 119, 120, 121, 122, 48, 49, 50, 51, 52, 53, 54, 55, 56, 57]⟩) 0), .int .u64 (wd (ofP ⟨#[65, 66, 67, 68, 69, 70, 71, 72, 73, 74, 75, 76, 77, 78, 79, 80, 81, 82, 83, 84, 85, 86, 87, 88, 89, 90, 97, 98, 99, 100, 101, 102, 103, 104, 105, 106, 107, 108, 109, 110, 111, 112, 113, 114, 115, 116, 117, 118, 119, 120, 121, 122, 48, 49, 50, 51, 52, 53, 54, 55, 56, 57]⟩) 1), .int .u64 (wd (ofP ⟨#[65, 66, 67, 68, 69, 70, 71, 72, 73, 74, 75, 76, 77, 78, 79, 80, 81, 82, 83, 84, 85, 86, 87, 88, 89, 90, 97, 98, 99, 100, 101, 102, 103, 104, 105, 106, 107, 108, 109, 110, 111, 112, 113, 114, 115, 116, 117, 118, 119, 120, 121, 122, 48, 49, 50, 51, 52, 53, 54, 55, 56, 57]⟩) 2), .int .u64 (wd (ofP ⟨#[65, 66, 67, 68, 69, 70, 71, 72, 73, 74, 75, 76, 77, 78, 79, 80, 81, 82, 83, 84, 85, 86, 87, 88, 89, 90, 97, 98, 99, 100, 101, 102, 103, 104, 105, 106, 107, 108, 109, 110, 111, 112, 113, 114, 115, 116, 117, 118, 119, 120, 121, 122, 48, 49, 50, 51, 52, 53, 54, 55, 56, 57]⟩) 3)] 33)
 refine (HC.out _).mono ?_
 rintro e w2 ⟨rfl, hb2⟩
 replace hr := hr.below hb2 hr.lt
 replace hv := hv.below hb2 hv.lt
 replace hB := hB.trans (hb2.mono hB.size)
 clear hb2
 obtain ⟨⟨c0, c1, c2, c3⟩, -⟩ := id hv
 obtain ⟨⟨d0, d1, d2, d3⟩, g0, g1, g2, g3⟩ := id hr
 go_wp2
 exact bodyPost_ret (v := .tuple #[.agg #[.int .u64 (wd (ofP ⟨#[65, 66, 67, 68, 69, 70, 71, 72, 73, 74, 75, 76, 77, 78, 79, 80, 81, 82, 83, 84, 85, 86, 87, 88, 89, 90, 97, 98, 99, 100, 101, 102, 103, 104, 105, 106, 107, 108, 109, 110, 111, 112, 113, 114, 115, 116, 117, 118, 119, 120, 121, 122, 48, 49, 50, 51, 52, 53, 54, 55, 56, 57]⟩) 0), .int .u64 (wd (ofP ⟨#[65, 66, 67, 68, 69, 70, 71, 72, 73, 74, 75, 76, 77, 78, 79, 80, 81, 82, 83, 84, 85, 86, 87, 88, 89, 90, 97, 98, 99, 100, 101, 102, 103, 104, 105, 106, 107, 108, 109, 110, 111, 112, 113, 114, 115, 116, 117, 118, 119, 120, 121, 122, 48, 49, 50, 51, 52, 53, 54, 55, 56, 57]⟩) 1), .int .u64 (wd (ofP ⟨#[65, 66, 67, 68, 69, 70, 71, 72, 73, 74, 75, 76, 77, 78, 79, 80, 81, 82, 83, 84, 85, 86, 87, 88, 89, 90, 97, 98, 99, 100, 101, 102, 103, 104, 105, 106, 107, 108, 109, 110, 111, 112, 113, 114, 115, 116, 117, 118, 119, 120, 121, 122, 48, 49, 50, 51, 52, 53, 54, 55, 56, 57]⟩) 2), .int .u64 (wd (ofP ⟨#[65, 66, 67, 68, 69, 70, 71, 72, 73, 74, 75, 76, 77, 78, 79, 80, 81, 82, 83, 84, 85, 86, 87, 88, 89, 90, 97, 98, 99, 100, 101, 102, 103, 104, 105, 106, 107, 108, 109, 110, 111, 112, 113, 114, 115, 116, 117, 118, 119, 120, 121, 122, 48, 49, 50, 51, 52, 53, 54, 55, 56, 57]⟩) 3)], .int .i64 0]) (by simp [results, Tryz.results98, go_sem, *]) rfl ⟨rfl, xai hB (by omega) _⟩
theorem xhg  (w : World) :
  Calls Tryz.prog 98 #[.string ⟨#[120, 100, 105, 103, 105, 116]⟩] w fun e w' => e = .returned (.tuple #[.agg #[.int .u64 (wd (ofP ⟨#[48, 49, 50, 51, 52, 53, 54, 55, 56, 57, 65, 66, 67, 68, 69, 70, 97, 98, 99, 100, 101, 102]⟩) 0), .int .u64 (wd (ofP ⟨#[48, 49, 50, 51, 52, 53, 54, 55, 56, 57, 65, 66, 67, 68, 69, 70, 97, 98, 99, 100, 101, 102]⟩) 1), .int .u64 (wd (ofP ⟨#[48, 49, 50, 51, 52, 53, 54, 55, 56, 57, 65, 66, 67, 68, 69, 70, 97, 98, 99, 100, 101, 102]⟩) 2), .int .u64 (wd (ofP ⟨#[48, 49, 50, 51, 52, 53, 54, 55, 56, 57, 65, 66, 67, 68, 69, 70, 97, 98, 99, 100, 101, 102]⟩) 3)], .int .i64 0]) ∧ Below w.heap.size w w' := by
 go_enter Tryz.func98, Tryz.ntmps98
 go_wp2_with fail
 refine (xmx _).mono ?_
 rintro e w0 ⟨rfl, rfl⟩
 go_wp2_with fail
 refine (xcw _ (by decide) _).mono ?_
 rintro e w1 ⟨rfl, hb1⟩
 have hr := (xaj w 33).below hb1 (by simp)
 have hB : Below w.heap.size w w1 := ((Below.refl _ _).alloc (Nat.le_refl _) _).trans (hb1.mono (by simp))
 clear hb1
 have hc := fun w => xbv (ofP ⟨#[48, 49, 50, 51, 52, 53, 54, 55, 56, 57, 65, 66, 67, 68, 69, 70, 97, 98, 99, 100, 101, 102]⟩) w
 rw [xk3] at hc
 have HC : Hid _ := hc
 clear hc
 go_wp2_with fail
 have hv := xae w1 (ofP ⟨#[48, 49, 50, 51, 52, 53, 54, 55, 56, 57, 65, 66, 67, 68, 69, 70, 97, 98, 99, 100, 101, 102]⟩) 33
 replace hr := hr.alloc (.cells #[.int .u64 (wd (ofP ⟨#[48, 49, 50, 51, 52, 53, 54, 55, 56, 57, 65, 66, 67, 68, 69, 70, 97, 98, 99, 100, 101, 102]⟩) 0), .int .u64 (wd (ofP ⟨#[48, 49, 50, 51, 52, 53, 54, 55, 56, 57, 65, 66, 67, 68, 69, 70, 97, 98, 99, 100, 101, 102]⟩) 1), .int .u64 (wd (ofP ⟨#[48, 49, 50, 51, 52, 53, 54, 55, 56, 57, 65, 66, 67, 68, 69, 70, 97, 98, 99, 100, 101, 102]⟩) 2), .int .u64 (wd (ofP ⟨#[48, 49, 50, 51, 52, 53, 54, 55, 56, 57, 65, 66, 67, 68, 69, 70, 97, 98, 99, 100, 101, 102]⟩) 3)] 33)
 replace hB := hB.alloc hB.size (.cells #[.int .u64 (wd (ofP ⟨#[48, 49, 50, 51, 52, 53, 54, 55, 56, 57, 65, 66, 67, 68, 69, 70, 97, 98, 99, 100, 101, 102]⟩) 0), .int .u64 (wd (ofP ⟨#[48, 49, 50, 51, 52, 53, 54, 55, 56, 57, 65, 66, 67, 68, 69, 70, 97, 98, 99, 100, 101, 102]⟩) 1), .int .u64 (wd (ofP ⟨#[48, 49, 50, 51, 52, 53, 54, 55, 56, 57, 65, 66, 67, 68, 69, 70, 97, 98, 99, 100, 101, 102]⟩) 2), .int .u64 (wd (ofP ⟨#[48, 49, 50, 51, 52, 53, 54, 55, 56, 57, 65, 66, 67, 68, 69, 70, 97, 98, 99, 100, 101, 102]⟩) 3)] 33)
 refine (HC.out _).mono ?_
 rintro e w2 ⟨rfl, hb2⟩
 replace hr := hr.below hb2 hr.lt
 replace hv := hv.below hb2 hv.lt
 replace hB := hB.trans (hb2.mono hB.size)
 clear hb2
 obtain ⟨⟨c0, c1, c2, c3⟩, -⟩ := id hv
 obtain ⟨⟨d0, d1, d2, d3⟩, g0, g1, g2, g3⟩ := id hr
 go_wp2
 exact bodyPost_ret (v := .tuple #[.agg #[.int .u64 (wd (ofP ⟨#[48, 49, 50, 51, 52, 53, 54, 55, 56, 57, 65, 66, 67, 68, 69, 70, 97, 98, 99, 100, 101, 102]⟩) 0), .int .u64 (wd (ofP ⟨#[48, 49, 50, 51, 52, 53, 54, 55, 56, 57, 65, 66, 67, 68, 69, 70, 97, 98, 99, 100, 101, 102]⟩) 1), .int .u64 (wd (ofP ⟨#[48, 49, 50, 51, 52, 53, 54, 55, 56, 57, 65, 66, 67, 68, 69, 70, 97, 98, 99, 100, 101, 102]⟩) 2), .int .u64 (wd (ofP ⟨#[48, 49, 50, 51, 52, 53, 54, 55, 56, 57, 65, 66, 67, 68, 69, 70, 97, 98, 99, 100, 101, 102]⟩) 3)], .int .i64 0]) (by simp [results, Tryz.results98, go_sem, *]) rfl ⟨rfl, xai hB (by omega) _⟩
theorem xik  (w : World) :
  Calls Tryz.prog 98 #[.string ⟨#[98, 108, 97, 110, 107]⟩] w fun e w' => e = .returned (.tuple #[.agg #[.int .u64 (wd (ofP ⟨#[32, 9]⟩) 0), .int .u64 (wd (ofP ⟨#[32, 9]⟩) 1), .int .u64 (wd (ofP ⟨#[32, 9]⟩) 2), .int .u64 (wd (ofP ⟨#[32, 9]⟩) 3)], .int .i64 0]) ∧ Below w.heap.size w w' := by
 go_enter Tryz.func98, Tryz.ntmps98
 go_wp2_with fail
 refine (xpo _).mono ?_
 rintro e w0 ⟨rfl, rfl⟩
 go_wp2_with fail
 refine (xcw _ (by decide) _).mono ?_
 rintro e w1 ⟨rfl, hb1⟩
 have hr := (xaj w 33).below hb1 (by simp)
 have hB : Below w.heap.size w w1 := ((Below.refl _ _).alloc (Nat.le_refl _) _).trans (hb1.mono (by simp))
 clear hb1
 have hc := fun w => xbv (ofP ⟨#[32, 9]⟩) w
 rw [xmy] at hc
 have HC : Hid _ := hc
 clear hc
 go_wp2_with fail
 have hv := xae w1 (ofP ⟨#[32, 9]⟩) 33
 replace hr := hr.alloc (.cells #[.int .u64 (wd (ofP ⟨#[32, 9]⟩) 0), .int .u64 (wd (ofP ⟨#[32, 9]⟩) 1), .int .u64 (wd (ofP ⟨#[32, 9]⟩) 2), .int .u64 (wd (ofP ⟨#[32, 9]⟩) 3)] 33)
 replace hB := hB.alloc hB.size (.cells #[.int .u64 (wd (ofP ⟨#[32, 9]⟩) 0), .int .u64 (wd (ofP ⟨#[32, 9]⟩) 1), .int .u64 (wd (ofP ⟨#[32, 9]⟩) 2), .int .u64 (wd (ofP ⟨#[32, 9]⟩) 3)] 33)
 refine (HC.out _).mono ?_
 rintro e w2 ⟨rfl, hb2⟩
 replace hr := hr.below hb2 hr.lt
 replace hv := hv.below hb2 hv.lt
 replace hB := hB.trans (hb2.mono hB.size)
 clear hb2
 obtain ⟨⟨c0, c1, c2, c3⟩, -⟩ := id hv
 obtain ⟨⟨d0, d1, d2, d3⟩, g0, g1, g2, g3⟩ := id hr
 go_wp2
 exact bodyPost_ret (v := .tuple #[.agg #[.int .u64 (wd (ofP ⟨#[32, 9]⟩) 0), .int .u64 (wd (ofP ⟨#[32, 9]⟩) 1), .int .u64 (wd (ofP ⟨#[32, 9]⟩) 2), .int .u64 (wd (ofP ⟨#[32, 9]⟩) 3)], .int .i64 0]) (by simp [results, Tryz.results98, go_sem, *]) rfl ⟨rfl, xai hB (by omega) _⟩
theorem xil  (w : World) :
  Calls Tryz.prog 98 #[.string ⟨#[115, 112, 97, 99, 101]⟩] w fun e w' => e = .returned (.tuple #[.agg #[.int .u64 (wd (ofP ⟨#[32, 9, 10, 11, 12, 13]⟩) 0), .int .u64 (wd (ofP ⟨#[32, 9, 10, 11, 12, 13]⟩) 1), .int .u64 (wd (ofP ⟨#[32, 9, 10, 11, 12, 13]⟩) 2), .int .u64 (wd (ofP ⟨#[32, 9, 10, 11, 12, 13]⟩) 3)], .int .i64 0]) ∧ Below w.heap.size w w' := by
 go_enter Tryz.func98, Tryz.ntmps98
 go_wp2_with fail
 refine (xpp _).mono ?_
 rintro e w0 ⟨rfl, rfl⟩
 go_wp2_with fail
 refine (xcw _ (by decide) _).mono ?_
 rintro e w1 ⟨rfl, hb1⟩
 have hr := (xaj w 33).below hb1 (by simp)
 have hB : Below w.heap.size w w1 := ((Below.refl _ _).alloc (Nat.le_refl _) _).trans (hb1.mono (by simp))
 clear hb1
 have hc := fun w => xbv (ofP ⟨#[32, 9, 10, 11, 12, 13]⟩) w
 rw [xmz] at hc
 have HC : Hid _ := hc
 clear hc
 go_wp2_with fail
 have hv := xae w1 (ofP ⟨#[32, 9, 10, 11, 12, 13]⟩) 33
 replace hr := hr.alloc (.cells #[.int .u64 (wd (ofP ⟨#[32, 9, 10, 11, 12, 13]⟩) 0), .int .u64 (wd (ofP ⟨#[32, 9, 10, 11, 12, 13]⟩) 1), .int .u64 (wd (ofP ⟨#[32, 9, 10, 11, 12, 13]⟩) 2), .int .u64 (wd (ofP ⟨#[32, 9, 10, 11, 12, 13]⟩) 3)] 33)
 replace hB := hB.alloc hB.size (.cells #[.int .u64 (wd (ofP ⟨#[32, 9, 10, 11, 12, 13]⟩) 0), .int .u64 (wd (ofP ⟨#[32, 9, 10, 11, 12, 13]⟩) 1), .int .u64 (wd (ofP ⟨#[32, 9, 10, 11, 12, 13]⟩) 2), .int .u64 (wd (ofP ⟨#[32, 9, 10, 11, 12, 13]⟩) 3)] 33)
 refine (HC.out _).mono ?_
 rintro e w2 ⟨rfl, hb2⟩
 replace hr := hr.below hb2 hr.lt
 replace hv := hv.below hb2 hv.lt
 replace hB := hB.trans (hb2.mono hB.size)
 clear hb2
 obtain ⟨⟨c0, c1, c2, c3⟩, -⟩ := id hv
 obtain ⟨⟨d0, d1, d2, d3⟩, g0, g1, g2, g3⟩ := id hr
 go_wp2
 exact bodyPost_ret (v := .tuple #[.agg #[.int .u64 (wd (ofP ⟨#[32, 9, 10, 11, 12, 13]⟩) 0), .int .u64 (wd (ofP ⟨#[32, 9, 10, 11, 12, 13]⟩) 1), .int .u64 (wd (ofP ⟨#[32, 9, 10, 11, 12, 13]⟩) 2), .int .u64 (wd (ofP ⟨#[32, 9, 10, 11, 12, 13]⟩) 3)], .int .i64 0]) (by simp [results, Tryz.results98, go_sem, *]) rfl ⟨rfl, xai hB (by omega) _⟩
theorem xim  (w : World) :
  Calls Tryz.prog 98 #[.string ⟨#[103, 114, 97, 112, 104]⟩] w fun e w' => e = .returned (.tuple #[.agg #[.int .u64 (wd (ofP ⟨#[33, 34, 35, 36, 37, 38, 39, 40, 41, 42, 43, 44, 45, 46, 47, 58, 59, 60, 61, 62, 63, 64, 91, 92, 93, 94, 95, 96, 123, 124, 125, 126, 65, 66, 67, 68, 69, 70, 71, 72, 73, 74, 75, 76, 77, 78, 79, 80, 81, 82, 83, 84, 85, 86, 87, 88, 89, 90, 97, 98, 99, 100, 101, 102, 103, 104, 105, 106, 107, 108, 109, 110, 111, 112, 113, 114, 115, 116, 117, 118, 119, 120, 121, 122, 48, 49, 50, 51, 52, 53, 54, 55, 56, 57]⟩) 0), .int .u64 (wd (ofP ⟨#[33, 34, 35, 36, 37, 38, 39, 40, 41, 42, 43, 44, 45, 46, 47, 58, 59, 60, 61, 62, 63, 64, 91, 92, 93, 94, 95, 96, 123, 124, 125, 126, 65, 66, 67, 68, 69, 70, 71, 72, 73, 74, 75, 76, 77, 78, 79, 80, 81, 82, 83, 84, 85, 86, 87, 88, 89, 90, 97, 98, 99, 100, 101, 102, 103, 104, 105, 106, 107, 108, 109, 110, 111, 112, 113, 114, 115, 116, 117, 118, 119, 120, 121, 122, 48, 49, 50, 51, 52, 53, 54, 55, 56, 57]⟩) 1), .int .u64 (wd (ofP ⟨#[33, 34, 35, 36, 37, 38, 39, 40, 41, 42, 43, 44, 45, 46, 47, 58, 59, 60, 61, 62, 63, 64, 91, 92, 93, 94, 95, 96, 123, 124, 125, 126, 65, 66, 67, 68, 69, 70, 71, 72, 73, 74, 75, 76, 77, 78, 79, 80, 81, 82, 83, 84, 85, 86, 87, 88, 89, 90, 97, 98, 99, 100, 101, 102, 103, 104, 105, 106, 107, 108, 109, 110, 111, 112, 113, 114, 115, 116, 117, 118, 119, 120, 121, 122, 48, 49, 50, 51, 52, 53, 54, 55, 56, 57]⟩) 2), .int .u64 (wd (ofP ⟨#[33, 34, 35, 36, 37, 38, 39, 40, 41, 42, 43, 44, 45, 46, 47, 58, 59, 60, 61, 62, 63, 64, 91, 92, 93, 94, 95, 96, 123, 124, 125, 126, 65, 66, 67, 68, 69, 70, 71, 72, 73, 74, 75, 76, 77, 78, 79, 80, 81, 82, 83, 84, 85, 86, 87, 88, 89, 90, 97, 98, 99, 100, 101, 102, 103, 104, 105, 106, 107, 108, 109, 110, 111, 112, 113, 114, 115, 116, 117, 118, 119, 120, 121, 122, 48, 49, 50, 51, 52, 53, 54, 55, 56, 57]⟩) 3)], .int .i64 0]) ∧ Below w.heap.size w w' := by
 go_enter Tryz.func98, Tryz.ntmps98
 go_wp2_with fail
 refine (xpq _).mono ?_
 rintro e w0 ⟨rfl, rfl⟩
 go_wp2_with fail
 refine (xcw _ (by decide) _).mono ?_
 rintro e w1 ⟨rfl, hb1⟩
 have hr := (xaj w 33).below hb1 (by simp)
 have hB : Below w.heap.size w w1 := ((Below.refl _ _).alloc (Nat.le_refl _) _).trans (hb1.mono (by simp))
 clear hb1
 have hc := fun w => xbv (ofP ⟨#[33, 34, 35, 36, 37, 38, 39, 40, 41, 42, 43, 44, 45, 46, 47, 58, 59, 60, 61, 62, 63, 64, 91, 92, 93, 94, 95, 96, 123, 124, 125, 126, 65, 66, 67, 68, 69, 70, 71, 72, 73, 74, 75, 76, 77, 78, 79, 80, 81, 82, 83, 84, 85, 86, 87, 88, 89, 90, 97, 98, 99, 100, 101, 102, 103, 104, 105, 106, 107, 108, 109, 110, 111, 112, 113, 114, 115, 116, 117, 118, 119, 120, 121, 122, 48, 49, 50, 51, 52, 53, 54, 55, 56, 57]⟩) w
 rw [xm0] at hc
 have HC : Hid _ := hc
 clear hc
 go_wp2_with fail
 have hv := xae w1 (ofP ⟨#[33, 34, 35, 36, 37, 38, 39, 40, 41, 42, 43, 44, 45, 46, 47, 58, 59, 60, 61, 62, 63, 64, 91, 92, 93, 94, 95, 96, 123, 124, 125, 126, 65, 66, 67, 68, 69, 70, 71, 72, 73, 74, 75, 76, 77, 78, 79, 80, 81, 82, 83, 84, 85, 86, 87, 88, 89, 90, 97, 98, 99, 100, 101, 102, 103, 104, 105, 106, 107, 108, 109, 110, 111, 112, 113, 114, 115, 116, 117, 118, 119, 120, 121, 122, 48, 49, 50, 51, 52, 53, 54, 55, 56, 57]⟩) 33
 replace hr := hr.alloc (.cells #[.int .u64 (wd (ofP ⟨#[33, 34, 35, 36, 37, 38, 39, 40, 41, 42, 43, 44, 45, 46, 47, 58, 59, 60, 61, 62, 63, 64, 91, 92, 93, 94, 95, 96, 123, 124, 125, 126, 65, 66, 67, 68, 69, 70, 71, 72, 73, 74, 75, 76, 77, 78, 79, 80, 81, 82, 83, 84, 85, 86, 87, 88, 89, 90, 97, 98, 99, 100, 101, 102, 103, 104, 105, 106, 107, 108, 109, 110, 111, 112, 113, 114, 115, 116, 117, 118, 119, 120, 121, 122, 48, 49, 50, 51, 52, 53, 54, 55, 56, 57]⟩) 0), .int .u64 (wd (ofP ⟨#[33, 34, 35, 36, 37, 38, 39, 40, 41, 42, 43, 44, 45, 46, 47, 58, 59, 60, 61, 62, 63, 64, 91, 92, 93, 94, 95, 96, 123, 124, 125, 126, 65, 66, 67, 68, 69, 70, 71, 72, 73, 74, 75, 76, 77, 78, 79, 80, 81, 82, 83, 84, 85, 86, 87, 88, 89, 90, 97, 98, 99, 100, 101, 102, 103, 104, 105, 106, 107, 108, 109, 110, 111, 112, 113, 114, 115, 116, 117, 118, 119, 120, 121, 122, 48, 49, 50, 51, 52, 53, 54, 55, 56, 57]⟩) 1), .int .u64 (wd (ofP ⟨#[33, 34, 35, 36, 37, 38, 39, 40, 41, 42, 43, 44, 45, 46, 47, 58, 59, 60, 61, 62, 63, 64, 91, 92, 93, 94, 95, 96, 123, 124, 125, 126, 65, 66, 67, 68, 69, 70, 71, 72, 73, 74, 75, 76, 77, 78, 79, 80, 81, 82, 83, 84, 85, 86, 87, 88, 89, 90, 97, 98, 99, 100, 101, 102, 103, 104, 105, 106, 107, 108, 109, 110, 111, 112, 113, 114, 115, 116, 117, 118, 119, 120, 121, 122, 48, 49, 50, 51, 52, 53, 54, 55, 56, 57]⟩) 2), .int .u64 (wd (ofP ⟨#[33, 34, 35, 36, 37, 38, 39, 40, 41, 42, 43, 44, 45, 46, 47, 58, 59, 60, 61, 62, 63, 64, 91, 92, 93, 94, 95, 96, 123, 124, 125, 126, 65, 66, 67, 68, 69, 70, 71, 72, 73, 74, 75, 76, 77, 78, 79, 80, 81, 82, 83, 84, 85, 86, 87, 88, 89, 90, 97, 98, 99, 100, 101, 102, 103, 104, 105, 106, 107, 108, 109, 110, 111, 112, 113, 114, 115, 116, 117, 118, 119, 120, 121, 122, 48, 49, 50, 51, 52, 53, 54, 55, 56, 57]⟩) 3)] 33)
 replace hB := hB.alloc hB.size (.cells #[.int .u64 (wd (ofP ⟨#[33, 34, 35, 36, 37, 38, 39, 40, 41, 42, 43, 44, 45, 46, 47, 58, 59, 60, 61, 62, 63, 64, 91, 92, 93, 94, 95, 96, 123, 124, 125, 126, 65, 66, 67, 68, 69, 70, 71, 72, 73, 74, 75, 76, 77, 78, 79, 80, 81, 82, 83, 84, 85, 86, 87, 88, 89, 90, 97, 98, 99, 100, 101, 102, 103, 104, 105, 106, 107, 108, 109, 110, 111, 112, 113, 114, 115, 116, 117, 118, 119, 120, 121, 122, 48, 49, 50, 51, 52, 53, 54, 55, 56, 57]⟩) 0), .int .u64 (wd (ofP ⟨#[33, 34, 35, 36, 37, 38, 39, 40, 41, 42, 43, 44, 45, 46, 47, 58, 59, 60, 61, 62, 63, 64, 91, 92, 93, 94, 95, 96, 123, 124, 125, 126, 65, 66, 67, 68, 69, 70, 71, 72, 73, 74, 75, 76, 77, 78, 79, 80, 81, 82, 83, 84, 85, 86, 87, 88, 89, 90, 97, 98, 99, 100, 101, 102, 103, 104, 105, 106, 107, 108, 109, 110, 111, 112, 113, 114, 115, 116, 117, 118, 119, 120, 121, 122, 48, 49, 50, 51, 52, 53, 54, 55, 56, 57]⟩) 1), .int .u64 (wd (ofP ⟨#[33, 34, 35, 36, 37, 38, 39, 40, 41, 42, 43, 44, 45, 46, 47, 58, 59, 60, 61, 62, 63, 64, 91, 92, 93, 94, 95, 96, 123, 124, 125, 126, 65, 66, 67, 68, 69, 70, 71, 72, 73, 74, 75, 76, 77, 78, 79, 80, 81, 82, 83, 84, 85, 86, 87, 88, 89, 90, 97, 98, 99, 100, 101, 102, 103, 104, 105, 106, 107, 108, 109, 110, 111, 112, 113, 114, 115, 116, 117, 118, 119, 120, 121, 122, 48, 49, 50, 51, 52, 53, 54, 55, 56, 57]⟩) 2), .int .u64 (wd (ofP ⟨#[33, 34, 35, 36, 37, 38, 39, 40, 41, 42, 43, 44, 45, 46, 47, 58, 59, 60, 61, 62, 63, 64, 91, 92, 93, 94, 95, 96, 123, 124, 125, 126, 65, 66, 67, 68, 69, 70, 71, 72, 73, 74, 75, 76, 77, 78, 79, 80, 81, 82, 83, 84, 85, 86, 87, 88, 89, 90, 97, 98, 99, 100, 101, 102, 103, 104, 105, 106, 107, 108, 109, 110, 111, 112, 113, 114, 115, 116, 117, 118, 119, 120, 121, 122, 48, 49, 50, 51, 52, 53, 54, 55, 56, 57]⟩) 3)] 33)
 refine (HC.out _).mono ?_
 rintro e w2 ⟨rfl, hb2⟩
 replace hr := hr.below hb2 hr.lt
 replace hv := hv.below hb2 hv.lt
 replace hB := hB.trans (hb2.mono hB.size)
 clear hb2
 obtain ⟨⟨c0, c1, c2, c3⟩, -⟩ := id hv
 obtain ⟨⟨d0, d1, d2, d3⟩, g0, g1, g2, g3⟩ := id hr
 go_wp2
 exact bodyPost_ret (v := .tuple #[.agg #[.int .u64 (wd (ofP ⟨#[33, 34, 35, 36, 37, 38, 39, 40, 41, 42, 43, 44, 45, 46, 47, 58, 59, 60, 61, 62, 63, 64, 91, 92, 93, 94, 95, 96, 123, 124, 125, 126, 65, 66, 67, 68, 69, 70, 71, 72, 73, 74, 75, 76, 77, 78, 79, 80, 81, 82, 83, 84, 85, 86, 87, 88, 89, 90, 97, 98, 99, 100, 101, 102, 103, 104, 105, 106, 107, 108, 109, 110, 111, 112, 113, 114, 115, 116, 117, 118, 119, 120, 121, 122, 48, 49, 50, 51, 52, 53, 54, 55, 56, 57]⟩) 0), .int .u64 (wd (ofP ⟨#[33, 34, 35, 36, 37, 38, 39, 40, 41, 42, 43, 44, 45, 46, 47, 58, 59, 60, 61, 62, 63, 64, 91, 92, 93, 94, 95, 96, 123, 124, 125, 126, 65, 66, 67, 68, 69, 70, 71, 72, 73, 74, 75, 76, 77, 78, 79, 80, 81, 82, 83, 84, 85, 86, 87, 88, 89, 90, 97, 98, 99, 100, 101, 102, 103, 104, 105, 106, 107, 108, 109, 110, 111, 112, 113, 114, 115, 116, 117, 118, 119, 120, 121, 122, 48, 49, 50, 51, 52, 53, 54, 55, 56, 57]⟩) 1), .int .u64 (wd (ofP ⟨#[33, 34, 35, 36, 37, 38, 39, 40, 41, 42, 43, 44, 45, 46, 47, 58, 59, 60, 61, 62, 63, 64, 91, 92, 93, 94, 95, 96, 123, 124, 125, 126, 65, 66, 67, 68, 69, 70, 71, 72, 73, 74, 75, 76, 77, 78, 79, 80, 81, 82, 83, 84, 85, 86, 87, 88, 89, 90, 97, 98, 99, 100, 101, 102, 103, 104, 105, 106, 107, 108, 109, 110, 111, 112, 113, 114, 115, 116, 117, 118, 119, 120, 121, 122, 48, 49, 50, 51, 52, 53, 54, 55, 56, 57]⟩) 2), .int .u64 (wd (ofP ⟨#[33, 34, 35, 36, 37, 38, 39, 40, 41, 42, 43, 44, 45, 46, 47, 58, 59, 60, 61, 62, 63, 64, 91, 92, 93, 94, 95, 96, 123, 124, 125, 126, 65, 66, 67, 68, 69, 70, 71, 72, 73, 74, 75, 76, 77, 78, 79, 80, 81, 82, 83, 84, 85, 86, 87, 88, 89, 90, 97, 98, 99, 100, 101, 102, 103, 104, 105, 106, 107, 108, 109, 110, 111, 112, 113, 114, 115, 116, 117, 118, 119, 120, 121, 122, 48, 49, 50, 51, 52, 53, 54, 55, 56, 57]⟩) 3)], .int .i64 0]) (by simp [results, Tryz.results98, go_sem, *]) rfl ⟨rfl, xai hB (by omega) _⟩
theorem xin  (w : World) :
  Calls Tryz.prog 98 #[.string ⟨#[112, 114, 105, 110, 116]⟩] w fun e w' => e = .returned (.tuple #[.agg #[.int .u64 (wd (ofP ⟨#[33, 34, 35, 36, 37, 38, 39, 40, 41, 42, 43, 44, 45, 46, 47, 58, 59, 60, 61, 62, 63, 64, 91, 92, 93, 94, 95, 96, 123, 124, 125, 126, 65, 66, 67, 68, 69, 70, 71, 72, 73, 74, 75, 76, 77, 78, 79, 80, 81, 82, 83, 84, 85, 86, 87, 88, 89, 90, 97, 98, 99, 100, 101, 102, 103, 104, 105, 106, 107, 108, 109, 110, 111, 112, 113, 114, 115, 116, 117, 118, 119, 120, 121, 122, 48, 49, 50, 51, 52, 53, 54, 55, 56, 57, 32]⟩) 0), .int .u64 (wd (ofP ⟨#[33, 34, 35, 36, 37, 38, 39, 40, 41, 42, 43, 44, 45, 46, 47, 58, 59, 60, 61, 62, 63, 64, 91, 92, 93, 94, 95, 96, 123, 124, 125, 126, 65, 66, 67, 68, 69, 70, 71, 72, 73, 74, 75, 76, 77, 78, 79, 80, 81, 82, 83, 84, 85, 86, 87, 88, 89, 90, 97, 98, 99, 100, 101, 102, 103, 104, 105, 106, 107, 108, 109, 110, 111, 112, 113, 114, 115, 116, 117, 118, 119, 120, 121, 122, 48, 49, 50, 51, 52, 53, 54, 55, 56, 57, 32]⟩) 1), .int .u64 (wd (ofP ⟨#[33, 34, 35, 36, 37, 38, 39, 40, 41, 42, 43, 44, 45, 46, 47, 58, 59, 60, 61, 62, 63, 64, 91, 92, 93, 94, 95, 96, 123, 124, 125, 126, 65, 66, 67, 68, 69, 70, 71, 72, 73, 74, 75, 76, 77, 78, 79, 80, 81, 82, 83, 84, 85, 86, 87, 88, 89, 90, 97, 98, 99, 100, 101, 102, 103, 104, 105, 106, 107, 108, 109, 110, 111, 112, 113, 114, 115, 116, 117, 118, 119, 120, 121, 122, 48, 49, 50, 51, 52, 53, 54, 55, 56, 57, 32]⟩) 2), .int .u64 (wd (ofP ⟨#[33, 34, 35, 36, 37, 38, 39, 40, 41, 42, 43, 44, 45, 46, 47, 58, 59, 60, 61, 62, 63, 64, 91, 92, 93, 94, 95, 96, 123, 124, 125, 126, 65, 66, 67, 68, 69, 70, 71, 72, 73, 74, 75, 76, 77, 78, 79, 80, 81, 82, 83, 84, 85, 86, 87, 88, 89, 90, 97, 98, 99, 100, 101, 102, 103, 104, 105, 106, 107, 108, 109, 110, 111, 112, 113, 114, 115, 116, 117, 118, 119, 120, 121, 122, 48, 49, 50, 51, 52, 53, 54, 55, 56, 57, 32]⟩) 3)], .int .i64 0]) ∧ Below w.heap.size w w' := by
 go_enter Tryz.func98, Tryz.ntmps98
 go_wp2_with fail
 refine (xpr _).mono ?_
 rintro e w0 ⟨rfl, rfl⟩
 go_wp2_with fail
 refine (xcw _ (by decide) _).mono ?_
 rintro e w1 ⟨rfl, hb1⟩
 have hr := (xaj w 33).below hb1 (by simp)
 have hB : Below w.heap.size w w1 := ((Below.refl _ _).alloc (Nat.le_refl _) _).trans (hb1.mono (by simp))
 clear hb1
 have hc := fun w => xbv (ofP ⟨#[33, 34, 35, 36, 37, 38, 39, 40, 41, 42, 43, 44, 45, 46, 47, 58, 59, 60, 61, 62, 63, 64, 91, 92, 93, 94, 95, 96, 123, 124, 125, 126, 65, 66, 67, 68, 69, 70, 71, 72, 73, 74, 75, 76, 77, 78, 79, 80, 81, 82, 83, 84, 85, 86, 87, 88, 89, 90, 97, 98, 99, 100, 101, 102, 103, 104, 105, 106, 107, 108, 109, 110, 111, 112, 113, 114, 115, 116, 117, 118, 119, 120, 121, 122, 48, 49, 50, 51, 52, 53, 54, 55, 56, 57, 32]⟩) w
 rw [xm1] at hc
 have HC : Hid _ := hc
 clear hc
 go_wp2_with fail
 have hv := xae w1 (ofP ⟨#[33, 34, 35, 36, 37, 38, 39, 40, 41, 42, 43, 44, 45, 46, 47, 58, 59, 60, 61, 62, 63, 64, 91, 92, 93, 94, 95, 96, 123, 124, 125, 126, 65, 66, 67, 68, 69, 70, 71, 72, 73, 74, 75, 76, 77, 78, 79, 80, 81, 82, 83, 84, 85, 86, 87, 88, 89, 90, 97, 98, 99, 100, 101, 102, 103, 104, 105, 106, 107, 108, 109, 110, 111, 112, 113, 114, 115, 116, 117, 118, 119, 120, 121, 122, 48, 49, 50, 51, 52, 53, 54, 55, 56, 57, 32]⟩) 33
 replace hr := hr.alloc (.cells #[.int .u64 (wd (ofP ⟨#[33, 34, 35, 36, 37, 38, 39, 40, 41, 42, 43, 44, 45, 46, 47, 58, 59, 60, 61, 62, 63, 64, 91, 92, 93, 94, 95, 96, 123, 124, 125, 126, 65, 66, 67, 68, 69, 70, 71, 72, 73, 74, 75, 76, 77, 78, 79, 80, 81, 82, 83, 84, 85, 86, 87, 88, 89, 90, 97, 98, 99, 100, 101, 102, 103, 104, 105, 106, 107, 108, 109, 110, 111, 112, 113, 114, 115, 116, 117, 118, 119, 120, 121, 122, 48, 49, 50, 51, 52, 53, 54, 55, 56, 57, 32]⟩) 0), .int .u64 (wd (ofP ⟨#[33, 34, 35, 36, 37, 38, 39, 40, 41, 42, 43, 44, 45, 46, 47, 58, 59, 60, 61, 62, 63, 64, 91, 92, 93, 94, 95, 96, 123, 124, 125, 126, 65, 66, 67, 68, 69, 70, 71, 72, 73, 74, 75, 76, 77, 78, 79, 80, 81, 82, 83, 84, 85, 86, 87, 88, 89, 90, 97, 98, 99, 100, 101, 102, 103, 104, 105, 106, 107, 108, 109, 110, 111, 112, 113, 114, 115, 116, 117, 118, 119, 120, 121, 122, 48, 49, 50, 51, 52, 53, 54, 55, 56, 57, 32]⟩) 1), .int .u64 (wd (ofP ⟨#[33, 34, 35, 36, 37, 38, 39, 40, 41, 42, 43, 44, 45, 46, 47, 58, 59, 60, 61, 62, 63, 64, 91, 92, 93, 94, 95, 96, 123, 124, 125, 126, 65, 66, 67, 68, 69, 70, 71, 72, 73, 74, 75, 76, 77, 78, 79, 80, 81, 82, 83, 84, 85, 86, 87, 88, 89, 90, 97, 98, 99, 100, 101, 102, 103, 104, 105, 106, 107, 108, 109, 110, 111, 112, 113, 114, 115, 116, 117, 118, 119, 120, 121, 122, 48, 49, 50, 51, 52, 53, 54, 55, 56, 57, 32]⟩) 2), .int .u64 (wd (ofP ⟨#[33, 34, 35, 36, 37, 38, 39, 40, 41, 42, 43, 44, 45, 46, 47, 58, 59, 60, 61, 62, 63, 64, 91, 92, 93, 94, 95, 96, 123, 124, 125, 126, 65, 66, 67, 68, 69, 70, 71, 72, 73, 74, 75, 76, 77, 78, 79, 80, 81, 82, 83, 84, 85, 86, 87, 88, 89, 90, 97, 98, 99, 100, 101, 102, 103, 104, 105, 106, 107, 108, 109, 110, 111, 112, 113, 114, 115, 116, 117, 118, 119, 120, 121, 122, 48, 49, 50, 51, 52, 53, 54, 55, 56, 57, 32]⟩) 3)] 33)
 replace hB := hB.alloc hB.size (.cells #[.int .u64 (wd (ofP ⟨#[33, 34, 35, 36, 37, 38, 39, 40, 41, 42, 43, 44, 45, 46, 47, 58, 59, 60, 61, 62, 63, 64, 91, 92, 93, 94, 95, 96, 123, 124, 125, 126, 65, 66, 67, 68, 69, 70, 71, 72, 73, 74, 75, 76, 77, 78, 79, 80, 81, 82, 83, 84, 85, 86, 87, 88, 89, 90, 97, 98, 99, 100, 101, 102, 103, 104, 105, 106, 107, 108, 109, 110, 111, 112, 113, 114, 115, 116, 117, 118, 119, 120, 121, 122, 48, 49, 50, 51, 52, 53, 54, 55, 56, 57, 32]⟩) 0), .int .u64 (wd (ofP ⟨#[33, 34, 35, 36, 37, 38, 39, 40, 41, 42, 43, 44, 45, 46, 47, 58, 59, 60, 61, 62, 63, 64, 91, 92, 93, 94, 95, 96, 123, 124, 125, 126, 65, 66, 67, 68, 69, 70, 71, 72, 73, 74, 75, 76, 77, 78, 79, 80, 81, 82, 83, 84, 85, 86, 87, 88, 89, 90, 97, 98, 99, 100, 101, 102, 103, 104, 105, 106, 107, 108, 109, 110, 111, 112, 113, 114, 115, 116, 117, 118, 119, 120, 121, 122, 48, 49, 50, 51, 52, 53, 54, 55, 56, 57, 32]⟩) 1), .int .u64 (wd (ofP ⟨#[33, 34, 35, 36, 37, 38, 39, 40, 41, 42, 43, 44, 45, 46, 47, 58, 59, 60, 61, 62, 63, 64, 91, 92, 93, 94, 95, 96, 123, 124, 125, 126, 65, 66, 67, 68, 69, 70, 71, 72, 73, 74, 75, 76, 77, 78, 79, 80, 81, 82, 83, 84, 85, 86, 87, 88, 89, 90, 97, 98, 99, 100, 101, 102, 103, 104, 105, 106, 107, 108, 109, 110, 111, 112, 113, 114, 115, 116, 117, 118, 119, 120, 121, 122, 48, 49, 50, 51, 52, 53, 54, 55, 56, 57, 32]⟩) 2), .int .u64 (wd (ofP ⟨#[33, 34, 35, 36, 37, 38, 39, 40, 41, 42, 43, 44, 45, 46, 47, 58, 59, 60, 61, 62, 63, 64, 91, 92, 93, 94, 95, 96, 123, 124, 125, 126, 65, 66, 67, 68, 69, 70, 71, 72, 73, 74, 75, 76, 77, 78, 79, 80, 81, 82, 83, 84, 85, 86, 87, 88, 89, 90, 97, 98, 99, 100, 101, 102, 103, 104, 105, 106, 107, 108, 109, 110, 111, 112, 113, 114, 115, 116, 117, 118, 119, 120, 121, 122, 48, 49, 50, 51, 52, 53, 54, 55, 56, 57, 32]⟩) 3)] 33)
 refine (HC.out _).mono ?_
 rintro e w2 ⟨rfl, hb2⟩
 replace hr := hr.below hb2 hr.lt
 replace hv := hv.below hb2 hv.lt
 replace hB := hB.trans (hb2.mono hB.size)
 clear hb2
 obtain ⟨⟨c0, c1, c2, c3⟩, -⟩ := id hv
 obtain ⟨⟨d0, d1, d2, d3⟩, g0, g1, g2, g3⟩ := id hr
 go_wp2
 exact bodyPost_ret (v := .tuple #[.agg #[.int .u64 (wd (ofP ⟨#[33, 34, 35, 36, 37, 38, 39, 40, 41, 42, 43, 44, 45, 46, 47, 58, 59, 60, 61, 62, 63, 64, 91, 92, 93, 94, 95, 96, 123, 124, 125, 126, 65, 66, 67, 68, 69, 70, 71, 72, 73, 74, 75, 76, 77, 78, 79, 80, 81, 82, 83, 84, 85, 86, 87, 88, 89, 90, 97, 98, 99, 100, 101, 102, 103, 104, 105, 106, 107, 108, 109, 110, 111, 112, 113, 114, 115, 116, 117, 118, 119, 120, 121, 122, 48, 49, 50, 51, 52, 53, 54, 55, 56, 57, 32]⟩) 0), .int .u64 (wd (ofP ⟨#[33, 34, 35, 36, 37, 38, 39, 40, 41, 42, 43, 44, 45, 46, 47, 58, 59, 60, 61, 62, 63, 64, 91, 92, 93, 94, 95, 96, 123, 124, 125, 126, 65, 66, 67, 68, 69, 70, 71, 72, 73, 74, 75, 76, 77, 78, 79, 80, 81, 82, 83, 84, 85, 86, 87, 88, 89, 90, 97, 98, 99, 100, 101, 102, 103, 104, 105, 106, 107, 108, 109, 110, 111, 112, 113, 114, 115, 116, 117, 118, 119, 120, 121, 122, 48, 49, 50, 51, 52, 53, 54, 55, 56, 57, 32]⟩) 1), .int .u64 (wd (ofP ⟨#[33, 34, 35, 36, 37, 38, 39, 40, 41, 42, 43, 44, 45, 46, 47, 58, 59, 60, 61, 62, 63, 64, 91, 92, 93, 94, 95, 96, 123, 124, 125, 126, 65, 66, 67, 68, 69, 70, 71, 72, 73, 74, 75, 76, 77, 78, 79, 80, 81, 82, 83, 84, 85, 86, 87, 88, 89, 90, 97, 98, 99, 100, 101, 102, 103, 104, 105, 106, 107, 108, 109, 110, 111, 112, 113, 114, 115, 116, 117, 118, 119, 120, 121, 122, 48, 49, 50, 51, 52, 53, 54, 55, 56, 57, 32]⟩) 2), .int .u64 (wd (ofP ⟨#[33, 34, 35, 36, 37, 38, 39, 40, 41, 42, 43, 44, 45, 46, 47, 58, 59, 60, 61, 62, 63, 64, 91, 92, 93, 94, 95, 96, 123, 124, 125, 126, 65, 66, 67, 68, 69, 70, 71, 72, 73, 74, 75, 76, 77, 78, 79, 80, 81, 82, 83, 84, 85, 86, 87, 88, 89, 90, 97, 98, 99, 100, 101, 102, 103, 104, 105, 106, 107, 108, 109, 110, 111, 112, 113, 114, 115, 116, 117, 118, 119, 120, 121, 122, 48, 49, 50, 51, 52, 53, 54, 55, 56, 57, 32]⟩) 3)], .int .i64 0]) (by simp [results, Tryz.results98, go_sem, *]) rfl ⟨rfl, xai hB (by omega) _⟩
theorem xio  (w : World) :
  Calls Tryz.prog 98 #[.string ⟨#[112, 117, 110, 99, 116]⟩] w fun e w' => e = .returned (.tuple #[.agg #[.int .u64 (wd (ofP ⟨#[33, 34, 35, 36, 37, 38, 39, 40, 41, 42, 43, 44, 45, 46, 47, 58, 59, 60, 61, 62, 63, 64, 91, 92, 93, 94, 95, 96, 123, 124, 125, 126]⟩) 0), .int .u64 (wd (ofP ⟨#[33, 34, 35, 36, 37, 38, 39, 40, 41, 42, 43, 44, 45, 46, 47, 58, 59, 60, 61, 62, 63, 64, 91, 92, 93, 94, 95, 96, 123, 124, 125, 126]⟩) 1), .int .u64 (wd (ofP ⟨#[33, 34, 35, 36, 37, 38, 39, 40, 41, 42, 43, 44, 45, 46, 47, 58, 59, 60, 61, 62, 63, 64, 91, 92, 93, 94, 95, 96, 123, 124, 125, 126]⟩) 2), .int .u64 (wd (ofP ⟨#[33, 34, 35, 36, 37, 38, 39, 40, 41, 42, 43, 44, 45, 46, 47, 58, 59, 60, 61, 62, 63, 64, 91, 92, 93, 94, 95, 96, 123, 124, 125, 126]⟩) 3)], .int .i64 0]) ∧ Below w.heap.size w w' := by
 go_enter Tryz.func98, Tryz.ntmps98
 go_wp2_with fail
 refine (xps _).mono ?_
 rintro e w0 ⟨rfl, rfl⟩
 go_wp2_with fail
 refine (xcw _ (by decide) _).mono ?_
 rintro e w1 ⟨rfl, hb1⟩
 have hr := (xaj w 33).below hb1 (by simp)
 have hB : Below w.heap.size w w1 := ((Below.refl _ _).alloc (Nat.le_refl _) _).trans (hb1.mono (by simp))
 clear hb1
 have hc := fun w => xbv (ofP ⟨#[33, 34, 35, 36, 37, 38, 39, 40, 41, 42, 43, 44, 45, 46, 47, 58, 59, 60, 61, 62, 63, 64, 91, 92, 93, 94, 95, 96, 123, 124, 125, 126]⟩) w
 rw [xm2] at hc
 have HC : Hid _ := hc
 clear hc
 go_wp2_with fail
 have hv := xae w1 (ofP ⟨#[33, 34, 35, 36, 37, 38, 39, 40, 41, 42, 43, 44, 45, 46, 47, 58, 59, 60, 61, 62, 63, 64, 91, 92, 93, 94, 95, 96, 123, 124, 125, 126]⟩) 33
 replace hr := hr.alloc (.cells #[.int .u64 (wd (ofP ⟨#[33, 34, 35, 36, 37, 38, 39, 40, 41, 42, 43, 44, 45, 46, 47, 58, 59, 60, 61, 62, 63, 64, 91, 92, 93, 94, 95, 96, 123, 124, 125, 126]⟩) 0), .int .u64 (wd (ofP ⟨#[33, 34, 35, 36, 37, 38, 39, 40, 41, 42, 43, 44, 45, 46, 47, 58, 59, 60, 61, 62, 63, 64, 91, 92, 93, 94, 95, 96, 123, 124, 125, 126]⟩) 1), .int .u64 (wd (ofP ⟨#[33, 34, 35, 36, 37, 38, 39, 40, 41, 42, 43, 44, 45, 46, 47, 58, 59, 60, 61, 62, 63, 64, 91, 92, 93, 94, 95, 96, 123, 124, 125, 126]⟩) 2), .int .u64 (wd (ofP ⟨#[33, 34, 35, 36, 37, 38, 39, 40, 41, 42, 43, 44, 45, 46, 47, 58, 59, 60, 61, 62, 63, 64, 91, 92, 93, 94, 95, 96, 123, 124, 125, 126]⟩) 3)] 33)
 replace hB := hB.alloc hB.size (.cells #[.int .u64 (wd (ofP ⟨#[33, 34, 35, 36, 37, 38, 39, 40, 41, 42, 43, 44, 45, 46, 47, 58, 59, 60, 61, 62, 63, 64, 91, 92, 93, 94, 95, 96, 123, 124, 125, 126]⟩) 0), .int .u64 (wd (ofP ⟨#[33, 34, 35, 36, 37, 38, 39, 40, 41, 42, 43, 44, 45, 46, 47, 58, 59, 60, 61, 62, 63, 64, 91, 92, 93, 94, 95, 96, 123, 124, 125, 126]⟩) 1), .int .u64 (wd (ofP ⟨#[33, 34, 35, 36, 37, 38, 39, 40, 41, 42, 43, 44, 45, 46, 47, 58, 59, 60, 61, 62, 63, 64, 91, 92, 93, 94, 95, 96, 123, 124, 125, 126]⟩) 2), .int .u64 (wd (ofP ⟨#[33, 34, 35, 36, 37, 38, 39, 40, 41, 42, 43, 44, 45, 46, 47, 58, 59, 60, 61, 62, 63, 64, 91, 92, 93, 94, 95, 96, 123, 124, 125, 126]⟩) 3)] 33)
 refine (HC.out _).mono ?_
 rintro e w2 ⟨rfl, hb2⟩
 replace hr := hr.below hb2 hr.lt
 replace hv := hv.below hb2 hv.lt
 replace hB := hB.trans (hb2.mono hB.size)
 clear hb2
 obtain ⟨⟨c0, c1, c2, c3⟩, -⟩ := id hv
 obtain ⟨⟨d0, d1, d2, d3⟩, g0, g1, g2, g3⟩ := id hr
 go_wp2
 exact bodyPost_ret (v := .tuple #[.agg #[.int .u64 (wd (ofP ⟨#[33, 34, 35, 36, 37, 38, 39, 40, 41, 42, 43, 44, 45, 46, 47, 58, 59, 60, 61, 62, 63, 64, 91, 92, 93, 94, 95, 96, 123, 124, 125, 126]⟩) 0), .int .u64 (wd (ofP ⟨#[33, 34, 35, 36, 37, 38, 39, 40, 41, 42, 43, 44, 45, 46, 47, 58, 59, 60, 61, 62, 63, 64, 91, 92, 93, 94, 95, 96, 123, 124, 125, 126]⟩) 1), .int .u64 (wd (ofP ⟨#[33, 34, 35, 36, 37, 38, 39, 40, 41, 42, 43, 44, 45, 46, 47, 58, 59, 60, 61, 62, 63, 64, 91, 92, 93, 94, 95, 96, 123, 124, 125, 126]⟩) 2), .int .u64 (wd (ofP ⟨#[33, 34, 35, 36, 37, 38, 39, 40, 41, 42, 43, 44, 45, 46, 47, 58, 59, 60, 61, 62, 63, 64, 91, 92, 93, 94, 95, 96, 123, 124, 125, 126]⟩) 3)], .int .i64 0]) (by simp [results, Tryz.results98, go_sem, *]) rfl ⟨rfl, xai hB (by omega) _⟩
theorem xip (s : ByteArray) (n0 : (s.toList == [117, 112, 112, 101, 114]) = false) (n1 : (s.toList == [108, 111, 119, 101, 114]) = false) (n2 : (s.toList == [100, 105, 103, 105, 116]) = false) (n3 : (s.toList == [97, 108, 112, 104, 97]) = false) (n4 : (s.toList == [97, 108, 110, 117, 109]) = false) (n5 : (s.toList == [120, 100, 105, 103, 105, 116]) = false) (n6 : (s.toList == [98, 108, 97, 110, 107]) = false) (n7 : (s.toList == [115, 112, 97, 99, 101]) = false) (n8 : (s.toList == [103, 114, 97, 112, 104]) = false) (n9 : (s.toList == [112, 114, 105, 110, 116]) = false) (n10 : (s.toList == [112, 117, 110, 99, 116]) = false) (n11 : (s.toList == [99, 110, 116, 114, 108]) = false) (w : World) :
  Calls Tryz.prog 98 #[.string s] w fun e w' => e = .returned (.tuple #[.agg #[.int .u64 (wd (ofP ⟨#[]⟩) 0), .int .u64 (wd (ofP ⟨#[]⟩) 1), .int .u64 (wd (ofP ⟨#[]⟩) 2), .int .u64 (wd (ofP ⟨#[]⟩) 3)], .int .i64 8]) ∧ Below w.heap.size w w' := by
 go_enter Tryz.func98, Tryz.ntmps98
 go_wp2_with fail
 refine (xpt s n0 n1 n2 n3 n4 n5 n6 n7 n8 n9 n10 _).mono ?_
 rintro e w0 ⟨rfl, rfl⟩
 go_wp2_with fail
 refine (xcw _ (by decide) _).mono ?_
 rintro e w1 ⟨rfl, hb1⟩
 have hr := (xaj w 33).below hb1 (by simp)
 have hB : Below w.heap.size w w1 := ((Below.refl _ _).alloc (Nat.le_refl _) _).trans (hb1.mono (by simp))
 clear hb1
 have hc := fun w => xbv (ofP ⟨#[]⟩) w
 rw [xm3] at hc
 have HC : Hid _ := hc
 clear hc
 go_wp2_with fail
 have hv := xae w1 (ofP ⟨#[]⟩) 33
 replace hr := hr.alloc (.cells #[.int .u64 (wd (ofP ⟨#[]⟩) 0), .int .u64 (wd (ofP ⟨#[]⟩) 1), .int .u64 (wd (ofP ⟨#[]⟩) 2), .int .u64 (wd (ofP ⟨#[]⟩) 3)] 33)
 replace hB := hB.alloc hB.size (.cells #[.int .u64 (wd (ofP ⟨#[]⟩) 0), .int .u64 (wd (ofP ⟨#[]⟩) 1), .int .u64 (wd (ofP ⟨#[]⟩) 2), .int .u64 (wd (ofP ⟨#[]⟩) 3)] 33)
 refine (HC.out _).mono ?_
 rintro e w2 ⟨rfl, hb2⟩
 replace hr := hr.below hb2 hr.lt
 replace hv := hv.below hb2 hv.lt
 replace hB := hB.trans (hb2.mono hB.size)
 clear hb2
 obtain ⟨⟨c0, c1, c2, c3⟩, -⟩ := id hv
 obtain ⟨⟨d0, d1, d2, d3⟩, g0, g1, g2, g3⟩ := id hr
 go_wp2
 exact bodyPost_ret (v := .tuple #[.agg #[.int .u64 (wd (ofP ⟨#[]⟩) 0), .int .u64 (wd (ofP ⟨#[]⟩) 1), .int .u64 (wd (ofP ⟨#[]⟩) 2), .int .u64 (wd (ofP ⟨#[]⟩) 3)], .int .i64 8]) (by simp [results, Tryz.results98, go_sem, *]) rfl ⟨rfl, xai hB (by omega) _⟩
theorem xiq (w : World) :
  Calls Tryz.prog 98 #[.string ⟨#[99, 110, 116, 114, 108]⟩] w fun e w' => e = .returned (.tuple #[.agg #[.int .u64 (wd (ins (sP 0 31) 127) 0), .int .u64 (wd (ins (sP 0 31) 127) 1), .int .u64 (wd (ins (sP 0 31) 127) 2), .int .u64 (wd (ins (sP 0 31) 127) 3)], .int .i64 0]) ∧ Below w.heap.size w w' := by
 go_enter Tryz.func98, Tryz.ntmps98
 go_wp2_with fail
 refine (xog 0 31 (by omega) (by omega) (by omega) _).mono ?_
 rintro e w1 ⟨rfl, hb1⟩
 have hr := (xaj w 33).below hb1 (by simp)
 have hB : Below w.heap.size w w1 := ((Below.refl _ _).alloc (Nat.le_refl _) _).trans (hb1.mono (by simp))
 clear hb1
 go_wp2_with fail
 replace hr := hr.alloc (.cells #[.int .u64 (wd (sP 0 31) 0), .int .u64 (wd (sP 0 31) 1), .int .u64 (wd (sP 0 31) 2), .int .u64 (wd (sP 0 31) 3)] 33)
 replace hB := hB.alloc hB.size (.cells #[.int .u64 (wd (sP 0 31) 0), .int .u64 (wd (sP 0 31) 1), .int .u64 (wd (sP 0 31) 2), .int .u64 (wd (sP 0 31) 3)] 33)
 refine (xg8 (sP 0 31) 127 (by omega) (by omega) _).mono ?_
 rintro e w2 ⟨rfl, hb2⟩
 replace hr := hr.below hb2 hr.lt
 replace hB := hB.trans (hb2.mono hB.size)
 clear hb2
 obtain ⟨⟨d0, d1, d2, d3⟩, g0, g1, g2, g3⟩ := id hr
 go_wp2
 exact bodyPost_ret (v := .tuple #[.agg #[.int .u64 (wd (ins (sP 0 31) 127) 0), .int .u64 (wd (ins (sP 0 31) 127) 1), .int .u64 (wd (ins (sP 0 31) 127) 2), .int .u64 (wd (ins (sP 0 31) 127) 3)], .int .i64 0]) (by simp [results, Tryz.results98, go_sem, *]) rfl ⟨rfl, xai hB (by omega) _⟩
end Go.Proofs.YtaapmphdnholaaaGreatDoor
