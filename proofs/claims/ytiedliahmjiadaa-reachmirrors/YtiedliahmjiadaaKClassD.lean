/- Walks: Class at every other name. -/
import Derived.Test.YtiedliahmjiadaaKDet
set_option maxRecDepth 100000
set_option maxHeartbeats 2000000
namespace Go.Proofs.Ytiedliahmjiadaa
open Go.RowKit
theorem class_other (s : ByteArray) (n0 : (s.toList == [117, 112, 112, 101, 114]) = false) (n1 : (s.toList == [108, 111, 119, 101, 114]) = false) (n2 : (s.toList == [100, 105, 103, 105, 116]) = false) (n3 : (s.toList == [97, 108, 112, 104, 97]) = false) (n4 : (s.toList == [97, 108, 110, 117, 109]) = false) (n5 : (s.toList == [120, 100, 105, 103, 105, 116]) = false) (n6 : (s.toList == [98, 108, 97, 110, 107]) = false) (n7 : (s.toList == [115, 112, 97, 99, 101]) = false) (n8 : (s.toList == [103, 114, 97, 112, 104]) = false) (n9 : (s.toList == [112, 114, 105, 110, 116]) = false) (n10 : (s.toList == [112, 117, 110, 99, 116]) = false) (n11 : (s.toList == [99, 110, 116, 114, 108]) = false) (w : World) :
  Calls Try.prog 88 #[.string s] w fun e w' => e = .returned (.tuple #[.agg #[.int .u64 (wd noneP 0 : Nat), .int .u64 (wd noneP 1 : Nat), .int .u64 (wd noneP 2 : Nat), .int .u64 (wd noneP 3 : Nat)], .int .i64 8]) ∧ Below w.heap.size w w' := by
 unfold noneP
 rw [wd_none, wd_none, wd_none, wd_none]
 go_enter Try.func88, Try.ntmps88
 go_wp2_with fail
 refine (stretchD 65 90 (by omega) (by omega) (by omega) _).mono ?_
 rintro e w1 ⟨rfl, hb1⟩
 have hR := (holds4_zero w 45).below hb1 (by simp)
 have hB : Below w.heap.size w w1 := ((Below.refl _ _).alloc (Nat.le_refl _) _).trans (hb1.mono (by simp))
 clear hb1
 go_wp2_with fail
 refine (stretchD 97 122 (by omega) (by omega) (by omega) _).mono ?_
 rintro e w2 ⟨rfl, hb2⟩
 replace hR := hR.below hb2 hR.lt
 replace hB := hB.trans (hb2.mono hB.size)
 clear hb2
 go_wp2_with fail
 refine (stretchD 48 57 (by omega) (by omega) (by omega) _).mono ?_
 rintro e w3 ⟨rfl, hb3⟩
 replace hR := hR.below hb3 hR.lt
 replace hB := hB.trans (hb3.mono hB.size)
 clear hb3
 go_wp2_with fail
 replace hR : Holds4 (((w3.alloc (.cells #[.int .u64 (wd (spanP 65 90) 0 : Nat), .int .u64 (wd (spanP 65 90) 1 : Nat), .int .u64 (wd (spanP 65 90) 2 : Nat), .int .u64 (wd (spanP 65 90) 3 : Nat)] 45)).alloc (.cells #[.int .u64 (wd (spanP 97 122) 0 : Nat), .int .u64 (wd (spanP 97 122) 1 : Nat), .int .u64 (wd (spanP 97 122) 2 : Nat), .int .u64 (wd (spanP 97 122) 3 : Nat)] 45)).alloc (.cells #[.int .u64 (wd (spanP 48 57) 0 : Nat), .int .u64 (wd (spanP 48 57) 1 : Nat), .int .u64 (wd (spanP 48 57) 2 : Nat), .int .u64 (wd (spanP 48 57) 3 : Nat)] 45)) w.heap.size (fun _ => false) := ((hR.alloc _).alloc _).alloc _
 have hU : Holds4 (((w3.alloc (.cells #[.int .u64 (wd (spanP 65 90) 0 : Nat), .int .u64 (wd (spanP 65 90) 1 : Nat), .int .u64 (wd (spanP 65 90) 2 : Nat), .int .u64 (wd (spanP 65 90) 3 : Nat)] 45)).alloc (.cells #[.int .u64 (wd (spanP 97 122) 0 : Nat), .int .u64 (wd (spanP 97 122) 1 : Nat), .int .u64 (wd (spanP 97 122) 2 : Nat), .int .u64 (wd (spanP 97 122) 3 : Nat)] 45)).alloc (.cells #[.int .u64 (wd (spanP 48 57) 0 : Nat), .int .u64 (wd (spanP 48 57) 1 : Nat), .int .u64 (wd (spanP 48 57) 2 : Nat), .int .u64 (wd (spanP 48 57) 3 : Nat)] 45)) w3.heap.size (spanP 65 90) := ((holds4_new w3 (spanP 65 90) 45).alloc _).alloc _
 have hL : Holds4 (((w3.alloc (.cells #[.int .u64 (wd (spanP 65 90) 0 : Nat), .int .u64 (wd (spanP 65 90) 1 : Nat), .int .u64 (wd (spanP 65 90) 2 : Nat), .int .u64 (wd (spanP 65 90) 3 : Nat)] 45)).alloc (.cells #[.int .u64 (wd (spanP 97 122) 0 : Nat), .int .u64 (wd (spanP 97 122) 1 : Nat), .int .u64 (wd (spanP 97 122) 2 : Nat), .int .u64 (wd (spanP 97 122) 3 : Nat)] 45)).alloc (.cells #[.int .u64 (wd (spanP 48 57) 0 : Nat), .int .u64 (wd (spanP 48 57) 1 : Nat), .int .u64 (wd (spanP 48 57) 2 : Nat), .int .u64 (wd (spanP 48 57) 3 : Nat)] 45)) (w3.heap.size + 1) (spanP 97 122) := by
  have h := (holds4_new (w3.alloc (.cells #[.int .u64 (wd (spanP 65 90) 0 : Nat), .int .u64 (wd (spanP 65 90) 1 : Nat), .int .u64 (wd (spanP 65 90) 2 : Nat), .int .u64 (wd (spanP 65 90) 3 : Nat)] 45)) (spanP 97 122) 45).alloc (.cells #[.int .u64 (wd (spanP 48 57) 0 : Nat), .int .u64 (wd (spanP 48 57) 1 : Nat), .int .u64 (wd (spanP 48 57) 2 : Nat), .int .u64 (wd (spanP 48 57) 3 : Nat)] 45)
  rwa [World.size_alloc] at h
 have hD : Holds4 (((w3.alloc (.cells #[.int .u64 (wd (spanP 65 90) 0 : Nat), .int .u64 (wd (spanP 65 90) 1 : Nat), .int .u64 (wd (spanP 65 90) 2 : Nat), .int .u64 (wd (spanP 65 90) 3 : Nat)] 45)).alloc (.cells #[.int .u64 (wd (spanP 97 122) 0 : Nat), .int .u64 (wd (spanP 97 122) 1 : Nat), .int .u64 (wd (spanP 97 122) 2 : Nat), .int .u64 (wd (spanP 97 122) 3 : Nat)] 45)).alloc (.cells #[.int .u64 (wd (spanP 48 57) 0 : Nat), .int .u64 (wd (spanP 48 57) 1 : Nat), .int .u64 (wd (spanP 48 57) 2 : Nat), .int .u64 (wd (spanP 48 57) 3 : Nat)] 45)) (w3.heap.size + 1 + 1) (spanP 48 57) := by
  have h := holds4_new ((w3.alloc (.cells #[.int .u64 (wd (spanP 65 90) 0 : Nat), .int .u64 (wd (spanP 65 90) 1 : Nat), .int .u64 (wd (spanP 65 90) 2 : Nat), .int .u64 (wd (spanP 65 90) 3 : Nat)] 45)).alloc (.cells #[.int .u64 (wd (spanP 97 122) 0 : Nat), .int .u64 (wd (spanP 97 122) 1 : Nat), .int .u64 (wd (spanP 97 122) 2 : Nat), .int .u64 (wd (spanP 97 122) 3 : Nat)] 45)) (spanP 48 57) 45
  rwa [World.size_alloc, World.size_alloc] at h
 replace hB : Below w.heap.size w (((w3.alloc (.cells #[.int .u64 (wd (spanP 65 90) 0 : Nat), .int .u64 (wd (spanP 65 90) 1 : Nat), .int .u64 (wd (spanP 65 90) 2 : Nat), .int .u64 (wd (spanP 65 90) 3 : Nat)] 45)).alloc (.cells #[.int .u64 (wd (spanP 97 122) 0 : Nat), .int .u64 (wd (spanP 97 122) 1 : Nat), .int .u64 (wd (spanP 97 122) 2 : Nat), .int .u64 (wd (spanP 97 122) 3 : Nat)] 45)).alloc (.cells #[.int .u64 (wd (spanP 48 57) 0 : Nat), .int .u64 (wd (spanP 48 57) 1 : Nat), .int .u64 (wd (spanP 48 57) 2 : Nat), .int .u64 (wd (spanP 48 57) 3 : Nat)] 45)) := ((hB.alloc hB.size _).alloc (by have := hB.size; simp; omega) _).alloc (by have := hB.size; simp; omega) _
 refine (orD _ _ _).mono ?_
 rintro e w4 ⟨rfl, hb4⟩
 replace hR := hR.below hb4 hR.lt
 replace hU := hU.below hb4 hU.lt
 replace hL := hL.below hb4 hL.lt
 replace hD := hD.below hb4 hD.lt
 replace hB := hB.trans (hb4.mono hB.size)
 clear hb4
 obtain ⟨⟨d0, d1, d2, d3⟩, -⟩ := id hD
 have lt := hD.lt
 go_wp2_with fail
 clear d0 d1 d2 d3 lt
 replace hR := hR.alloc (.cells #[.int .u64 (wd (orP (spanP 65 90) (spanP 97 122)) 0 : Nat), .int .u64 (wd (orP (spanP 65 90) (spanP 97 122)) 1 : Nat), .int .u64 (wd (orP (spanP 65 90) (spanP 97 122)) 2 : Nat), .int .u64 (wd (orP (spanP 65 90) (spanP 97 122)) 3 : Nat)] 45)
 replace hU := hU.alloc (.cells #[.int .u64 (wd (orP (spanP 65 90) (spanP 97 122)) 0 : Nat), .int .u64 (wd (orP (spanP 65 90) (spanP 97 122)) 1 : Nat), .int .u64 (wd (orP (spanP 65 90) (spanP 97 122)) 2 : Nat), .int .u64 (wd (orP (spanP 65 90) (spanP 97 122)) 3 : Nat)] 45)
 replace hL := hL.alloc (.cells #[.int .u64 (wd (orP (spanP 65 90) (spanP 97 122)) 0 : Nat), .int .u64 (wd (orP (spanP 65 90) (spanP 97 122)) 1 : Nat), .int .u64 (wd (orP (spanP 65 90) (spanP 97 122)) 2 : Nat), .int .u64 (wd (orP (spanP 65 90) (spanP 97 122)) 3 : Nat)] 45)
 replace hD := hD.alloc (.cells #[.int .u64 (wd (orP (spanP 65 90) (spanP 97 122)) 0 : Nat), .int .u64 (wd (orP (spanP 65 90) (spanP 97 122)) 1 : Nat), .int .u64 (wd (orP (spanP 65 90) (spanP 97 122)) 2 : Nat), .int .u64 (wd (orP (spanP 65 90) (spanP 97 122)) 3 : Nat)] 45)
 have hA := holds4_new w4 (orP (spanP 65 90) (spanP 97 122)) 45
 replace hB := hB.alloc hB.size (.cells #[.int .u64 (wd (orP (spanP 65 90) (spanP 97 122)) 0 : Nat), .int .u64 (wd (orP (spanP 65 90) (spanP 97 122)) 1 : Nat), .int .u64 (wd (orP (spanP 65 90) (spanP 97 122)) 2 : Nat), .int .u64 (wd (orP (spanP 65 90) (spanP 97 122)) 3 : Nat)] 45)
 refine (orD _ _ _).mono ?_
 rintro e w5 ⟨rfl, hb5⟩
 replace hR := hR.below hb5 hR.lt
 replace hU := hU.below hb5 hU.lt
 replace hL := hL.below hb5 hL.lt
 replace hD := hD.below hb5 hD.lt
 replace hA := hA.below hb5 hA.lt
 replace hB := hB.trans (hb5.mono hB.size)
 clear hb5
 go_wp2_with fail
 replace hR := hR.alloc (.cells #[.int .u64 (wd (orP (orP (spanP 65 90) (spanP 97 122)) (spanP 48 57)) 0 : Nat), .int .u64 (wd (orP (orP (spanP 65 90) (spanP 97 122)) (spanP 48 57)) 1 : Nat), .int .u64 (wd (orP (orP (spanP 65 90) (spanP 97 122)) (spanP 48 57)) 2 : Nat), .int .u64 (wd (orP (orP (spanP 65 90) (spanP 97 122)) (spanP 48 57)) 3 : Nat)] 45)
 replace hU := hU.alloc (.cells #[.int .u64 (wd (orP (orP (spanP 65 90) (spanP 97 122)) (spanP 48 57)) 0 : Nat), .int .u64 (wd (orP (orP (spanP 65 90) (spanP 97 122)) (spanP 48 57)) 1 : Nat), .int .u64 (wd (orP (orP (spanP 65 90) (spanP 97 122)) (spanP 48 57)) 2 : Nat), .int .u64 (wd (orP (orP (spanP 65 90) (spanP 97 122)) (spanP 48 57)) 3 : Nat)] 45)
 replace hL := hL.alloc (.cells #[.int .u64 (wd (orP (orP (spanP 65 90) (spanP 97 122)) (spanP 48 57)) 0 : Nat), .int .u64 (wd (orP (orP (spanP 65 90) (spanP 97 122)) (spanP 48 57)) 1 : Nat), .int .u64 (wd (orP (orP (spanP 65 90) (spanP 97 122)) (spanP 48 57)) 2 : Nat), .int .u64 (wd (orP (orP (spanP 65 90) (spanP 97 122)) (spanP 48 57)) 3 : Nat)] 45)
 replace hD := hD.alloc (.cells #[.int .u64 (wd (orP (orP (spanP 65 90) (spanP 97 122)) (spanP 48 57)) 0 : Nat), .int .u64 (wd (orP (orP (spanP 65 90) (spanP 97 122)) (spanP 48 57)) 1 : Nat), .int .u64 (wd (orP (orP (spanP 65 90) (spanP 97 122)) (spanP 48 57)) 2 : Nat), .int .u64 (wd (orP (orP (spanP 65 90) (spanP 97 122)) (spanP 48 57)) 3 : Nat)] 45)
 replace hA := hA.alloc (.cells #[.int .u64 (wd (orP (orP (spanP 65 90) (spanP 97 122)) (spanP 48 57)) 0 : Nat), .int .u64 (wd (orP (orP (spanP 65 90) (spanP 97 122)) (spanP 48 57)) 1 : Nat), .int .u64 (wd (orP (orP (spanP 65 90) (spanP 97 122)) (spanP 48 57)) 2 : Nat), .int .u64 (wd (orP (orP (spanP 65 90) (spanP 97 122)) (spanP 48 57)) 3 : Nat)] 45)
 have hN := holds4_new w5 (orP (orP (spanP 65 90) (spanP 97 122)) (spanP 48 57)) 45
 replace hB := hB.alloc hB.size (.cells #[.int .u64 (wd (orP (orP (spanP 65 90) (spanP 97 122)) (spanP 48 57)) 0 : Nat), .int .u64 (wd (orP (orP (spanP 65 90) (spanP 97 122)) (spanP 48 57)) 1 : Nat), .int .u64 (wd (orP (orP (spanP 65 90) (spanP 97 122)) (spanP 48 57)) 2 : Nat), .int .u64 (wd (orP (orP (spanP 65 90) (spanP 97 122)) (spanP 48 57)) 3 : Nat)] 45)
 refine (stretchD 33 126 (by omega) (by omega) (by omega) _).mono ?_
 rintro e w6 ⟨rfl, hb6⟩
 replace hR := hR.below hb6 hR.lt
 replace hU := hU.below hb6 hU.lt
 replace hL := hL.below hb6 hL.lt
 replace hD := hD.below hb6 hD.lt
 replace hA := hA.below hb6 hA.lt
 replace hN := hN.below hb6 hN.lt
 replace hB := hB.trans (hb6.mono hB.size)
 clear hb6
 obtain ⟨⟨z0, z1, z2, z3⟩, zf0, zf1, zf2, zf3⟩ := id hR
 have ltz := hR.lt
 go_wp2
 have hB2 := (((hB.setCell (p := ⟨w.heap.size, 0, none⟩) (Nat.le_refl _) (.int .u64 0)).setCell (p := ⟨w.heap.size, 1, none⟩) (Nat.le_refl _) (.int .u64 0)).setCell (p := ⟨w.heap.size, 2, none⟩) (Nat.le_refl _) (.int .u64 0)).setCell (p := ⟨w.heap.size, 3, none⟩) (Nat.le_refl _) (.int .u64 0)
 exact bodyPost_ret (v := .tuple #[.agg #[.int .u64 0, .int .u64 0, .int .u64 0, .int .u64 0], .int .i64 8]) (by simp [results, Try.results88, go_sem, *]) rfl ⟨rfl, hB2.alloc hB2.size _⟩
end Go.Proofs.Ytiedliahmjiadaa
