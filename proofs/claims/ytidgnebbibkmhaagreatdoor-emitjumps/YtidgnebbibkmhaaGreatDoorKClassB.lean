/- Walks: Class, at each name that it knows. -/
import Derived.Test.YtidgnebbibkmhaaGreatDoorKDet
set_option maxRecDepth 100000
set_option maxHeartbeats 2000000
namespace Go.Proofs.YtidgnebbibkmhaaGreatDoor.br
open Go.RowKit
theorem xko (w : World) :
  Calls Tryz.prog 278 #[.string ⟨#[97, 108, 110, 117, 109]⟩] w fun e w' => e = .returned (.tuple #[.agg #[.int .u64 (wd (orP (orP (sP 65 90) (sP 97 122)) (sP 48 57)) 0), .int .u64 (wd (orP (orP (sP 65 90) (sP 97 122)) (sP 48 57)) 1), .int .u64 (wd (orP (orP (sP 65 90) (sP 97 122)) (sP 48 57)) 2), .int .u64 (wd (orP (orP (sP 65 90) (sP 97 122)) (sP 48 57)) 3)], .int .i64 0]) ∧ Below w.heap.size w w' := by
 go_enter Tryz.func278, Tryz.ntmps278
 go_wp2_with fail
 refine (xaf 65 90 (by omega) (by omega) (by omega) _).mono ?_
 rintro e w1 ⟨rfl, hb1⟩
 have hR := (xal w 222).below hb1 (by simp)
 have hB : Below w.heap.size w w1 := ((Below.refl _ _).alloc (Nat.le_refl _) _).trans (hb1.mono (by simp))
 clear hb1
 go_wp2_with fail
 refine (xaf 97 122 (by omega) (by omega) (by omega) _).mono ?_
 rintro e w2 ⟨rfl, hb2⟩
 replace hR := hR.below hb2 hR.lt
 replace hB := hB.trans (hb2.mono hB.size)
 clear hb2
 go_wp2_with fail
 refine (xaf 48 57 (by omega) (by omega) (by omega) _).mono ?_
 rintro e w3 ⟨rfl, hb3⟩
 replace hR := hR.below hb3 hR.lt
 replace hB := hB.trans (hb3.mono hB.size)
 clear hb3
 go_wp2_with fail
 replace hR : Holds4 (((w3.alloc (.cells #[.int .u64 (wd (sP 65 90) 0), .int .u64 (wd (sP 65 90) 1), .int .u64 (wd (sP 65 90) 2), .int .u64 (wd (sP 65 90) 3)] 222)).alloc (.cells #[.int .u64 (wd (sP 97 122) 0), .int .u64 (wd (sP 97 122) 1), .int .u64 (wd (sP 97 122) 2), .int .u64 (wd (sP 97 122) 3)] 222)).alloc (.cells #[.int .u64 (wd (sP 48 57) 0), .int .u64 (wd (sP 48 57) 1), .int .u64 (wd (sP 48 57) 2), .int .u64 (wd (sP 48 57) 3)] 222)) w.heap.size (fun _ => false) := ((hR.alloc _).alloc _).alloc _
 have hU : Holds4 (((w3.alloc (.cells #[.int .u64 (wd (sP 65 90) 0), .int .u64 (wd (sP 65 90) 1), .int .u64 (wd (sP 65 90) 2), .int .u64 (wd (sP 65 90) 3)] 222)).alloc (.cells #[.int .u64 (wd (sP 97 122) 0), .int .u64 (wd (sP 97 122) 1), .int .u64 (wd (sP 97 122) 2), .int .u64 (wd (sP 97 122) 3)] 222)).alloc (.cells #[.int .u64 (wd (sP 48 57) 0), .int .u64 (wd (sP 48 57) 1), .int .u64 (wd (sP 48 57) 2), .int .u64 (wd (sP 48 57) 3)] 222)) w3.heap.size (sP 65 90) := ((xac w3 (sP 65 90) 222).alloc _).alloc _
 have hL : Holds4 (((w3.alloc (.cells #[.int .u64 (wd (sP 65 90) 0), .int .u64 (wd (sP 65 90) 1), .int .u64 (wd (sP 65 90) 2), .int .u64 (wd (sP 65 90) 3)] 222)).alloc (.cells #[.int .u64 (wd (sP 97 122) 0), .int .u64 (wd (sP 97 122) 1), .int .u64 (wd (sP 97 122) 2), .int .u64 (wd (sP 97 122) 3)] 222)).alloc (.cells #[.int .u64 (wd (sP 48 57) 0), .int .u64 (wd (sP 48 57) 1), .int .u64 (wd (sP 48 57) 2), .int .u64 (wd (sP 48 57) 3)] 222)) (w3.heap.size + 1) (sP 97 122) := by
  have h := (xac (w3.alloc (.cells #[.int .u64 (wd (sP 65 90) 0), .int .u64 (wd (sP 65 90) 1), .int .u64 (wd (sP 65 90) 2), .int .u64 (wd (sP 65 90) 3)] 222)) (sP 97 122) 222).alloc (.cells #[.int .u64 (wd (sP 48 57) 0), .int .u64 (wd (sP 48 57) 1), .int .u64 (wd (sP 48 57) 2), .int .u64 (wd (sP 48 57) 3)] 222)
  rwa [World.size_alloc] at h
 have hD : Holds4 (((w3.alloc (.cells #[.int .u64 (wd (sP 65 90) 0), .int .u64 (wd (sP 65 90) 1), .int .u64 (wd (sP 65 90) 2), .int .u64 (wd (sP 65 90) 3)] 222)).alloc (.cells #[.int .u64 (wd (sP 97 122) 0), .int .u64 (wd (sP 97 122) 1), .int .u64 (wd (sP 97 122) 2), .int .u64 (wd (sP 97 122) 3)] 222)).alloc (.cells #[.int .u64 (wd (sP 48 57) 0), .int .u64 (wd (sP 48 57) 1), .int .u64 (wd (sP 48 57) 2), .int .u64 (wd (sP 48 57) 3)] 222)) (w3.heap.size + 1 + 1) (sP 48 57) := by
  have h := xac ((w3.alloc (.cells #[.int .u64 (wd (sP 65 90) 0), .int .u64 (wd (sP 65 90) 1), .int .u64 (wd (sP 65 90) 2), .int .u64 (wd (sP 65 90) 3)] 222)).alloc (.cells #[.int .u64 (wd (sP 97 122) 0), .int .u64 (wd (sP 97 122) 1), .int .u64 (wd (sP 97 122) 2), .int .u64 (wd (sP 97 122) 3)] 222)) (sP 48 57) 222
  rwa [World.size_alloc, World.size_alloc] at h
 replace hB : Below w.heap.size w (((w3.alloc (.cells #[.int .u64 (wd (sP 65 90) 0), .int .u64 (wd (sP 65 90) 1), .int .u64 (wd (sP 65 90) 2), .int .u64 (wd (sP 65 90) 3)] 222)).alloc (.cells #[.int .u64 (wd (sP 97 122) 0), .int .u64 (wd (sP 97 122) 1), .int .u64 (wd (sP 97 122) 2), .int .u64 (wd (sP 97 122) 3)] 222)).alloc (.cells #[.int .u64 (wd (sP 48 57) 0), .int .u64 (wd (sP 48 57) 1), .int .u64 (wd (sP 48 57) 2), .int .u64 (wd (sP 48 57) 3)] 222)) := ((hB.alloc hB.size _).alloc (by have := hB.size; simp; omega) _).alloc (by have := hB.size; simp; omega) _
 refine (orD _ _ _).mono ?_
 rintro e w4 ⟨rfl, hb4⟩
 replace hR := hR.below hb4 hR.lt
 replace hU := hU.below hb4 hU.lt
 replace hL := hL.below hb4 hL.lt
 replace hD := hD.below hb4 hD.lt
 replace hB := hB.trans (hb4.mono hB.size)
 clear hb4
 obtain ⟨⟨d0, d1, d2, d3⟩, -⟩ := id hD
 have lt := hD.lt
 go_wp2_with fail
 clear d0 d1 d2 d3 lt
 replace hR := hR.alloc (.cells #[.int .u64 (wd (orP (sP 65 90) (sP 97 122)) 0), .int .u64 (wd (orP (sP 65 90) (sP 97 122)) 1), .int .u64 (wd (orP (sP 65 90) (sP 97 122)) 2), .int .u64 (wd (orP (sP 65 90) (sP 97 122)) 3)] 222)
 replace hU := hU.alloc (.cells #[.int .u64 (wd (orP (sP 65 90) (sP 97 122)) 0), .int .u64 (wd (orP (sP 65 90) (sP 97 122)) 1), .int .u64 (wd (orP (sP 65 90) (sP 97 122)) 2), .int .u64 (wd (orP (sP 65 90) (sP 97 122)) 3)] 222)
 replace hL := hL.alloc (.cells #[.int .u64 (wd (orP (sP 65 90) (sP 97 122)) 0), .int .u64 (wd (orP (sP 65 90) (sP 97 122)) 1), .int .u64 (wd (orP (sP 65 90) (sP 97 122)) 2), .int .u64 (wd (orP (sP 65 90) (sP 97 122)) 3)] 222)
 replace hD := hD.alloc (.cells #[.int .u64 (wd (orP (sP 65 90) (sP 97 122)) 0), .int .u64 (wd (orP (sP 65 90) (sP 97 122)) 1), .int .u64 (wd (orP (sP 65 90) (sP 97 122)) 2), .int .u64 (wd (orP (sP 65 90) (sP 97 122)) 3)] 222)
 have hA := xac w4 (orP (sP 65 90) (sP 97 122)) 222
 replace hB := hB.alloc hB.size (.cells #[.int .u64 (wd (orP (sP 65 90) (sP 97 122)) 0), .int .u64 (wd (orP (sP 65 90) (sP 97 122)) 1), .int .u64 (wd (orP (sP 65 90) (sP 97 122)) 2), .int .u64 (wd (orP (sP 65 90) (sP 97 122)) 3)] 222)
 refine (orD _ _ _).mono ?_
 rintro e w5 ⟨rfl, hb5⟩
 replace hR := hR.below hb5 hR.lt
 replace hU := hU.below hb5 hU.lt
 replace hL := hL.below hb5 hL.lt
 replace hD := hD.below hb5 hD.lt
 replace hA := hA.below hb5 hA.lt
 replace hB := hB.trans (hb5.mono hB.size)
 clear hb5
 go_wp2_with fail
 replace hR := hR.alloc (.cells #[.int .u64 (wd (orP (orP (sP 65 90) (sP 97 122)) (sP 48 57)) 0), .int .u64 (wd (orP (orP (sP 65 90) (sP 97 122)) (sP 48 57)) 1), .int .u64 (wd (orP (orP (sP 65 90) (sP 97 122)) (sP 48 57)) 2), .int .u64 (wd (orP (orP (sP 65 90) (sP 97 122)) (sP 48 57)) 3)] 222)
 replace hU := hU.alloc (.cells #[.int .u64 (wd (orP (orP (sP 65 90) (sP 97 122)) (sP 48 57)) 0), .int .u64 (wd (orP (orP (sP 65 90) (sP 97 122)) (sP 48 57)) 1), .int .u64 (wd (orP (orP (sP 65 90) (sP 97 122)) (sP 48 57)) 2), .int .u64 (wd (orP (orP (sP 65 90) (sP 97 122)) (sP 48 57)) 3)] 222)
 replace hL := hL.alloc (.cells #[.int .u64 (wd (orP (orP (sP 65 90) (sP 97 122)) (sP 48 57)) 0), .int .u64 (wd (orP (orP (sP 65 90) (sP 97 122)) (sP 48 57)) 1), .int .u64 (wd (orP (orP (sP 65 90) (sP 97 122)) (sP 48 57)) 2), .int .u64 (wd (orP (orP (sP 65 90) (sP 97 122)) (sP 48 57)) 3)] 222)
 replace hD := hD.alloc (.cells #[.int .u64 (wd (orP (orP (sP 65 90) (sP 97 122)) (sP 48 57)) 0), .int .u64 (wd (orP (orP (sP 65 90) (sP 97 122)) (sP 48 57)) 1), .int .u64 (wd (orP (orP (sP 65 90) (sP 97 122)) (sP 48 57)) 2), .int .u64 (wd (orP (orP (sP 65 90) (sP 97 122)) (sP 48 57)) 3)] 222)
 replace hA := hA.alloc (.cells #[.int .u64 (wd (orP (orP (sP 65 90) (sP 97 122)) (sP 48 57)) 0), .int .u64 (wd (orP (orP (sP 65 90) (sP 97 122)) (sP 48 57)) 1), .int .u64 (wd (orP (orP (sP 65 90) (sP 97 122)) (sP 48 57)) 2), .int .u64 (wd (orP (orP (sP 65 90) (sP 97 122)) (sP 48 57)) 3)] 222)
 have hN := xac w5 (orP (orP (sP 65 90) (sP 97 122)) (sP 48 57)) 222
 replace hB := hB.alloc hB.size (.cells #[.int .u64 (wd (orP (orP (sP 65 90) (sP 97 122)) (sP 48 57)) 0), .int .u64 (wd (orP (orP (sP 65 90) (sP 97 122)) (sP 48 57)) 1), .int .u64 (wd (orP (orP (sP 65 90) (sP 97 122)) (sP 48 57)) 2), .int .u64 (wd (orP (orP (sP 65 90) (sP 97 122)) (sP 48 57)) 3)] 222)
 refine (xaf 33 126 (by omega) (by omega) (by omega) _).mono ?_
 rintro e w6 ⟨rfl, hb6⟩
 replace hR := hR.below hb6 hR.lt
 replace hU := hU.below hb6 hU.lt
 replace hL := hL.below hb6 hL.lt
 replace hD := hD.below hb6 hD.lt
 replace hA := hA.below hb6 hA.lt
 replace hN := hN.below hb6 hN.lt
 replace hB := hB.trans (hb6.mono hB.size)
 clear hb6
 obtain ⟨⟨v0, v1, v2, v3⟩, -⟩ := id hN
 have ltv := hN.lt
 obtain ⟨⟨z0, z1, z2, z3⟩, zf0, zf1, zf2, zf3⟩ := id hR
 have ltz := hR.lt
 go_wp2
 exact bodyPost_ret (v := .tuple #[.agg #[.int .u64 (wd (orP (orP (sP 65 90) (sP 97 122)) (sP 48 57)) 0), .int .u64 (wd (orP (orP (sP 65 90) (sP 97 122)) (sP 48 57)) 1), .int .u64 (wd (orP (orP (sP 65 90) (sP 97 122)) (sP 48 57)) 2), .int .u64 (wd (orP (orP (sP 65 90) (sP 97 122)) (sP 48 57)) 3)], .int .i64 0]) (by simp [results, Tryz.results278, go_sem, *]) rfl ⟨rfl, (xak hB (Nat.le_refl _) _).alloc (xak hB (Nat.le_refl _) _).size _⟩
theorem xkp (w : World) :
  Calls Tryz.prog 278 #[.string ⟨#[103, 114, 97, 112, 104]⟩] w fun e w' => e = .returned (.tuple #[.agg #[.int .u64 (wd (sP 33 126) 0), .int .u64 (wd (sP 33 126) 1), .int .u64 (wd (sP 33 126) 2), .int .u64 (wd (sP 33 126) 3)], .int .i64 0]) ∧ Below w.heap.size w w' := by
 go_enter Tryz.func278, Tryz.ntmps278
 go_wp2_with fail
 refine (xaf 65 90 (by omega) (by omega) (by omega) _).mono ?_
 rintro e w1 ⟨rfl, hb1⟩
 have hR := (xal w 222).below hb1 (by simp)
 have hB : Below w.heap.size w w1 := ((Below.refl _ _).alloc (Nat.le_refl _) _).trans (hb1.mono (by simp))
 clear hb1
 go_wp2_with fail
 refine (xaf 97 122 (by omega) (by omega) (by omega) _).mono ?_
 rintro e w2 ⟨rfl, hb2⟩
 replace hR := hR.below hb2 hR.lt
 replace hB := hB.trans (hb2.mono hB.size)
 clear hb2
 go_wp2_with fail
 refine (xaf 48 57 (by omega) (by omega) (by omega) _).mono ?_
 rintro e w3 ⟨rfl, hb3⟩
 replace hR := hR.below hb3 hR.lt
 replace hB := hB.trans (hb3.mono hB.size)
 clear hb3
 go_wp2_with fail
 replace hR : Holds4 (((w3.alloc (.cells #[.int .u64 (wd (sP 65 90) 0), .int .u64 (wd (sP 65 90) 1), .int .u64 (wd (sP 65 90) 2), .int .u64 (wd (sP 65 90) 3)] 222)).alloc (.cells #[.int .u64 (wd (sP 97 122) 0), .int .u64 (wd (sP 97 122) 1), .int .u64 (wd (sP 97 122) 2), .int .u64 (wd (sP 97 122) 3)] 222)).alloc (.cells #[.int .u64 (wd (sP 48 57) 0), .int .u64 (wd (sP 48 57) 1), .int .u64 (wd (sP 48 57) 2), .int .u64 (wd (sP 48 57) 3)] 222)) w.heap.size (fun _ => false) := ((hR.alloc _).alloc _).alloc _
 have hU : Holds4 (((w3.alloc (.cells #[.int .u64 (wd (sP 65 90) 0), .int .u64 (wd (sP 65 90) 1), .int .u64 (wd (sP 65 90) 2), .int .u64 (wd (sP 65 90) 3)] 222)).alloc (.cells #[.int .u64 (wd (sP 97 122) 0), .int .u64 (wd (sP 97 122) 1), .int .u64 (wd (sP 97 122) 2), .int .u64 (wd (sP 97 122) 3)] 222)).alloc (.cells #[.int .u64 (wd (sP 48 57) 0), .int .u64 (wd (sP 48 57) 1), .int .u64 (wd (sP 48 57) 2), .int .u64 (wd (sP 48 57) 3)] 222)) w3.heap.size (sP 65 90) := ((xac w3 (sP 65 90) 222).alloc _).alloc _
 have hL : Holds4 (((w3.alloc (.cells #[.int .u64 (wd (sP 65 90) 0), .int .u64 (wd (sP 65 90) 1), .int .u64 (wd (sP 65 90) 2), .int .u64 (wd (sP 65 90) 3)] 222)).alloc (.cells #[.int .u64 (wd (sP 97 122) 0), .int .u64 (wd (sP 97 122) 1), .int .u64 (wd (sP 97 122) 2), .int .u64 (wd (sP 97 122) 3)] 222)).alloc (.cells #[.int .u64 (wd (sP 48 57) 0), .int .u64 (wd (sP 48 57) 1), .int .u64 (wd (sP 48 57) 2), .int .u64 (wd (sP 48 57) 3)] 222)) (w3.heap.size + 1) (sP 97 122) := by
  have h := (xac (w3.alloc (.cells #[.int .u64 (wd (sP 65 90) 0), .int .u64 (wd (sP 65 90) 1), .int .u64 (wd (sP 65 90) 2), .int .u64 (wd (sP 65 90) 3)] 222)) (sP 97 122) 222).alloc (.cells #[.int .u64 (wd (sP 48 57) 0), .int .u64 (wd (sP 48 57) 1), .int .u64 (wd (sP 48 57) 2), .int .u64 (wd (sP 48 57) 3)] 222)
  rwa [World.size_alloc] at h
 have hD : Holds4 (((w3.alloc (.cells #[.int .u64 (wd (sP 65 90) 0), .int .u64 (wd (sP 65 90) 1), .int .u64 (wd (sP 65 90) 2), .int .u64 (wd (sP 65 90) 3)] 222)).alloc (.cells #[.int .u64 (wd (sP 97 122) 0), .int .u64 (wd (sP 97 122) 1), .int .u64 (wd (sP 97 122) 2), .int .u64 (wd (sP 97 122) 3)] 222)).alloc (.cells #[.int .u64 (wd (sP 48 57) 0), .int .u64 (wd (sP 48 57) 1), .int .u64 (wd (sP 48 57) 2), .int .u64 (wd (sP 48 57) 3)] 222)) (w3.heap.size + 1 + 1) (sP 48 57) := by
  have h := xac ((w3.alloc (.cells #[.int .u64 (wd (sP 65 90) 0), .int .u64 (wd (sP 65 90) 1), .int .u64 (wd (sP 65 90) 2), .int .u64 (wd (sP 65 90) 3)] 222)).alloc (.cells #[.int .u64 (wd (sP 97 122) 0), .int .u64 (wd (sP 97 122) 1), .int .u64 (wd (sP 97 122) 2), .int .u64 (wd (sP 97 122) 3)] 222)) (sP 48 57) 222
  rwa [World.size_alloc, World.size_alloc] at h
 replace hB : Below w.heap.size w (((w3.alloc (.cells #[.int .u64 (wd (sP 65 90) 0), .int .u64 (wd (sP 65 90) 1), .int .u64 (wd (sP 65 90) 2), .int .u64 (wd (sP 65 90) 3)] 222)).alloc (.cells #[.int .u64 (wd (sP 97 122) 0), .int .u64 (wd (sP 97 122) 1), .int .u64 (wd (sP 97 122) 2), .int .u64 (wd (sP 97 122) 3)] 222)).alloc (.cells #[.int .u64 (wd (sP 48 57) 0), .int .u64 (wd (sP 48 57) 1), .int .u64 (wd (sP 48 57) 2), .int .u64 (wd (sP 48 57) 3)] 222)) := ((hB.alloc hB.size _).alloc (by have := hB.size; simp; omega) _).alloc (by have := hB.size; simp; omega) _
 refine (orD _ _ _).mono ?_
 rintro e w4 ⟨rfl, hb4⟩
 replace hR := hR.below hb4 hR.lt
 replace hU := hU.below hb4 hU.lt
 replace hL := hL.below hb4 hL.lt
 replace hD := hD.below hb4 hD.lt
 replace hB := hB.trans (hb4.mono hB.size)
 clear hb4
 obtain ⟨⟨d0, d1, d2, d3⟩, -⟩ := id hD
 have lt := hD.lt
 go_wp2_with fail
 clear d0 d1 d2 d3 lt
 replace hR := hR.alloc (.cells #[.int .u64 (wd (orP (sP 65 90) (sP 97 122)) 0), .int .u64 (wd (orP (sP 65 90) (sP 97 122)) 1), .int .u64 (wd (orP (sP 65 90) (sP 97 122)) 2), .int .u64 (wd (orP (sP 65 90) (sP 97 122)) 3)] 222)
 replace hU := hU.alloc (.cells #[.int .u64 (wd (orP (sP 65 90) (sP 97 122)) 0), .int .u64 (wd (orP (sP 65 90) (sP 97 122)) 1), .int .u64 (wd (orP (sP 65 90) (sP 97 122)) 2), .int .u64 (wd (orP (sP 65 90) (sP 97 122)) 3)] 222)
 replace hL := hL.alloc (.cells #[.int .u64 (wd (orP (sP 65 90) (sP 97 122)) 0), .int .u64 (wd (orP (sP 65 90) (sP 97 122)) 1), .int .u64 (wd (orP (sP 65 90) (sP 97 122)) 2), .int .u64 (wd (orP (sP 65 90) (sP 97 122)) 3)] 222)
 replace hD := hD.alloc (.cells #[.int .u64 (wd (orP (sP 65 90) (sP 97 122)) 0), .int .u64 (wd (orP (sP 65 90) (sP 97 122)) 1), .int .u64 (wd (orP (sP 65 90) (sP 97 122)) 2), .int .u64 (wd (orP (sP 65 90) (sP 97 122)) 3)] 222)
 have hA := xac w4 (orP (sP 65 90) (sP 97 122)) 222
 replace hB := hB.alloc hB.size (.cells #[.int .u64 (wd (orP (sP 65 90) (sP 97 122)) 0), .int .u64 (wd (orP (sP 65 90) (sP 97 122)) 1), .int .u64 (wd (orP (sP 65 90) (sP 97 122)) 2), .int .u64 (wd (orP (sP 65 90) (sP 97 122)) 3)] 222)
 refine (orD _ _ _).mono ?_
 rintro e w5 ⟨rfl, hb5⟩
 replace hR := hR.below hb5 hR.lt
 replace hU := hU.below hb5 hU.lt
 replace hL := hL.below hb5 hL.lt
 replace hD := hD.below hb5 hD.lt
 replace hA := hA.below hb5 hA.lt
 replace hB := hB.trans (hb5.mono hB.size)
 clear hb5
 go_wp2_with fail
 replace hR := hR.alloc (.cells #[.int .u64 (wd (orP (orP (sP 65 90) (sP 97 122)) (sP 48 57)) 0), .int .u64 (wd (orP (orP (sP 65 90) (sP 97 122)) (sP 48 57)) 1), .int .u64 (wd (orP (orP (sP 65 90) (sP 97 122)) (sP 48 57)) 2), .int .u64 (wd (orP (orP (sP 65 90) (sP 97 122)) (sP 48 57)) 3)] 222)
 replace hU := hU.alloc (.cells #[.int .u64 (wd (orP (orP (sP 65 90) (sP 97 122)) (sP 48 57)) 0), .int .u64 (wd (orP (orP (sP 65 90) (sP 97 122)) (sP 48 57)) 1), .int .u64 (wd (orP (orP (sP 65 90) (sP 97 122)) (sP 48 57)) 2), .int .u64 (wd (orP (orP (sP 65 90) (sP 97 122)) (sP 48 57)) 3)] 222)
 replace hL := hL.alloc (.cells #[.int .u64 (wd (orP (orP (sP 65 90) (sP 97 122)) (sP 48 57)) 0), .int .u64 (wd (orP (orP (sP 65 90) (sP 97 122)) (sP 48 57)) 1), .int .u64 (wd (orP (orP (sP 65 90) (sP 97 122)) (sP 48 57)) 2), .int .u64 (wd (orP (orP (sP 65 90) (sP 97 122)) (sP 48 57)) 3)] 222)
 replace hD := hD.alloc (.cells #[.int .u64 (wd (orP (orP (sP 65 90) (sP 97 122)) (sP 48 57)) 0), .int .u64 (wd (orP (orP (sP 65 90) (sP 97 122)) (sP 48 57)) 1), .int .u64 (wd (orP (orP (sP 65 90) (sP 97 122)) (sP 48 57)) 2), .int .u64 (wd (orP (orP (sP 65 90) (sP 97 122)) (sP 48 57)) 3)] 222)
 replace hA := hA.alloc (.cells #[.int .u64 (wd (orP (orP (sP 65 90) (sP 97 122)) (sP 48 57)) 0), .int .u64 (wd (orP (orP (sP 65 90) (sP 97 122)) (sP 48 57)) 1), .int .u64 (wd (orP (orP (sP 65 90) (sP 97 122)) (sP 48 57)) 2), .int .u64 (wd (orP (orP (sP 65 90) (sP 97 122)) (sP 48 57)) 3)] 222)
 have hN := xac w5 (orP (orP (sP 65 90) (sP 97 122)) (sP 48 57)) 222
 replace hB := hB.alloc hB.size (.cells #[.int .u64 (wd (orP (orP (sP 65 90) (sP 97 122)) (sP 48 57)) 0), .int .u64 (wd (orP (orP (sP 65 90) (sP 97 122)) (sP 48 57)) 1), .int .u64 (wd (orP (orP (sP 65 90) (sP 97 122)) (sP 48 57)) 2), .int .u64 (wd (orP (orP (sP 65 90) (sP 97 122)) (sP 48 57)) 3)] 222)
 refine (xaf 33 126 (by omega) (by omega) (by omega) _).mono ?_
 rintro e w6 ⟨rfl, hb6⟩
 replace hR := hR.below hb6 hR.lt
 replace hU := hU.below hb6 hU.lt
 replace hL := hL.below hb6 hL.lt
 replace hD := hD.below hb6 hD.lt
 replace hA := hA.below hb6 hA.lt
 replace hN := hN.below hb6 hN.lt
 replace hB := hB.trans (hb6.mono hB.size)
 clear hb6
 obtain ⟨⟨z0, z1, z2, z3⟩, zf0, zf1, zf2, zf3⟩ := id hR
 have ltz := hR.lt
 go_wp2
 exact bodyPost_ret (v := .tuple #[.agg #[.int .u64 (wd (sP 33 126) 0), .int .u64 (wd (sP 33 126) 1), .int .u64 (wd (sP 33 126) 2), .int .u64 (wd (sP 33 126) 3)], .int .i64 0]) (by simp [results, Tryz.results278, go_sem, *]) rfl ⟨rfl, (xak hB (Nat.le_refl _) _).alloc (xak hB (Nat.le_refl _) _).size _⟩
theorem xkq (w : World) :
  Calls Tryz.prog 278 #[.string ⟨#[98, 108, 97, 110, 107]⟩] w fun e w' => e = .returned (.tuple #[.agg #[.int .u64 (wd (ofP ⟨#[32, 9]⟩) 0), .int .u64 (wd (ofP ⟨#[32, 9]⟩) 1), .int .u64 (wd (ofP ⟨#[32, 9]⟩) 2), .int .u64 (wd (ofP ⟨#[32, 9]⟩) 3)], .int .i64 0]) ∧ Below w.heap.size w w' := by
 go_enter Tryz.func278, Tryz.ntmps278
 go_wp2_with fail
 refine (xaf 65 90 (by omega) (by omega) (by omega) _).mono ?_
 rintro e w1 ⟨rfl, hb1⟩
 have hR := (xal w 222).below hb1 (by simp)
 have hB : Below w.heap.size w w1 := ((Below.refl _ _).alloc (Nat.le_refl _) _).trans (hb1.mono (by simp))
 clear hb1
 go_wp2_with fail
 refine (xaf 97 122 (by omega) (by omega) (by omega) _).mono ?_
 rintro e w2 ⟨rfl, hb2⟩
 replace hR := hR.below hb2 hR.lt
 replace hB := hB.trans (hb2.mono hB.size)
 clear hb2
 go_wp2_with fail
 refine (xaf 48 57 (by omega) (by omega) (by omega) _).mono ?_
 rintro e w3 ⟨rfl, hb3⟩
 replace hR := hR.below hb3 hR.lt
 replace hB := hB.trans (hb3.mono hB.size)
 clear hb3
 go_wp2_with fail
 replace hR : Holds4 (((w3.alloc (.cells #[.int .u64 (wd (sP 65 90) 0), .int .u64 (wd (sP 65 90) 1), .int .u64 (wd (sP 65 90) 2), .int .u64 (wd (sP 65 90) 3)] 222)).alloc (.cells #[.int .u64 (wd (sP 97 122) 0), .int .u64 (wd (sP 97 122) 1), .int .u64 (wd (sP 97 122) 2), .int .u64 (wd (sP 97 122) 3)] 222)).alloc (.cells #[.int .u64 (wd (sP 48 57) 0), .int .u64 (wd (sP 48 57) 1), .int .u64 (wd (sP 48 57) 2), .int .u64 (wd (sP 48 57) 3)] 222)) w.heap.size (fun _ => false) := ((hR.alloc _).alloc _).alloc _
 have hU : Holds4 (((w3.alloc (.cells #[.int .u64 (wd (sP 65 90) 0), .int .u64 (wd (sP 65 90) 1), .int .u64 (wd (sP 65 90) 2), .int .u64 (wd (sP 65 90) 3)] 222)).alloc (.cells #[.int .u64 (wd (sP 97 122) 0), .int .u64 (wd (sP 97 122) 1), .int .u64 (wd (sP 97 122) 2), .int .u64 (wd (sP 97 122) 3)] 222)).alloc (.cells #[.int .u64 (wd (sP 48 57) 0), .int .u64 (wd (sP 48 57) 1), .int .u64 (wd (sP 48 57) 2), .int .u64 (wd (sP 48 57) 3)] 222)) w3.heap.size (sP 65 90) := ((xac w3 (sP 65 90) 222).alloc _).alloc _
 have hL : Holds4 (((w3.alloc (.cells #[.int .u64 (wd (sP 65 90) 0), .int .u64 (wd (sP 65 90) 1), .int .u64 (wd (sP 65 90) 2), .int .u64 (wd (sP 65 90) 3)] 222)).alloc (.cells #[.int .u64 (wd (sP 97 122) 0), .int .u64 (wd (sP 97 122) 1), .int .u64 (wd (sP 97 122) 2), .int .u64 (wd (sP 97 122) 3)] 222)).alloc (.cells #[.int .u64 (wd (sP 48 57) 0), .int .u64 (wd (sP 48 57) 1), .int .u64 (wd (sP 48 57) 2), .int .u64 (wd (sP 48 57) 3)] 222)) (w3.heap.size + 1) (sP 97 122) := by
  have h := (xac (w3.alloc (.cells #[.int .u64 (wd (sP 65 90) 0), .int .u64 (wd (sP 65 90) 1), .int .u64 (wd (sP 65 90) 2), .int .u64 (wd (sP 65 90) 3)] 222)) (sP 97 122) 222).alloc (.cells #[.int .u64 (wd (sP 48 57) 0), .int .u64 (wd (sP 48 57) 1), .int .u64 (wd (sP 48 57) 2), .int .u64 (wd (sP 48 57) 3)] 222)
  rwa [World.size_alloc] at h
 have hD : Holds4 (((w3.alloc (.cells #[.int .u64 (wd (sP 65 90) 0), .int .u64 (wd (sP 65 90) 1), .int .u64 (wd (sP 65 90) 2), .int .u64 (wd (sP 65 90) 3)] 222)).alloc (.cells #[.int .u64 (wd (sP 97 122) 0), .int .u64 (wd (sP 97 122) 1), .int .u64 (wd (sP 97 122) 2), .int .u64 (wd (sP 97 122) 3)] 222)).alloc (.cells #[.int .u64 (wd (sP 48 57) 0), .int .u64 (wd (sP 48 57) 1), .int .u64 (wd (sP 48 57) 2), .int .u64 (wd (sP 48 57) 3)] 222)) (w3.heap.size + 1 + 1) (sP 48 57) := by
  have h := xac ((w3.alloc (.cells #[.int .u64 (wd (sP 65 90) 0), .int .u64 (wd (sP 65 90) 1), .int .u64 (wd (sP 65 90) 2), .int .u64 (wd (sP 65 90) 3)] 222)).alloc (.cells #[.int .u64 (wd (sP 97 122) 0), .int .u64 (wd (sP 97 122) 1), .int .u64 (wd (sP 97 122) 2), .int .u64 (wd (sP 97 122) 3)] 222)) (sP 48 57) 222
  rwa [World.size_alloc, World.size_alloc] at h
 replace hB : Below w.heap.size w (((w3.alloc (.cells #[.int .u64 (wd (sP 65 90) 0), .int .u64 (wd (sP 65 90) 1), .int .u64 (wd (sP 65 90) 2), .int .u64 (wd (sP 65 90) 3)] 222)).alloc (.cells #[.int .u64 (wd (sP 97 122) 0), .int .u64 (wd (sP 97 122) 1), .int .u64 (wd (sP 97 122) 2), .int .u64 (wd (sP 97 122) 3)] 222)).alloc (.cells #[.int .u64 (wd (sP 48 57) 0), .int .u64 (wd (sP 48 57) 1), .int .u64 (wd (sP 48 57) 2), .int .u64 (wd (sP 48 57) 3)] 222)) := ((hB.alloc hB.size _).alloc (by have := hB.size; simp; omega) _).alloc (by have := hB.size; simp; omega) _
 refine (orD _ _ _).mono ?_
 rintro e w4 ⟨rfl, hb4⟩
 replace hR := hR.below hb4 hR.lt
 replace hU := hU.below hb4 hU.lt
 replace hL := hL.below hb4 hL.lt
 replace hD := hD.below hb4 hD.lt
 replace hB := hB.trans (hb4.mono hB.size)
 clear hb4
 obtain ⟨⟨d0, d1, d2, d3⟩, -⟩ := id hD
 have lt := hD.lt
 go_wp2_with fail
 clear d0 d1 d2 d3 lt
 replace hR := hR.alloc (.cells #[.int .u64 (wd (orP (sP 65 90) (sP 97 122)) 0), .int .u64 (wd (orP (sP 65 90) (sP 97 122)) 1), .int .u64 (wd (orP (sP 65 90) (sP 97 122)) 2), .int .u64 (wd (orP (sP 65 90) (sP 97 122)) 3)] 222)
 replace hU := hU.alloc (.cells #[.int .u64 (wd (orP (sP 65 90) (sP 97 122)) 0), .int .u64 (wd (orP (sP 65 90) (sP 97 122)) 1), .int .u64 (wd (orP (sP 65 90) (sP 97 122)) 2), .int .u64 (wd (orP (sP 65 90) (sP 97 122)) 3)] 222)
 replace hL := hL.alloc (.cells #[.int .u64 (wd (orP (sP 65 90) (sP 97 122)) 0), .int .u64 (wd (orP (sP 65 90) (sP 97 122)) 1), .int .u64 (wd (orP (sP 65 90) (sP 97 122)) 2), .int .u64 (wd (orP (sP 65 90) (sP 97 122)) 3)] 222)
 replace hD := hD.alloc (.cells #[.int .u64 (wd (orP (sP 65 90) (sP 97 122)) 0), .int .u64 (wd (orP (sP 65 90) (sP 97 122)) 1), .int .u64 (wd (orP (sP 65 90) (sP 97 122)) 2), .int .u64 (wd (orP (sP 65 90) (sP 97 122)) 3)] 222)
 have hA := xac w4 (orP (sP 65 90) (sP 97 122)) 222
 replace hB := hB.alloc hB.size (.cells #[.int .u64 (wd (orP (sP 65 90) (sP 97 122)) 0), .int .u64 (wd (orP (sP 65 90) (sP 97 122)) 1), .int .u64 (wd (orP (sP 65 90) (sP 97 122)) 2), .int .u64 (wd (orP (sP 65 90) (sP 97 122)) 3)] 222)
 refine (orD _ _ _).mono ?_
 rintro e w5 ⟨rfl, hb5⟩
 replace hR := hR.below hb5 hR.lt
 replace hU := hU.below hb5 hU.lt
 replace hL := hL.below hb5 hL.lt
 replace hD := hD.below hb5 hD.lt
 replace hA := hA.below hb5 hA.lt
 replace hB := hB.trans (hb5.mono hB.size)
 clear hb5
 go_wp2_with fail
 replace hR := hR.alloc (.cells #[.int .u64 (wd (orP (orP (sP 65 90) (sP 97 122)) (sP 48 57)) 0), .int .u64 (wd (orP (orP (sP 65 90) (sP 97 122)) (sP 48 57)) 1), .int .u64 (wd (orP (orP (sP 65 90) (sP 97 122)) (sP 48 57)) 2), .int .u64 (wd (orP (orP (sP 65 90) (sP 97 122)) (sP 48 57)) 3)] 222)
 replace hU := hU.alloc (.cells #[.int .u64 (wd (orP (orP (sP 65 90) (sP 97 122)) (sP 48 57)) 0), .int .u64 (wd (orP (orP (sP 65 90) (sP 97 122)) (sP 48 57)) 1), .int .u64 (wd (orP (orP (sP 65 90) (sP 97 122)) (sP 48 57)) 2), .int .u64 (wd (orP (orP (sP 65 90) (sP 97 122)) (sP 48 57)) 3)] 222)
 replace hL := hL.alloc (.cells #[.int .u64 (wd (orP (orP (sP 65 90) (sP 97 122)) (sP 48 57)) 0), .int .u64 (wd (orP (orP (sP 65 90) (sP 97 122)) (sP 48 57)) 1), .int .u64 (wd (orP (orP (sP 65 90) (sP 97 122)) (sP 48 57)) 2), .int .u64 (wd (orP (orP (sP 65 90) (sP 97 122)) (sP 48 57)) 3)] 222)
 replace hD := hD.alloc (.cells #[.int .u64 (wd (orP (orP (sP 65 90) (sP 97 122)) (sP 48 57)) 0), .int .u64 (wd (orP (orP (sP 65 90) (sP 97 122)) (sP 48 57)) 1), .int .u64 (wd (orP (orP (sP 65 90) (sP 97 122)) (sP 48 57)) 2), .int .u64 (wd (orP (orP (sP 65 90) (sP 97 122)) (sP 48 57)) 3)] 222)
 replace hA := hA.alloc (.cells #[.int .u64 (wd (orP (orP (sP 65 90) (sP 97 122)) (sP 48 57)) 0), .int .u64 (wd (orP (orP (sP 65 90) (sP 97 122)) (sP 48 57)) 1), .int .u64 (wd (orP (orP (sP 65 90) (sP 97 122)) (sP 48 57)) 2), .int .u64 (wd (orP (orP (sP 65 90) (sP 97 122)) (sP 48 57)) 3)] 222)
 have hN := xac w5 (orP (orP (sP 65 90) (sP 97 122)) (sP 48 57)) 222
 replace hB := hB.alloc hB.size (.cells #[.int .u64 (wd (orP (orP (sP 65 90) (sP 97 122)) (sP 48 57)) 0), .int .u64 (wd (orP (orP (sP 65 90) (sP 97 122)) (sP 48 57)) 1), .int .u64 (wd (orP (orP (sP 65 90) (sP 97 122)) (sP 48 57)) 2), .int .u64 (wd (orP (orP (sP 65 90) (sP 97 122)) (sP 48 57)) 3)] 222)
 refine (xaf 33 126 (by omega) (by omega) (by omega) _).mono ?_
 rintro e w6 ⟨rfl, hb6⟩
 replace hR := hR.below hb6 hR.lt
 replace hU := hU.below hb6 hU.lt
 replace hL := hL.below hb6 hL.lt
 replace hD := hD.below hb6 hD.lt
 replace hA := hA.below hb6 hA.lt
 replace hN := hN.below hb6 hN.lt
 replace hB := hB.trans (hb6.mono hB.size)
 clear hb6
 have ltz := hR.lt
 go_wp2_with fail
 replace hR := hR.alloc (.cells #[.int .u64 (wd (sP 33 126) 0), .int .u64 (wd (sP 33 126) 1), .int .u64 (wd (sP 33 126) 2), .int .u64 (wd (sP 33 126) 3)] 222)
 replace hB := hB.alloc hB.size (.cells #[.int .u64 (wd (sP 33 126) 0), .int .u64 (wd (sP 33 126) 1), .int .u64 (wd (sP 33 126) 2), .int .u64 (wd (sP 33 126) 3)] 222)
 refine (ofD ⟨#[32, 9]⟩ (by decide) _).mono ?_
 rintro e v0 ⟨rfl, hb⟩
 replace hR := hR.below hb hR.lt
 replace hB := hB.trans (hb.mono hB.size)
 clear hb
 obtain ⟨⟨z0, z1, z2, z3⟩, zf0, zf1, zf2, zf3⟩ := id hR
 go_wp2
 exact bodyPost_ret (v := .tuple #[.agg #[.int .u64 (wd (ofP ⟨#[32, 9]⟩) 0), .int .u64 (wd (ofP ⟨#[32, 9]⟩) 1), .int .u64 (wd (ofP ⟨#[32, 9]⟩) 2), .int .u64 (wd (ofP ⟨#[32, 9]⟩) 3)], .int .i64 0]) (by simp [results, Tryz.results278, go_sem, *]) rfl ⟨rfl, xak hB (by omega) _⟩
theorem xkr (w : World) :
  Calls Tryz.prog 278 #[.string ⟨#[115, 112, 97, 99, 101]⟩] w fun e w' => e = .returned (.tuple #[.agg #[.int .u64 (wd (ins (sP 9 13) 32) 0), .int .u64 (wd (ins (sP 9 13) 32) 1), .int .u64 (wd (ins (sP 9 13) 32) 2), .int .u64 (wd (ins (sP 9 13) 32) 3)], .int .i64 0]) ∧ Below w.heap.size w w' := by
 go_enter Tryz.func278, Tryz.ntmps278
 go_wp2_with fail
 refine (xaf 65 90 (by omega) (by omega) (by omega) _).mono ?_
 rintro e w1 ⟨rfl, hb1⟩
 have hR := (xal w 222).below hb1 (by simp)
 have hB : Below w.heap.size w w1 := ((Below.refl _ _).alloc (Nat.le_refl _) _).trans (hb1.mono (by simp))
 clear hb1
 go_wp2_with fail
 refine (xaf 97 122 (by omega) (by omega) (by omega) _).mono ?_
 rintro e w2 ⟨rfl, hb2⟩
 replace hR := hR.below hb2 hR.lt
 replace hB := hB.trans (hb2.mono hB.size)
 clear hb2
 go_wp2_with fail
 refine (xaf 48 57 (by omega) (by omega) (by omega) _).mono ?_
 rintro e w3 ⟨rfl, hb3⟩
 replace hR := hR.below hb3 hR.lt
 replace hB := hB.trans (hb3.mono hB.size)
 clear hb3
 go_wp2_with fail
 replace hR : Holds4 (((w3.alloc (.cells #[.int .u64 (wd (sP 65 90) 0), .int .u64 (wd (sP 65 90) 1), .int .u64 (wd (sP 65 90) 2), .int .u64 (wd (sP 65 90) 3)] 222)).alloc (.cells #[.int .u64 (wd (sP 97 122) 0), .int .u64 (wd (sP 97 122) 1), .int .u64 (wd (sP 97 122) 2), .int .u64 (wd (sP 97 122) 3)] 222)).alloc (.cells #[.int .u64 (wd (sP 48 57) 0), .int .u64 (wd (sP 48 57) 1), .int .u64 (wd (sP 48 57) 2), .int .u64 (wd (sP 48 57) 3)] 222)) w.heap.size (fun _ => false) := ((hR.alloc _).alloc _).alloc _
 have hU : Holds4 (((w3.alloc (.cells #[.int .u64 (wd (sP 65 90) 0), .int .u64 (wd (sP 65 90) 1), .int .u64 (wd (sP 65 90) 2), .int .u64 (wd (sP 65 90) 3)] 222)).alloc (.cells #[.int .u64 (wd (sP 97 122) 0), .int .u64 (wd (sP 97 122) 1), .int .u64 (wd (sP 97 122) 2), .int .u64 (wd (sP 97 122) 3)] 222)).alloc (.cells #[.int .u64 (wd (sP 48 57) 0), .int .u64 (wd (sP 48 57) 1), .int .u64 (wd (sP 48 57) 2), .int .u64 (wd (sP 48 57) 3)] 222)) w3.heap.size (sP 65 90) := ((xac w3 (sP 65 90) 222).alloc _).alloc _
 have hL : Holds4 (((w3.alloc (.cells #[.int .u64 (wd (sP 65 90) 0), .int .u64 (wd (sP 65 90) 1), .int .u64 (wd (sP 65 90) 2), .int .u64 (wd (sP 65 90) 3)] 222)).alloc (.cells #[.int .u64 (wd (sP 97 122) 0), .int .u64 (wd (sP 97 122) 1), .int .u64 (wd (sP 97 122) 2), .int .u64 (wd (sP 97 122) 3)] 222)).alloc (.cells #[.int .u64 (wd (sP 48 57) 0), .int .u64 (wd (sP 48 57) 1), .int .u64 (wd (sP 48 57) 2), .int .u64 (wd (sP 48 57) 3)] 222)) (w3.heap.size + 1) (sP 97 122) := by
  have h := (xac (w3.alloc (.cells #[.int .u64 (wd (sP 65 90) 0), .int .u64 (wd (sP 65 90) 1), .int .u64 (wd (sP 65 90) 2), .int .u64 (wd (sP 65 90) 3)] 222)) (sP 97 122) 222).alloc (.cells #[.int .u64 (wd (sP 48 57) 0), .int .u64 (wd (sP 48 57) 1), .int .u64 (wd (sP 48 57) 2), .int .u64 (wd (sP 48 57) 3)] 222)
  rwa [World.size_alloc] at h
 have hD : Holds4 (((w3.alloc (.cells #[.int .u64 (wd (sP 65 90) 0), .int .u64 (wd (sP 65 90) 1), .int .u64 (wd (sP 65 90) 2), .int .u64 (wd (sP 65 90) 3)] 222)).alloc (.cells #[.int .u64 (wd (sP 97 122) 0), .int .u64 (wd (sP 97 122) 1), .int .u64 (wd (sP 97 122) 2), .int .u64 (wd (sP 97 122) 3)] 222)).alloc (.cells #[.int .u64 (wd (sP 48 57) 0), .int .u64 (wd (sP 48 57) 1), .int .u64 (wd (sP 48 57) 2), .int .u64 (wd (sP 48 57) 3)] 222)) (w3.heap.size + 1 + 1) (sP 48 57) := by
  have h := xac ((w3.alloc (.cells #[.int .u64 (wd (sP 65 90) 0), .int .u64 (wd (sP 65 90) 1), .int .u64 (wd (sP 65 90) 2), .int .u64 (wd (sP 65 90) 3)] 222)).alloc (.cells #[.int .u64 (wd (sP 97 122) 0), .int .u64 (wd (sP 97 122) 1), .int .u64 (wd (sP 97 122) 2), .int .u64 (wd (sP 97 122) 3)] 222)) (sP 48 57) 222
  rwa [World.size_alloc, World.size_alloc] at h
 replace hB : Below w.heap.size w (((w3.alloc (.cells #[.int .u64 (wd (sP 65 90) 0), .int .u64 (wd (sP 65 90) 1), .int .u64 (wd (sP 65 90) 2), .int .u64 (wd (sP 65 90) 3)] 222)).alloc (.cells #[.int .u64 (wd (sP 97 122) 0), .int .u64 (wd (sP 97 122) 1), .int .u64 (wd (sP 97 122) 2), .int .u64 (wd (sP 97 122) 3)] 222)).alloc (.cells #[.int .u64 (wd (sP 48 57) 0), .int .u64 (wd (sP 48 57) 1), .int .u64 (wd (sP 48 57) 2), .int .u64 (wd (sP 48 57) 3)] 222)) := ((hB.alloc hB.size _).alloc (by have := hB.size; simp; omega) _).alloc (by have := hB.size; simp; omega) _
 refine (orD _ _ _).mono ?_
 rintro e w4 ⟨rfl, hb4⟩
 replace hR := hR.below hb4 hR.lt
 replace hU := hU.below hb4 hU.lt
 replace hL := hL.below hb4 hL.lt
 replace hD := hD.below hb4 hD.lt
 replace hB := hB.trans (hb4.mono hB.size)
 clear hb4
 obtain ⟨⟨d0, d1, d2, d3⟩, -⟩ := id hD
 have lt := hD.lt
 go_wp2_with fail
 clear d0 d1 d2 d3 lt
 replace hR := hR.alloc (.cells #[.int .u64 (wd (orP (sP 65 90) (sP 97 122)) 0), .int .u64 (wd (orP (sP 65 90) (sP 97 122)) 1), .int .u64 (wd (orP (sP 65 90) (sP 97 122)) 2), .int .u64 (wd (orP (sP 65 90) (sP 97 122)) 3)] 222)
 replace hU := hU.alloc (.cells #[.int .u64 (wd (orP (sP 65 90) (sP 97 122)) 0), .int .u64 (wd (orP (sP 65 90) (sP 97 122)) 1), .int .u64 (wd (orP (sP 65 90) (sP 97 122)) 2), .int .u64 (wd (orP (sP 65 90) (sP 97 122)) 3)] 222)
 replace hL := hL.alloc (.cells #[.int .u64 (wd (orP (sP 65 90) (sP 97 122)) 0), .int .u64 (wd (orP (sP 65 90) (sP 97 122)) 1), .int .u64 (wd (orP (sP 65 90) (sP 97 122)) 2), .int .u64 (wd (orP (sP 65 90) (sP 97 122)) 3)] 222)
 replace hD := hD.alloc (.cells #[.int .u64 (wd (orP (sP 65 90) (sP 97 122)) 0), .int .u64 (wd (orP (sP 65 90) (sP 97 122)) 1), .int .u64 (wd (orP (sP 65 90) (sP 97 122)) 2), .int .u64 (wd (orP (sP 65 90) (sP 97 122)) 3)] 222)
 have hA := xac w4 (orP (sP 65 90) (sP 97 122)) 222
 replace hB := hB.alloc hB.size (.cells #[.int .u64 (wd (orP (sP 65 90) (sP 97 122)) 0), .int .u64 (wd (orP (sP 65 90) (sP 97 122)) 1), .int .u64 (wd (orP (sP 65 90) (sP 97 122)) 2), .int .u64 (wd (orP (sP 65 90) (sP 97 122)) 3)] 222)
 refine (orD _ _ _).mono ?_
 rintro e w5 ⟨rfl, hb5⟩
 replace hR := hR.below hb5 hR.lt
 replace hU := hU.below hb5 hU.lt
 replace hL := hL.below hb5 hL.lt
 replace hD := hD.below hb5 hD.lt
 replace hA := hA.below hb5 hA.lt
 replace hB := hB.trans (hb5.mono hB.size)
 clear hb5
 go_wp2_with fail
 replace hR := hR.alloc (.cells #[.int .u64 (wd (orP (orP (sP 65 90) (sP 97 122)) (sP 48 57)) 0), .int .u64 (wd (orP (orP (sP 65 90) (sP 97 122)) (sP 48 57)) 1), .int .u64 (wd (orP (orP (sP 65 90) (sP 97 122)) (sP 48 57)) 2), .int .u64 (wd (orP (orP (sP 65 90) (sP 97 122)) (sP 48 57)) 3)] 222)
 replace hU := hU.alloc (.cells #[.int .u64 (wd (orP (orP (sP 65 90) (sP 97 122)) (sP 48 57)) 0), .int .u64 (wd (orP (orP (sP 65 90) (sP 97 122)) (sP 48 57)) 1), .int .u64 (wd (orP (orP (sP 65 90) (sP 97 122)) (sP 48 57)) 2), .int .u64 (wd (orP (orP (sP 65 90) (sP 97 122)) (sP 48 57)) 3)] 222)
 replace hL := hL.alloc (.cells #[.int .u64 (wd (orP (orP (sP 65 90) (sP 97 122)) (sP 48 57)) 0), .int .u64 (wd (orP (orP (sP 65 90) (sP 97 122)) (sP 48 57)) 1), .int .u64 (wd (orP (orP (sP 65 90) (sP 97 122)) (sP 48 57)) 2), .int .u64 (wd (orP (orP (sP 65 90) (sP 97 122)) (sP 48 57)) 3)] 222)
 replace hD := hD.alloc (.cells #[.int .u64 (wd (orP (orP (sP 65 90) (sP 97 122)) (sP 48 57)) 0), .int .u64 (wd (orP (orP (sP 65 90) (sP 97 122)) (sP 48 57)) 1), .int .u64 (wd (orP (orP (sP 65 90) (sP 97 122)) (sP 48 57)) 2), .int .u64 (wd (orP (orP (sP 65 90) (sP 97 122)) (sP 48 57)) 3)] 222)
 replace hA := hA.alloc (.cells #[.int .u64 (wd (orP (orP (sP 65 90) (sP 97 122)) (sP 48 57)) 0), .int .u64 (wd (orP (orP (sP 65 90) (sP 97 122)) (sP 48 57)) 1), .int .u64 (wd (orP (orP (sP 65 90) (sP 97 122)) (sP 48 57)) 2), .int .u64 (wd (orP (orP (sP 65 90) (sP 97 122)) (sP 48 57)) 3)] 222)
 have hN := xac w5 (orP (orP (sP 65 90) (sP 97 122)) (sP 48 57)) 222
 replace hB := hB.alloc hB.size (.cells #[.int .u64 (wd (orP (orP (sP 65 90) (sP 97 122)) (sP 48 57)) 0), .int .u64 (wd (orP (orP (sP 65 90) (sP 97 122)) (sP 48 57)) 1), .int .u64 (wd (orP (orP (sP 65 90) (sP 97 122)) (sP 48 57)) 2), .int .u64 (wd (orP (orP (sP 65 90) (sP 97 122)) (sP 48 57)) 3)] 222)
 refine (xaf 33 126 (by omega) (by omega) (by omega) _).mono ?_
 rintro e w6 ⟨rfl, hb6⟩
 replace hR := hR.below hb6 hR.lt
 replace hU := hU.below hb6 hU.lt
 replace hL := hL.below hb6 hL.lt
 replace hD := hD.below hb6 hD.lt
 replace hA := hA.below hb6 hA.lt
 replace hN := hN.below hb6 hN.lt
 replace hB := hB.trans (hb6.mono hB.size)
 clear hb6
 have ltz := hR.lt
 go_wp2_with fail
 replace hR := hR.alloc (.cells #[.int .u64 (wd (sP 33 126) 0), .int .u64 (wd (sP 33 126) 1), .int .u64 (wd (sP 33 126) 2), .int .u64 (wd (sP 33 126) 3)] 222)
 replace hB := hB.alloc hB.size (.cells #[.int .u64 (wd (sP 33 126) 0), .int .u64 (wd (sP 33 126) 1), .int .u64 (wd (sP 33 126) 2), .int .u64 (wd (sP 33 126) 3)] 222)
 refine (xaf 9 13 (by omega) (by omega) (by omega) _).mono ?_
 rintro e v0 ⟨rfl, hb⟩
 replace hR := hR.below hb hR.lt
 replace hB := hB.trans (hb.mono hB.size)
 clear hb
 go_wp2_with fail
 refine (xfo (sP 9 13) 32 (by omega) (by omega) _).mono ?_
 rintro e v1 ⟨rfl, hb⟩
 replace hR := hR.below hb hR.lt
 replace hB := hB.trans (hb.mono hB.size)
 clear hb
 obtain ⟨⟨z0, z1, z2, z3⟩, zf0, zf1, zf2, zf3⟩ := id hR
 go_wp2
 exact bodyPost_ret (v := .tuple #[.agg #[.int .u64 (wd (ins (sP 9 13) 32) 0), .int .u64 (wd (ins (sP 9 13) 32) 1), .int .u64 (wd (ins (sP 9 13) 32) 2), .int .u64 (wd (ins (sP 9 13) 32) 3)], .int .i64 0]) (by simp [results, Tryz.results278, go_sem, *]) rfl ⟨rfl, xak hB (by omega) _⟩
end Go.Proofs.YtidgnebbibkmhaaGreatDoor.br
