/- Walks: Class, at each name that it knows. -/
import Derived.Test.YtidgnebbibkmhaaGreatDoorKDet
set_option maxRecDepth 100000
set_option maxHeartbeats 2000000
namespace Go.Proofs.YtidgnebbibkmhaaGreatDoor.br
open Go.RowKit
theorem xks (w : World) :
  Calls Tryz.prog 278 #[.string ⟨#[112, 114, 105, 110, 116]⟩] w fun e w' => e = .returned (.tuple #[.agg #[.int .u64 (wd (ins (sP 33 126) 32) 0), .int .u64 (wd (ins (sP 33 126) 32) 1), .int .u64 (wd (ins (sP 33 126) 32) 2), .int .u64 (wd (ins (sP 33 126) 32) 3)], .int .i64 0]) ∧ Below w.heap.size w w' := by
 go_enter Tryz.func278, Tryz.ntmps278
 go_wp2_with fail
 refine (xaf 65 90 (by omega) (by omega) (by omega) _).mono ?_
 rintro e w1 ⟨rfl, hb1⟩
 have hR := (xal w 222).below hb1 (by simp)
 have hB : Below w.heap.size w w1 := ((Below.refl _ _).alloc (Nat.le_refl _) _).trans (hb1.mono (by simp))
 clear hb1
 go_wp2_with fail
 refine (xaf 97 122 (by omega) (by omega) (by omega) _).mono ?_
 rintro e w2 ⟨rfl, hb2⟩
 replace hR := hR.below hb2 hR.lt
 replace hB := hB.trans (hb2.mono hB.size)
 clear hb2
 go_wp2_with fail
 refine (xaf 48 57 (by omega) (by omega) (by omega) _).mono ?_
 rintro e w3 ⟨rfl, hb3⟩
 replace hR := hR.below hb3 hR.lt
 replace hB := hB.trans (hb3.mono hB.size)
 clear hb3
 go_wp2_with fail
 replace hR : Holds4 (((w3.alloc (.cells #[.int .u64 (wd (sP 65 90) 0), .int .u64 (wd (sP 65 90) 1), .int .u64 (wd (sP 65 90) 2), .int .u64 (wd (sP 65 90) 3)] 222)).alloc (.cells #[.int .u64 (wd (sP 97 122) 0), .int .u64 (wd (sP 97 122) 1), .int .u64 (wd (sP 97 122) 2), .int .u64 (wd (sP 97 122) 3)] 222)).alloc (.cells #[.int .u64 (wd (sP 48 57) 0), .int .u64 (wd (sP 48 57) 1), .int .u64 (wd (sP 48 57) 2), .int .u64 (wd (sP 48 57) 3)] 222)) w.heap.size (fun _ => false) := ((hR.alloc _).alloc _).alloc _
 have hU : Holds4 (((w3.alloc (.cells #[.int .u64 (wd (sP 65 90) 0), .int .u64 (wd (sP 65 90) 1), .int .u64 (wd (sP 65 90) 2), .int .u64 (wd (sP 65 90) 3)] 222)).alloc (.cells #[.int .u64 (wd (sP 97 122) 0), .int .u64 (wd (sP 97 122) 1), .int .u64 (wd (sP 97 122) 2), .int .u64 (wd (sP 97 122) 3)] 222)).alloc (.cells #[.int .u64 (wd (sP 48 57) 0), .int .u64 (wd (sP 48 57) 1), .int .u64 (wd (sP 48 57) 2), .int .u64 (wd (sP 48 57) 3)] 222)) w3.heap.size (sP 65 90) := ((xac w3 (sP 65 90) 222).alloc _).alloc _
 have hL : Holds4 (((w3.alloc (.cells #[.int .u64 (wd (sP 65 90) 0), .int .u64 (wd (sP 65 90) 1), .int .u64 (wd (sP 65 90) 2), .int .u64 (wd (sP 65 90) 3)] 222)).alloc (.cells #[.int .u64 (wd (sP 97 122) 0), .int .u64 (wd (sP 97 122) 1), .int .u64 (wd (sP 97 122) 2), .int .u64 (wd (sP 97 122) 3)] 222)).alloc (.cells #[.int .u64 (wd (sP 48 57) 0), .int .u64 (wd (sP 48 57) 1), .int .u64 (wd (sP 48 57) 2), .int .u64 (wd (sP 48 57) 3)] 222)) (w3.heap.size + 1) (sP 97 122) := by
  have h := (xac (w3.alloc (.cells #[.int .u64 (wd (sP 65 90) 0), .int .u64 (wd (sP 65 90) 1), .int .u64 (wd (sP 65 90) 2), .int .u64 (wd (sP 65 90) 3)] 222)) (sP 97 122) 222).alloc (.cells #[.int .u64 (wd (sP 48 57) 0), .int .u64 (wd (sP 48 57) 1), .int .u64 (wd (sP 48 57) 2), .int .u64 (wd (sP 48 57) 3)] 222)
  rwa [World.size_alloc] at h
 have hD : Holds4 (((w3.alloc (.cells #[.int .u64 (wd (sP 65 90) 0), .int .u64 (wd (sP 65 90) 1), .int .u64 (wd (sP 65 90) 2), .int .u64 (wd (sP 65 90) 3)] 222)).alloc (.cells #[.int .u64 (wd (sP 97 122) 0), .int .u64 (wd (sP 97 122) 1), .int .u64 (wd (sP 97 122) 2), .int .u64 (wd (sP 97 122) 3)] 222)).alloc (.cells #[.int .u64 (wd (sP 48 57) 0), .int .u64 (wd (sP 48 57) 1), .int .u64 (wd (sP 48 57) 2), .int .u64 (wd (sP 48 57) 3)] 222)) (w3.heap.size + 1 + 1) (sP 48 57) := by
  have h := xac ((w3.alloc (.cells #[.int .u64 (wd (sP 65 90) 0), .int .u64 (wd (sP 65 90) 1), .int .u64 (wd (sP 65 90) 2), .int .u64 (wd (sP 65 90) 3)] 222)).alloc (.cells #[.int .u64 (wd (sP 97 122) 0), .int .u64 (wd (sP 97 122) 1), .int .u64 (wd (sP 97 122) 2), .int .u64 (wd (sP 97 122) 3)] 222)) (sP 48 57) 222
  rwa [World.size_alloc, World.size_alloc] at h
 replace hB : Below w.heap.size w (((w3.alloc (.cells #[.int .u64 (wd (sP 65 90) 0), .int .u64 (wd (sP 65 90) 1), .int .u64 (wd (sP 65 90) 2), .int .u64 (wd (sP 65 90) 3)] 222)).alloc (.cells #[.int .u64 (wd (sP 97 122) 0), .int .u64 (wd (sP 97 122) 1), .int .u64 (wd (sP 97 122) 2), .int .u64 (wd (sP 97 122) 3)] 222)).alloc (.cells #[.int .u64 (wd (sP 48 57) 0), .int .u64 (wd (sP 48 57) 1), .int .u64 (wd (sP 48 57) 2), .int .u64 (wd (sP 48 57) 3)] 222)) := ((hB.alloc hB.size _).alloc (by have := hB.size; simp; omega) _).alloc (by have := hB.size; simp; omega) _
 refine (orD _ _ _).mono ?_
 rintro e w4 ⟨rfl, hb4⟩
 replace hR := hR.below hb4 hR.lt
 replace hU := hU.below hb4 hU.lt
 replace hL := hL.below hb4 hL.lt
 replace hD := hD.below hb4 hD.lt
 replace hB := hB.trans (hb4.mono hB.size)
 clear hb4
 obtain ⟨⟨d0, d1, d2, d3⟩, -⟩ := id hD
 have lt := hD.lt
 go_wp2_with fail
 clear d0 d1 d2 d3 lt
 replace hR := hR.alloc (.cells #[.int .u64 (wd (orP (sP 65 90) (sP 97 122)) 0), .int .u64 (wd (orP (sP 65 90) (sP 97 122)) 1), .int .u64 (wd (orP (sP 65 90) (sP 97 122)) 2), .int .u64 (wd (orP (sP 65 90) (sP 97 122)) 3)] 222)
 replace hU := hU.alloc (.cells #[.int .u64 (wd (orP (sP 65 90) (sP 97 122)) 0), .int .u64 (wd (orP (sP 65 90) (sP 97 122)) 1), .int .u64 (wd (orP (sP 65 90) (sP 97 122)) 2), .int .u64 (wd (orP (sP 65 90) (sP 97 122)) 3)] 222)
 replace hL := hL.alloc (.cells #[.int .u64 (wd (orP (sP 65 90) (sP 97 122)) 0), .int .u64 (wd (orP (sP 65 90) (sP 97 122)) 1), .int .u64 (wd (orP (sP 65 90) (sP 97 122)) 2), .int .u64 (wd (orP (sP 65 90) (sP 97 122)) 3)] 222)
 replace hD := hD.alloc (.cells #[.int .u64 (wd (orP (sP 65 90) (sP 97 122)) 0), .int .u64 (wd (orP (sP 65 90) (sP 97 122)) 1), .int .u64 (wd (orP (sP 65 90) (sP 97 122)) 2), .int .u64 (wd (orP (sP 65 90) (sP 97 122)) 3)] 222)
 have hA := xac w4 (orP (sP 65 90) (sP 97 122)) 222
 replace hB := hB.alloc hB.size (.cells #[.int .u64 (wd (orP (sP 65 90) (sP 97 122)) 0), .int .u64 (wd (orP (sP 65 90) (sP 97 122)) 1), .int .u64 (wd (orP (sP 65 90) (sP 97 122)) 2), .int .u64 (wd (orP (sP 65 90) (sP 97 122)) 3)] 222)
 refine (orD _ _ _).mono ?_
 rintro e w5 ⟨rfl, hb5⟩
 replace hR := hR.below hb5 hR.lt
 replace hU := hU.below hb5 hU.lt
 replace hL := hL.below hb5 hL.lt
 replace hD := hD.below hb5 hD.lt
 replace hA := hA.below hb5 hA.lt
 replace hB := hB.trans (hb5.mono hB.size)
 clear hb5
 go_wp2_with fail
 replace hR := hR.alloc (.cells #[.int .u64 (wd (orP (orP (sP 65 90) (sP 97 122)) (sP 48 57)) 0), .int .u64 (wd (orP (orP (sP 65 90) (sP 97 122)) (sP 48 57)) 1), .int .u64 (wd (orP (orP (sP 65 90) (sP 97 122)) (sP 48 57)) 2), .int .u64 (wd (orP (orP (sP 65 90) (sP 97 122)) (sP 48 57)) 3)] 222)
 replace hU := hU.alloc (.cells #[.int .u64 (wd (orP (orP (sP 65 90) (sP 97 122)) (sP 48 57)) 0), .int .u64 (wd (orP (orP (sP 65 90) (sP 97 122)) (sP 48 57)) 1), .int .u64 (wd (orP (orP (sP 65 90) (sP 97 122)) (sP 48 57)) 2), .int .u64 (wd (orP (orP (sP 65 90) (sP 97 122)) (sP 48 57)) 3)] 222)
 replace hL := hL.alloc (.cells #[.int .u64 (wd (orP (orP (sP 65 90) (sP 97 122)) (sP 48 57)) 0), .int .u64 (wd (orP (orP (sP 65 90) (sP 97 122)) (sP 48 57)) 1), .int .u64 (wd (orP (orP (sP 65 90) (sP 97 122)) (sP 48 57)) 2), .int .u64 (wd (orP (orP (sP 65 90) (sP 97 122)) (sP 48 57)) 3)] 222)
 replace hD := hD.alloc (.cells #[.int .u64 (wd (orP (orP (sP 65 90) (sP 97 122)) (sP 48 57)) 0), .int .u64 (wd (orP (orP (sP 65 90) (sP 97 122)) (sP 48 57)) 1), .int .u64 (wd (orP (orP (sP 65 90) (sP 97 122)) (sP 48 57)) 2), .int .u64 (wd (orP (orP (sP 65 90) (sP 97 122)) (sP 48 57)) 3)] 222)
 replace hA := hA.alloc (.cells #[.int .u64 (wd (orP (orP (sP 65 90) (sP 97 122)) (sP 48 57)) 0), .int .u64 (wd (orP (orP (sP 65 90) (sP 97 122)) (sP 48 57)) 1), .int .u64 (wd (orP (orP (sP 65 90) (sP 97 122)) (sP 48 57)) 2), .int .u64 (wd (orP (orP (sP 65 90) (sP 97 122)) (sP 48 57)) 3)] 222)
 have hN := xac w5 (orP (orP (sP 65 90) (sP 97 122)) (sP 48 57)) 222
 replace hB := hB.alloc hB.size (.cells #[.int .u64 (wd (orP (orP (sP 65 90) (sP 97 122)) (sP 48 57)) 0), .int .u64 (wd (orP (orP (sP 65 90) (sP 97 122)) (sP 48 57)) 1), .int .u64 (wd (orP (orP (sP 65 90) (sP 97 122)) (sP 48 57)) 2), .int .u64 (wd (orP (orP (sP 65 90) (sP 97 122)) (sP 48 57)) 3)] 222)
 refine (xaf 33 126 (by omega) (by omega) (by omega) _).mono ?_
 rintro e w6 ⟨rfl, hb6⟩
 replace hR := hR.below hb6 hR.lt
 replace hU := hU.below hb6 hU.lt
 replace hL := hL.below hb6 hL.lt
 replace hD := hD.below hb6 hD.lt
 replace hA := hA.below hb6 hA.lt
 replace hN := hN.below hb6 hN.lt
 replace hB := hB.trans (hb6.mono hB.size)
 clear hb6
 have ltz := hR.lt
 go_wp2_with fail
 replace hR := hR.alloc (.cells #[.int .u64 (wd (sP 33 126) 0), .int .u64 (wd (sP 33 126) 1), .int .u64 (wd (sP 33 126) 2), .int .u64 (wd (sP 33 126) 3)] 222)
 replace hB := hB.alloc hB.size (.cells #[.int .u64 (wd (sP 33 126) 0), .int .u64 (wd (sP 33 126) 1), .int .u64 (wd (sP 33 126) 2), .int .u64 (wd (sP 33 126) 3)] 222)
 refine (xfo (sP 33 126) 32 (by omega) (by omega) _).mono ?_
 rintro e v0 ⟨rfl, hb⟩
 replace hR := hR.below hb hR.lt
 replace hB := hB.trans (hb.mono hB.size)
 clear hb
 obtain ⟨⟨z0, z1, z2, z3⟩, zf0, zf1, zf2, zf3⟩ := id hR
 go_wp2
 exact bodyPost_ret (v := .tuple #[.agg #[.int .u64 (wd (ins (sP 33 126) 32) 0), .int .u64 (wd (ins (sP 33 126) 32) 1), .int .u64 (wd (ins (sP 33 126) 32) 2), .int .u64 (wd (ins (sP 33 126) 32) 3)], .int .i64 0]) (by simp [results, Tryz.results278, go_sem, *]) rfl ⟨rfl, xak hB (by omega) _⟩
theorem xkt (w : World) :
  Calls Tryz.prog 278 #[.string ⟨#[99, 110, 116, 114, 108]⟩] w fun e w' => e = .returned (.tuple #[.agg #[.int .u64 (wd (ins (sP 0 31) 127) 0), .int .u64 (wd (ins (sP 0 31) 127) 1), .int .u64 (wd (ins (sP 0 31) 127) 2), .int .u64 (wd (ins (sP 0 31) 127) 3)], .int .i64 0]) ∧ Below w.heap.size w w' := by
 go_enter Tryz.func278, Tryz.ntmps278
 go_wp2_with fail
 refine (xaf 65 90 (by omega) (by omega) (by omega) _).mono ?_
 rintro e w1 ⟨rfl, hb1⟩
 have hR := (xal w 222).below hb1 (by simp)
 have hB : Below w.heap.size w w1 := ((Below.refl _ _).alloc (Nat.le_refl _) _).trans (hb1.mono (by simp))
 clear hb1
 go_wp2_with fail
 refine (xaf 97 122 (by omega) (by omega) (by omega) _).mono ?_
 rintro e w2 ⟨rfl, hb2⟩
 replace hR := hR.below hb2 hR.lt
 replace hB := hB.trans (hb2.mono hB.size)
 clear hb2
 go_wp2_with fail
 refine (xaf 48 57 (by omega) (by omega) (by omega) _).mono ?_
 rintro e w3 ⟨rfl, hb3⟩
 replace hR := hR.below hb3 hR.lt
 replace hB := hB.trans (hb3.mono hB.size)
 clear hb3
 go_wp2_with fail
 replace hR : Holds4 (((w3.alloc (.cells #[.int .u64 (wd (sP 65 90) 0), .int .u64 (wd (sP 65 90) 1), .int .u64 (wd (sP 65 90) 2), .int .u64 (wd (sP 65 90) 3)] 222)).alloc (.cells #[.int .u64 (wd (sP 97 122) 0), .int .u64 (wd (sP 97 122) 1), .int .u64 (wd (sP 97 122) 2), .int .u64 (wd (sP 97 122) 3)] 222)).alloc (.cells #[.int .u64 (wd (sP 48 57) 0), .int .u64 (wd (sP 48 57) 1), .int .u64 (wd (sP 48 57) 2), .int .u64 (wd (sP 48 57) 3)] 222)) w.heap.size (fun _ => false) := ((hR.alloc _).alloc _).alloc _
 have hU : Holds4 (((w3.alloc (.cells #[.int .u64 (wd (sP 65 90) 0), .int .u64 (wd (sP 65 90) 1), .int .u64 (wd (sP 65 90) 2), .int .u64 (wd (sP 65 90) 3)] 222)).alloc (.cells #[.int .u64 (wd (sP 97 122) 0), .int .u64 (wd (sP 97 122) 1), .int .u64 (wd (sP 97 122) 2), .int .u64 (wd (sP 97 122) 3)] 222)).alloc (.cells #[.int .u64 (wd (sP 48 57) 0), .int .u64 (wd (sP 48 57) 1), .int .u64 (wd (sP 48 57) 2), .int .u64 (wd (sP 48 57) 3)] 222)) w3.heap.size (sP 65 90) := ((xac w3 (sP 65 90) 222).alloc _).alloc _
 have hL : Holds4 (((w3.alloc (.cells #[.int .u64 (wd (sP 65 90) 0), .int .u64 (wd (sP 65 90) 1), .int .u64 (wd (sP 65 90) 2), .int .u64 (wd (sP 65 90) 3)] 222)).alloc (.cells #[.int .u64 (wd (sP 97 122) 0), .int .u64 (wd (sP 97 122) 1), .int .u64 (wd (sP 97 122) 2), .int .u64 (wd (sP 97 122) 3)] 222)).alloc (.cells #[.int .u64 (wd (sP 48 57) 0), .int .u64 (wd (sP 48 57) 1), .int .u64 (wd (sP 48 57) 2), .int .u64 (wd (sP 48 57) 3)] 222)) (w3.heap.size + 1) (sP 97 122) := by
  have h := (xac (w3.alloc (.cells #[.int .u64 (wd (sP 65 90) 0), .int .u64 (wd (sP 65 90) 1), .int .u64 (wd (sP 65 90) 2), .int .u64 (wd (sP 65 90) 3)] 222)) (sP 97 122) 222).alloc (.cells #[.int .u64 (wd (sP 48 57) 0), .int .u64 (wd (sP 48 57) 1), .int .u64 (wd (sP 48 57) 2), .int .u64 (wd (sP 48 57) 3)] 222)
  rwa [World.size_alloc] at h
 have hD : Holds4 (((w3.alloc (.cells #[.int .u64 (wd (sP 65 90) 0), .int .u64 (wd (sP 65 90) 1), .int .u64 (wd (sP 65 90) 2), .int .u64 (wd (sP 65 90) 3)] 222)).alloc (.cells #[.int .u64 (wd (sP 97 122) 0), .int .u64 (wd (sP 97 122) 1), .int .u64 (wd (sP 97 122) 2), .int .u64 (wd (sP 97 122) 3)] 222)).alloc (.cells #[.int .u64 (wd (sP 48 57) 0), .int .u64 (wd (sP 48 57) 1), .int .u64 (wd (sP 48 57) 2), .int .u64 (wd (sP 48 57) 3)] 222)) (w3.heap.size + 1 + 1) (sP 48 57) := by
  have h := xac ((w3.alloc (.cells #[.int .u64 (wd (sP 65 90) 0), .int .u64 (wd (sP 65 90) 1), .int .u64 (wd (sP 65 90) 2), .int .u64 (wd (sP 65 90) 3)] 222)).alloc (.cells #[.int .u64 (wd (sP 97 122) 0), .int .u64 (wd (sP 97 122) 1), .int .u64 (wd (sP 97 122) 2), .int .u64 (wd (sP 97 122) 3)] 222)) (sP 48 57) 222
  rwa [World.size_alloc, World.size_alloc] at h
 replace hB : Below w.heap.size w (((w3.alloc (.cells #[.int .u64 (wd (sP 65 90) 0), .int .u64 (wd (sP 65 90) 1), .int .u64 (wd (sP 65 90) 2), .int .u64 (wd (sP 65 90) 3)] 222)).alloc (.cells #[.int .u64 (wd (sP 97 122) 0), .int .u64 (wd (sP 97 122) 1), .int .u64 (wd (sP 97 122) 2), .int .u64 (wd (sP 97 122) 3)] 222)).alloc (.cells #[.int .u64 (wd (sP 48 57) 0), .int .u64 (wd (sP 48 57) 1), .int .u64 (wd (sP 48 57) 2), .int .u64 (wd (sP 48 57) 3)] 222)) := ((hB.alloc hB.size _).alloc (by have := hB.size; simp; omega) _).alloc (by have := hB.size; simp; omega) _
 refine (orD _ _ _).mono ?_
 rintro e w4 ⟨rfl, hb4⟩
 replace hR := hR.below hb4 hR.lt
 replace hU := hU.below hb4 hU.lt
 replace hL := hL.below hb4 hL.lt
 replace hD := hD.below hb4 hD.lt
 replace hB := hB.trans (hb4.mono hB.size)
 clear hb4
 obtain ⟨⟨d0, d1, d2, d3⟩, -⟩ := id hD
 have lt := hD.lt
 go_wp2_with fail
 clear d0 d1 d2 d3 lt
 replace hR := hR.alloc (.cells #[.int .u64 (wd (orP (sP 65 90) (sP 97 122)) 0), .int .u64 (wd (orP (sP 65 90) (sP 97 122)) 1), .int .u64 (wd (orP (sP 65 90) (sP 97 122)) 2), .int .u64 (wd (orP (sP 65 90) (sP 97 122)) 3)] 222)
 replace hU := hU.alloc (.cells #[.int .u64 (wd (orP (sP 65 90) (sP 97 122)) 0), .int .u64 (wd (orP (sP 65 90) (sP 97 122)) 1), .int .u64 (wd (orP (sP 65 90) (sP 97 122)) 2), .int .u64 (wd (orP (sP 65 90) (sP 97 122)) 3)] 222)
 replace hL := hL.alloc (.cells #[.int .u64 (wd (orP (sP 65 90) (sP 97 122)) 0), .int .u64 (wd (orP (sP 65 90) (sP 97 122)) 1), .int .u64 (wd (orP (sP 65 90) (sP 97 122)) 2), .int .u64 (wd (orP (sP 65 90) (sP 97 122)) 3)] 222)
 replace hD := hD.alloc (.cells #[.int .u64 (wd (orP (sP 65 90) (sP 97 122)) 0), .int .u64 (wd (orP (sP 65 90) (sP 97 122)) 1), .int .u64 (wd (orP (sP 65 90) (sP 97 122)) 2), .int .u64 (wd (orP (sP 65 90) (sP 97 122)) 3)] 222)
 have hA := xac w4 (orP (sP 65 90) (sP 97 122)) 222
 replace hB := hB.alloc hB.size (.cells #[.int .u64 (wd (orP (sP 65 90) (sP 97 122)) 0), .int .u64 (wd (orP (sP 65 90) (sP 97 122)) 1), .int .u64 (wd (orP (sP 65 90) (sP 97 122)) 2), .int .u64 (wd (orP (sP 65 90) (sP 97 122)) 3)] 222)
 refine (orD _ _ _).mono ?_
 rintro e w5 ⟨rfl, hb5⟩
 replace hR := hR.below hb5 hR.lt
 replace hU := hU.below hb5 hU.lt
 replace hL := hL.below hb5 hL.lt
 replace hD := hD.below hb5 hD.lt
 replace hA := hA.below hb5 hA.lt
 replace hB := hB.trans (hb5.mono hB.size)
 clear hb5
 go_wp2_with fail
 replace hR := hR.alloc (.cells #[.int .u64 (wd (orP (orP (sP 65 90) (sP 97 122)) (sP 48 57)) 0), .int .u64 (wd (orP (orP (sP 65 90) (sP 97 122)) (sP 48 57)) 1), .int .u64 (wd (orP (orP (sP 65 90) (sP 97 122)) (sP 48 57)) 2), .int .u64 (wd (orP (orP (sP 65 90) (sP 97 122)) (sP 48 57)) 3)] 222)
 replace hU := hU.alloc (.cells #[.int .u64 (wd (orP (orP (sP 65 90) (sP 97 122)) (sP 48 57)) 0), .int .u64 (wd (orP (orP (sP 65 90) (sP 97 122)) (sP 48 57)) 1), .int .u64 (wd (orP (orP (sP 65 90) (sP 97 122)) (sP 48 57)) 2), .int .u64 (wd (orP (orP (sP 65 90) (sP 97 122)) (sP 48 57)) 3)] 222)
 replace hL := hL.alloc (.cells #[.int .u64 (wd (orP (orP (sP 65 90) (sP 97 122)) (sP 48 57)) 0), .int .u64 (wd (orP (orP (sP 65 90) (sP 97 122)) (sP 48 57)) 1), .int .u64 (wd (orP (orP (sP 65 90) (sP 97 122)) (sP 48 57)) 2), .int .u64 (wd (orP (orP (sP 65 90) (sP 97 122)) (sP 48 57)) 3)] 222)
 replace hD := hD.alloc (.cells #[.int .u64 (wd (orP (orP (sP 65 90) (sP 97 122)) (sP 48 57)) 0), .int .u64 (wd (orP (orP (sP 65 90) (sP 97 122)) (sP 48 57)) 1), .int .u64 (wd (orP (orP (sP 65 90) (sP 97 122)) (sP 48 57)) 2), .int .u64 (wd (orP (orP (sP 65 90) (sP 97 122)) (sP 48 57)) 3)] 222)
 replace hA := hA.alloc (.cells #[.int .u64 (wd (orP (orP (sP 65 90) (sP 97 122)) (sP 48 57)) 0), .int .u64 (wd (orP (orP (sP 65 90) (sP 97 122)) (sP 48 57)) 1), .int .u64 (wd (orP (orP (sP 65 90) (sP 97 122)) (sP 48 57)) 2), .int .u64 (wd (orP (orP (sP 65 90) (sP 97 122)) (sP 48 57)) 3)] 222)
 have hN := xac w5 (orP (orP (sP 65 90) (sP 97 122)) (sP 48 57)) 222
 replace hB := hB.alloc hB.size (.cells #[.int .u64 (wd (orP (orP (sP 65 90) (sP 97 122)) (sP 48 57)) 0), .int .u64 (wd (orP (orP (sP 65 90) (sP 97 122)) (sP 48 57)) 1), .int .u64 (wd (orP (orP (sP 65 90) (sP 97 122)) (sP 48 57)) 2), .int .u64 (wd (orP (orP (sP 65 90) (sP 97 122)) (sP 48 57)) 3)] 222)
 refine (xaf 33 126 (by omega) (by omega) (by omega) _).mono ?_
 rintro e w6 ⟨rfl, hb6⟩
 replace hR := hR.below hb6 hR.lt
 replace hU := hU.below hb6 hU.lt
 replace hL := hL.below hb6 hL.lt
 replace hD := hD.below hb6 hD.lt
 replace hA := hA.below hb6 hA.lt
 replace hN := hN.below hb6 hN.lt
 replace hB := hB.trans (hb6.mono hB.size)
 clear hb6
 have ltz := hR.lt
 go_wp2_with fail
 replace hR := hR.alloc (.cells #[.int .u64 (wd (sP 33 126) 0), .int .u64 (wd (sP 33 126) 1), .int .u64 (wd (sP 33 126) 2), .int .u64 (wd (sP 33 126) 3)] 222)
 replace hB := hB.alloc hB.size (.cells #[.int .u64 (wd (sP 33 126) 0), .int .u64 (wd (sP 33 126) 1), .int .u64 (wd (sP 33 126) 2), .int .u64 (wd (sP 33 126) 3)] 222)
 refine (xaf 0 31 (by omega) (by omega) (by omega) _).mono ?_
 rintro e v0 ⟨rfl, hb⟩
 replace hR := hR.below hb hR.lt
 replace hB := hB.trans (hb.mono hB.size)
 clear hb
 go_wp2_with fail
 refine (xfo (sP 0 31) 127 (by omega) (by omega) _).mono ?_
 rintro e v1 ⟨rfl, hb⟩
 replace hR := hR.below hb hR.lt
 replace hB := hB.trans (hb.mono hB.size)
 clear hb
 obtain ⟨⟨z0, z1, z2, z3⟩, zf0, zf1, zf2, zf3⟩ := id hR
 go_wp2
 exact bodyPost_ret (v := .tuple #[.agg #[.int .u64 (wd (ins (sP 0 31) 127) 0), .int .u64 (wd (ins (sP 0 31) 127) 1), .int .u64 (wd (ins (sP 0 31) 127) 2), .int .u64 (wd (ins (sP 0 31) 127) 3)], .int .i64 0]) (by simp [results, Tryz.results278, go_sem, *]) rfl ⟨rfl, xak hB (by omega) _⟩
theorem xku (w : World) :
  Calls Tryz.prog 278 #[.string ⟨#[112, 117, 110, 99, 116]⟩] w fun e w' => e = .returned (.tuple #[.agg #[.int .u64 (wd (andP (sP 33 126) (notP (orP (orP (sP 65 90) (sP 97 122)) (sP 48 57)))) 0), .int .u64 (wd (andP (sP 33 126) (notP (orP (orP (sP 65 90) (sP 97 122)) (sP 48 57)))) 1), .int .u64 (wd (andP (sP 33 126) (notP (orP (orP (sP 65 90) (sP 97 122)) (sP 48 57)))) 2), .int .u64 (wd (andP (sP 33 126) (notP (orP (orP (sP 65 90) (sP 97 122)) (sP 48 57)))) 3)], .int .i64 0]) ∧ Below w.heap.size w w' := by
 go_enter Tryz.func278, Tryz.ntmps278
 go_wp2_with fail
 refine (xaf 65 90 (by omega) (by omega) (by omega) _).mono ?_
 rintro e w1 ⟨rfl, hb1⟩
 have hR := (xal w 222).below hb1 (by simp)
 have hB : Below w.heap.size w w1 := ((Below.refl _ _).alloc (Nat.le_refl _) _).trans (hb1.mono (by simp))
 clear hb1
 go_wp2_with fail
 refine (xaf 97 122 (by omega) (by omega) (by omega) _).mono ?_
 rintro e w2 ⟨rfl, hb2⟩
 replace hR := hR.below hb2 hR.lt
 replace hB := hB.trans (hb2.mono hB.size)
 clear hb2
 go_wp2_with fail
 refine (xaf 48 57 (by omega) (by omega) (by omega) _).mono ?_
 rintro e w3 ⟨rfl, hb3⟩
 replace hR := hR.below hb3 hR.lt
 replace hB := hB.trans (hb3.mono hB.size)
 clear hb3
 go_wp2_with fail
 replace hR : Holds4 (((w3.alloc (.cells #[.int .u64 (wd (sP 65 90) 0), .int .u64 (wd (sP 65 90) 1), .int .u64 (wd (sP 65 90) 2), .int .u64 (wd (sP 65 90) 3)] 222)).alloc (.cells #[.int .u64 (wd (sP 97 122) 0), .int .u64 (wd (sP 97 122) 1), .int .u64 (wd (sP 97 122) 2), .int .u64 (wd (sP 97 122) 3)] 222)).alloc (.cells #[.int .u64 (wd (sP 48 57) 0), .int .u64 (wd (sP 48 57) 1), .int .u64 (wd (sP 48 57) 2), .int .u64 (wd (sP 48 57) 3)] 222)) w.heap.size (fun _ => false) := ((hR.alloc _).alloc _).alloc _
 have hU : Holds4 (((w3.alloc (.cells #[.int .u64 (wd (sP 65 90) 0), .int .u64 (wd (sP 65 90) 1), .int .u64 (wd (sP 65 90) 2), .int .u64 (wd (sP 65 90) 3)] 222)).alloc (.cells #[.int .u64 (wd (sP 97 122) 0), .int .u64 (wd (sP 97 122) 1), .int .u64 (wd (sP 97 122) 2), .int .u64 (wd (sP 97 122) 3)] 222)).alloc (.cells #[.int .u64 (wd (sP 48 57) 0), .int .u64 (wd (sP 48 57) 1), .int .u64 (wd (sP 48 57) 2), .int .u64 (wd (sP 48 57) 3)] 222)) w3.heap.size (sP 65 90) := ((xac w3 (sP 65 90) 222).alloc _).alloc _
 have hL : Holds4 (((w3.alloc (.cells #[.int .u64 (wd (sP 65 90) 0), .int .u64 (wd (sP 65 90) 1), .int .u64 (wd (sP 65 90) 2), .int .u64 (wd (sP 65 90) 3)] 222)).alloc (.cells #[.int .u64 (wd (sP 97 122) 0), .int .u64 (wd (sP 97 122) 1), .int .u64 (wd (sP 97 122) 2), .int .u64 (wd (sP 97 122) 3)] 222)).alloc (.cells #[.int .u64 (wd (sP 48 57) 0), .int .u64 (wd (sP 48 57) 1), .int .u64 (wd (sP 48 57) 2), .int .u64 (wd (sP 48 57) 3)] 222)) (w3.heap.size + 1) (sP 97 122) := by
  have h := (xac (w3.alloc (.cells #[.int .u64 (wd (sP 65 90) 0), .int .u64 (wd (sP 65 90) 1), .int .u64 (wd (sP 65 90) 2), .int .u64 (wd (sP 65 90) 3)] 222)) (sP 97 122) 222).alloc (.cells #[.int .u64 (wd (sP 48 57) 0), .int .u64 (wd (sP 48 57) 1), .int .u64 (wd (sP 48 57) 2), .int .u64 (wd (sP 48 57) 3)] 222)
  rwa [World.size_alloc] at h
 have hD : Holds4 (((w3.alloc (.cells #[.int .u64 (wd (sP 65 90) 0), .int .u64 (wd (sP 65 90) 1), .int .u64 (wd (sP 65 90) 2), .int .u64 (wd (sP 65 90) 3)] 222)).alloc (.cells #[.int .u64 (wd (sP 97 122) 0), .int .u64 (wd (sP 97 122) 1), .int .u64 (wd (sP 97 122) 2), .int .u64 (wd (sP 97 122) 3)] 222)).alloc (.cells #[.int .u64 (wd (sP 48 57) 0), .int .u64 (wd (sP 48 57) 1), .int .u64 (wd (sP 48 57) 2), .int .u64 (wd (sP 48 57) 3)] 222)) (w3.heap.size + 1 + 1) (sP 48 57) := by
  have h := xac ((w3.alloc (.cells #[.int .u64 (wd (sP 65 90) 0), .int .u64 (wd (sP 65 90) 1), .int .u64 (wd (sP 65 90) 2), .int .u64 (wd (sP 65 90) 3)] 222)).alloc (.cells #[.int .u64 (wd (sP 97 122) 0), .int .u64 (wd (sP 97 122) 1), .int .u64 (wd (sP 97 122) 2), .int .u64 (wd (sP 97 122) 3)] 222)) (sP 48 57) 222
  rwa [World.size_alloc, World.size_alloc] at h
 replace hB : Below w.heap.size w (((w3.alloc (.cells #[.int .u64 (wd (sP 65 90) 0), .int .u64 (wd (sP 65 90) 1), .int .u64 (wd (sP 65 90) 2), .int .u64 (wd (sP 65 90) 3)] 222)).alloc (.cells #[.int .u64 (wd (sP 97 122) 0), .int .u64 (wd (sP 97 122) 1), .int .u64 (wd (sP 97 122) 2), .int .u64 (wd (sP 97 122) 3)] 222)).alloc (.cells #[.int .u64 (wd (sP 48 57) 0), .int .u64 (wd (sP 48 57) 1), .int .u64 (wd (sP 48 57) 2), .int .u64 (wd (sP 48 57) 3)] 222)) := ((hB.alloc hB.size _).alloc (by have := hB.size; simp; omega) _).alloc (by have := hB.size; simp; omega) _
 refine (orD _ _ _).mono ?_
 rintro e w4 ⟨rfl, hb4⟩
 replace hR := hR.below hb4 hR.lt
 replace hU := hU.below hb4 hU.lt
 replace hL := hL.below hb4 hL.lt
 replace hD := hD.below hb4 hD.lt
 replace hB := hB.trans (hb4.mono hB.size)
 clear hb4
 obtain ⟨⟨d0, d1, d2, d3⟩, -⟩ := id hD
 have lt := hD.lt
 go_wp2_with fail
 clear d0 d1 d2 d3 lt
 replace hR := hR.alloc (.cells #[.int .u64 (wd (orP (sP 65 90) (sP 97 122)) 0), .int .u64 (wd (orP (sP 65 90) (sP 97 122)) 1), .int .u64 (wd (orP (sP 65 90) (sP 97 122)) 2), .int .u64 (wd (orP (sP 65 90) (sP 97 122)) 3)] 222)
 replace hU := hU.alloc (.cells #[.int .u64 (wd (orP (sP 65 90) (sP 97 122)) 0), .int .u64 (wd (orP (sP 65 90) (sP 97 122)) 1), .int .u64 (wd (orP (sP 65 90) (sP 97 122)) 2), .int .u64 (wd (orP (sP 65 90) (sP 97 122)) 3)] 222)
 replace hL := hL.alloc (.cells #[.int .u64 (wd (orP (sP 65 90) (sP 97 122)) 0), .int .u64 (wd (orP (sP 65 90) (sP 97 122)) 1), .int .u64 (wd (orP (sP 65 90) (sP 97 122)) 2), .int .u64 (wd (orP (sP 65 90) (sP 97 122)) 3)] 222)
 replace hD := hD.alloc (.cells #[.int .u64 (wd (orP (sP 65 90) (sP 97 122)) 0), .int .u64 (wd (orP (sP 65 90) (sP 97 122)) 1), .int .u64 (wd (orP (sP 65 90) (sP 97 122)) 2), .int .u64 (wd (orP (sP 65 90) (sP 97 122)) 3)] 222)
 have hA := xac w4 (orP (sP 65 90) (sP 97 122)) 222
 replace hB := hB.alloc hB.size (.cells #[.int .u64 (wd (orP (sP 65 90) (sP 97 122)) 0), .int .u64 (wd (orP (sP 65 90) (sP 97 122)) 1), .int .u64 (wd (orP (sP 65 90) (sP 97 122)) 2), .int .u64 (wd (orP (sP 65 90) (sP 97 122)) 3)] 222)
 refine (orD _ _ _).mono ?_
 rintro e w5 ⟨rfl, hb5⟩
 replace hR := hR.below hb5 hR.lt
 replace hU := hU.below hb5 hU.lt
 replace hL := hL.below hb5 hL.lt
 replace hD := hD.below hb5 hD.lt
 replace hA := hA.below hb5 hA.lt
 replace hB := hB.trans (hb5.mono hB.size)
 clear hb5
 go_wp2_with fail
 replace hR := hR.alloc (.cells #[.int .u64 (wd (orP (orP (sP 65 90) (sP 97 122)) (sP 48 57)) 0), .int .u64 (wd (orP (orP (sP 65 90) (sP 97 122)) (sP 48 57)) 1), .int .u64 (wd (orP (orP (sP 65 90) (sP 97 122)) (sP 48 57)) 2), .int .u64 (wd (orP (orP (sP 65 90) (sP 97 122)) (sP 48 57)) 3)] 222)
 replace hU := hU.alloc (.cells #[.int .u64 (wd (orP (orP (sP 65 90) (sP 97 122)) (sP 48 57)) 0), .int .u64 (wd (orP (orP (sP 65 90) (sP 97 122)) (sP 48 57)) 1), .int .u64 (wd (orP (orP (sP 65 90) (sP 97 122)) (sP 48 57)) 2), .int .u64 (wd (orP (orP (sP 65 90) (sP 97 122)) (sP 48 57)) 3)] 222)
 replace hL := hL.alloc (.cells #[.int .u64 (wd (orP (orP (sP 65 90) (sP 97 122)) (sP 48 57)) 0), .int .u64 (wd (orP (orP (sP 65 90) (sP 97 122)) (sP 48 57)) 1), .int .u64 (wd (orP (orP (sP 65 90) (sP 97 122)) (sP 48 57)) 2), .int .u64 (wd (orP (orP (sP 65 90) (sP 97 122)) (sP 48 57)) 3)] 222)
 replace hD := hD.alloc (.cells #[.int .u64 (wd (orP (orP (sP 65 90) (sP 97 122)) (sP 48 57)) 0), .int .u64 (wd (orP (orP (sP 65 90) (sP 97 122)) (sP 48 57)) 1), .int .u64 (wd (orP (orP (sP 65 90) (sP 97 122)) (sP 48 57)) 2), .int .u64 (wd (orP (orP (sP 65 90) (sP 97 122)) (sP 48 57)) 3)] 222)
 replace hA := hA.alloc (.cells #[.int .u64 (wd (orP (orP (sP 65 90) (sP 97 122)) (sP 48 57)) 0), .int .u64 (wd (orP (orP (sP 65 90) (sP 97 122)) (sP 48 57)) 1), .int .u64 (wd (orP (orP (sP 65 90) (sP 97 122)) (sP 48 57)) 2), .int .u64 (wd (orP (orP (sP 65 90) (sP 97 122)) (sP 48 57)) 3)] 222)
 have hN := xac w5 (orP (orP (sP 65 90) (sP 97 122)) (sP 48 57)) 222
 replace hB := hB.alloc hB.size (.cells #[.int .u64 (wd (orP (orP (sP 65 90) (sP 97 122)) (sP 48 57)) 0), .int .u64 (wd (orP (orP (sP 65 90) (sP 97 122)) (sP 48 57)) 1), .int .u64 (wd (orP (orP (sP 65 90) (sP 97 122)) (sP 48 57)) 2), .int .u64 (wd (orP (orP (sP 65 90) (sP 97 122)) (sP 48 57)) 3)] 222)
 refine (xaf 33 126 (by omega) (by omega) (by omega) _).mono ?_
 rintro e w6 ⟨rfl, hb6⟩
 replace hR := hR.below hb6 hR.lt
 replace hU := hU.below hb6 hU.lt
 replace hL := hL.below hb6 hL.lt
 replace hD := hD.below hb6 hD.lt
 replace hA := hA.below hb6 hA.lt
 replace hN := hN.below hb6 hN.lt
 replace hB := hB.trans (hb6.mono hB.size)
 clear hb6
 go_wp2_with fail
 replace hR := hR.alloc (.cells #[.int .u64 (wd (sP 33 126) 0), .int .u64 (wd (sP 33 126) 1), .int .u64 (wd (sP 33 126) 2), .int .u64 (wd (sP 33 126) 3)] 222)
 replace hU := hU.alloc (.cells #[.int .u64 (wd (sP 33 126) 0), .int .u64 (wd (sP 33 126) 1), .int .u64 (wd (sP 33 126) 2), .int .u64 (wd (sP 33 126) 3)] 222)
 replace hL := hL.alloc (.cells #[.int .u64 (wd (sP 33 126) 0), .int .u64 (wd (sP 33 126) 1), .int .u64 (wd (sP 33 126) 2), .int .u64 (wd (sP 33 126) 3)] 222)
 replace hD := hD.alloc (.cells #[.int .u64 (wd (sP 33 126) 0), .int .u64 (wd (sP 33 126) 1), .int .u64 (wd (sP 33 126) 2), .int .u64 (wd (sP 33 126) 3)] 222)
 replace hA := hA.alloc (.cells #[.int .u64 (wd (sP 33 126) 0), .int .u64 (wd (sP 33 126) 1), .int .u64 (wd (sP 33 126) 2), .int .u64 (wd (sP 33 126) 3)] 222)
 replace hN := hN.alloc (.cells #[.int .u64 (wd (sP 33 126) 0), .int .u64 (wd (sP 33 126) 1), .int .u64 (wd (sP 33 126) 2), .int .u64 (wd (sP 33 126) 3)] 222)
 have hG := xac w6 (sP 33 126) 222
 replace hB := hB.alloc hB.size (.cells #[.int .u64 (wd (sP 33 126) 0), .int .u64 (wd (sP 33 126) 1), .int .u64 (wd (sP 33 126) 2), .int .u64 (wd (sP 33 126) 3)] 222)
 clear hU hL hA
 generalize w6.alloc (.cells #[.int .u64 (wd (sP 33 126) 0), .int .u64 (wd (sP 33 126) 1), .int .u64 (wd (sP 33 126) 2), .int .u64 (wd (sP 33 126) 3)] 222) = W at *
 obtain ⟨⟨c0, c1, c2, c3⟩, -⟩ := id hD
 obtain ⟨⟨n0, n1, n2, n3⟩, -⟩ := id hN
 obtain ⟨⟨g0, g1, g2, g3⟩, -⟩ := id hG
 replace hB := hB.drew
 replace hR : Holds4 W.drew _ _ := hR
 replace hD : Holds4 W.drew _ _ := hD
 replace hN : Holds4 W.drew _ _ := hN
 replace hG : Holds4 W.drew _ _ := hG
 go_region_with (first | (go_at_call 216; go_must (refine (notD _ _).mono ?_; rintro e wv ⟨rfl, hb⟩; replace hR := hR.below hb hR.lt; replace hD := hD.below hb hD.lt; replace hN := hN.below hb hN.lt; replace hG := hG.below hb hG.lt; replace hB := hB.trans (hb.mono hB.size); obtain ⟨⟨c0, c1, c2, c3⟩, -⟩ := id hD; obtain ⟨⟨n0, n1, n2, n3⟩, -⟩ := id hN; obtain ⟨⟨g0, g1, g2, g3⟩, -⟩ := id hG; obtain ⟨⟨d0, d1, d2, d3⟩, f0, f1, f2, f3⟩ := id hR)) | (go_at_call 280; go_must (refine (andD _ _ _).mono ?_; rintro e wv ⟨rfl, hb⟩; replace hR := hR.below hb hR.lt; replace hD := hD.below hb hD.lt; replace hN := hN.below hb hN.lt; replace hG := hG.below hb hG.lt; replace hB := hB.trans (hb.mono hB.size); obtain ⟨⟨c0, c1, c2, c3⟩, -⟩ := id hD; obtain ⟨⟨n0, n1, n2, n3⟩, -⟩ := id hN; obtain ⟨⟨g0, g1, g2, g3⟩, -⟩ := id hG; obtain ⟨⟨d0, d1, d2, d3⟩, f0, f1, f2, f3⟩ := id hR)))
 all_goals
  go_wp2
  exact bodyPost_ret (v := .tuple #[.agg #[.int .u64 (wd (andP (sP 33 126) (notP (orP (orP (sP 65 90) (sP 97 122)) (sP 48 57)))) 0), .int .u64 (wd (andP (sP 33 126) (notP (orP (orP (sP 65 90) (sP 97 122)) (sP 48 57)))) 1), .int .u64 (wd (andP (sP 33 126) (notP (orP (orP (sP 65 90) (sP 97 122)) (sP 48 57)))) 2), .int .u64 (wd (andP (sP 33 126) (notP (orP (orP (sP 65 90) (sP 97 122)) (sP 48 57)))) 3)], .int .i64 0]) (by simp [results, Tryz.results278, go_sem, *]) rfl ⟨rfl, xak hB (by omega) _⟩
theorem xi7 (w : World) :
  Calls Tryz.prog 278 #[.string ⟨#[120, 100, 105, 103, 105, 116]⟩] w fun e w' => e = .returned (.tuple #[.agg #[.int .u64 (wd (orP (sP 48 57) (orP (sP 65 70) (sP 97 102))) 0), .int .u64 (wd (orP (sP 48 57) (orP (sP 65 70) (sP 97 102))) 1), .int .u64 (wd (orP (sP 48 57) (orP (sP 65 70) (sP 97 102))) 2), .int .u64 (wd (orP (sP 48 57) (orP (sP 65 70) (sP 97 102))) 3)], .int .i64 0]) ∧ Below w.heap.size w w' := by
 go_enter Tryz.func278, Tryz.ntmps278
 go_wp2_with fail
 refine (xaf 65 90 (by omega) (by omega) (by omega) _).mono ?_
 rintro e w1 ⟨rfl, hb1⟩
 have hR := (xal w 222).below hb1 (by simp)
 have hB : Below w.heap.size w w1 := ((Below.refl _ _).alloc (Nat.le_refl _) _).trans (hb1.mono (by simp))
 clear hb1
 go_wp2_with fail
 refine (xaf 97 122 (by omega) (by omega) (by omega) _).mono ?_
 rintro e w2 ⟨rfl, hb2⟩
 replace hR := hR.below hb2 hR.lt
 replace hB := hB.trans (hb2.mono hB.size)
 clear hb2
 go_wp2_with fail
 refine (xaf 48 57 (by omega) (by omega) (by omega) _).mono ?_
 rintro e w3 ⟨rfl, hb3⟩
 replace hR := hR.below hb3 hR.lt
 replace hB := hB.trans (hb3.mono hB.size)
 clear hb3
 go_wp2_with fail
 replace hR : Holds4 (((w3.alloc (.cells #[.int .u64 (wd (sP 65 90) 0), .int .u64 (wd (sP 65 90) 1), .int .u64 (wd (sP 65 90) 2), .int .u64 (wd (sP 65 90) 3)] 222)).alloc (.cells #[.int .u64 (wd (sP 97 122) 0), .int .u64 (wd (sP 97 122) 1), .int .u64 (wd (sP 97 122) 2), .int .u64 (wd (sP 97 122) 3)] 222)).alloc (.cells #[.int .u64 (wd (sP 48 57) 0), .int .u64 (wd (sP 48 57) 1), .int .u64 (wd (sP 48 57) 2), .int .u64 (wd (sP 48 57) 3)] 222)) w.heap.size (fun _ => false) := ((hR.alloc _).alloc _).alloc _
 have hU : Holds4 (((w3.alloc (.cells #[.int .u64 (wd (sP 65 90) 0), .int .u64 (wd (sP 65 90) 1), .int .u64 (wd (sP 65 90) 2), .int .u64 (wd (sP 65 90) 3)] 222)).alloc (.cells #[.int .u64 (wd (sP 97 122) 0), .int .u64 (wd (sP 97 122) 1), .int .u64 (wd (sP 97 122) 2), .int .u64 (wd (sP 97 122) 3)] 222)).alloc (.cells #[.int .u64 (wd (sP 48 57) 0), .int .u64 (wd (sP 48 57) 1), .int .u64 (wd (sP 48 57) 2), .int .u64 (wd (sP 48 57) 3)] 222)) w3.heap.size (sP 65 90) := ((xac w3 (sP 65 90) 222).alloc _).alloc _
 have hL : Holds4 (((w3.alloc (.cells #[.int .u64 (wd (sP 65 90) 0), .int .u64 (wd (sP 65 90) 1), .int .u64 (wd (sP 65 90) 2), .int .u64 (wd (sP 65 90) 3)] 222)).alloc (.cells #[.int .u64 (wd (sP 97 122) 0), .int .u64 (wd (sP 97 122) 1), .int .u64 (wd (sP 97 122) 2), .int .u64 (wd (sP 97 122) 3)] 222)).alloc (.cells #[.int .u64 (wd (sP 48 57) 0), .int .u64 (wd (sP 48 57) 1), .int .u64 (wd (sP 48 57) 2), .int .u64 (wd (sP 48 57) 3)] 222)) (w3.heap.size + 1) (sP 97 122) := by
  have h := (xac (w3.alloc (.cells #[.int .u64 (wd (sP 65 90) 0), .int .u64 (wd (sP 65 90) 1), .int .u64 (wd (sP 65 90) 2), .int .u64 (wd (sP 65 90) 3)] 222)) (sP 97 122) 222).alloc (.cells #[.int .u64 (wd (sP 48 57) 0), .int .u64 (wd (sP 48 57) 1), .int .u64 (wd (sP 48 57) 2), .int .u64 (wd (sP 48 57) 3)] 222)
  rwa [World.size_alloc] at h
 have hD : Holds4 (((w3.alloc (.cells #[.int .u64 (wd (sP 65 90) 0), .int .u64 (wd (sP 65 90) 1), .int .u64 (wd (sP 65 90) 2), .int .u64 (wd (sP 65 90) 3)] 222)).alloc (.cells #[.int .u64 (wd (sP 97 122) 0), .int .u64 (wd (sP 97 122) 1), .int .u64 (wd (sP 97 122) 2), .int .u64 (wd (sP 97 122) 3)] 222)).alloc (.cells #[.int .u64 (wd (sP 48 57) 0), .int .u64 (wd (sP 48 57) 1), .int .u64 (wd (sP 48 57) 2), .int .u64 (wd (sP 48 57) 3)] 222)) (w3.heap.size + 1 + 1) (sP 48 57) := by
  have h := xac ((w3.alloc (.cells #[.int .u64 (wd (sP 65 90) 0), .int .u64 (wd (sP 65 90) 1), .int .u64 (wd (sP 65 90) 2), .int .u64 (wd (sP 65 90) 3)] 222)).alloc (.cells #[.int .u64 (wd (sP 97 122) 0), .int .u64 (wd (sP 97 122) 1), .int .u64 (wd (sP 97 122) 2), .int .u64 (wd (sP 97 122) 3)] 222)) (sP 48 57) 222
  rwa [World.size_alloc, World.size_alloc] at h
 replace hB : Below w.heap.size w (((w3.alloc (.cells #[.int .u64 (wd (sP 65 90) 0), .int .u64 (wd (sP 65 90) 1), .int .u64 (wd (sP 65 90) 2), .int .u64 (wd (sP 65 90) 3)] 222)).alloc (.cells #[.int .u64 (wd (sP 97 122) 0), .int .u64 (wd (sP 97 122) 1), .int .u64 (wd (sP 97 122) 2), .int .u64 (wd (sP 97 122) 3)] 222)).alloc (.cells #[.int .u64 (wd (sP 48 57) 0), .int .u64 (wd (sP 48 57) 1), .int .u64 (wd (sP 48 57) 2), .int .u64 (wd (sP 48 57) 3)] 222)) := ((hB.alloc hB.size _).alloc (by have := hB.size; simp; omega) _).alloc (by have := hB.size; simp; omega) _
 refine (orD _ _ _).mono ?_
 rintro e w4 ⟨rfl, hb4⟩
 replace hR := hR.below hb4 hR.lt
 replace hU := hU.below hb4 hU.lt
 replace hL := hL.below hb4 hL.lt
 replace hD := hD.below hb4 hD.lt
 replace hB := hB.trans (hb4.mono hB.size)
 clear hb4
 obtain ⟨⟨d0, d1, d2, d3⟩, -⟩ := id hD
 have lt := hD.lt
 go_wp2_with fail
 clear d0 d1 d2 d3 lt
 replace hR := hR.alloc (.cells #[.int .u64 (wd (orP (sP 65 90) (sP 97 122)) 0), .int .u64 (wd (orP (sP 65 90) (sP 97 122)) 1), .int .u64 (wd (orP (sP 65 90) (sP 97 122)) 2), .int .u64 (wd (orP (sP 65 90) (sP 97 122)) 3)] 222)
 replace hU := hU.alloc (.cells #[.int .u64 (wd (orP (sP 65 90) (sP 97 122)) 0), .int .u64 (wd (orP (sP 65 90) (sP 97 122)) 1), .int .u64 (wd (orP (sP 65 90) (sP 97 122)) 2), .int .u64 (wd (orP (sP 65 90) (sP 97 122)) 3)] 222)
 replace hL := hL.alloc (.cells #[.int .u64 (wd (orP (sP 65 90) (sP 97 122)) 0), .int .u64 (wd (orP (sP 65 90) (sP 97 122)) 1), .int .u64 (wd (orP (sP 65 90) (sP 97 122)) 2), .int .u64 (wd (orP (sP 65 90) (sP 97 122)) 3)] 222)
 replace hD := hD.alloc (.cells #[.int .u64 (wd (orP (sP 65 90) (sP 97 122)) 0), .int .u64 (wd (orP (sP 65 90) (sP 97 122)) 1), .int .u64 (wd (orP (sP 65 90) (sP 97 122)) 2), .int .u64 (wd (orP (sP 65 90) (sP 97 122)) 3)] 222)
 have hA := xac w4 (orP (sP 65 90) (sP 97 122)) 222
 replace hB := hB.alloc hB.size (.cells #[.int .u64 (wd (orP (sP 65 90) (sP 97 122)) 0), .int .u64 (wd (orP (sP 65 90) (sP 97 122)) 1), .int .u64 (wd (orP (sP 65 90) (sP 97 122)) 2), .int .u64 (wd (orP (sP 65 90) (sP 97 122)) 3)] 222)
 refine (orD _ _ _).mono ?_
 rintro e w5 ⟨rfl, hb5⟩
 replace hR := hR.below hb5 hR.lt
 replace hU := hU.below hb5 hU.lt
 replace hL := hL.below hb5 hL.lt
 replace hD := hD.below hb5 hD.lt
 replace hA := hA.below hb5 hA.lt
 replace hB := hB.trans (hb5.mono hB.size)
 clear hb5
 go_wp2_with fail
 replace hR := hR.alloc (.cells #[.int .u64 (wd (orP (orP (sP 65 90) (sP 97 122)) (sP 48 57)) 0), .int .u64 (wd (orP (orP (sP 65 90) (sP 97 122)) (sP 48 57)) 1), .int .u64 (wd (orP (orP (sP 65 90) (sP 97 122)) (sP 48 57)) 2), .int .u64 (wd (orP (orP (sP 65 90) (sP 97 122)) (sP 48 57)) 3)] 222)
 replace hU := hU.alloc (.cells #[.int .u64 (wd (orP (orP (sP 65 90) (sP 97 122)) (sP 48 57)) 0), .int .u64 (wd (orP (orP (sP 65 90) (sP 97 122)) (sP 48 57)) 1), .int .u64 (wd (orP (orP (sP 65 90) (sP 97 122)) (sP 48 57)) 2), .int .u64 (wd (orP (orP (sP 65 90) (sP 97 122)) (sP 48 57)) 3)] 222)
 replace hL := hL.alloc (.cells #[.int .u64 (wd (orP (orP (sP 65 90) (sP 97 122)) (sP 48 57)) 0), .int .u64 (wd (orP (orP (sP 65 90) (sP 97 122)) (sP 48 57)) 1), .int .u64 (wd (orP (orP (sP 65 90) (sP 97 122)) (sP 48 57)) 2), .int .u64 (wd (orP (orP (sP 65 90) (sP 97 122)) (sP 48 57)) 3)] 222)
 replace hD := hD.alloc (.cells #[.int .u64 (wd (orP (orP (sP 65 90) (sP 97 122)) (sP 48 57)) 0), .int .u64 (wd (orP (orP (sP 65 90) (sP 97 122)) (sP 48 57)) 1), .int .u64 (wd (orP (orP (sP 65 90) (sP 97 122)) (sP 48 57)) 2), .int .u64 (wd (orP (orP (sP 65 90) (sP 97 122)) (sP 48 57)) 3)] 222)
 replace hA := hA.alloc (.cells #[.int .u64 (wd (orP (orP (sP 65 90) (sP 97 122)) (sP 48 57)) 0), .int .u64 (wd (orP (orP (sP 65 90) (sP 97 122)) (sP 48 57)) 1), .int .u64 (wd (orP (orP (sP 65 90) (sP 97 122)) (sP 48 57)) 2), .int .u64 (wd (orP (orP (sP 65 90) (sP 97 122)) (sP 48 57)) 3)] 222)
 have hN := xac w5 (orP (orP (sP 65 90) (sP 97 122)) (sP 48 57)) 222
 replace hB := hB.alloc hB.size (.cells #[.int .u64 (wd (orP (orP (sP 65 90) (sP 97 122)) (sP 48 57)) 0), .int .u64 (wd (orP (orP (sP 65 90) (sP 97 122)) (sP 48 57)) 1), .int .u64 (wd (orP (orP (sP 65 90) (sP 97 122)) (sP 48 57)) 2), .int .u64 (wd (orP (orP (sP 65 90) (sP 97 122)) (sP 48 57)) 3)] 222)
 refine (xaf 33 126 (by omega) (by omega) (by omega) _).mono ?_
 rintro e w6 ⟨rfl, hb6⟩
 replace hR := hR.below hb6 hR.lt
 replace hU := hU.below hb6 hU.lt
 replace hL := hL.below hb6 hL.lt
 replace hD := hD.below hb6 hD.lt
 replace hA := hA.below hb6 hA.lt
 replace hN := hN.below hb6 hN.lt
 replace hB := hB.trans (hb6.mono hB.size)
 clear hb6
 go_wp2_with fail
 replace hR := hR.alloc (.cells #[.int .u64 (wd (sP 33 126) 0), .int .u64 (wd (sP 33 126) 1), .int .u64 (wd (sP 33 126) 2), .int .u64 (wd (sP 33 126) 3)] 222)
 replace hU := hU.alloc (.cells #[.int .u64 (wd (sP 33 126) 0), .int .u64 (wd (sP 33 126) 1), .int .u64 (wd (sP 33 126) 2), .int .u64 (wd (sP 33 126) 3)] 222)
 replace hL := hL.alloc (.cells #[.int .u64 (wd (sP 33 126) 0), .int .u64 (wd (sP 33 126) 1), .int .u64 (wd (sP 33 126) 2), .int .u64 (wd (sP 33 126) 3)] 222)
 replace hD := hD.alloc (.cells #[.int .u64 (wd (sP 33 126) 0), .int .u64 (wd (sP 33 126) 1), .int .u64 (wd (sP 33 126) 2), .int .u64 (wd (sP 33 126) 3)] 222)
 replace hA := hA.alloc (.cells #[.int .u64 (wd (sP 33 126) 0), .int .u64 (wd (sP 33 126) 1), .int .u64 (wd (sP 33 126) 2), .int .u64 (wd (sP 33 126) 3)] 222)
 replace hN := hN.alloc (.cells #[.int .u64 (wd (sP 33 126) 0), .int .u64 (wd (sP 33 126) 1), .int .u64 (wd (sP 33 126) 2), .int .u64 (wd (sP 33 126) 3)] 222)
 have hG := xac w6 (sP 33 126) 222
 replace hB := hB.alloc hB.size (.cells #[.int .u64 (wd (sP 33 126) 0), .int .u64 (wd (sP 33 126) 1), .int .u64 (wd (sP 33 126) 2), .int .u64 (wd (sP 33 126) 3)] 222)
 clear hU hL hA
 generalize w6.alloc (.cells #[.int .u64 (wd (sP 33 126) 0), .int .u64 (wd (sP 33 126) 1), .int .u64 (wd (sP 33 126) 2), .int .u64 (wd (sP 33 126) 3)] 222) = W at *
 obtain ⟨⟨c0, c1, c2, c3⟩, -⟩ := id hD
 obtain ⟨⟨n0, n1, n2, n3⟩, -⟩ := id hN
 obtain ⟨⟨g0, g1, g2, g3⟩, -⟩ := id hG
 replace hB := hB.drew
 replace hR : Holds4 W.drew _ _ := hR
 replace hD : Holds4 W.drew _ _ := hD
 replace hN : Holds4 W.drew _ _ := hN
 replace hG : Holds4 W.drew _ _ := hG
 go_region_with (first | (go_at_call 279; go_must (refine (xaf _ _ (by omega) (by omega) (by omega) _).mono ?_; rintro e wv ⟨rfl, hb⟩; replace hR := hR.below hb hR.lt; replace hD := hD.below hb hD.lt; replace hN := hN.below hb hN.lt; replace hG := hG.below hb hG.lt; replace hB := hB.trans (hb.mono hB.size); obtain ⟨⟨c0, c1, c2, c3⟩, -⟩ := id hD; obtain ⟨⟨n0, n1, n2, n3⟩, -⟩ := id hN; obtain ⟨⟨g0, g1, g2, g3⟩, -⟩ := id hG; obtain ⟨⟨d0, d1, d2, d3⟩, f0, f1, f2, f3⟩ := id hR)) | (go_at_call 266; go_must (refine (orD _ _ _).mono ?_; rintro e wv ⟨rfl, hb⟩; replace hR := hR.below hb hR.lt; replace hD := hD.below hb hD.lt; replace hN := hN.below hb hN.lt; replace hG := hG.below hb hG.lt; replace hB := hB.trans (hb.mono hB.size); obtain ⟨⟨c0, c1, c2, c3⟩, -⟩ := id hD; obtain ⟨⟨n0, n1, n2, n3⟩, -⟩ := id hN; obtain ⟨⟨g0, g1, g2, g3⟩, -⟩ := id hG; obtain ⟨⟨d0, d1, d2, d3⟩, f0, f1, f2, f3⟩ := id hR)))
 all_goals
  go_wp2
  exact bodyPost_ret (v := .tuple #[.agg #[.int .u64 (wd (orP (sP 48 57) (orP (sP 65 70) (sP 97 102))) 0), .int .u64 (wd (orP (sP 48 57) (orP (sP 65 70) (sP 97 102))) 1), .int .u64 (wd (orP (sP 48 57) (orP (sP 65 70) (sP 97 102))) 2), .int .u64 (wd (orP (sP 48 57) (orP (sP 65 70) (sP 97 102))) 3)], .int .i64 0]) (by simp [results, Tryz.results278, go_sem, *]) rfl ⟨rfl, xak hB (by omega) _⟩
end Go.Proofs.YtidgnebbibkmhaaGreatDoor.br
