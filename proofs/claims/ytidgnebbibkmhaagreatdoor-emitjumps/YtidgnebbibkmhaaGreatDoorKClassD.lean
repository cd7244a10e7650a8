/- Walks: Class at every other name. -/
import Derived.Test.YtidgnebbibkmhaaGreatDoorKDet
import Derived.Test.YtidgnebbibkmhaaGreatDoorKClassA
import Derived.Test.YtidgnebbibkmhaaGreatDoorKClassB
import Derived.Test.YtidgnebbibkmhaaGreatDoorKClassC
set_option maxRecDepth 100000
set_option maxHeartbeats 2000000
namespace Go.Proofs.YtidgnebbibkmhaaGreatDoor.br
open Go.RowKit
theorem xkv (s : ByteArray) (n0 : (s.toList == [117, 112, 112, 101, 114]) = false) (n1 : (s.toList == [108, 111, 119, 101, 114]) = false) (n2 : (s.toList == [100, 105, 103, 105, 116]) = false) (n3 : (s.toList == [97, 108, 112, 104, 97]) = false) (n4 : (s.toList == [97, 108, 110, 117, 109]) = false) (n5 : (s.toList == [120, 100, 105, 103, 105, 116]) = false) (n6 : (s.toList == [98, 108, 97, 110, 107]) = false) (n7 : (s.toList == [115, 112, 97, 99, 101]) = false) (n8 : (s.toList == [103, 114, 97, 112, 104]) = false) (n9 : (s.toList == [112, 114, 105, 110, 116]) = false) (n10 : (s.toList == [112, 117, 110, 99, 116]) = false) (n11 : (s.toList == [99, 110, 116, 114, 108]) = false) (w : World) :
  Calls Tryz.prog 278 #[.string s] w fun e w' => e = .returned (.tuple #[.agg #[.int .u64 (wd xad 0), .int .u64 (wd xad 1), .int .u64 (wd xad 2), .int .u64 (wd xad 3)], .int .i64 8]) ∧ Below w.heap.size w w' := by
 unfold xad
 rw [xaa, xaa, xaa, xaa]
 go_enter Tryz.func278, Tryz.ntmps278
 go_wp2_with fail
 refine (xaf 65 90 (by omega) (by omega) (by omega) _).mono ?_
 rintro e w1 ⟨rfl, hb1⟩
 have hR := (xal w 222).below hb1 (by simp)
 have hB : Below w.heap.size w w1 := ((Below.refl _ _).alloc (Nat.le_refl _) _).trans (hb1.mono (by simp))
 clear hb1
 go_wp2_with fail
 refine (xaf 97 122 (by omega) (by omega) (by omega) _).mono ?_
 rintro e w2 ⟨rfl, hb2⟩
 replace hR := hR.below hb2 hR.lt
 replace hB := hB.trans (hb2.mono hB.size)
 clear hb2
 go_wp2_with fail
 refine (xaf 48 57 (by omega) (by omega) (by omega) _).mono ?_
 rintro e w3 ⟨rfl, hb3⟩
 replace hR := hR.below hb3 hR.lt
 replace hB := hB.trans (hb3.mono hB.size)
 clear hb3
 go_wp2_with fail
 replace hR : Holds4 (((w3.alloc (.cells #[.int .u64 (wd (sP 65 90) 0), .int .u64 (wd (sP 65 90) 1), .int .u64 (wd (sP 65 90) 2), .int .u64 (wd (sP 65 90) 3)] 222)).alloc (.cells #[.int .u64 (wd (sP 97 122) 0), .int .u64 (wd (sP 97 122) 1), .int .u64 (wd (sP 97 122) 2), .int .u64 (wd (sP 97 122) 3)] 222)).alloc (.cells #[.int .u64 (wd (sP 48 57) 0), .int .u64 (wd (sP 48 57) 1), .int .u64 (wd (sP 48 57) 2), .int .u64 (wd (sP 48 57) 3)] 222)) w.heap.size (fun _ => false) := ((hR.alloc _).alloc _).alloc _
 have hU : Holds4 (((w3.alloc (.cells #[.int .u64 (wd (sP 65 90) 0), .int .u64 (wd (sP 65 90) 1), .int .u64 (wd (sP 65 90) 2), .int .u64 (wd (sP 65 90) 3)] 222)).alloc (.cells #[.int .u64 (wd (sP 97 122) 0), .int .u64 (wd (sP 97 122) 1), .int .u64 (wd (sP 97 122) 2), .int .u64 (wd (sP 97 122) 3)] 222)).alloc (.cells #[.int .u64 (wd (sP 48 57) 0), .int .u64 (wd (sP 48 57) 1), .int .u64 (wd (sP 48 57) 2), .int .u64 (wd (sP 48 57) 3)] 222)) w3.heap.size (sP 65 90) := ((xac w3 (sP 65 90) 222).alloc _).alloc _
 have hL : Holds4 (((w3.alloc (.cells #[.int .u64 (wd (sP 65 90) 0), .int .u64 (wd (sP 65 90) 1), .int .u64 (wd (sP 65 90) 2), .int .u64 (wd (sP 65 90) 3)] 222)).alloc (.cells #[.int .u64 (wd (sP 97 122) 0), .int .u64 (wd (sP 97 122) 1), .int .u64 (wd (sP 97 122) 2), .int .u64 (wd (sP 97 122) 3)] 222)).alloc (.cells #[.int .u64 (wd (sP 48 57) 0), .int .u64 (wd (sP 48 57) 1), .int .u64 (wd (sP 48 57) 2), .int .u64 (wd (sP 48 57) 3)] 222)) (w3.heap.size + 1) (sP 97 122) := by
  have h := (xac (w3.alloc (.cells #[.int .u64 (wd (sP 65 90) 0), .int .u64 (wd (sP 65 90) 1), .int .u64 (wd (sP 65 90) 2), .int .u64 (wd (sP 65 90) 3)] 222)) (sP 97 122) 222).alloc (.cells #[.int .u64 (wd (sP 48 57) 0), .int .u64 (wd (sP 48 57) 1), .int .u64 (wd (sP 48 57) 2), .int .u64 (wd (sP 48 57) 3)] 222)
  rwa [World.size_alloc] at h
 have hD : Holds4 (((w3.alloc (.cells #[.int .u64 (wd (sP 65 90) 0), .int .u64 (wd (sP 65 90) 1), .int .u64 (wd (sP 65 90) 2), .int .u64 (wd (sP 65 90) 3)] 222)).alloc (.cells #[.int .u64 (wd (sP 97 122) 0), .int .u64 (wd (sP 97 122) 1), .int .u64 (wd (sP 97 122) 2), .int .u64 (wd (sP 97 122) 3)] 222)).alloc (.cells #[.int .u64 (wd (sP 48 57) 0), .int .u64 (wd (sP 48 57) 1), .int .u64 (wd (sP 48 57) 2), .int .u64 (wd (sP 48 57) 3)] 222)) (w3.heap.size + 1 + 1) (sP 48 57) := by
  have h := xac ((w3.alloc (.cells #[.int .u64 (wd (sP 65 90) 0), .int .u64 (wd (sP 65 90) 1), .int .u64 (wd (sP 65 90) 2), .int .u64 (wd (sP 65 90) 3)] 222)).alloc (.cells #[.int .u64 (wd (sP 97 122) 0), .int .u64 (wd (sP 97 122) 1), .int .u64 (wd (sP 97 122) 2), .int .u64 (wd (sP 97 122) 3)] 222)) (sP 48 57) 222
  rwa [World.size_alloc, World.size_alloc] at h
 replace hB : Below w.heap.size w (((w3.alloc (.cells #[.int .u64 (wd (sP 65 90) 0), .int .u64 (wd (sP 65 90) 1), .int .u64 (wd (sP 65 90) 2), .int .u64 (wd (sP 65 90) 3)] 222)).alloc (.cells #[.int .u64 (wd (sP 97 122) 0), .int .u64 (wd (sP 97 122) 1), .int .u64 (wd (sP 97 122) 2), .int .u64 (wd (sP 97 122) 3)] 222)).alloc (.cells #[.int .u64 (wd (sP 48 57) 0), .int .u64 (wd (sP 48 57) 1), .int .u64 (wd (sP 48 57) 2), .int .u64 (wd (sP 48 57) 3)] 222)) := ((hB.alloc hB.size _).alloc (by have := hB.size; simp; omega) _).alloc (by have := hB.size; simp; omega) _
 refine (orD _ _ _).mono ?_
 rintro e w4 ⟨rfl, hb4⟩
 replace hR := hR.below hb4 hR.lt
 replace hU := hU.below hb4 hU.lt
 replace hL := hL.below hb4 hL.lt
 replace hD := hD.below hb4 hD.lt
 replace hB := hB.trans (hb4.mono hB.size)
 clear hb4
 obtain ⟨⟨d0, d1, d2, d3⟩, -⟩ := id hD
 have lt := hD.lt
 go_wp2_with fail
 clear d0 d1 d2 d3 lt
 replace hR := hR.alloc (.cells #[.int .u64 (wd (orP (sP 65 90) (sP 97 122)) 0), .int .u64 (wd (orP (sP 65 90) (sP 97 122)) 1), .int .u64 (wd (orP (sP 65 90) (sP 97 122)) 2), .int .u64 (wd (orP (sP 65 90) (sP 97 122)) 3)] 222)
 replace hU := hU.alloc (.cells #[.int .u64 (wd (orP (sP 65 90) (sP 97 122)) 0), .int .u64 (wd (orP (sP 65 90) (sP 97 122)) 1), .int .u64 (wd (orP (sP 65 90) (sP 97 122)) 2), .int .u64 (wd (orP (sP 65 90) (sP 97 122)) 3)] 222)
 replace hL := hL.alloc (.cells #[.int .u64 (wd (orP (sP 65 90) (sP 97 122)) 0), .int .u64 (wd (orP (sP 65 90) (sP 97 122)) 1), .int .u64 (wd (orP (sP 65 90) (sP 97 122)) 2), .int .u64 (wd (orP (sP 65 90) (sP 97 122)) 3)] 222)
 replace hD := hD.alloc (.cells #[.int .u64 (wd (orP (sP 65 90) (sP 97 122)) 0), .int .u64 (wd (orP (sP 65 90) (sP 97 122)) 1), .int .u64 (wd (orP (sP 65 90) (sP 97 122)) 2), .int .u64 (wd (orP (sP 65 90) (sP 97 122)) 3)] 222)
 have hA := xac w4 (orP (sP 65 90) (sP 97 122)) 222
 replace hB := hB.alloc hB.size (.cells #[.int .u64 (wd (orP (sP 65 90) (sP 97 122)) 0), .int .u64 (wd (orP (sP 65 90) (sP 97 122)) 1), .int .u64 (wd (orP (sP 65 90) (sP 97 122)) 2), .int .u64 (wd (orP (sP 65 90) (sP 97 122)) 3)] 222)
 refine (orD _ _ _).mono ?_
 rintro e w5 ⟨rfl, hb5⟩
 replace hR := hR.below hb5 hR.lt
 replace hU := hU.below hb5 hU.lt
 replace hL := hL.below hb5 hL.lt
 replace hD := hD.below hb5 hD.lt
 replace hA := hA.below hb5 hA.lt
 replace hB := hB.trans (hb5.mono hB.size)
 clear hb5
 go_wp2_with fail
 replace hR := hR.alloc (.cells #[.int .u64 (wd (orP (orP (sP 65 90) (sP 97 122)) (sP 48 57)) 0), .int .u64 (wd (orP (orP (sP 65 90) (sP 97 122)) (sP 48 57)) 1), .int .u64 (wd (orP (orP (sP 65 90) (sP 97 122)) (sP 48 57)) 2), .int .u64 (wd (orP (orP (sP 65 90) (sP 97 122)) (sP 48 57)) 3)] 222)
 replace hU := hU.alloc (.cells #[.int .u64 (wd (orP (orP (sP 65 90) (sP 97 122)) (sP 48 57)) 0), .int .u64 (wd (orP (orP (sP 65 90) (sP 97 122)) (sP 48 57)) 1), .int .u64 (wd (orP (orP (sP 65 90) (sP 97 122)) (sP 48 57)) 2), .int .u64 (wd (orP (orP (sP 65 90) (sP 97 122)) (sP 48 57)) 3)] 222)
 replace hL := hL.alloc (.cells #[.int .u64 (wd (orP (orP (sP 65 90) (sP 97 122)) (sP 48 57)) 0), .int .u64 (wd (orP (orP (sP 65 90) (sP 97 122)) (sP 48 57)) 1), .int .u64 (wd (orP (orP (sP 65 90) (sP 97 122)) (sP 48 57)) 2), .int .u64 (wd (orP (orP (sP 65 90) (sP 97 122)) (sP 48 57)) 3)] 222)
 replace hD := hD.alloc (.cells #[.int .u64 (wd (orP (orP (sP 65 90) (sP 97 122)) (sP 48 57)) 0), .int .u64 (wd (orP (orP (sP 65 90) (sP 97 122)) (sP 48 57)) 1), .int .u64 (wd (orP (orP (sP 65 90) (sP 97 122)) (sP 48 57)) 2), .int .u64 (wd (orP (orP (sP 65 90) (sP 97 122)) (sP 48 57)) 3)] 222)
 replace hA := hA.alloc (.cells #[.int .u64 (wd (orP (orP (sP 65 90) (sP 97 122)) (sP 48 57)) 0), .int .u64 (wd (orP (orP (sP 65 90) (sP 97 122)) (sP 48 57)) 1), .int .u64 (wd (orP (orP (sP 65 90) (sP 97 122)) (sP 48 57)) 2), .int .u64 (wd (orP (orP (sP 65 90) (sP 97 122)) (sP 48 57)) 3)] 222)
 have hN := xac w5 (orP (orP (sP 65 90) (sP 97 122)) (sP 48 57)) 222
 replace hB := hB.alloc hB.size (.cells #[.int .u64 (wd (orP (orP (sP 65 90) (sP 97 122)) (sP 48 57)) 0), .int .u64 (wd (orP (orP (sP 65 90) (sP 97 122)) (sP 48 57)) 1), .int .u64 (wd (orP (orP (sP 65 90) (sP 97 122)) (sP 48 57)) 2), .int .u64 (wd (orP (orP (sP 65 90) (sP 97 122)) (sP 48 57)) 3)] 222)
 refine (xaf 33 126 (by omega) (by omega) (by omega) _).mono ?_
 rintro e w6 ⟨rfl, hb6⟩
 replace hR := hR.below hb6 hR.lt
 replace hU := hU.below hb6 hU.lt
 replace hL := hL.below hb6 hL.lt
 replace hD := hD.below hb6 hD.lt
 replace hA := hA.below hb6 hA.lt
 replace hN := hN.below hb6 hN.lt
 replace hB := hB.trans (hb6.mono hB.size)
 clear hb6
 obtain ⟨⟨z0, z1, z2, z3⟩, zf0, zf1, zf2, zf3⟩ := id hR
 have ltz := hR.lt
 go_wp2
 have hB2 := (((hB.setCell (p := ⟨w.heap.size, 0, none⟩) (Nat.le_refl _) (.int .u64 0)).setCell (p := ⟨w.heap.size, 1, none⟩) (Nat.le_refl _) (.int .u64 0)).setCell (p := ⟨w.heap.size, 2, none⟩) (Nat.le_refl _) (.int .u64 0)).setCell (p := ⟨w.heap.size, 3, none⟩) (Nat.le_refl _) (.int .u64 0)
 exact bodyPost_ret (v := .tuple #[.agg #[.int .u64 0, .int .u64 0, .int .u64 0, .int .u64 0], .int .i64 8]) (by simp [results, Tryz.results278, go_sem, *]) rfl ⟨rfl, hB2.alloc hB2.size _⟩
theorem xba {s : ByteArray} {l : List UInt8} (h : (s.toList == l) = true) : s = ⟨l.toArray⟩ := by
 have h1 : s.toList = l := by simpa using h
 rw [ByteArray.toList_eq] at h1
 obtain ⟨⟨x⟩⟩ := s
 simp only at h1
 rw [h1]
def ccF (s : ByteArray) : Int := if (s.toList == [117, 112, 112, 101, 114] || s.toList == [108, 111, 119, 101, 114] || s.toList == [100, 105, 103, 105, 116] || s.toList == [97, 108, 112, 104, 97] || s.toList == [97, 108, 110, 117, 109] || s.toList == [120, 100, 105, 103, 105, 116] || s.toList == [98, 108, 97, 110, 107] || s.toList == [115, 112, 97, 99, 101] || s.toList == [103, 114, 97, 112, 104] || s.toList == [112, 114, 105, 110, 116] || s.toList == [112, 117, 110, 99, 116] || s.toList == [99, 110, 116, 114, 108]) = true then 0 else 8
theorem xpl (s : ByteArray) : ∃ (q : Nat → Bool) (c : Int), (∀ w : World, Calls Tryz.prog 278 #[.string s] w fun e w' => e = .returned (.tuple #[.agg #[.int .u64 (wd q 0), .int .u64 (wd q 1), .int .u64 (wd q 2), .int .u64 (wd q 3)], .int .i64 c]) ∧ Below w.heap.size w w') ∧ c = ccF s := by
 by_cases n0 : (s.toList == [117, 112, 112, 101, 114]) = true
 ·obtain rfl := xba n0
  exact ⟨_, _, xkl, by decide +kernel⟩
 by_cases n1 : (s.toList == [108, 111, 119, 101, 114]) = true
 ·obtain rfl := xba n1
  exact ⟨_, _, xkm, by decide +kernel⟩
 by_cases n2 : (s.toList == [100, 105, 103, 105, 116]) = true
 ·obtain rfl := xba n2
  exact ⟨_, _, xkk, by decide +kernel⟩
 by_cases n3 : (s.toList == [97, 108, 112, 104, 97]) = true
 ·obtain rfl := xba n3
  exact ⟨_, _, xkn, by decide +kernel⟩
 by_cases n4 : (s.toList == [97, 108, 110, 117, 109]) = true
 ·obtain rfl := xba n4
  exact ⟨_, _, xko, by decide +kernel⟩
 by_cases n5 : (s.toList == [120, 100, 105, 103, 105, 116]) = true
 ·obtain rfl := xba n5
  exact ⟨_, _, xi7, by decide +kernel⟩
 by_cases n6 : (s.toList == [98, 108, 97, 110, 107]) = true
 ·obtain rfl := xba n6
  exact ⟨_, _, xkq, by decide +kernel⟩
 by_cases n7 : (s.toList == [115, 112, 97, 99, 101]) = true
 ·obtain rfl := xba n7
  exact ⟨_, _, xkr, by decide +kernel⟩
 by_cases n8 : (s.toList == [103, 114, 97, 112, 104]) = true
 ·obtain rfl := xba n8
  exact ⟨_, _, xkp, by decide +kernel⟩
 by_cases n9 : (s.toList == [112, 114, 105, 110, 116]) = true
 ·obtain rfl := xba n9
  exact ⟨_, _, xks, by decide +kernel⟩
 by_cases n10 : (s.toList == [112, 117, 110, 99, 116]) = true
 ·obtain rfl := xba n10
  exact ⟨_, _, xku, by decide +kernel⟩
 by_cases n11 : (s.toList == [99, 110, 116, 114, 108]) = true
 ·obtain rfl := xba n11
  exact ⟨_, _, xkt, by decide +kernel⟩
 rw [Bool.not_eq_true] at n0
 rw [Bool.not_eq_true] at n1
 rw [Bool.not_eq_true] at n2
 rw [Bool.not_eq_true] at n3
 rw [Bool.not_eq_true] at n4
 rw [Bool.not_eq_true] at n5
 rw [Bool.not_eq_true] at n6
 rw [Bool.not_eq_true] at n7
 rw [Bool.not_eq_true] at n8
 rw [Bool.not_eq_true] at n9
 rw [Bool.not_eq_true] at n10
 rw [Bool.not_eq_true] at n11
 exact ⟨_, _, xkv s n0 n1 n2 n3 n4 n5 n6 n7 n8 n9 n10 n11, by simp [ccF, n0, n1, n2, n3, n4, n5, n6, n7, n8, n9, n10, n11]⟩
end Go.Proofs.YtidgnebbibkmhaaGreatDoor.br
