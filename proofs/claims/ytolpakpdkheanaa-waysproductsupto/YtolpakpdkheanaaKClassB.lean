/- Class: the walk. -/
import Derived.Test.YtolpakpdkheanaaKClassA
set_option maxRecDepth 100000
set_option maxHeartbeats 8000000
namespace Go.Proofs.Ytolpakpdkheanaa.br
open Go.RowKit
theorem cly {P : Prop} (h : P := by
 go_enter Try.func104, Try.ntmps104
 go_wp2_with fail
 refine (xaf 65 90 (by omega) (by omega) (by omega) _).mono ?_
 rintro e w1 ⟨rfl, hb⟩
 have hR := (xal w 38).below hb (by simp)
 have hB : Below w.heap.size w w1 := ((Below.refl _ _).alloc (Nat.le_refl _) _).trans (hb.mono (by simp))
 clear hb
 go_wp2_with fail
 refine (xaf 97 122 (by omega) (by omega) (by omega) _).mono ?_
 rintro e w2 ⟨rfl, hb⟩
 replace hR := hR.below hb hR.lt
 replace hB := hB.trans (hb.mono hB.size)
 clear hb
 go_wp2_with fail
 refine (xaf 48 57 (by omega) (by omega) (by omega) _).mono ?_
 rintro e w3 ⟨rfl, hb⟩
 replace hR := hR.below hb hR.lt
 replace hB := hB.trans (hb.mono hB.size)
 clear hb
 go_wp2_with fail
 refine (orD _ _ _).mono ?_
 rintro e w4 ⟨rfl, hb⟩
 obtain ⟨hU, hL, hD, k⟩ := al3 hb
 replace hR := hR.below k hR.lt
 replace hB := hB.trans (k.mono hB.size)
 clear hb k
 obtain ⟨⟨d0, d1, d2, d3⟩, -⟩ := id hD
 have lt := hD.lt
 go_wp2_with fail
 clear d0 d1 d2 d3 lt
 refine (orD _ _ _).mono ?_
 rintro e w5 ⟨rfl, hb⟩
 obtain ⟨hA, k⟩ := al1 hb
 replace hR := hR.below k hR.lt
 replace hU := hU.below k hU.lt
 replace hL := hL.below k hL.lt
 replace hD := hD.below k hD.lt
 replace hB := hB.trans (k.mono hB.size)
 clear hb k
 go_wp2_with fail
 refine (xaf 33 126 (by omega) (by omega) (by omega) _).mono ?_
 rintro e w6 ⟨rfl, hb⟩
 obtain ⟨hN, k⟩ := al1 hb
 replace hR := hR.below k hR.lt
 replace hU := hU.below k hU.lt
 replace hL := hL.below k hL.lt
 replace hD := hD.below k hD.lt
 replace hA := hA.below k hA.lt
 replace hB := hB.trans (k.mono hB.size)
 clear hb k
 go_wp2_with fail
 replace hR := hR.alloc (b4 (sP 33 126)); replace hD := hD.alloc (b4 (sP 33 126)); replace hN := hN.alloc (b4 (sP 33 126)); have hG := xac w6 (sP 33 126) 38; replace hB := hB.alloc hB.size (b4 (sP 33 126))
 clear hU hL hA
 generalize w6.alloc (b4 (sP 33 126)) = W at *
 obtain ⟨⟨c0, c1, c2, c3⟩, -⟩ := id hD; obtain ⟨⟨n0, n1, n2, n3⟩, -⟩ := id hN; obtain ⟨⟨g0, g1, g2, g3⟩, -⟩ := id hG
 replace hB := hB.drew; replace hR : Holds4 W.drew _ _ := hR; replace hD : Holds4 W.drew _ _ := hD; replace hN : Holds4 W.drew _ _ := hN; replace hG : Holds4 W.drew _ _ := hG
 go_region_with (first | (go_at_call 41; go_must (refine (notD _ _).mono ?_; rintro e wv ⟨rfl, hb⟩; replace hR := hR.below hb hR.lt; replace hD := hD.below hb hD.lt; replace hN := hN.below hb hN.lt; replace hG := hG.below hb hG.lt; replace hB := hB.trans (hb.mono hB.size); obtain ⟨⟨c0, c1, c2, c3⟩, -⟩ := id hD; obtain ⟨⟨n0, n1, n2, n3⟩, -⟩ := id hN; obtain ⟨⟨g0, g1, g2, g3⟩, -⟩ := id hG; obtain ⟨⟨d0, d1, d2, d3⟩, f0, f1, f2, f3⟩ := id hR)) | (go_at_call 108; go_must (refine (andD _ _ _).mono ?_; rintro e wv ⟨rfl, hb⟩; replace hR := hR.below hb hR.lt; replace hD := hD.below hb hD.lt; replace hN := hN.below hb hN.lt; replace hG := hG.below hb hG.lt; replace hB := hB.trans (hb.mono hB.size); obtain ⟨⟨c0, c1, c2, c3⟩, -⟩ := id hD; obtain ⟨⟨n0, n1, n2, n3⟩, -⟩ := id hN; obtain ⟨⟨g0, g1, g2, g3⟩, -⟩ := id hG; obtain ⟨⟨d0, d1, d2, d3⟩, f0, f1, f2, f3⟩ := id hR)) | (go_at_call 105; go_must (refine (xaf _ _ (by omega) (by omega) (by omega) _).mono ?_; rintro e wv ⟨rfl, hb⟩; replace hR := hR.below hb hR.lt; replace hD := hD.below hb hD.lt; replace hN := hN.below hb hN.lt; replace hG := hG.below hb hG.lt; replace hB := hB.trans (hb.mono hB.size); obtain ⟨⟨c0, c1, c2, c3⟩, -⟩ := id hD; obtain ⟨⟨n0, n1, n2, n3⟩, -⟩ := id hN; obtain ⟨⟨g0, g1, g2, g3⟩, -⟩ := id hG; obtain ⟨⟨d0, d1, d2, d3⟩, f0, f1, f2, f3⟩ := id hR)) | (go_at_call 87; go_must (refine (orD _ _ _).mono ?_; rintro e wv ⟨rfl, hb⟩; replace hR := hR.below hb hR.lt; replace hD := hD.below hb hD.lt; replace hN := hN.below hb hN.lt; replace hG := hG.below hb hG.lt; replace hB := hB.trans (hb.mono hB.size); obtain ⟨⟨c0, c1, c2, c3⟩, -⟩ := id hD; obtain ⟨⟨n0, n1, n2, n3⟩, -⟩ := id hN; obtain ⟨⟨g0, g1, g2, g3⟩, -⟩ := id hG; obtain ⟨⟨d0, d1, d2, d3⟩, f0, f1, f2, f3⟩ := id hR)))
 all_goals (go_wp2; exact bodyPost_ret (by simp [results, Try.results104, go_sem, *]) rfl ⟨rfl, xak hB (by omega) _⟩)) : P := h
theorem k4 (w : World) : Calls Try.prog 104 #[.string ⟨#[97, 108, 110, 117, 109]⟩] w fun e w' => e = .returned (.tuple #[.agg (c4 (orP (orP (sP 65 90) (sP 97 122)) (sP 48 57))), .int .i64 0]) ∧ Below w.heap.size w w' := clz
theorem k5 (w : World) : Calls Try.prog 104 #[.string ⟨#[120, 100, 105, 103, 105, 116]⟩] w fun e w' => e = .returned (.tuple #[.agg (c4 (orP (sP 48 57) (orP (sP 65 70) (sP 97 102)))), .int .i64 0]) ∧ Below w.heap.size w w' := cly
theorem k7 (w : World) : Calls Try.prog 104 #[.string ⟨#[115, 112, 97, 99, 101]⟩] w fun e w' => e = .returned (.tuple #[.agg (c4 (ins (sP 9 13) 32)), .int .i64 0]) ∧ Below w.heap.size w w' := clz
theorem k9 (w : World) : Calls Try.prog 104 #[.string ⟨#[112, 114, 105, 110, 116]⟩] w fun e w' => e = .returned (.tuple #[.agg (c4 (ins (sP 33 126) 32)), .int .i64 0]) ∧ Below w.heap.size w w' := clz
theorem k10 (w : World) : Calls Try.prog 104 #[.string ⟨#[112, 117, 110, 99, 116]⟩] w fun e w' => e = .returned (.tuple #[.agg (c4 (andP (sP 33 126) (notP (orP (orP (sP 65 90) (sP 97 122)) (sP 48 57))))), .int .i64 0]) ∧ Below w.heap.size w w' := cly
theorem k11 (w : World) : Calls Try.prog 104 #[.string ⟨#[99, 110, 116, 114, 108]⟩] w fun e w' => e = .returned (.tuple #[.agg (c4 (ins (sP 0 31) 127)), .int .i64 0]) ∧ Below w.heap.size w w' := clz
theorem k12 (s : ByteArray) (n0 : (s.toList == [117, 112, 112, 101, 114]) = false) (n1 : (s.toList == [108, 111, 119, 101, 114]) = false) (n2 : (s.toList == [100, 105, 103, 105, 116]) = false) (n3 : (s.toList == [97, 108, 112, 104, 97]) = false) (n4 : (s.toList == [97, 108, 110, 117, 109]) = false) (n5 : (s.toList == [120, 100, 105, 103, 105, 116]) = false) (n6 : (s.toList == [98, 108, 97, 110, 107]) = false) (n7 : (s.toList == [115, 112, 97, 99, 101]) = false) (n8 : (s.toList == [103, 114, 97, 112, 104]) = false) (n9 : (s.toList == [112, 114, 105, 110, 116]) = false) (n10 : (s.toList == [112, 117, 110, 99, 116]) = false) (n11 : (s.toList == [99, 110, 116, 114, 108]) = false) (w : World) : Calls Try.prog 104 #[.string s] w fun e w' => e = .returned (.tuple #[.agg (c4 fun _ => false), .int .i64 8]) ∧ Below w.heap.size w w' := by
 unfold c4
 rw [xaa, xaa, xaa, xaa]
 go_enter Try.func104, Try.ntmps104
 go_wp2_with fail
 refine (xaf 65 90 (by omega) (by omega) (by omega) _).mono ?_
 rintro e w1 ⟨rfl, hb⟩
 have hR := (xal w 38).below hb (by simp)
 have hB : Below w.heap.size w w1 := ((Below.refl _ _).alloc (Nat.le_refl _) _).trans (hb.mono (by simp))
 clear hb
 go_wp2_with fail
 refine (xaf 97 122 (by omega) (by omega) (by omega) _).mono ?_
 rintro e w2 ⟨rfl, hb⟩
 replace hR := hR.below hb hR.lt
 replace hB := hB.trans (hb.mono hB.size)
 clear hb
 go_wp2_with fail
 refine (xaf 48 57 (by omega) (by omega) (by omega) _).mono ?_
 rintro e w3 ⟨rfl, hb⟩
 replace hR := hR.below hb hR.lt
 replace hB := hB.trans (hb.mono hB.size)
 clear hb
 go_wp2_with fail
 refine (orD _ _ _).mono ?_
 rintro e w4 ⟨rfl, hb⟩
 obtain ⟨hU, hL, hD, k⟩ := al3 hb
 replace hR := hR.below k hR.lt
 replace hB := hB.trans (k.mono hB.size)
 clear hb k
 obtain ⟨⟨d0, d1, d2, d3⟩, -⟩ := id hD
 have lt := hD.lt
 go_wp2_with fail
 clear d0 d1 d2 d3 lt
 refine (orD _ _ _).mono ?_
 rintro e w5 ⟨rfl, hb⟩
 obtain ⟨hA, k⟩ := al1 hb
 replace hR := hR.below k hR.lt
 replace hU := hU.below k hU.lt
 replace hL := hL.below k hL.lt
 replace hD := hD.below k hD.lt
 replace hB := hB.trans (k.mono hB.size)
 clear hb k
 go_wp2_with fail
 refine (xaf 33 126 (by omega) (by omega) (by omega) _).mono ?_
 rintro e w6 ⟨rfl, hb⟩
 obtain ⟨hN, k⟩ := al1 hb
 replace hR := hR.below k hR.lt
 replace hU := hU.below k hU.lt
 replace hL := hL.below k hL.lt
 replace hD := hD.below k hD.lt
 replace hA := hA.below k hA.lt
 replace hB := hB.trans (k.mono hB.size)
 clear hb k
 obtain ⟨⟨z0, z1, z2, z3⟩, zf0, zf1, zf2, zf3⟩ := id hR
 have lz := hR.lt
 go_wp2
 have hB2 := (((hB.setCell (p := ⟨w.heap.size, 0, none⟩) (Nat.le_refl _) (.int .u64 0)).setCell (p := ⟨w.heap.size, 1, none⟩) (Nat.le_refl _) (.int .u64 0)).setCell (p := ⟨w.heap.size, 2, none⟩) (Nat.le_refl _) (.int .u64 0)).setCell (p := ⟨w.heap.size, 3, none⟩) (Nat.le_refl _) (.int .u64 0)
 exact bodyPost_ret (v := .tuple #[.agg #[.int .u64 0, .int .u64 0, .int .u64 0, .int .u64 0], .int .i64 8]) (by simp [results, Try.results104, go_sem, *]) rfl ⟨rfl, hB2.alloc hB2.size _⟩
def clT (s : ByteArray) : (Nat → Bool) × Int :=
 bif s.toList == [117, 112, 112, 101, 114] then (sP 65 90, 0) else
 bif s.toList == [108, 111, 119, 101, 114] then (sP 97 122, 0) else
 bif s.toList == [100, 105, 103, 105, 116] then (sP 48 57, 0) else
 bif s.toList == [97, 108, 112, 104, 97] then (orP (sP 65 90) (sP 97 122), 0) else
 bif s.toList == [97, 108, 110, 117, 109] then (orP (orP (sP 65 90) (sP 97 122)) (sP 48 57), 0) else
 bif s.toList == [120, 100, 105, 103, 105, 116] then (orP (sP 48 57) (orP (sP 65 70) (sP 97 102)), 0) else
 bif s.toList == [98, 108, 97, 110, 107] then (ofP ⟨#[32, 9]⟩, 0) else
 bif s.toList == [115, 112, 97, 99, 101] then (ins (sP 9 13) 32, 0) else
 bif s.toList == [103, 114, 97, 112, 104] then (sP 33 126, 0) else
 bif s.toList == [112, 114, 105, 110, 116] then (ins (sP 33 126) 32, 0) else
 bif s.toList == [112, 117, 110, 99, 116] then (andP (sP 33 126) (notP (orP (orP (sP 65 90) (sP 97 122)) (sP 48 57))), 0) else
 bif s.toList == [99, 110, 116, 114, 108] then (ins (sP 0 31) 127, 0) else (fun _ => false, 8)
theorem xba {s : ByteArray} {l : List UInt8} (h : (s.toList == l) = true) : s = ⟨l.toArray⟩ := by
 have h1 : s.toList = l := by simpa using h
 rw [ByteArray.toList_eq] at h1
 obtain ⟨⟨x⟩⟩ := s
 simp only at h1
 rw [h1]
theorem classW (s : ByteArray) (w : World) : Calls Try.prog 104 #[.string s] w fun e w' => e = .returned (.tuple #[.agg (c4 (clT s).1), .int .i64 (clT s).2]) ∧ Below w.heap.size w w' := by
 generalize hT : clT s = T
 unfold clT at hT
 cases n0 : s.toList == [117, 112, 112, 101, 114]
 case true => rw [n0] at hT; obtain rfl := xba n0; subst hT; exact k0 w
 rw [n0] at hT
 cases n1 : s.toList == [108, 111, 119, 101, 114]
 case true => rw [n1] at hT; obtain rfl := xba n1; subst hT; exact k1 w
 rw [n1] at hT
 cases n2 : s.toList == [100, 105, 103, 105, 116]
 case true => rw [n2] at hT; obtain rfl := xba n2; subst hT; exact k2 w
 rw [n2] at hT
 cases n3 : s.toList == [97, 108, 112, 104, 97]
 case true => rw [n3] at hT; obtain rfl := xba n3; subst hT; exact k3 w
 rw [n3] at hT
 cases n4 : s.toList == [97, 108, 110, 117, 109]
 case true => rw [n4] at hT; obtain rfl := xba n4; subst hT; exact k4 w
 rw [n4] at hT
 cases n5 : s.toList == [120, 100, 105, 103, 105, 116]
 case true => rw [n5] at hT; obtain rfl := xba n5; subst hT; exact k5 w
 rw [n5] at hT
 cases n6 : s.toList == [98, 108, 97, 110, 107]
 case true => rw [n6] at hT; obtain rfl := xba n6; subst hT; exact k6 w
 rw [n6] at hT
 cases n7 : s.toList == [115, 112, 97, 99, 101]
 case true => rw [n7] at hT; obtain rfl := xba n7; subst hT; exact k7 w
 rw [n7] at hT
 cases n8 : s.toList == [103, 114, 97, 112, 104]
 case true => rw [n8] at hT; obtain rfl := xba n8; subst hT; exact k8 w
 rw [n8] at hT
 cases n9 : s.toList == [112, 114, 105, 110, 116]
 case true => rw [n9] at hT; obtain rfl := xba n9; subst hT; exact k9 w
 rw [n9] at hT
 cases n10 : s.toList == [112, 117, 110, 99, 116]
 case true => rw [n10] at hT; obtain rfl := xba n10; subst hT; exact k10 w
 rw [n10] at hT
 cases n11 : s.toList == [99, 110, 116, 114, 108]
 case true => rw [n11] at hT; obtain rfl := xba n11; subst hT; exact k11 w
 rw [n11] at hT
 subst hT
 exact k12 s n0 n1 n2 n3 n4 n5 n6 n7 n8 n9 n10 n11 w
def ccF (s : ByteArray) : Int := (clT s).2
theorem cq {b : Bool} {x y : (Nat → Bool) × Int} (hx : 0 ≤ x.2) (hy : 0 ≤ y.2) : 0 ≤ (bif b then x else y).2 := by cases b <;> assumption
theorem cc0 (s : ByteArray) : 0 ≤ ccF s := by
 unfold ccF clT
 repeat' apply cq
 all_goals decide
end Go.Proofs.Ytolpakpdkheanaa.br
