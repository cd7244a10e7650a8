/- Class: the walk. -/
import Derived.Test.YtolpakpdkheanaaKDet
set_option maxRecDepth 100000
set_option maxHeartbeats 8000000
namespace Go.Proofs.Ytolpakpdkheanaa.br
open Go.RowKit
abbrev c4 (p : Nat → Bool) : Array Value := #[.int .u64 (wd p 0), .int .u64 (wd p 1), .int .u64 (wd p 2), .int .u64 (wd p 3)]
abbrev b4 (p : Nat → Bool) : Obj := .cells (c4 p) 38
theorem al1 {w w' : World} {p : Nat → Bool} (hb : Below (w.alloc (b4 p)).heap.size (w.alloc (b4 p)) w') : Holds4 w' w.heap.size p ∧ Below w.heap.size w w' := ⟨(xac w p 38).below hb (by simp), ((Below.refl _ _).alloc (Nat.le_refl _) _).trans (hb.mono (by simp))⟩
theorem al3 {w w' : World} {p q r : Nat → Bool} (hb : Below (((w.alloc (b4 p)).alloc (b4 q)).alloc (b4 r)).heap.size (((w.alloc (b4 p)).alloc (b4 q)).alloc (b4 r)) w') : Holds4 w' w.heap.size p ∧ Holds4 w' (w.heap.size + 1) q ∧ Holds4 w' (w.heap.size + 1 + 1) r ∧ Below w.heap.size w w' := by
 obtain ⟨h3, k3⟩ := al1 hb
 obtain ⟨h2, k2⟩ := al1 k3
 obtain ⟨h1, k1⟩ := al1 k2
 simp only [World.size_alloc] at h3 h2
 exact ⟨h1, h2, h3, k1⟩
theorem clz {P : Prop} (h : P := by
 go_enter Try.func104, Try.ntmps104
 go_wp2_with fail
 refine (xaf 65 90 (by omega) (by omega) (by omega) _).mono ?_
 rintro e w1 ⟨rfl, hb⟩
 have hR := (xal w 38).below hb (by simp)
 have hB : Below w.heap.size w w1 := ((Below.refl _ _).alloc (Nat.le_refl _) _).trans (hb.mono (by simp))
 clear hb
 go_wp2_with fail
 refine (xaf 97 122 (by omega) (by omega) (by omega) _).mono ?_
 rintro e w2 ⟨rfl, hb⟩
 replace hR := hR.below hb hR.lt
 replace hB := hB.trans (hb.mono hB.size)
 clear hb
 go_wp2_with fail
 refine (xaf 48 57 (by omega) (by omega) (by omega) _).mono ?_
 rintro e w3 ⟨rfl, hb⟩
 replace hR := hR.below hb hR.lt
 replace hB := hB.trans (hb.mono hB.size)
 clear hb
 go_wp2_with fail
 refine (orD _ _ _).mono ?_
 rintro e w4 ⟨rfl, hb⟩
 obtain ⟨hU, hL, hD, k⟩ := al3 hb
 replace hR := hR.below k hR.lt
 replace hB := hB.trans (k.mono hB.size)
 clear hb k
 obtain ⟨⟨d0, d1, d2, d3⟩, -⟩ := id hD
 have lt := hD.lt
 go_wp2_with fail
 clear d0 d1 d2 d3 lt
 refine (orD _ _ _).mono ?_
 rintro e w5 ⟨rfl, hb⟩
 obtain ⟨hA, k⟩ := al1 hb
 replace hR := hR.below k hR.lt
 replace hU := hU.below k hU.lt
 replace hL := hL.below k hL.lt
 replace hD := hD.below k hD.lt
 replace hB := hB.trans (k.mono hB.size)
 clear hb k
 go_wp2_with fail
 refine (xaf 33 126 (by omega) (by omega) (by omega) _).mono ?_
 rintro e w6 ⟨rfl, hb⟩
 obtain ⟨hN, k⟩ := al1 hb
 replace hR := hR.below k hR.lt
 replace hU := hU.below k hU.lt
 replace hL := hL.below k hL.lt
 replace hD := hD.below k hD.lt
 replace hA := hA.below k hA.lt
 replace hB := hB.trans (k.mono hB.size)
 clear hb k
 first
 | (obtain ⟨⟨U0, U1, U2, U3⟩, -⟩ := id hU; have lU := hU.lt;
    obtain ⟨⟨L0, L1, L2, L3⟩, -⟩ := id hL; have lL := hL.lt;
    obtain ⟨⟨D0, D1, D2, D3⟩, -⟩ := id hD; have lD := hD.lt;
    obtain ⟨⟨A0, A1, A2, A3⟩, -⟩ := id hA; have lA := hA.lt;
    obtain ⟨⟨N0, N1, N2, N3⟩, -⟩ := id hN; have lN := hN.lt;
    obtain ⟨⟨z0, z1, z2, z3⟩, zf0, zf1, zf2, zf3⟩ := id hR;
    have lz := hR.lt;
    go_wp2;
    exact bodyPost_ret (by simp [results, Try.results104, go_sem, *]) rfl ⟨rfl, (xak hB (Nat.le_refl _) _).alloc (xak hB (Nat.le_refl _) _).size _⟩)
 | (have lz := hR.lt;
    go_wp2_with fail; refine (ofD ⟨#[32, 9]⟩ (by decide) _).mono ?_; rintro e v0 ⟨rfl, hb⟩; replace hb := (al1 hb).2; replace hR := hR.below hb hR.lt; replace hB := hB.trans (hb.mono hB.size); clear hb;
    obtain ⟨⟨z0, z1, z2, z3⟩, zf0, zf1, zf2, zf3⟩ := id hR; go_wp2; exact bodyPost_ret (by simp [results, Try.results104, go_sem, *]) rfl ⟨rfl, xak hB (by omega) _⟩)
 | (have lz := hR.lt;
    go_wp2_with fail; refine (xfo (sP 33 126) 32 (by omega) (by omega) _).mono ?_; rintro e v0 ⟨rfl, hb⟩; replace hb := (al1 hb).2; replace hR := hR.below hb hR.lt; replace hB := hB.trans (hb.mono hB.size); clear hb;
    obtain ⟨⟨z0, z1, z2, z3⟩, zf0, zf1, zf2, zf3⟩ := id hR; go_wp2; exact bodyPost_ret (by simp [results, Try.results104, go_sem, *]) rfl ⟨rfl, xak hB (by omega) _⟩)
 | (have lz := hR.lt;
    go_wp2_with fail; refine (xaf _ _ (by omega) (by omega) (by omega) _).mono ?_; rintro e v0 ⟨rfl, hb⟩; replace hb := (al1 hb).2; replace hR := hR.below hb hR.lt; replace hB := hB.trans (hb.mono hB.size); clear hb;
    go_wp2_with fail; refine (xfo _ _ (by omega) (by omega) _).mono ?_; rintro e v1 ⟨rfl, hb⟩; replace hR := hR.below hb hR.lt; replace hB := hB.trans (hb.mono hB.size); clear hb;
    obtain ⟨⟨z0, z1, z2, z3⟩, zf0, zf1, zf2, zf3⟩ := id hR; go_wp2; exact bodyPost_ret (by simp [results, Try.results104, go_sem, *]) rfl ⟨rfl, xak hB (by omega) _⟩)) : P := h
theorem k0 (w : World) : Calls Try.prog 104 #[.string ⟨#[117, 112, 112, 101, 114]⟩] w fun e w' => e = .returned (.tuple #[.agg (c4 (sP 65 90)), .int .i64 0]) ∧ Below w.heap.size w w' := clz
theorem k1 (w : World) : Calls Try.prog 104 #[.string ⟨#[108, 111, 119, 101, 114]⟩] w fun e w' => e = .returned (.tuple #[.agg (c4 (sP 97 122)), .int .i64 0]) ∧ Below w.heap.size w w' := clz
theorem k2 (w : World) : Calls Try.prog 104 #[.string ⟨#[100, 105, 103, 105, 116]⟩] w fun e w' => e = .returned (.tuple #[.agg (c4 (sP 48 57)), .int .i64 0]) ∧ Below w.heap.size w w' := clz
theorem k3 (w : World) : Calls Try.prog 104 #[.string ⟨#[97, 108, 112, 104, 97]⟩] w fun e w' => e = .returned (.tuple #[.agg (c4 (orP (sP 65 90) (sP 97 122))), .int .i64 0]) ∧ Below w.heap.size w w' := clz
theorem k8 (w : World) : Calls Try.prog 104 #[.string ⟨#[103, 114, 97, 112, 104]⟩] w fun e w' => e = .returned (.tuple #[.agg (c4 (sP 33 126)), .int .i64 0]) ∧ Below w.heap.size w w' := clz
theorem k6 (w : World) : Calls Try.prog 104 #[.string ⟨#[98, 108, 97, 110, 107]⟩] w fun e w' => e = .returned (.tuple #[.agg (c4 (ofP ⟨#[32, 9]⟩)), .int .i64 0]) ∧ Below w.heap.size w w' := clz
end Go.Proofs.Ytolpakpdkheanaa.br
