/- Same of two commands that differ in an address, in ! or in the name. -/
import Derived.Test.YtidgnebbibkmhaaGreatDoorKSw1
set_option maxRecDepth 100000
set_option maxHeartbeats 4000000
namespace Go.Proofs.YtidgnebbibkmhaaGreatDoor
open Go.RowKit
open scanP scrP tpl ytb
namespace sho
set_option maxHeartbeats 0 in
theorem same_n1 (c d : Co) (pv qv : Value) (W : World) (h : PRow W pv c.ps) (h' : PRow W qv d.ps) (hps : d.ps = c.ps) (he : ¬ (d.a.k = c.a.k ∧ d.a.ln = c.a.ln ∧ d.a.re = c.a.re ∧ d.b.k = c.b.k ∧ d.b.ln = c.b.ln ∧ d.b.re = c.b.re ∧ d.nt = c.nt ∧ d.nm = c.nm)) (hl : c.ps.length ≤ 1000000000000000) (hl' : d.ps.length ≤ 1000000000000000) : Calls Tryz.prog 17 #[.agg (coV c pv).toArray, .agg (coV d qv).toArray, .bool false] W fun e w' => e = .returned (.bool false) ∧ Below W.heap.size W w' := by
 have HH := hideT (And.intro h h')
 have HL := hideT (And.intro hl hl')
 have HE := hideT he
 clear h h' hl hl' he
 go_enter Tryz.func17, Tryz.ntmps17
 go_upto_region 1 with fail
 have hb : Below W.heap.size W ((W.alloc (.cells (coV c pv).toArray 39)).alloc (.cells (coV d qv).toArray 39)) := ((Below.refl _ _).alloc (Nat.le_refl _) _).alloc (by simp) _
 have hk1 : CmAt ((W.alloc (.cells (coV c pv).toArray 39)).alloc (.cells (coV d qv).toArray 39)) W.heap.size (coV c pv) := (Below.heap_alloc _ _ _ (by simp)).trans (heap_alloc_new W _)
 have hk2 : CmAt ((W.alloc (.cells (coV c pv).toArray 39)).alloc (.cells (coV d qv).toArray 39)) (W.heap.size + 1) (coV d qv) := by
  have h1 := heap_alloc_new (W.alloc (.cells (coV c pv).toArray 39)) (.cells (coV d qv).toArray 39)
  rw [World.size_alloc] at h1
  exact h1
 obtain ⟨X, hX⟩ : ∃ X, X = ((W.alloc (.cells (coV c pv).toArray 39)).alloc (.cells (coV d qv).toArray 39)) := ⟨_, rfl⟩
 rw [← hX] at hb hk1 hk2 ⊢
 obtain ⟨N, hN⟩ : ∃ N, N = W.heap.size := ⟨_, rfl⟩
 rw [← hN] at hk1 hk2 ⊢
 have HXB := hideT hb
 have HX1 := hideT hk1
 have HX2 := hideT hk2
 have p1 := hk1.cell 13 (v := pv) rfl
 have p2 := hk2.cell 13 (v := qv) rfl
 have HPA := hideT (HH.out.1.stay hb (Nat.le_refl _))
 have HPB := hideT (HH.out.2.stay hb (Nat.le_refl _))
 have HNN := hideT hN
 clear hX hb hk1 hk2 hN
 have HPS := hideT (parts_same pv qv c.ps X HPA.out (hps ▸ HPB.out) (by have := HL.out; omega))
 have E13 := hideT hps
 clear hps
 go_wp2_with fail
 refine HPS.out.mono ?_
 rintro e w1 ⟨rfl, hb1⟩
 have HK1 := hideT (show CmAt w1 N (coV c pv) from ((hb1.block N (Array.getElem?_eq_some_iff.1 HX1.out).1).trans HX1.out))
 have HK2 := hideT (show CmAt w1 (N + 1) (coV d qv) from ((hb1.block (N + 1) (Array.getElem?_eq_some_iff.1 HX2.out).1).trans HX2.out))
 have HF := hideT (HXB.out.trans (hb1.mono HXB.out.size))
 clear hb1 p1 p2 HPS
 have a1 := HK1.out.cell 1 (v := .int .i64 (c.a.k : Nat)) rfl
 have d1 := HK2.out.cell 1 (v := .int .i64 (d.a.k : Nat)) rfl
 have a2 := HK1.out.cell 2 (v := .int .i64 (c.a.ln : Nat)) rfl
 have d2 := HK2.out.cell 2 (v := .int .i64 (d.a.ln : Nat)) rfl
 have a3 := HK1.out.cell 3 (v := .string (bst c.a.re)) rfl
 have d3 := HK2.out.cell 3 (v := .string (bst d.a.re)) rfl
 have a4 := HK1.out.cell 4 (v := .int .i64 (c.b.k : Nat)) rfl
 have d4 := HK2.out.cell 4 (v := .int .i64 (d.b.k : Nat)) rfl
 have a5 := HK1.out.cell 5 (v := .int .i64 (c.b.ln : Nat)) rfl
 have d5 := HK2.out.cell 5 (v := .int .i64 (d.b.ln : Nat)) rfl
 have a6 := HK1.out.cell 6 (v := .string (bst c.b.re)) rfl
 have d6 := HK2.out.cell 6 (v := .string (bst d.b.re)) rfl
 have a7 := HK1.out.cell 7 (v := .bool c.nt) rfl
 have d7 := HK2.out.cell 7 (v := .bool d.nt) rfl
 have a8 := HK1.out.cell 8 (v := .int .u8 (c.nm.toNat : Nat)) rfl
 have d8 := HK2.out.cell 8 (v := .int .u8 (d.nm.toNat : Nat)) rfl
 have a9 := HK1.out.cell 9 (v := .string (bst c.lb)) rfl
 have d9 := HK2.out.cell 9 (v := .string (bst d.lb)) rfl
 have a10 := HK1.out.cell 10 (v := .string (bst c.tx)) rfl
 have d10 := HK2.out.cell 10 (v := .string (bst d.tx)) rfl
 have a11 := HK1.out.cell 11 (v := .string (bst c.fl)) rfl
 have d11 := HK2.out.cell 11 (v := .string (bst d.fl)) rfl
 have a12 := HK1.out.cell 12 (v := .string (bst c.re)) rfl
 have d12 := HK2.out.cell 12 (v := .string (bst d.re)) rfl
 have a14 := HK1.out.cell 14 (v := .int .i64 (c.nh : Nat)) rfl
 have d14 := HK2.out.cell 14 (v := .int .i64 (d.nh : Nat)) rfl
 have a15 := HK1.out.cell 15 (v := .bool c.an) rfl
 have d15 := HK2.out.cell 15 (v := .bool d.an) rfl
 have a16 := HK1.out.cell 16 (v := .bool c.pr) rfl
 have d16 := HK2.out.cell 16 (v := .bool d.pr) rfl
 have a17 := HK1.out.cell 17 (v := .string (bst c.fr)) rfl
 have d17 := HK2.out.cell 17 (v := .string (bst d.fr)) rfl
 have a18 := HK1.out.cell 18 (v := .string (bst c.to)) rfl
 have d18 := HK2.out.cell 18 (v := .string (bst d.to)) rfl
 clear HK1 HK2 HX1 HX2 HH HPA HPB
 rcases Classical.em (d.a.k = c.a.k) with h | h
 rotate_left
 ·have r : (((c.a.k : Nat) : Int) == ((d.a.k : Nat) : Int)) = false := by simp; omega
  clear h
  go_wp2
  go_ret
  exact ⟨rfl, HF.out⟩
 rw [h] at d1
 have E1 := hideT h
 clear h
 rcases Classical.em (d.a.ln = c.a.ln) with h | h
 rotate_left
 ·have r : (((c.a.ln : Nat) : Int) == ((d.a.ln : Nat) : Int)) = false := by simp; omega
  clear h
  go_wp2
  go_ret
  exact ⟨rfl, HF.out⟩
 rw [h] at d2
 have E2 := hideT h
 clear h
 rcases Classical.em (d.a.re = c.a.re) with h | h
 rotate_left
 ·have r := s_not (Ne.symm h)
  clear h
  go_wp2
  go_ret
  exact ⟨rfl, HF.out⟩
 rw [h] at d3
 have E3 := hideT h
 clear h
 rcases Classical.em (d.b.k = c.b.k) with h | h
 rotate_left
 ·have r : (((c.b.k : Nat) : Int) == ((d.b.k : Nat) : Int)) = false := by simp; omega
  clear h
  go_wp2
  go_ret
  exact ⟨rfl, HF.out⟩
 rw [h] at d4
 have E4 := hideT h
 clear h
 rcases Classical.em (d.b.ln = c.b.ln) with h | h
 rotate_left
 ·have r : (((c.b.ln : Nat) : Int) == ((d.b.ln : Nat) : Int)) = false := by simp; omega
  clear h
  go_wp2
  go_ret
  exact ⟨rfl, HF.out⟩
 rw [h] at d5
 have E5 := hideT h
 clear h
 rcases Classical.em (d.b.re = c.b.re) with h | h
 rotate_left
 ·have r := s_not (Ne.symm h)
  clear h
  go_wp2
  go_ret
  exact ⟨rfl, HF.out⟩
 rw [h] at d6
 have E6 := hideT h
 clear h
 rcases Classical.em (d.nt = c.nt) with h | h
 rotate_left
 ·have r : (c.nt == d.nt) = false := by simpa using Ne.symm h
  clear h
  go_wp2
  go_ret
  exact ⟨rfl, HF.out⟩
 rw [h] at d7
 have E7 := hideT h
 clear h
 rcases Classical.em (d.nm = c.nm) with h | h
 rotate_left
 ·have r : (((c.nm.toNat : Nat) : Int) == ((d.nm.toNat : Nat) : Int)) = false := by simpa using fun e => h (UInt8.toNat_inj.1 (by omega))
  clear h
  go_wp2
  go_ret
  exact ⟨rfl, HF.out⟩
 rw [h] at d8
 have E8 := hideT h
 clear h
 exact absurd ⟨E1.out, E2.out, E3.out, E4.out, E5.out, E6.out, E7.out, E8.out⟩ HE.out
end sho
end Go.Proofs.YtidgnebbibkmhaaGreatDoor
