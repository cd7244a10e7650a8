/- Same of two commands that differ behind the name. -/
import Derived.Test.YtidgnebbibkmhaaGreatDoorKSw1
set_option maxRecDepth 100000
set_option maxHeartbeats 4000000
namespace Go.Proofs.YtidgnebbibkmhaaGreatDoor
open Go.RowKit
open scanP scrP tpl ytb
namespace sho
set_option maxHeartbeats 0 in
theorem same_n2 (c d : Co) (pv qv : Value) (W : World) (h : PRow W pv c.ps) (h' : PRow W qv d.ps) (hps : d.ps = c.ps) (hq : d.a.k = c.a.k ∧ d.a.ln = c.a.ln ∧ d.a.re = c.a.re ∧ d.b.k = c.b.k ∧ d.b.ln = c.b.ln ∧ d.b.re = c.b.re ∧ d.nt = c.nt ∧ d.nm = c.nm) (he : nfC d ≠ nfC c) (hl : c.ps.length ≤ 1000000000000000) (hl' : d.ps.length ≤ 1000000000000000) : Calls Tryz.prog 17 #[.agg (coV c pv).toArray, .agg (coV d qv).toArray, .bool false] W fun e w' => e = .returned (.bool false) ∧ Below W.heap.size W w' := by
 have HQ := hideT hq
 clear hq
 have HH := hideT (And.intro h h')
 have HL := hideT (And.intro hl hl')
 have HE := hideT he
 clear h h' hl hl' he
 go_enter Tryz.func17, Tryz.ntmps17
 go_upto_region 1 with fail
 have hb : Below W.heap.size W ((W.alloc (.cells (coV c pv).toArray 39)).alloc (.cells (coV d qv).toArray 39)) := ((Below.refl _ _).alloc (Nat.le_refl _) _).alloc (by simp) _
 have hk1 : CmAt ((W.alloc (.cells (coV c pv).toArray 39)).alloc (.cells (coV d qv).toArray 39)) W.heap.size (coV c pv) := (Below.heap_alloc _ _ _ (by simp)).trans (heap_alloc_new W _)
 have hk2 : CmAt ((W.alloc (.cells (coV c pv).toArray 39)).alloc (.cells (coV d qv).toArray 39)) (W.heap.size + 1) (coV d qv) := by
  have h1 := heap_alloc_new (W.alloc (.cells (coV c pv).toArray 39)) (.cells (coV d qv).toArray 39)
  rw [World.size_alloc] at h1
  exact h1
 obtain ⟨X, hX⟩ : ∃ X, X = ((W.alloc (.cells (coV c pv).toArray 39)).alloc (.cells (coV d qv).toArray 39)) := ⟨_, rfl⟩
 rw [← hX] at hb hk1 hk2 ⊢
 obtain ⟨N, hN⟩ : ∃ N, N = W.heap.size := ⟨_, rfl⟩
 rw [← hN] at hk1 hk2 ⊢
 have HXB := hideT hb
 have HX1 := hideT hk1
 have HX2 := hideT hk2
 have p1 := hk1.cell 13 (v := pv) rfl
 have p2 := hk2.cell 13 (v := qv) rfl
 have HPA := hideT (HH.out.1.stay hb (Nat.le_refl _))
 have HPB := hideT (HH.out.2.stay hb (Nat.le_refl _))
 have HNN := hideT hN
 clear hX hb hk1 hk2 hN
 have HPS := hideT (parts_same pv qv c.ps X HPA.out (hps ▸ HPB.out) (by have := HL.out; omega))
 have E13 := hideT hps
 clear hps
 go_wp2_with fail
 refine HPS.out.mono ?_
 rintro e w1 ⟨rfl, hb1⟩
 have HK1 := hideT (show CmAt w1 N (coV c pv) from ((hb1.block N (Array.getElem?_eq_some_iff.1 HX1.out).1).trans HX1.out))
 have HK2 := hideT (show CmAt w1 (N + 1) (coV d qv) from ((hb1.block (N + 1) (Array.getElem?_eq_some_iff.1 HX2.out).1).trans HX2.out))
 have HF := hideT (HXB.out.trans (hb1.mono HXB.out.size))
 clear hb1 p1 p2 HPS
 have a1 := HK1.out.cell 1 (v := .int .i64 (c.a.k : Nat)) rfl
 have d1 := HK2.out.cell 1 (v := .int .i64 (d.a.k : Nat)) rfl
 have a2 := HK1.out.cell 2 (v := .int .i64 (c.a.ln : Nat)) rfl
 have d2 := HK2.out.cell 2 (v := .int .i64 (d.a.ln : Nat)) rfl
 have a3 := HK1.out.cell 3 (v := .string (bst c.a.re)) rfl
 have d3 := HK2.out.cell 3 (v := .string (bst d.a.re)) rfl
 have a4 := HK1.out.cell 4 (v := .int .i64 (c.b.k : Nat)) rfl
 have d4 := HK2.out.cell 4 (v := .int .i64 (d.b.k : Nat)) rfl
 have a5 := HK1.out.cell 5 (v := .int .i64 (c.b.ln : Nat)) rfl
 have d5 := HK2.out.cell 5 (v := .int .i64 (d.b.ln : Nat)) rfl
 have a6 := HK1.out.cell 6 (v := .string (bst c.b.re)) rfl
 have d6 := HK2.out.cell 6 (v := .string (bst d.b.re)) rfl
 have a7 := HK1.out.cell 7 (v := .bool c.nt) rfl
 have d7 := HK2.out.cell 7 (v := .bool d.nt) rfl
 have a8 := HK1.out.cell 8 (v := .int .u8 (c.nm.toNat : Nat)) rfl
 have d8 := HK2.out.cell 8 (v := .int .u8 (d.nm.toNat : Nat)) rfl
 have a9 := HK1.out.cell 9 (v := .string (bst c.lb)) rfl
 have d9 := HK2.out.cell 9 (v := .string (bst d.lb)) rfl
 have a10 := HK1.out.cell 10 (v := .string (bst c.tx)) rfl
 have d10 := HK2.out.cell 10 (v := .string (bst d.tx)) rfl
 have a11 := HK1.out.cell 11 (v := .string (bst c.fl)) rfl
 have d11 := HK2.out.cell 11 (v := .string (bst d.fl)) rfl
 have a12 := HK1.out.cell 12 (v := .string (bst c.re)) rfl
 have d12 := HK2.out.cell 12 (v := .string (bst d.re)) rfl
 have a14 := HK1.out.cell 14 (v := .int .i64 (c.nh : Nat)) rfl
 have d14 := HK2.out.cell 14 (v := .int .i64 (d.nh : Nat)) rfl
 have a15 := HK1.out.cell 15 (v := .bool c.an) rfl
 have d15 := HK2.out.cell 15 (v := .bool d.an) rfl
 have a16 := HK1.out.cell 16 (v := .bool c.pr) rfl
 have d16 := HK2.out.cell 16 (v := .bool d.pr) rfl
 have a17 := HK1.out.cell 17 (v := .string (bst c.fr)) rfl
 have d17 := HK2.out.cell 17 (v := .string (bst d.fr)) rfl
 have a18 := HK1.out.cell 18 (v := .string (bst c.to)) rfl
 have d18 := HK2.out.cell 18 (v := .string (bst d.to)) rfl
 clear HK1 HK2 HX1 HX2 HH HPA HPB
 rw [HQ.out.1] at d1
 rw [HQ.out.2.1] at d2
 rw [HQ.out.2.2.1] at d3
 rw [HQ.out.2.2.2.1] at d4
 rw [HQ.out.2.2.2.2.1] at d5
 rw [HQ.out.2.2.2.2.2.1] at d6
 rw [HQ.out.2.2.2.2.2.2.1] at d7
 rw [HQ.out.2.2.2.2.2.2.2] at d8
 rcases Classical.em (d.lb = c.lb) with h | h
 rotate_left
 ·have r := s_not (Ne.symm h)
  clear h
  go_wp2
  go_ret
  exact ⟨rfl, HF.out⟩
 rw [h] at d9
 have E9 := hideT h
 clear h
 rcases Classical.em (d.tx = c.tx) with h | h
 rotate_left
 ·have r := s_not (Ne.symm h)
  clear h
  go_wp2
  go_ret
  exact ⟨rfl, HF.out⟩
 rw [h] at d10
 have E10 := hideT h
 clear h
 rcases Classical.em (d.fl = c.fl) with h | h
 rotate_left
 ·have r := s_not (Ne.symm h)
  clear h
  go_wp2
  go_ret
  exact ⟨rfl, HF.out⟩
 rw [h] at d11
 have E11 := hideT h
 clear h
 rcases Classical.em (d.re = c.re) with h | h
 rotate_left
 ·have r := s_not (Ne.symm h)
  clear h
  go_wp2
  go_ret
  exact ⟨rfl, HF.out⟩
 rw [h] at d12
 have E12 := hideT h
 clear h
 rcases Classical.em (d.nh = c.nh) with h | h
 rotate_left
 ·have r : (((c.nh : Nat) : Int) == ((d.nh : Nat) : Int)) = false := by simp; omega
  clear h
  go_wp2
  go_ret
  exact ⟨rfl, HF.out⟩
 rw [h] at d14
 have E14 := hideT h
 clear h
 rcases Classical.em (d.an = c.an) with h | h
 rotate_left
 ·have r : (c.an == d.an) = false := by simpa using Ne.symm h
  clear h
  go_wp2
  go_ret
  exact ⟨rfl, HF.out⟩
 rw [h] at d15
 have E15 := hideT h
 clear h
 rcases Classical.em (d.pr = c.pr) with h | h
 rotate_left
 ·have r : (c.pr == d.pr) = false := by simpa using Ne.symm h
  clear h
  go_wp2
  go_ret
  exact ⟨rfl, HF.out⟩
 rw [h] at d16
 have E16 := hideT h
 clear h
 rcases Classical.em (d.fr = c.fr) with h | h
 rotate_left
 ·have r := s_not (Ne.symm h)
  clear h
  go_wp2
  go_ret
  exact ⟨rfl, HF.out⟩
 rw [h] at d17
 have E17 := hideT h
 clear h
 rcases Classical.em (d.to = c.to) with h | h
 rotate_left
 ·have r := s_not (Ne.symm h)
  clear h
  go_wp2
  go_ret
  exact ⟨rfl, HF.out⟩
 rw [h] at d18
 have E18 := hideT h
 clear h
 exact absurd (nf_of HQ.out.1 HQ.out.2.1 HQ.out.2.2.1 HQ.out.2.2.2.1 HQ.out.2.2.2.2.1 HQ.out.2.2.2.2.2.1 HQ.out.2.2.2.2.2.2.1 HQ.out.2.2.2.2.2.2.2 E9.out E10.out E11.out E12.out E13.out E14.out E15.out E16.out E17.out E18.out) HE.out
end sho
end Go.Proofs.YtidgnebbibkmhaaGreatDoor
