/- check: the document's Same of a command held against itself; SameList. -/
import Derived.Test.YtdlceppiblodmaaCs
namespace Go.Proofs.Ytdlceppiblodmaa
open Go.RowKit
open chkP

/-- A command's parts can be read. -/
def PtOk (W : World) (r : Rst) : Prop := ∀ i : Nat, i < r.pn → ∃ g o gi ti, r.pa = some ⟨g, o, none⟩ ∧ W.cell? ⟨g, o + i * 2, none⟩ = some (.int .i64 gi) ∧ W.cell? ⟨g, o + i * 2 + 1, none⟩ = some (.string ti)
theorem PtOk.step {W W' : World} {r : Rst} (h : PtOk W r) (hb : Below W.heap.size W W') : PtOk W' r := fun i hi => by
  obtain ⟨g, o, gi, ti, h1, h2, h3⟩ := h i hi
  exact ⟨g, o, gi, ti, h1, keep_cell hb h2, keep_cell hb h3⟩

set_option maxRecDepth 100000 in
set_option maxHeartbeats 1000000 in
theorem parts_same (r : Rst) (W : World) (h : PtOk W r) (hl : r.pn ≤ 1000000000000000) : Calls Try.prog 23 #[.slice r.pa r.pn r.pc, .slice r.pa r.pn r.pc] W fun e w' => e = .returned (.bool true) ∧ Below W.heap.size W w' := by
  obtain ⟨n, hn⟩ : ∃ n, n = r.pn := ⟨_, rfl⟩
  obtain ⟨pa, hpa⟩ : ∃ pa, pa = r.pa := ⟨_, rfl⟩
  unfold PtOk at h
  rw [← hn, ← hpa] at h
  rw [← hn] at hl
  rw [← hn, ← hpa]
  have HP := hideT h
  clear h hn hpa
  go_enter Try.func23, Try.ntmps23
  go_wp2_with fail
  go_loopw [5] (fun i wr => ∃ k : Nat, k ≤ n ∧ i = .int .i64 k ∧ Hid (Below W.heap.size W wr)) (fun i _ => n - (intOf i).toNat)
  case atStart => exact ⟨0, by omega, rfl, hideT (Below.refl _ _)⟩
  case round =>
    obtain ⟨k, hk, rfl, HB⟩ := hrel
    by_cases hlt : k < n
    · obtain ⟨g, o, gi, ti, rfl, a1, a2⟩ := HP.out k hlt
      have c1 := keep_cell HB.out a1
      have c2 := keep_cell HB.out a2
      have i1 : (k : Int) < (n : Int) := by omega
      have i2 : (0 : Int) ≤ (k : Int) := by omega
      clear a1 a2
      go_upto_region 6 with fail
      go_quiet (fail)
      go_wp2
      exact ⟨⟨k + 1, by omega, by go_num, hideT (HB.out.trans (below_drewN _ _ _))⟩, by simp [intOf]; omega⟩
    · obtain rfl : k = n := by omega
      have i1 : ((k : Int) < (k : Int)) = False := by rw [eq_iff_iff, iff_false]; omega
      go_wp2
      go_ret
      exact ⟨rfl, HB.out⟩

set_option maxRecDepth 100000 in
set_option maxHeartbeats 4000000 in
theorem same_cmd (x : Cm) (r : Rst) (W : World) (h : PtOk W r) (hl : r.pn ≤ 1000000000000000) : Calls Try.prog 17 #[.agg (cmV x r).toArray, .agg (cmV x r).toArray, .bool true] W fun e w' => e = .returned (.bool true) ∧ Below W.heap.size W w' := by
  have HH := hideT h
  have HL := hideT hl
  clear h hl
  go_enter Try.func17, Try.ntmps17
  go_upto_region 1 with fail
  have hb : Below W.heap.size W ((W.alloc (.cells (cmV x r).toArray 27)).alloc (.cells (cmV x r).toArray 27)) := ((Below.refl _ _).alloc (Nat.le_refl _) _).alloc (by simp) _
  have hk1 : ((W.alloc (.cells (cmV x r).toArray 27)).alloc (.cells (cmV x r).toArray 27)).heap[W.heap.size]? = some (.cells (cmV x r).toArray 27 (0, 0)) := (Below.heap_alloc _ _ _ (by simp)).trans (heap_alloc_new W _)
  have hk2 : ((W.alloc (.cells (cmV x r).toArray 27)).alloc (.cells (cmV x r).toArray 27)).heap[W.heap.size + 1]? = some (.cells (cmV x r).toArray 27 (0, 0)) := by
    have h1 := heap_alloc_new (W.alloc (.cells (cmV x r).toArray 27)) (.cells (cmV x r).toArray 27)
    rw [World.size_alloc] at h1
    exact h1
  obtain ⟨X, hX⟩ : ∃ X, X = ((W.alloc (.cells (cmV x r).toArray 27)).alloc (.cells (cmV x r).toArray 27)) := ⟨_, rfl⟩
  rw [← hX] at hb hk1 hk2 ⊢
  obtain ⟨N, hN⟩ : ∃ N, N = W.heap.size := ⟨_, rfl⟩
  rw [← hN] at hk1 hk2 ⊢
  have HXB := hideT hb
  have HX1 := hideT hk1
  have HX2 := hideT hk2
  have p1 : X.cell? ⟨N, 13, none⟩ = some (.slice r.pa r.pn r.pc) := by have h := range_block hk1 13 _ rfl; simpa using h
  have p2 : X.cell? ⟨N + 1, 13, none⟩ = some (.slice r.pa r.pn r.pc) := by have h := range_block hk2 13 _ rfl; simpa using h
  have HPS := hideT (parts_same r X (HH.out.step hb) HL.out)
  have HNN := hideT hN
  clear hX hb hk1 hk2 hN
  go_wp2_with fail
  refine HPS.out.mono ?_
  rintro e w1 ⟨rfl, hb1⟩
  have HK1 := hideT ((hb1.block N (Array.getElem?_eq_some_iff.1 HX1.out).1).trans HX1.out)
  have HK2 := hideT ((hb1.block (N + 1) (Array.getElem?_eq_some_iff.1 HX2.out).1).trans HX2.out)
  have HF := hideT (HXB.out.trans (hb1.mono HXB.out.size))
  clear hb1 p1 p2 HPS
  have a0 : w1.cell? ⟨N, 0, none⟩ = some (.int .i64 x.pl) := by have h := range_block HK1.out 0 _ rfl; simpa using h
  have d0 : w1.cell? ⟨N + 1, 0, none⟩ = some (.int .i64 x.pl) := by have h := range_block HK2.out 0 _ rfl; simpa using h
  have a1 : w1.cell? ⟨N, 1, none⟩ = some (.int .i64 x.ak) := by have h := range_block HK1.out 1 _ rfl; simpa using h
  have d1 : w1.cell? ⟨N + 1, 1, none⟩ = some (.int .i64 x.ak) := by have h := range_block HK2.out 1 _ rfl; simpa using h
  have a2 : w1.cell? ⟨N, 2, none⟩ = some (.int .i64 r.al) := by have h := range_block HK1.out 2 _ rfl; simpa using h
  have d2 : w1.cell? ⟨N + 1, 2, none⟩ = some (.int .i64 r.al) := by have h := range_block HK2.out 2 _ rfl; simpa using h
  have a3 : w1.cell? ⟨N, 3, none⟩ = some (.string r.ar) := by have h := range_block HK1.out 3 _ rfl; simpa using h
  have d3 : w1.cell? ⟨N + 1, 3, none⟩ = some (.string r.ar) := by have h := range_block HK2.out 3 _ rfl; simpa using h
  have a4 : w1.cell? ⟨N, 4, none⟩ = some (.int .i64 x.bk) := by have h := range_block HK1.out 4 _ rfl; simpa using h
  have d4 : w1.cell? ⟨N + 1, 4, none⟩ = some (.int .i64 x.bk) := by have h := range_block HK2.out 4 _ rfl; simpa using h
  have a5 : w1.cell? ⟨N, 5, none⟩ = some (.int .i64 r.bl) := by have h := range_block HK1.out 5 _ rfl; simpa using h
  have d5 : w1.cell? ⟨N + 1, 5, none⟩ = some (.int .i64 r.bl) := by have h := range_block HK2.out 5 _ rfl; simpa using h
  have a6 : w1.cell? ⟨N, 6, none⟩ = some (.string r.br) := by have h := range_block HK1.out 6 _ rfl; simpa using h
  have d6 : w1.cell? ⟨N + 1, 6, none⟩ = some (.string r.br) := by have h := range_block HK2.out 6 _ rfl; simpa using h
  have a7 : w1.cell? ⟨N, 7, none⟩ = some (.bool x.nt) := by have h := range_block HK1.out 7 _ rfl; simpa using h
  have d7 : w1.cell? ⟨N + 1, 7, none⟩ = some (.bool x.nt) := by have h := range_block HK2.out 7 _ rfl; simpa using h
  have a8 : w1.cell? ⟨N, 8, none⟩ = some (.int .u8 (x.nm.toNat : Nat)) := by have h := range_block HK1.out 8 _ rfl; simpa using h
  have d8 : w1.cell? ⟨N + 1, 8, none⟩ = some (.int .u8 (x.nm.toNat : Nat)) := by have h := range_block HK2.out 8 _ rfl; simpa using h
  have a9 : w1.cell? ⟨N, 9, none⟩ = some (.string ⟨x.lb.toArray⟩) := by have h := range_block HK1.out 9 _ rfl; simpa using h
  have d9 : w1.cell? ⟨N + 1, 9, none⟩ = some (.string ⟨x.lb.toArray⟩) := by have h := range_block HK2.out 9 _ rfl; simpa using h
  have a10 : w1.cell? ⟨N, 10, none⟩ = some (.string r.tx) := by have h := range_block HK1.out 10 _ rfl; simpa using h
  have d10 : w1.cell? ⟨N + 1, 10, none⟩ = some (.string r.tx) := by have h := range_block HK2.out 10 _ rfl; simpa using h
  have a11 : w1.cell? ⟨N, 11, none⟩ = some (.string r.fl) := by have h := range_block HK1.out 11 _ rfl; simpa using h
  have d11 : w1.cell? ⟨N + 1, 11, none⟩ = some (.string r.fl) := by have h := range_block HK2.out 11 _ rfl; simpa using h
  have a12 : w1.cell? ⟨N, 12, none⟩ = some (.string r.re) := by have h := range_block HK1.out 12 _ rfl; simpa using h
  have d12 : w1.cell? ⟨N + 1, 12, none⟩ = some (.string r.re) := by have h := range_block HK2.out 12 _ rfl; simpa using h
  have a13 : w1.cell? ⟨N, 13, none⟩ = some (.slice r.pa r.pn r.pc) := by have h := range_block HK1.out 13 _ rfl; simpa using h
  have d13 : w1.cell? ⟨N + 1, 13, none⟩ = some (.slice r.pa r.pn r.pc) := by have h := range_block HK2.out 13 _ rfl; simpa using h
  have a14 : w1.cell? ⟨N, 14, none⟩ = some (.int .i64 r.nh) := by have h := range_block HK1.out 14 _ rfl; simpa using h
  have d14 : w1.cell? ⟨N + 1, 14, none⟩ = some (.int .i64 r.nh) := by have h := range_block HK2.out 14 _ rfl; simpa using h
  have a15 : w1.cell? ⟨N, 15, none⟩ = some (.bool r.an) := by have h := range_block HK1.out 15 _ rfl; simpa using h
  have d15 : w1.cell? ⟨N + 1, 15, none⟩ = some (.bool r.an) := by have h := range_block HK2.out 15 _ rfl; simpa using h
  have a16 : w1.cell? ⟨N, 16, none⟩ = some (.bool r.pr) := by have h := range_block HK1.out 16 _ rfl; simpa using h
  have d16 : w1.cell? ⟨N + 1, 16, none⟩ = some (.bool r.pr) := by have h := range_block HK2.out 16 _ rfl; simpa using h
  have a17 : w1.cell? ⟨N, 17, none⟩ = some (.string r.fr) := by have h := range_block HK1.out 17 _ rfl; simpa using h
  have d17 : w1.cell? ⟨N + 1, 17, none⟩ = some (.string r.fr) := by have h := range_block HK2.out 17 _ rfl; simpa using h
  have a18 : w1.cell? ⟨N, 18, none⟩ = some (.string r.to) := by have h := range_block HK1.out 18 _ rfl; simpa using h
  have d18 : w1.cell? ⟨N + 1, 18, none⟩ = some (.string r.to) := by have h := range_block HK2.out 18 _ rfl; simpa using h
  clear HK1 HK2 HX1 HX2 HH
  go_wp2
  go_ret
  exact ⟨rfl, HF.out⟩

end Go.Proofs.Ytdlceppiblodmaa
