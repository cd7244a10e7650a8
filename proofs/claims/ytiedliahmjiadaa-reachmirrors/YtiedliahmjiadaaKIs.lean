/- reach: a row of parts is laid. -/
import Derived.Test.YtiedliahmjiadaaKMd
import Derived.Test.YtiedliahmjiadaaKGf
import Derived.Test.YtiedliahmjiadaaKIq
set_option maxRecDepth 100000
set_option maxHeartbeats 1000000
namespace Go.Proofs.Ytiedliahmjiadaa
open Go.RowKit Go.Shelf
theorem op_load {P : Program} {ops : Array Oper} {Q : Exit → Act → World → Prop} {i : Nat} {o : Oper} {K : Act → World → Prop} {a : Act} {w : World} (ty : TypeId) (d : Option Tmp) (r b : Nat) (cs : List Value) {ud : TypeDesc} (hi : ops[i]? = some o) (ho : o.op = .load ty (.tmp r)) (hd : o.dst = d) (hg : o.guard = none) (hx : a.eval (.tmp r) = .pointer (some ⟨b, 0, none⟩)) (hc : w.rangeAt b 0 cs) (hu : P.underlying ty = some ud) (hr : ud.isRow = true) (hz : (P.info? ty).map (·.size) = some cs.length) (h : K (a.put d (.agg cs.toArray)) w) : wpOp P ops Q i K a w := by
 subst hd
 exact op_of hi (wanted_none hg _) (wp_load_mid ty _ ho b 0 hx cs _ hc hu hr hz h)
theorem add_row {B b : Nat} (kd : Nat) (hkd : kd ≠ 1 ∧ kd ≠ 2 ∧ kd ≠ 3 ∧ kd ≠ 5) (q : Nat → Bool) (lo hi : Int) (gp : Nat) (ks : List Tr) (ih : ∀ x ∈ ks, AdIH B x) (va : Option Addr) (vc : Nat) (w : World) (ps : List PosB) (cs : List Value) (hB : B ≤ w.heap.size) (hw : WebAt w B b ps cs) (hk : Kids w (· < B) (.slice va ks.length vc) ks) (hkl : ks.length ≤ 1000000) (hl : (adL ks emB ps).2.length ≤ 256) :
  Calls Try.prog 44 #[.pointer (some ⟨b, 0, none⟩), .agg #[.int .i64 (kd : Nat), .int .u64 (wd q 0 : Nat), .int .u64 (wd q 1 : Nat), .int .u64 (wd q 2 : Nat), .int .u64 (wd q 3 : Nat), .int .i64 lo, .int .i64 hi, .int .i64 (gp : Nat), .slice va ks.length vc]] w fun e w' => e = .returned (partV (adL ks emB ps).1) ∧ WebAt w' B b (adL ks emB ps).2 cs ∧ WFr B w w' := by
 have e1 : ((kd : Int) == 1) = false := by rw [beq_eq_false_iff_ne]; omega
 have e2 : ((kd : Int) == 2) = false := by rw [beq_eq_false_iff_ne]; omega
 have e3 : ((kd : Int) == 3) = false := by rw [beq_eq_false_iff_ne]; omega
 have e5 : ((kd : Int) == 5) = false := by rw [beq_eq_false_iff_ne]; omega
 have HE := hideT (fun V => empty_any V)
 obtain ⟨RR, hRR⟩ : ∃ RR, adL ks emB ps = RR := ⟨_, rfl⟩
 rw [hRR] at hl ⊢
 unfold partV
 have x0 : ((w.alloc (.cells #[.int .i64 (kd : Nat), .int .u64 (wd q 0 : Nat), .int .u64 (wd q 1 : Nat), .int .u64 (wd q 2 : Nat), .int .u64 (wd q 3 : Nat), .int .i64 lo, .int .i64 hi, .int .i64 (gp : Nat), .slice va ks.length vc] 48)).alloc (.cells #[.bool false, .int .u64 0, .int .u64 0, .int .u64 0, .int .u64 0, .int .u64 0, .int .u64 0, .int .u64 0, .int .u64 0, .bool false, .int .u64 0, .int .u64 0, .int .u64 0, .int .u64 0, .int .u64 0, .int .u64 0, .int .u64 0, .int .u64 0, .bool false, .int .u64 0, .int .u64 0, .int .u64 0, .int .u64 0, .int .u64 0, .int .u64 0, .int .u64 0, .int .u64 0, .bool false, .int .u64 0, .int .u64 0, .int .u64 0, .int .u64 0, .int .u64 0, .int .u64 0, .int .u64 0, .int .u64 0] 81)).heap[w.heap.size]? = some (.cells (nodeV (Tr.mk kd q lo hi gp ks) (.slice va ks.length vc)).toArray 48 (0, 0)) := (Below.heap_alloc _ _ _ (by simp)).trans (World.alloc_heap_new w _)
 have x1 : ((w.alloc (.cells #[.int .i64 (kd : Nat), .int .u64 (wd q 0 : Nat), .int .u64 (wd q 1 : Nat), .int .u64 (wd q 2 : Nat), .int .u64 (wd q 3 : Nat), .int .i64 lo, .int .i64 hi, .int .i64 (gp : Nat), .slice va ks.length vc] 48)).alloc (.cells #[.bool false, .int .u64 0, .int .u64 0, .int .u64 0, .int .u64 0, .int .u64 0, .int .u64 0, .int .u64 0, .int .u64 0, .bool false, .int .u64 0, .int .u64 0, .int .u64 0, .int .u64 0, .int .u64 0, .int .u64 0, .int .u64 0, .int .u64 0, .bool false, .int .u64 0, .int .u64 0, .int .u64 0, .int .u64 0, .int .u64 0, .int .u64 0, .int .u64 0, .int .u64 0, .bool false, .int .u64 0, .int .u64 0, .int .u64 0, .int .u64 0, .int .u64 0, .int .u64 0, .int .u64 0, .int .u64 0] 81)).heap[(w.heap.size + 1)]? = some (.cells [.bool false, .int .u64 0, .int .u64 0, .int .u64 0, .int .u64 0, .int .u64 0, .int .u64 0, .int .u64 0, .int .u64 0, .bool false, .int .u64 0, .int .u64 0, .int .u64 0, .int .u64 0, .int .u64 0, .int .u64 0, .int .u64 0, .int .u64 0, .bool false, .int .u64 0, .int .u64 0, .int .u64 0, .int .u64 0, .int .u64 0, .int .u64 0, .int .u64 0, .int .u64 0, .bool false, .int .u64 0, .int .u64 0, .int .u64 0, .int .u64 0, .int .u64 0, .int .u64 0, .int .u64 0, .int .u64 0].toArray 81 (0, 0)) := by
  have h := World.alloc_heap_new (w.alloc (.cells #[.int .i64 (kd : Nat), .int .u64 (wd q 0 : Nat), .int .u64 (wd q 1 : Nat), .int .u64 (wd q 2 : Nat), .int .u64 (wd q 3 : Nat), .int .i64 lo, .int .i64 hi, .int .i64 (gp : Nat), .slice va ks.length vc] 48)) (.cells #[.bool false, .int .u64 0, .int .u64 0, .int .u64 0, .int .u64 0, .int .u64 0, .int .u64 0, .int .u64 0, .int .u64 0, .bool false, .int .u64 0, .int .u64 0, .int .u64 0, .int .u64 0, .int .u64 0, .int .u64 0, .int .u64 0, .int .u64 0, .bool false, .int .u64 0, .int .u64 0, .int .u64 0, .int .u64 0, .int .u64 0, .int .u64 0, .int .u64 0, .int .u64 0, .bool false, .int .u64 0, .int .u64 0, .int .u64 0, .int .u64 0, .int .u64 0, .int .u64 0, .int .u64 0, .int .u64 0] 81)
  rw [World.size_alloc] at h
  exact h
 have hBX : Below w.heap.size w ((w.alloc (.cells #[.int .i64 (kd : Nat), .int .u64 (wd q 0 : Nat), .int .u64 (wd q 1 : Nat), .int .u64 (wd q 2 : Nat), .int .u64 (wd q 3 : Nat), .int .i64 lo, .int .i64 hi, .int .i64 (gp : Nat), .slice va ks.length vc] 48)).alloc (.cells #[.bool false, .int .u64 0, .int .u64 0, .int .u64 0, .int .u64 0, .int .u64 0, .int .u64 0, .int .u64 0, .int .u64 0, .bool false, .int .u64 0, .int .u64 0, .int .u64 0, .int .u64 0, .int .u64 0, .int .u64 0, .int .u64 0, .int .u64 0, .bool false, .int .u64 0, .int .u64 0, .int .u64 0, .int .u64 0, .int .u64 0, .int .u64 0, .int .u64 0, .int .u64 0, .bool false, .int .u64 0, .int .u64 0, .int .u64 0, .int .u64 0, .int .u64 0, .int .u64 0, .int .u64 0, .int .u64 0] 81)) := ((Below.refl _ w).alloc (Nat.le_refl _) _).alloc (by simp) _
 have HX := hideT (And.intro x0 (And.intro x1 hBX))
 have HRR := hideT hRR
 clear x0 x1 hBX hRR
 go_enter Try.func44, Try.ntmps44
 go_wp2_with fail
 refine (HE.out _).mono ?_
 rintro e w1 ⟨rfl, hb1⟩
 obtain ⟨x0, x1, hBX⟩ := HX.out
 rename_i K1 hK1 K2 hK2
 refine hK2 _ _ ?_
 generalize ((w.alloc (.cells #[.int .i64 (kd : Nat), .int .u64 (wd q 0 : Nat), .int .u64 (wd q 1 : Nat), .int .u64 (wd q 2 : Nat), .int .u64 (wd q 3 : Nat), .int .i64 lo, .int .i64 hi, .int .i64 (gp : Nat), .slice va ks.length vc] 48)).alloc (.cells #[.bool false, .int .u64 0, .int .u64 0, .int .u64 0, .int .u64 0, .int .u64 0, .int .u64 0, .int .u64 0, .int .u64 0, .bool false, .int .u64 0, .int .u64 0, .int .u64 0, .int .u64 0, .int .u64 0, .int .u64 0, .int .u64 0, .int .u64 0, .bool false, .int .u64 0, .int .u64 0, .int .u64 0, .int .u64 0, .int .u64 0, .int .u64 0, .int .u64 0, .int .u64 0, .bool false, .int .u64 0, .int .u64 0, .int .u64 0, .int .u64 0, .int .u64 0, .int .u64 0, .int .u64 0, .int .u64 0] 81)) = X at *
 obtain ⟨Q, hQ⟩ : ∃ Q, Q = w1.heap.size := ⟨_, rfl⟩
 have hQl : (w.heap.size + 1) < Q := by rw [hQ]; exact Nat.lt_of_lt_of_le (Array.getElem?_eq_some_iff.1 x1).1 hb1.size
 have hA := (Below.refl w1.heap.size w1).alloc (Nat.le_refl _) (.cells #[.bool false, .int .u64 0, .int .u64 0, .int .u64 0, .int .u64 0, .int .u64 0, .int .u64 0, .int .u64 0, .int .u64 0, .bool false, .int .u64 0, .int .u64 0, .int .u64 0, .int .u64 0, .int .u64 0, .int .u64 0, .int .u64 0, .int .u64 0, .bool false, .int .u64 0, .int .u64 0, .int .u64 0, .int .u64 0, .int .u64 0, .int .u64 0, .int .u64 0, .int .u64 0, .bool false, .int .u64 0, .int .u64 0, .int .u64 0, .int .u64 0, .int .u64 0, .int .u64 0, .int .u64 0, .int .u64 0] 81)
 have hXA := hb1.trans (hA.mono hb1.size)
 have q0 : (w1.alloc (.cells #[.bool false, .int .u64 0, .int .u64 0, .int .u64 0, .int .u64 0, .int .u64 0, .int .u64 0, .int .u64 0, .int .u64 0, .bool false, .int .u64 0, .int .u64 0, .int .u64 0, .int .u64 0, .int .u64 0, .int .u64 0, .int .u64 0, .int .u64 0, .bool false, .int .u64 0, .int .u64 0, .int .u64 0, .int .u64 0, .int .u64 0, .int .u64 0, .int .u64 0, .int .u64 0, .bool false, .int .u64 0, .int .u64 0, .int .u64 0, .int .u64 0, .int .u64 0, .int .u64 0, .int .u64 0, .int .u64 0] 81)).heap[Q]? = some (.cells [.bool false, .int .u64 0, .int .u64 0, .int .u64 0, .int .u64 0, .int .u64 0, .int .u64 0, .int .u64 0, .int .u64 0, .bool false, .int .u64 0, .int .u64 0, .int .u64 0, .int .u64 0, .int .u64 0, .int .u64 0, .int .u64 0, .int .u64 0, .bool false, .int .u64 0, .int .u64 0, .int .u64 0, .int .u64 0, .int .u64 0, .int .u64 0, .int .u64 0, .int .u64 0, .bool false, .int .u64 0, .int .u64 0, .int .u64 0, .int .u64 0, .int .u64 0, .int .u64 0, .int .u64 0, .int .u64 0].toArray 81 (0, 0)) := by rw [hQ]; exact World.alloc_heap_new w1 _
 refine alloc_store (d := 5) (s := 34) (cs := paV emB) rfl rfl rfl rfl rfl rfl (by decide) rfl (fun _ => rfl) rfl (paV_one _) ?_
 have hBA := hBX.trans (hXA.mono hBX.size)
 have hS0 : RpS w B b w.heap.size (w.heap.size + 1) Q (Tr.mk kd q lo hi gp ks) (.slice va ks.length vc) cs emB ps ((w1.alloc (.cells #[.bool false, .int .u64 0, .int .u64 0, .int .u64 0, .int .u64 0, .int .u64 0, .int .u64 0, .int .u64 0, .int .u64 0, .bool false, .int .u64 0, .int .u64 0, .int .u64 0, .int .u64 0, .int .u64 0, .int .u64 0, .int .u64 0, .int .u64 0, .bool false, .int .u64 0, .int .u64 0, .int .u64 0, .int .u64 0, .int .u64 0, .int .u64 0, .int .u64 0, .int .u64 0, .bool false, .int .u64 0, .int .u64 0, .int .u64 0, .int .u64 0, .int .u64 0, .int .u64 0, .int .u64 0, .int .u64 0] 81)).setCells w1.heap.size 0 (paV emB)) := by
  rw [← hQ]
  exact ⟨(setCells_far _ Q (by omega) _ _).trans ((hXA.block _ (Array.getElem?_eq_some_iff.1 x0).1).trans x0), (setCells_far _ Q (by omega) _ _).trans ((hXA.block _ (Array.getElem?_eq_some_iff.1 x1).1).trans x1), setCells_whole _ q0 rfl, (hw.below hBA).far q0 rfl 0 _, (WFr.of_below hBA hB).far hB (by omega) 0 _, by rw [setCells_size]; exact Nat.le_trans hB hBA.size⟩
 refine hK1 _ _ ?_
 simp only [Act.put, List.setIfInBounds_toArray, List.set_cons_zero, List.set_cons_succ]
 rw [← hQ] at hS0 ⊢
 generalize (w1.alloc (.cells #[.bool false, .int .u64 0, .int .u64 0, .int .u64 0, .int .u64 0, .int .u64 0, .int .u64 0, .int .u64 0, .int .u64 0, .bool false, .int .u64 0, .int .u64 0, .int .u64 0, .int .u64 0, .int .u64 0, .int .u64 0, .int .u64 0, .int .u64 0, .bool false, .int .u64 0, .int .u64 0, .int .u64 0, .int .u64 0, .int .u64 0, .int .u64 0, .int .u64 0, .int .u64 0, .bool false, .int .u64 0, .int .u64 0, .int .u64 0, .int .u64 0, .int .u64 0, .int .u64 0, .int .u64 0, .int .u64 0] 81)).setCells Q 0 (paV emB) = V0 at *
 have c8 : V0.cell? ⟨w.heap.size, 8, none⟩ = some (.slice va ks.length vc) := by simp [World.cell?, hS0.node, nodeV]
 clear x0 x1 hBX hb1 hA hXA q0 hBA hK1 hK2 hQ HE hw HX
 have hQw : w.heap.size ≤ Q := by omega
 have hQH : Q ≠ w.heap.size := by omega
 have hQR : Q ≠ (w.heap.size + 1) := by omega
 have HS0 := hideT hS0
 clear hS0
 go_wp2_with fail
 go_loopw [38] (fun iv V => ∃ (c : Nat) (a1 : PaB) (qs : List PosB), c ≤ ks.length ∧ iv = .int .i64 c ∧ RpS w B b w.heap.size (w.heap.size + 1) Q (Tr.mk kd q lo hi gp ks) (.slice va ks.length vc) cs a1 qs V ∧ InB a1 qs.length ∧ adL (ks.drop c) a1 qs = RR) (fun iv _ => (ks.length - intOf iv).toNat)
 case atStart => exact ⟨0, emB, ps, by omega, rfl, HS0.out, in_em _, HRR.out⟩
 case round =>
  obtain ⟨c, a1, qs, hcN, rfl, hS, hin, hR⟩ := hrel
  by_cases hc : c < ks.length
  ·have hdr : ks.drop c = ks[c] :: ks.drop (c + 1) := List.drop_eq_getElem_cons hc
   have hU : adL (ks.drop c) a1 qs = adL (ks.drop (c + 1)) (joinB a1 (adT ks[c] qs).1) (linkB a1 (adT ks[c] qs).1 (adT ks[c] qs).2) := by rw [hdr, adL]
   have hb256 : (adT ks[c] qs).2.length ≤ 256 := by
    have h1 := (ly_adL (ks.drop (c + 1)) (joinB a1 (adT ks[c] qs).1) (linkB a1 (adT ks[c] qs).1 (adT ks[c] qs).2) (by rw [len_link]; exact in_join (hin.mono (ly_adT ks[c] qs).2) (ly_adT ks[c] qs).1)).2
    rw [← hU, hR, len_link] at h1
    omega
   have hkV := kidsB hk hS.fr.below
   obtain ⟨g, c', u, he, hgB, _, hcell, hku⟩ := kids_at hkV (i := c) (List.getElem?_eq_getElem hc)
   obtain rfl : va = some ⟨g, 0, none⟩ := by injection he
   obtain ⟨ua, uc, rfl⟩ := kids_shape hku
   have y0 := (hcell 0 _ rfl).1
   have y1 := (hcell 1 _ rfl).1
   have y2 := (hcell 2 _ rfl).1
   have y3 := (hcell 3 _ rfl).1
   have y4 := (hcell 4 _ rfl).1
   have y5 := (hcell 5 _ rfl).1
   have y6 := (hcell 6 _ rfl).1
   have y7 := (hcell 7 _ rfl).1
   have y8 := (hcell 8 _ rfl).1
   rw [Nat.add_zero] at y0
   have HU := hideT hU
   have HR := hideT hR
   have i1 : (c : Int) < (ks.length : Int) := by omega
   have i2 : (0 : Int) ≤ (c : Int) := by omega
   have HSS := hideT hS
   have HKU := hideT hku
   have hbA := (Below.refl wr.heap.size wr).alloc (Nat.le_refl _) (.cells #[.int .i64 (ks[c].kind : Nat), .int .u64 (wd ks[c].q 0 : Nat), .int .u64 (wd ks[c].q 1 : Nat), .int .u64 (wd ks[c].q 2 : Nat), .int .u64 (wd ks[c].q 3 : Nat), .int .i64 ks[c].lo, .int .i64 ks[c].hi, .int .i64 (ks[c].grp : Nat), .slice ua ks[c].kids.length uc] 48)
   have kb : (wr.alloc (.cells #[.int .i64 (ks[c].kind : Nat), .int .u64 (wd ks[c].q 0 : Nat), .int .u64 (wd ks[c].q 1 : Nat), .int .u64 (wd ks[c].q 2 : Nat), .int .u64 (wd ks[c].q 3 : Nat), .int .i64 ks[c].lo, .int .i64 ks[c].hi, .int .i64 (ks[c].grp : Nat), .slice ua ks[c].kids.length uc] 48)).heap[wr.heap.size]? = some (.cells #[.int .i64 (ks[c].kind : Nat), .int .u64 (wd ks[c].q 0 : Nat), .int .u64 (wd ks[c].q 1 : Nat), .int .u64 (wd ks[c].q 2 : Nat), .int .u64 (wd ks[c].q 3 : Nat), .int .i64 ks[c].lo, .int .i64 ks[c].hi, .int .i64 (ks[c].grp : Nat), .slice ua ks[c].kids.length uc] 48 (0, 0)) := World.alloc_heap_new wr _
   have hKQ : wr.heap.size ≠ Q := by have := (Array.getElem?_eq_some_iff.1 hS.all).1; omega
   have HKB := hideT (And.intro hbA kb)
   clear hU hR hS hku hcell hkV he hbA kb
   go_wp2_with fail
   rename_i K1 hK1
   obtain ⟨hbA, kb⟩ := HKB.out
   have hS1 := HSS.out.below hbA
   have HAdd := hideT (ih ks[c] (List.getElem_mem hc) (wr.alloc (.cells #[.int .i64 (ks[c].kind : Nat), .int .u64 (wd ks[c].q 0 : Nat), .int .u64 (wd ks[c].q 1 : Nat), .int .u64 (wd ks[c].q 2 : Nat), .int .u64 (wd ks[c].q 3 : Nat), .int .i64 ks[c].lo, .int .i64 ks[c].hi, .int .i64 (ks[c].grp : Nat), .slice ua ks[c].kids.length uc] 48)).drew b qs cs (.slice ua ks[c].kids.length uc) hS1.big (hS1.web.below ((Below.refl _ _).drew)) (kidsB HKU.out ((hbA.mono HSS.out.big).drew)) hb256)
   unfold nodeW partV at HAdd
   generalize wr.alloc (.cells #[.int .i64 (ks[c].kind : Nat), .int .u64 (wd ks[c].q 0 : Nat), .int .u64 (wd ks[c].q 1 : Nat), .int .u64 (wd ks[c].q 2 : Nat), .int .u64 (wd ks[c].q 3 : Nat), .int .i64 ks[c].lo, .int .i64 ks[c].hi, .int .i64 (ks[c].grp : Nat), .slice ua ks[c].kids.length uc] 48) = V1 at *
   clear y0 y1 y2 y3 y4 y5 y6 y7 y8
   have hS0 : V1.drew.heap[wr.heap.size]? = some (.cells #[.int .i64 (ks[c].kind : Nat), .int .u64 (wd ks[c].q 0 : Nat), .int .u64 (wd ks[c].q 1 : Nat), .int .u64 (wd ks[c].q 2 : Nat), .int .u64 (wd ks[c].q 3 : Nat), .int .i64 ks[c].lo, .int .i64 ks[c].hi, .int .i64 (ks[c].grp : Nat), .slice ua ks[c].kids.length uc] 48 (0, 0)) := kb
   refine wp_region_held (S := fun V => V.heap[wr.heap.size]? = some (.cells #[.int .i64 (ks[c].kind : Nat), .int .u64 (wd ks[c].q 0 : Nat), .int .u64 (wd ks[c].q 1 : Nat), .int .u64 (wd ks[c].q 2 : Nat), .int .u64 (wd ks[c].q 3 : Nat), .int .i64 ks[c].lo, .int .i64 ks[c].hi, .int .i64 (ks[c].grp : Nat), .slice ua ks[c].kids.length uc] 48 (0, 0))) (by kernel_rfl) ?_
   refine' take_d 0 (some 42) rfl rfl (by kernel_rfl) (by kernel_rfl) (by kernel_rfl) (fun _ _ _ h => h) (wanted_none rfl _) hS0 ?hy1 ?rest1
   case hy1 => intro V hV; go_simp; (try with_reducible rfl)
   refine' take_d 2 (some 44) rfl rfl (by kernel_rfl) (by kernel_rfl) (by kernel_rfl) (fun _ _ _ h => h) (wanted_none rfl _) hS0 ?hy2 ?rest2
   case hy2 => intro V hV; go_simp; (try with_reducible rfl)
   refine' take_d 3 (some 45) rfl rfl (by kernel_rfl) (by kernel_rfl) (by kernel_rfl) (fun _ _ _ h => h) (wanted_none rfl _) hS0 ?hy3 ?rest3
   case hy3 => intro V hV; (try dsimp only at hV); have m0 : V.cell? ⟨wr.heap.size, 0, none⟩ = some (.int .i64 (ks[c].kind : Nat)) := (by simp [World.cell?, hV]); have m1 : V.cell? ⟨wr.heap.size, 1, none⟩ = some (.int .u64 (wd ks[c].q 0 : Nat)) := (by simp [World.cell?, hV]); have m2 : V.cell? ⟨wr.heap.size, 2, none⟩ = some (.int .u64 (wd ks[c].q 1 : Nat)) := (by simp [World.cell?, hV]); have m3 : V.cell? ⟨wr.heap.size, 3, none⟩ = some (.int .u64 (wd ks[c].q 2 : Nat)) := (by simp [World.cell?, hV]); have m4 : V.cell? ⟨wr.heap.size, 4, none⟩ = some (.int .u64 (wd ks[c].q 3 : Nat)) := (by simp [World.cell?, hV]); have m5 : V.cell? ⟨wr.heap.size, 5, none⟩ = some (.int .i64 ks[c].lo) := (by simp [World.cell?, hV]); have m6 : V.cell? ⟨wr.heap.size, 6, none⟩ = some (.int .i64 ks[c].hi) := (by simp [World.cell?, hV]); have m7 : V.cell? ⟨wr.heap.size, 7, none⟩ = some (.int .i64 (ks[c].grp : Nat)) := (by simp [World.cell?, hV]); have m8 : V.cell? ⟨wr.heap.size, 8, none⟩ = some (.slice ua ks[c].kids.length uc) := (by simp [World.cell?, hV]); go_simp; (try with_reducible rfl)
   simp only [Act.put, List.setIfInBounds_toArray, List.set_cons_zero, List.set_cons_succ]
   refine wpAnyH_all (rs := [1, 4]) (by kernel_rfl) (by simp) (fun i hmi => ?_)
   have hc2 : i = 1 ∨ i = 4 := by simpa using hmi
   rcases hc2 with rfl | rfl
   ·refine op_load 81 (some 43) 5 Q (paV a1) rfl rfl rfl rfl rfl (show V1.drew.rangeAt Q 0 (paV a1) from range_block hS1.all) und_part rfl (by rw [info_part]; rfl) ?_
    refine And.intro hS0 ?_
    simp only [Act.put, List.setIfInBounds_toArray, List.set_cons_zero, List.set_cons_succ]
    refine wpAnyH_all (rs := [4]) (by kernel_rfl) (by simp) (fun i hmi => ?_)
    obtain rfl : i = 4 := List.mem_singleton.1 hmi
    refine op_call (R := fun u w' => u = .agg (paV (adT ks[c] qs).1).toArray ∧ WebAt w' B b (adT ks[c] qs).2 cs ∧ WFr B V1 w') (f := 44) (some 46) rfl rfl (wanted_none rfl _) (args := #[.pointer (some ⟨b, 0, none⟩), .agg #[.int .i64 (ks[c].kind : Nat), .int .u64 (wd ks[c].q 0 : Nat), .int .u64 (wd ks[c].q 1 : Nat), .int .u64 (wd ks[c].q 2 : Nat), .int .u64 (wd ks[c].q 3 : Nat), .int .i64 ks[c].lo, .int .i64 ks[c].hi, .int .i64 (ks[c].grp : Nat), .slice ua ks[c].kids.length uc]]) (by go_simp; (try with_reducible rfl)) ((HAdd.out).mono ?_) ?_
    ·rintro e w' ⟨rfl, k1, k2⟩
     exact ⟨_, rfl, rfl, k1, (WFr.of_below ((Below.refl V1.heap.size V1).drew) hS1.big).trans k2⟩
    rintro u V2 ⟨rfl, k1, k2⟩
    have hS2 := hS1.call k1 k2
    have kb2 := k2.same _ _ kb rfl
    refine And.intro kb2 ?_
    simp only [Act.put, List.setIfInBounds_toArray, List.set_cons_zero, List.set_cons_succ]
    refine wpAnyH_all (rs := [5]) (by kernel_rfl) (by simp) (fun i hmi => ?_)
    obtain rfl : i = 5 := List.mem_singleton.1 hmi
    have hN1 := (ly_adT ks[c] qs).1
    have hN2 : InB a1 (adT ks[c] qs).2.length := hin.mono (ly_adT ks[c] qs).2
    refine op_call (R := fun u w' => u = .agg (paV (joinB a1 (adT ks[c] qs).1)).toArray ∧ WebAt w' B b (linkB a1 (adT ks[c] qs).1 (adT ks[c] qs).2) cs ∧ WFr B V2 w') (f := 59) (some 47) rfl rfl (wanted_none rfl _) (args := #[.pointer (some ⟨b, 0, none⟩), .agg (paV a1).toArray, .agg (paV (adT ks[c] qs).1).toArray]) (by go_simp; (try with_reducible rfl)) ((join_any a1 (adT ks[c] qs).1 V2 hS2.big hS2.web (fun y hy => (hN2 0 y).2 hy) (fun y hy => (hN1 0 y).1 hy)).mono ?_) ?_
    ·rintro e w' ⟨rfl, j1, j2⟩
     exact ⟨_, rfl, rfl, j1, j2⟩
    rintro u V3 ⟨rfl, j1, j2⟩
    have hS3 := hS2.call j1 j2
    have kb3 := j2.same _ _ kb2 rfl
    refine And.intro kb3 ?_
    simp only [Act.put, List.setIfInBounds_toArray, List.set_cons_zero, List.set_cons_succ]
    refine wpAnyH_all (rs := [6]) (by kernel_rfl) (by simp) (fun i hmi => ?_)
    obtain rfl : i = 6 := List.mem_singleton.1 hmi
    refine op_store 81 5 47 Q (paV (joinB a1 (adT ks[c] qs).1)) rfl rfl rfl rfl rfl rfl (there_block hS3.all _ (by rw [paV_len, paV_len])) (by rw [info_part, paV_len]) (paV_one _) ?_
    refine And.intro ((setCells_far V3 Q hKQ _ _).trans kb3) ?_
    refine wpAnyH_done (by kernel_rfl) ?_ _
    refine hK1 _ _ ?_
    have hS4 := hS3.putQ hB hQw hQH hQR (joinB a1 (adT ks[c] qs).1)
    have hin2 : InB (joinB a1 (adT ks[c] qs).1) (linkB a1 (adT ks[c] qs).1 (adT ks[c] qs).2).length := by rw [len_link]; exact in_join hN2 hN1
    have HF := hideT (And.intro hS4 hin2)
    generalize V3.setCells Q 0 (paV (joinB a1 (adT ks[c] qs).1)) = V4 at *
    clear hS1 hS2 hS3 hS4 kb kb2 kb3 k1 k2 j1 j2 hS0 hN1 hN2 hin2
    go_wp2
    exact ⟨⟨c + 1, _, _, by omega, by go_num, HF.out.1, HF.out.2, by rw [← HR.out, HU.out]⟩, by simp [intOf]; omega⟩
   ·refine op_call (R := fun u w' => u = .agg (paV (adT ks[c] qs).1).toArray ∧ WebAt w' B b (adT ks[c] qs).2 cs ∧ WFr B V1 w') (f := 44) (some 46) rfl rfl (wanted_none rfl _) (args := #[.pointer (some ⟨b, 0, none⟩), .agg #[.int .i64 (ks[c].kind : Nat), .int .u64 (wd ks[c].q 0 : Nat), .int .u64 (wd ks[c].q 1 : Nat), .int .u64 (wd ks[c].q 2 : Nat), .int .u64 (wd ks[c].q 3 : Nat), .int .i64 ks[c].lo, .int .i64 ks[c].hi, .int .i64 (ks[c].grp : Nat), .slice ua ks[c].kids.length uc]]) (by go_simp; (try with_reducible rfl)) ((HAdd.out).mono ?_) ?_
    ·rintro e w' ⟨rfl, k1, k2⟩
     exact ⟨_, rfl, rfl, k1, (WFr.of_below ((Below.refl V1.heap.size V1).drew) hS1.big).trans k2⟩
    rintro u V2 ⟨rfl, k1, k2⟩
    have hS2 := hS1.call k1 k2
    have kb2 := k2.same _ _ kb rfl
    refine And.intro kb2 ?_
    simp only [Act.put, List.setIfInBounds_toArray, List.set_cons_zero, List.set_cons_succ]
    refine wpAnyH_all (rs := [1]) (by kernel_rfl) (by simp) (fun i hmi => ?_)
    obtain rfl : i = 1 := List.mem_singleton.1 hmi
    refine op_load 81 (some 43) 5 Q (paV a1) rfl rfl rfl rfl rfl (range_block hS2.all) und_part rfl (by rw [info_part]; rfl) ?_
    refine And.intro kb2 ?_
    simp only [Act.put, List.setIfInBounds_toArray, List.set_cons_zero, List.set_cons_succ]
    refine wpAnyH_all (rs := [5]) (by kernel_rfl) (by simp) (fun i hmi => ?_)
    obtain rfl : i = 5 := List.mem_singleton.1 hmi
    have hN1 := (ly_adT ks[c] qs).1
    have hN2 : InB a1 (adT ks[c] qs).2.length := hin.mono (ly_adT ks[c] qs).2
    refine op_call (R := fun u w' => u = .agg (paV (joinB a1 (adT ks[c] qs).1)).toArray ∧ WebAt w' B b (linkB a1 (adT ks[c] qs).1 (adT ks[c] qs).2) cs ∧ WFr B V2 w') (f := 59) (some 47) rfl rfl (wanted_none rfl _) (args := #[.pointer (some ⟨b, 0, none⟩), .agg (paV a1).toArray, .agg (paV (adT ks[c] qs).1).toArray]) (by go_simp; (try with_reducible rfl)) ((join_any a1 (adT ks[c] qs).1 V2 hS2.big hS2.web (fun y hy => (hN2 0 y).2 hy) (fun y hy => (hN1 0 y).1 hy)).mono ?_) ?_
    ·rintro e w' ⟨rfl, j1, j2⟩
     exact ⟨_, rfl, rfl, j1, j2⟩
    rintro u V3 ⟨rfl, j1, j2⟩
    have hS3 := hS2.call j1 j2
    have kb3 := j2.same _ _ kb2 rfl
    refine And.intro kb3 ?_
    simp only [Act.put, List.setIfInBounds_toArray, List.set_cons_zero, List.set_cons_succ]
    refine wpAnyH_all (rs := [6]) (by kernel_rfl) (by simp) (fun i hmi => ?_)
    obtain rfl : i = 6 := List.mem_singleton.1 hmi
    refine op_store 81 5 47 Q (paV (joinB a1 (adT ks[c] qs).1)) rfl rfl rfl rfl rfl rfl (there_block hS3.all _ (by rw [paV_len, paV_len])) (by rw [info_part, paV_len]) (paV_one _) ?_
    refine And.intro ((setCells_far V3 Q hKQ _ _).trans kb3) ?_
    refine wpAnyH_done (by kernel_rfl) ?_ _
    refine hK1 _ _ ?_
    have hS4 := hS3.putQ hB hQw hQH hQR (joinB a1 (adT ks[c] qs).1)
    have hin2 : InB (joinB a1 (adT ks[c] qs).1) (linkB a1 (adT ks[c] qs).1 (adT ks[c] qs).2).length := by rw [len_link]; exact in_join hN2 hN1
    have HF := hideT (And.intro hS4 hin2)
    generalize V3.setCells Q 0 (paV (joinB a1 (adT ks[c] qs).1)) = V4 at *
    clear hS1 hS2 hS3 hS4 kb kb2 kb3 k1 k2 j1 j2 hS0 hN1 hN2 hin2
    go_wp2
    exact ⟨⟨c + 1, _, _, by omega, by go_num, HF.out.1, HF.out.2, by rw [← HR.out, HU.out]⟩, by simp [intOf]; omega⟩
  ·obtain rfl : c = ks.length := by omega
   have i1 : ¬ (ks.length : Int) < (ks.length : Int) := by omega
   have hfin : RR = (a1, qs) := by rw [← hR, List.drop_length]; rfl
   have HF := hideT (And.intro hS hfin)
   clear hS hfin hR
   go_upto_region 16 with fail
   obtain ⟨hS7, hfin⟩ := HF.out
   refine ret_part (b := Q) (b' := (w.heap.size + 1)) (cs := paV a1) (zs := [.bool false, .int .u64 0, .int .u64 0, .int .u64 0, .int .u64 0, .int .u64 0, .int .u64 0, .int .u64 0, .int .u64 0, .bool false, .int .u64 0, .int .u64 0, .int .u64 0, .int .u64 0, .int .u64 0, .int .u64 0, .int .u64 0, .int .u64 0, .bool false, .int .u64 0, .int .u64 0, .int .u64 0, .int .u64 0, .int .u64 0, .int .u64 0, .int .u64 0, .int .u64 0, .bool false, .int .u64 0, .int .u64 0, .int .u64 0, .int .u64 0, .int .u64 0, .int .u64 0, .int .u64 0, .int .u64 0]) rfl (by assumption) rfl rfl (by decide) rfl hS7.all hS7.res rfl rfl (paV_one _) rfl rfl ⟨?_, ?_, ?_⟩
   ·rw [hfin]
   ·rw [hfin]
    exact hS7.web.far hS7.res rfl 0 _
   ·exact hS7.fr.far hB (by omega) 0 _
end Go.Proofs.Ytiedliahmjiadaa
namespace Go.Proofs.Ytiedliahmjiadaa
open Go.RowKit Go.Shelf
mutual
def FdT : Tr → Prop
 | .mk k _ lo hi _ kids => (k = 5 → 0 ≤ lo ∧ lo ≤ 1000 ∧ -1 ≤ hi ∧ hi ≤ 1000 ∧ kids.length = 1) ∧ kids.length ≤ 1000000 ∧ FdL kids
def FdL : List Tr → Prop
 | [] => True
 | t :: ts => FdT t ∧ FdL ts
end
theorem add_node {B : Nat} (k : Nat) (q : Nat → Bool) (lo hi : Int) (gp : Nat) (ks : List Tr) (ih : ∀ x ∈ ks, AdIH B x) (hf : FdT (.mk k q lo hi gp ks)) : AdIH B (.mk k q lo hi gp ks) := by
 intro W b ps cs v hB hw hk hl
 obtain ⟨va, vc, rfl⟩ := kids_shape hk
 unfold FdT at hf
 unfold adT at hl ⊢
 by_cases h1 : k = 1
 ·subst h1
  rw [if_pos rfl] at hl ⊢
  have : ps.length < 256 := by
   simp only [List.length_append, List.length_cons, List.length_nil] at hl
   omega
  exact add_byte q lo hi gp va ks.length vc W ps cs hB hw this
 by_cases h2 : k = 2
 ·subst h2
  rw [if_neg (by decide), if_pos rfl] at hl ⊢
  exact add_bol q lo hi gp va ks.length vc W ps cs hB hw
 by_cases h3 : k = 3
 ·subst h3
  rw [if_neg (by decide), if_neg (by decide), if_pos rfl] at hl ⊢
  exact add_eol q lo hi gp va ks.length vc W ps cs hB hw
 by_cases h5 : k = 5
 ·subst h5
  rw [if_neg (by decide), if_neg (by decide), if_neg (by decide), if_pos rfl] at hl ⊢
  obtain ⟨l0, l1, l2, l3, l4⟩ := hf.1 rfl
  obtain ⟨x, rfl⟩ : ∃ x, ks = [x] := List.length_eq_one_iff.1 l4
  obtain ⟨g, c, u, he, hg, _, hcell, hku⟩ := kids_at hk (i := 0) (t := x) rfl
  obtain rfl : va = some ⟨g, 0, none⟩ := by injection he
  obtain ⟨ua, uc, rfl⟩ := kids_shape hku
  exact add_rep (ih x (by simp)) q lo hi gp vc ua _ uc l0 l1 l2 l3 W ps cs hB hg hw hku (fun k y hy => by have := (hcell k y hy).1; simpa using this) hl
 ·rw [if_neg h1, if_neg h2, if_neg h3, if_neg h5] at hl ⊢
  exact add_row k ⟨h1, h2, h3, h5⟩ q lo hi gp ks ih va vc W ps cs hB hw hk hf.2.1 hl
mutual
theorem add_all {B : Nat} : ∀ t : Tr, FdT t → AdIH B t
 | .mk k q lo hi gp ks, h => add_node k q lo hi gp ks (add_each ks (by unfold FdT at h; exact h.2.2)) h
theorem add_each {B : Nat} : ∀ ts : List Tr, FdL ts → ∀ x ∈ ts, AdIH B x
 | [], _, x, hx => absurd hx List.not_mem_nil
 | t :: ts, h, x, hx => by
  unfold FdL at h
  have h1 := add_all (B := B) t h.1
  have h2 := add_each (B := B) ts h.2
  rcases List.mem_cons.1 hx with e | hx
  ·rw [e]
   exact h1
  ·exact h2 x hx
end
end Go.Proofs.Ytiedliahmjiadaa
namespace Go.Proofs.Ytiedliahmjiadaa
open Go.RowKit Go.Shelf
def zsW : List Value := [Value.bool false, Value.int .u64 0, Value.int .u64 0, Value.int .u64 0, Value.int .u64 0, Value.int .u64 0, Value.int .u64 0, Value.int .u64 0, Value.int .u64 0, Value.bool false, Value.int .u64 0, Value.int .u64 0, Value.int .u64 0, Value.int .u64 0, Value.int .u64 0, Value.int .u64 0, Value.int .u64 0, Value.int .u64 0, Value.bool false, Value.int .u64 0, Value.int .u64 0, Value.int .u64 0, Value.int .u64 0, Value.int .u64 0, Value.int .u64 0, Value.int .u64 0, Value.int .u64 0, Value.bool false, Value.int .u64 0, Value.int .u64 0, Value.int .u64 0, Value.int .u64 0, Value.int .u64 0, Value.int .u64 0, Value.int .u64 0, Value.int .u64 0]
theorem there_seg {W : World} {b : Nat} {t : TypeId} {pre cs suf : List Value} (h : W.heap[b]? = some (.cells (pre ++ (cs ++ suf)).toArray t (0, 0))) {o n : Nat} (ho : pre.length = o) (hn : cs.length = n) : W.there b o n := fun j hj => by
 have e : cs[j]? = some cs[j] := List.getElem?_eq_getElem (by omega)
 obtain ⟨h1, h2⟩ := seg_cell h ho j _ e
 exact ⟨by rw [h1]; rfl, h2⟩
theorem weave_any (t : Tr) (hF : FdT t) (v : Value) (w : World) (hk : Kids w (· < w.heap.size) v t.kids) (hl : (adT t []).2.length ≤ 256) :
  Calls Try.prog 27 #[nodeW t v] w fun e w' => ∃ b, e = .returned (.pointer (some ⟨b, 0, none⟩)) ∧ WebAt w' w.heap.size b (adT t []).2 (paV (adT t []).1) ∧ Below w.heap.size w w' := by
 obtain ⟨va, vc, rfl⟩ := kids_shape hk
 have hBX : Below w.heap.size w ((w.alloc (.cells #[.int .i64 (t.kind : Nat), .int .u64 (wd t.q 0 : Nat), .int .u64 (wd t.q 1 : Nat), .int .u64 (wd t.q 2 : Nat), .int .u64 (wd t.q 3 : Nat), .int .i64 t.lo, .int .i64 t.hi, .int .i64 (t.grp : Nat), .slice va t.kids.length vc] 48)).alloc (.cells #[.slice none 0 0, .bool false, .int .u64 0, .int .u64 0, .int .u64 0, .int .u64 0, .int .u64 0, .int .u64 0, .int .u64 0, .int .u64 0, .bool false, .int .u64 0, .int .u64 0, .int .u64 0, .int .u64 0, .int .u64 0, .int .u64 0, .int .u64 0, .int .u64 0, .bool false, .int .u64 0, .int .u64 0, .int .u64 0, .int .u64 0, .int .u64 0, .int .u64 0, .int .u64 0, .int .u64 0, .bool false, .int .u64 0, .int .u64 0, .int .u64 0, .int .u64 0, .int .u64 0, .int .u64 0, .int .u64 0, .int .u64 0] 83)) := ((Below.refl _ w).alloc (Nat.le_refl _) _).alloc (by simp) _
 have x1 : ((w.alloc (.cells #[.int .i64 (t.kind : Nat), .int .u64 (wd t.q 0 : Nat), .int .u64 (wd t.q 1 : Nat), .int .u64 (wd t.q 2 : Nat), .int .u64 (wd t.q 3 : Nat), .int .i64 t.lo, .int .i64 t.hi, .int .i64 (t.grp : Nat), .slice va t.kids.length vc] 48)).alloc (.cells #[.slice none 0 0, .bool false, .int .u64 0, .int .u64 0, .int .u64 0, .int .u64 0, .int .u64 0, .int .u64 0, .int .u64 0, .int .u64 0, .bool false, .int .u64 0, .int .u64 0, .int .u64 0, .int .u64 0, .int .u64 0, .int .u64 0, .int .u64 0, .int .u64 0, .bool false, .int .u64 0, .int .u64 0, .int .u64 0, .int .u64 0, .int .u64 0, .int .u64 0, .int .u64 0, .int .u64 0, .bool false, .int .u64 0, .int .u64 0, .int .u64 0, .int .u64 0, .int .u64 0, .int .u64 0, .int .u64 0, .int .u64 0] 83)).heap[w.heap.size + 1]? = some (.cells (.slice none 0 0 :: zsW).toArray 83 (0, 0)) := by
  have h := World.alloc_heap_new (w.alloc (.cells #[.int .i64 (t.kind : Nat), .int .u64 (wd t.q 0 : Nat), .int .u64 (wd t.q 1 : Nat), .int .u64 (wd t.q 2 : Nat), .int .u64 (wd t.q 3 : Nat), .int .i64 t.lo, .int .i64 t.hi, .int .i64 (t.grp : Nat), .slice va t.kids.length vc] 48)) (.cells #[.slice none 0 0, .bool false, .int .u64 0, .int .u64 0, .int .u64 0, .int .u64 0, .int .u64 0, .int .u64 0, .int .u64 0, .int .u64 0, .bool false, .int .u64 0, .int .u64 0, .int .u64 0, .int .u64 0, .int .u64 0, .int .u64 0, .int .u64 0, .int .u64 0, .bool false, .int .u64 0, .int .u64 0, .int .u64 0, .int .u64 0, .int .u64 0, .int .u64 0, .int .u64 0, .int .u64 0, .bool false, .int .u64 0, .int .u64 0, .int .u64 0, .int .u64 0, .int .u64 0, .int .u64 0, .int .u64 0, .int .u64 0] 83)
  rw [World.size_alloc] at h
  exact h
 have hw0 : WebAt ((w.alloc (.cells #[.int .i64 (t.kind : Nat), .int .u64 (wd t.q 0 : Nat), .int .u64 (wd t.q 1 : Nat), .int .u64 (wd t.q 2 : Nat), .int .u64 (wd t.q 3 : Nat), .int .i64 t.lo, .int .i64 t.hi, .int .i64 (t.grp : Nat), .slice va t.kids.length vc] 48)).alloc (.cells #[.slice none 0 0, .bool false, .int .u64 0, .int .u64 0, .int .u64 0, .int .u64 0, .int .u64 0, .int .u64 0, .int .u64 0, .int .u64 0, .bool false, .int .u64 0, .int .u64 0, .int .u64 0, .int .u64 0, .int .u64 0, .int .u64 0, .int .u64 0, .int .u64 0, .bool false, .int .u64 0, .int .u64 0, .int .u64 0, .int .u64 0, .int .u64 0, .int .u64 0, .int .u64 0, .int .u64 0, .bool false, .int .u64 0, .int .u64 0, .int .u64 0, .int .u64 0, .int .u64 0, .int .u64 0, .int .u64 0, .int .u64 0] 83)) w.heap.size (w.heap.size + 1) [] zsW := ⟨by omega, ⟨_, x1, World.ownsRow_nil _ _ _ _⟩, by simp⟩
 have HA := hideT (add_all (B := w.heap.size) t hF ((w.alloc (.cells #[.int .i64 (t.kind : Nat), .int .u64 (wd t.q 0 : Nat), .int .u64 (wd t.q 1 : Nat), .int .u64 (wd t.q 2 : Nat), .int .u64 (wd t.q 3 : Nat), .int .i64 t.lo, .int .i64 t.hi, .int .i64 (t.grp : Nat), .slice va t.kids.length vc] 48)).alloc (.cells #[.slice none 0 0, .bool false, .int .u64 0, .int .u64 0, .int .u64 0, .int .u64 0, .int .u64 0, .int .u64 0, .int .u64 0, .int .u64 0, .bool false, .int .u64 0, .int .u64 0, .int .u64 0, .int .u64 0, .int .u64 0, .int .u64 0, .int .u64 0, .int .u64 0, .bool false, .int .u64 0, .int .u64 0, .int .u64 0, .int .u64 0, .int .u64 0, .int .u64 0, .int .u64 0, .int .u64 0, .bool false, .int .u64 0, .int .u64 0, .int .u64 0, .int .u64 0, .int .u64 0, .int .u64 0, .int .u64 0, .int .u64 0] 83)) (w.heap.size + 1) [] zsW (.slice va t.kids.length vc) hBX.size hw0 (kidsB hk hBX) hl)
 have HB := hideT hBX
 clear x1 hw0 hBX hk hF hl
 unfold nodeW partV at HA
 unfold nodeW
 generalize adT t [] = RR at *
 go_enter Try.func27, Try.ntmps27
 unfold nodeV
 unfold nodeV at HA
 go_wp2_with fail
 refine HA.out.mono ?_
 rintro e V ⟨rfl, hwV, hfV⟩
 rename_i K1 hK1 K2 hK2
 refine hK2 _ _ ?_
 refine wl_value (v := .pointer (some ⟨w.heap.size + 1, 0, none⟩)) (w' := V) rfl (by go_simp; (try with_reducible rfl)) ?_
 refine wl_value (v := .pointer (some ⟨w.heap.size + 1, 1, none⟩)) (w' := V) rfl (by go_simp; (try with_reducible rfl)) ?_
 obtain ⟨sv, hv, hr, hne⟩ := hwV.row
 have hv' : V.heap[w.heap.size + 1]? = some (.cells (([sv] : List Value) ++ (zsW ++ [])).toArray 83 (0, 0)) := by
  rw [List.append_nil]
  exact hv
 refine wpList_store_mid rfl 81 _ _ rfl (w.heap.size + 1) 1 (paV RR.1).toArray rfl rfl (by rw [List.size_toArray]; exact there_seg hv' rfl rfl) (by rw [info_part]; rfl) (paV_one _) ?_
 refine wpList_nil (hK1 _ _ ?_)
 simp only [Act.put, List.setIfInBounds_toArray, List.set_cons_zero, List.set_cons_succ]
 have hz := setCells_at (w.heap.size + 1) 83 (0, 0) (paV RR.1) [sv] zsW [] V 1 hv' rfl rfl
 have hZ : WebAt (V.setCells (w.heap.size + 1) 1 (paV RR.1)) w.heap.size (w.heap.size + 1) RR.2 (paV RR.1) := ⟨by omega, ⟨sv, by rw [hz, List.append_nil]; rfl, owns_keep hr (fun g hg => setCells_far V _ (fun e => hne (by rw [hg, e])) _ _)⟩, hwV.len⟩
 have hZb : Below w.heap.size w (V.setCells (w.heap.size + 1) 1 (paV RR.1)) := below_setCells _ (by omega) _ _ _ (HB.out.trans hfV.below)
 have HZ := hideT (And.intro hZ hZb)
 clear hZ hZb hz hv hv' hr hne hwV hfV hK1 hK2 HA HB
 show Code.wp _ _ _ _ (V.setCells (w.heap.size + 1) 1 (paV RR.1))
 generalize V.setCells (w.heap.size + 1) 1 (paV RR.1) = Z at *
 go_wp2
 go_ret
 exact ⟨_, rfl, HZ.out.1, HZ.out.2⟩
end Go.Proofs.Ytiedliahmjiadaa
namespace Go.Proofs.Ytiedliahmjiadaa
mutual
theorem fd_shT : ∀ (t : Tr) (s s' : Sh), ShT t s s' → fitT t → FdT t
 | .mk k q lo hi g kids, s, s', h, hf => by
  obtain ⟨_, _, hl, hk⟩ := fitT_at _ hf
  have hm := fitF_mem kids _ hk
  unfold ShT at h
  have hL : ∃ a b, ShL kids a b := by
   rcases h with ⟨_, _, _, _, _, h⟩ | ⟨_, _, _, _, rfl, _⟩ | ⟨_, _, _, _, rfl, _⟩ | ⟨_, _, _, _, _, _, _, s1, h, _⟩ | ⟨_, _, _, _, _, _, h⟩
   ·exact ⟨_, _, h⟩
   ·exact ⟨s, s, rfl⟩
   ·exact ⟨s, s, rfl⟩
   ·exact ⟨_, _, h⟩
   ·exact ⟨_, _, h⟩
  obtain ⟨a, b, hL⟩ := hL
  unfold FdT
  refine ⟨fun e => ?_, hl, fd_shL kids a b hL hm⟩
  rcases h with ⟨h, _⟩ | ⟨h, _⟩ | ⟨h, _⟩ | ⟨h, _⟩ | ⟨_, _, _, h1, h2, ⟨c, h3, _⟩, _⟩
  ·omega
  ·omega
  ·omega
  ·omega
  ·refine ⟨h1.1, by omega, by omega, by omega, by rw [h3]; rfl⟩
theorem fd_shL : ∀ (ts : List Tr) (s s' : Sh), ShL ts s s' → (∀ x ∈ ts, fitT x) → FdL ts
 | [], _, _, _, _ => by unfold FdL; trivial
 | t :: ts, s, s', h, hf => by
  unfold ShL at h
  obtain ⟨s1, h1, h2⟩ := h
  unfold FdL
  exact ⟨fd_shT t s s1 h1 (hf t (by simp)), fd_shL ts s1 s' h2 (fun x hx => hf x (List.mem_cons_of_mem _ hx))⟩
end
theorem fd_parse {s : ByteArray} {ts : List Tr} (h : parseT s = .ok ts) : FdT (catT ts) := by
 obtain ⟨s', hs⟩ := parse_shapes s ts h
 exact fd_shT _ _ _ hs (parse_fit s ts h)
end Go.Proofs.Ytiedliahmjiadaa
namespace Go.Proofs.Ytiedliahmjiadaa
open Go.RowKit
theorem tk_in {ps : List PosB} {wt : Nat → Bool} {c : Nat} (h : ∀ x, x < 256 → wt x = true → x < ps.length) : ∀ x, x < 256 → tkB ps wt c x = true → x < ps.length := fun x hx ht => by
 unfold tkB at ht
 rw [Bool.and_eq_true] at ht
 exact h x hx ht.1
theorem bh_in {ps : List PosB} {tk : Nat → Bool} (h : ∀ p ∈ ps, ∀ q, p.nx q = true → q < ps.length) : ∀ x, x < 256 → bhB ps tk x = true → x < ps.length := fun x _ hb => by
 unfold bhB at hb
 obtain ⟨p, _, hp⟩ := List.any_eq_true.1 hb
 rw [Bool.and_eq_true] at hp
 cases hq : ps[p]? with
 | none =>
  rw [hq] at hp
  exact absurd hp.2 (by simp)
 | some y =>
  rw [hq] at hp
  exact h y (List.mem_of_getElem? hq) x hp.2
theorem bd_len (x : BdB) : (bdV x).length = 9 := rfl
theorem bd_at (a : PaB) : ∀ (k j : Nat), k < 4 → j < 9 → (paV a)[k * 9 + j]? = (bdV (a k))[j]?
 | 0, j, _, hj => by
  unfold paV
  rw [Nat.zero_mul, Nat.zero_add, List.getElem?_append_left (by rw [bd_len]; exact hj)]
 | 1, j, _, hj => by
  unfold paV
  rw [List.getElem?_append_right (by rw [bd_len]; omega), bd_len, show 1 * 9 + j - 9 = j by omega, List.getElem?_append_left (by rw [bd_len]; exact hj)]
 | 2, j, _, hj => by
  unfold paV
  rw [List.getElem?_append_right (by rw [bd_len]; omega), bd_len, List.getElem?_append_right (by rw [bd_len]; omega), bd_len, show 2 * 9 + j - 9 - 9 = j by omega, List.getElem?_append_left (by rw [bd_len]; exact hj)]
 | 3, j, _, hj => by
  unfold paV
  rw [List.getElem?_append_right (by rw [bd_len]; omega), bd_len, List.getElem?_append_right (by rw [bd_len]; omega), bd_len, List.getElem?_append_right (by rw [bd_len]; omega), bd_len, show 3 * 9 + j - 9 - 9 - 9 = j by omega]
theorem web_border {W : World} {B b : Nat} {ps : List PosB} {a : PaB} (h : WebAt W B b ps (paV a)) (k : Nat) (hk : k < 4) (j : Nat) (v : Value) (hj : (bdV (a k))[j]? = some v) : W.cell? ⟨b, 1 + k * 9 + j, none⟩ = some v := by
 obtain ⟨sv, hv, _, _⟩ := h.row
 have hj9 : j < 9 := (List.getElem?_eq_some_iff.1 hj).1
 have e := bd_at a k j hk hj9
 rw [hj] at e
 simp only [World.cell?, hv]
 rw [show 1 + k * 9 + j = (k * 9 + j) + 1 by omega]
 simpa using e
end Go.Proofs.Ytiedliahmjiadaa
