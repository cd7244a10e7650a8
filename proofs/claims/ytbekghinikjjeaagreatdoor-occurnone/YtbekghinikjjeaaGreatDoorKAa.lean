/- KAa -/
import Derived.Test.YtbekghinikjjeaaGreatDoorKA3
import Derived.Laws.OwnMore
import Derived.Laws.MakeOwn
set_option maxRecDepth 100000
set_option maxHeartbeats 4000000
namespace Go.Proofs.YtbekghinikjjeaaGreatDoor.smt
open Go.RowKit Go.Proofs.YtbekghinikjjeaaGreatDoor.br
theorem owns_set {W : World} {B e size n g c : Nat} {xs : List Value} (h : W.ownsRow B e size (.slice (some ⟨g, 0, none⟩) n c) n xs) (k : Nat) (u : Value) : (W.setCell ⟨g, k, none⟩ u).ownsRow B e size (.slice (some ⟨g, 0, none⟩) n c) n (xs.set k u) := by
 obtain ⟨hl, h⟩ := h
 refine ⟨by rw [List.length_set]; exact hl, ?_⟩
 rcases h with ⟨h, _⟩ | ⟨g', cap, cur, hv, hg, hh, h1, h2, h3, h4⟩
 ·cases h
 ·cases hv
  refine .inr ⟨g, c, cur.setIfInBounds k u, rfl, hg, ?_, h1, h2, by simpa using h3, ?_⟩
  ·simp only [World.setCell, Array.getElem?_modify, if_true, hh, Option.map_some]
   rfl
  ·rw [Array.toList_setIfInBounds, ← h4, List.take_set]
theorem nxV_set (q : Nat) : ∀ (ns : List Nat) (i : Nat), i < ns.length → ((((nxV ns).set (i * 4) (.int .u64 (wd (Nat.testBit q) 0 : Nat))).set (i * 4 + 1) (.int .u64 (wd (Nat.testBit q) 1 : Nat))).set (i * 4 + 2) (.int .u64 (wd (Nat.testBit q) 2 : Nat))).set (i * 4 + 3) (.int .u64 (wd (Nat.testBit q) 3 : Nat)) = nxV (ns.set i q)
 | [], _, h => by simp at h
 | n :: ns, 0, _ => rfl
 | n :: ns, i + 1, h => by
  have := nxV_set q ns i (by simpa using h)
  rw [show (i + 1) * 4 = i * 4 + 1 + 1 + 1 + 1 by omega]
  exact congrArg (fun l => Value.int .u64 (wd (Nat.testBit n) 0 : Nat) :: Value.int .u64 (wd (Nat.testBit n) 1 : Nat) :: Value.int .u64 (wd (Nat.testBit n) 2 : Nat) :: Value.int .u64 (wd (Nat.testBit n) 3 : Nat) :: l) this
theorem owns_nx {W : World} {B n g cap i : Nat} {tr : List Nat} (h : W.ownsRow B 157 4 (.slice (some ⟨g, 0, none⟩) n cap) n (nxV tr)) (hi : i < tr.length) (q : Nat) : (put4at W g (i * 4) q).ownsRow B 157 4 (.slice (some ⟨g, 0, none⟩) n cap) n (nxV (tr.set i q)) := by
 have e := owns_set (owns_set (owns_set (owns_set h (i * 4) (.int .u64 (wd (Nat.testBit q) 0 : Nat))) (i * 4 + 1) (.int .u64 (wd (Nat.testBit q) 1 : Nat))) (i * 4 + 2) (.int .u64 (wd (Nat.testBit q) 2 : Nat))) (i * 4 + 3) (.int .u64 (wd (Nat.testBit q) 3 : Nat))
 rw [nxV_set q tr i hi] at e
 exact e
theorem row_cells {W : World} {B n g cap i x : Nat} {tr : List Nat} (h : W.ownsRow B 157 4 (.slice (some ⟨g, 0, none⟩) n cap) n (nxV tr)) (hx : tr[i]? = some x) : (W.cell? ⟨g, i * 4, none⟩ = some (.int .u64 (wd (Nat.testBit x) 0 : Nat)) ∧ W.cell? ⟨g, i * 4 + 1, none⟩ = some (.int .u64 (wd (Nat.testBit x) 1 : Nat)) ∧ W.cell? ⟨g, i * 4 + 2, none⟩ = some (.int .u64 (wd (Nat.testBit x) 2 : Nat)) ∧ W.cell? ⟨g, i * 4 + 3, none⟩ = some (.int .u64 (wd (Nat.testBit x) 3 : Nat))) ∧ (W.frozen? ⟨g, i * 4, none⟩ = false ∧ W.frozen? ⟨g, i * 4 + 1, none⟩ = false ∧ W.frozen? ⟨g, i * 4 + 2, none⟩ = false ∧ W.frozen? ⟨g, i * 4 + 3, none⟩ = false) :=
 ⟨⟨(owns_cell h _ _ (nxV_get hx 0 (by omega))).1, (owns_cell h _ _ (nxV_get hx 1 (by omega))).1, (owns_cell h _ _ (nxV_get hx 2 (by omega))).1, (owns_cell h _ _ (nxV_get hx 3 (by omega))).1⟩, (owns_cell h _ _ (nxV_get hx 0 (by omega))).2, (owns_cell h _ _ (nxV_get hx 1 (by omega))).2, (owns_cell h _ _ (nxV_get hx 2 (by omega))).2, (owns_cell h _ _ (nxV_get hx 3 (by omega))).2⟩
theorem untried_end {sb h wt : Nat} {s : ByteArray} {tv sv : Value} (w : World) (hs : SrAt w sb s h tv sv) : Calls Tryz.prog 67 #[.pointer (some ⟨sb, 0, none⟩), .agg #[.int .u64 (wd (Nat.testBit wt) 0 : Nat), .int .u64 (wd (Nat.testBit wt) 1 : Nat), .int .u64 (wd (Nat.testBit wt) 2 : Nat), .int .u64 (wd (Nat.testBit wt) 3 : Nat)], .int .i64 (s.size : Nat)] w fun e w' => e = .returned (.agg #[.int .u64 (wd (Nat.testBit 0) 0 : Nat), .int .u64 (wd (Nat.testBit 0) 1 : Nat), .int .u64 (wd (Nat.testBit 0) 2 : Nat), .int .u64 (wd (Nat.testBit 0) 3 : Nat)]) ∧ Below w.heap.size w w' := by
 obtain ⟨q0, -⟩ := hs.cells
 have hl := hs.lt
 have e1 : ((s.size : Int) == (s.size : Int)) = true := by simp
 clear hs
 have hZ : (.agg #[.int .u64 (wd (Nat.testBit 0) 0 : Nat), .int .u64 (wd (Nat.testBit 0) 1 : Nat), .int .u64 (wd (Nat.testBit 0) 2 : Nat), .int .u64 (wd (Nat.testBit 0) 3 : Nat)] : Value) = .agg #[.int .u64 0, .int .u64 0, .int .u64 0, .int .u64 0] := by rw [wd_zero, wd_zero, wd_zero, wd_zero]; rfl
 rw [hZ]
 go_enter Tryz.func67, Tryz.ntmps67
 go_wp2
 exact bodyPost_ret (v := .agg #[.int .u64 0, .int .u64 0, .int .u64 0, .int .u64 0]) (by simp [results, Tryz.results67, go_sem]) rfl ⟨rfl, by repeat (first | exact Below.refl _ _ | refine Below.drew ?_ | refine Below.setCell ?_ (by simp; try omega) _ | refine Below.alloc ?_ (by simp; try omega) _)⟩
theorem untried_any {sb h wt pl g cap x B : Nat} {s : ByteArray} {sv : Value} {tr : List Nat} (w : World) (hs : SrAt w sb s h (.slice (some ⟨g, 0, none⟩) s.size cap) sv) (ow : w.ownsRow B 157 4 (.slice (some ⟨g, 0, none⟩) s.size cap) s.size (nxV tr)) (hx : tr[pl]? = some x) (hpl : pl < s.size) (hgs : g ≠ sb) : Calls Tryz.prog 67 #[.pointer (some ⟨sb, 0, none⟩), .agg #[.int .u64 (wd (Nat.testBit wt) 0 : Nat), .int .u64 (wd (Nat.testBit wt) 1 : Nat), .int .u64 (wd (Nat.testBit wt) 2 : Nat), .int .u64 (wd (Nat.testBit wt) 3 : Nat)], .int .i64 (pl : Nat)] w fun e w' => e = .returned (.agg #[.int .u64 (wd (Nat.testBit (wo wt x)) 0 : Nat), .int .u64 (wd (Nat.testBit (wo wt x)) 1 : Nat), .int .u64 (wd (Nat.testBit (wo wt x)) 2 : Nat), .int .u64 (wd (Nat.testBit (wo wt x)) 3 : Nat)]) ∧ w'.ownsRow B 157 4 (.slice (some ⟨g, 0, none⟩) s.size cap) s.size (nxV (tr.set pl (x ||| wo wt x))) ∧ Fs g w w' := by
 obtain ⟨q0, -, q2, -, -, -⟩ := hs.cells
 have hlt := hs.lt
 have hgl : g < w.heap.size := (owns_blk ow rfl).2.1
 have htl := (List.getElem?_eq_some_iff.1 hx).1
 have e1 : ((pl : Int) == (s.size : Int)) = false := by rw [beq_eq_false_iff_ne]; omega
 have i1 : (pl : Int) < (s.size : Int) := by omega
 have i2 : (0 : Int) ≤ (pl : Int) := by omega
 have HW := hideT (fun W => wo_any wt x W)
 have HO := hideT (fun W => or_any x (wo wt x) W)
 have HR := hideT (And.intro ow hs)
 clear ow hs
 go_enter Tryz.func67, Tryz.ntmps67
 go_upto_region 1 with fail
 obtain ⟨X, hX⟩ : ∃ X, X = ((w.alloc (.cells #[.int .u64 (wd (Nat.testBit wt) 0 : Nat), .int .u64 (wd (Nat.testBit wt) 1 : Nat), .int .u64 (wd (Nat.testBit wt) 2 : Nat), .int .u64 (wd (Nat.testBit wt) 3 : Nat)] 157)).alloc (.cells #[.int .u64 0, .int .u64 0, .int .u64 0, .int .u64 0] 157)) := ⟨_, rfl⟩
 rw [← hX]
 have hBX : Below w.heap.size w X := by rw [hX]; exact ((Below.refl _ w).alloc (Nat.le_refl _) _).alloc (by simp) _
 have hsX : X.heap.size = w.heap.size + 2 := by rw [hX, World.size_alloc, World.size_alloc]
 have y0 : Ps4 X w.heap.size wt := by
  show X.heap[_]? = _
  rw [hX, Below.heap_alloc _ _ _ (by simp)]; exact World.alloc_heap_new w _
 have y1 : Ps4 X (w.heap.size + 1) 0 := by
  have h := World.alloc_heap_new (w.alloc (.cells #[.int .u64 (wd (Nat.testBit wt) 0 : Nat), .int .u64 (wd (Nat.testBit wt) 1 : Nat), .int .u64 (wd (Nat.testBit wt) 2 : Nat), .int .u64 (wd (Nat.testBit wt) 3 : Nat)] 157)) (.cells #[.int .u64 0, .int .u64 0, .int .u64 0, .int .u64 0] 157)
  rw [World.size_alloc] at h
  show X.heap[_]? = _
  rw [hX, zero4]; exact h
 have owX := owns_keep HR.out.1 (W' := X) fun k hk => hBX.block k (owns_blk HR.out.1 hk).2.1
 have p0 := (World.cell?_of_block (a := ⟨sb, 0, none⟩) (hBX.block sb hlt)).trans q0
 have p2 := (World.cell?_of_block (a := ⟨sb, 2, none⟩) (hBX.block sb hlt)).trans q2
 obtain ⟨rc, -⟩ := row_cells owX hx
 obtain ⟨⟨c0, c1, c2, c3⟩, g0, g1, g2, g3⟩ := y0.cells
 have hS3 : (fun V : World => V.cell? ⟨sb, 2, none⟩ = some (.slice (some ⟨g, 0, none⟩) s.size cap) ∧ V.cell? ⟨g, pl * 4, none⟩ = some (.int .u64 (wd (Nat.testBit x) 0 : Nat)) ∧ V.cell? ⟨g, pl * 4 + 1, none⟩ = some (.int .u64 (wd (Nat.testBit x) 1 : Nat)) ∧ V.cell? ⟨g, pl * 4 + 2, none⟩ = some (.int .u64 (wd (Nat.testBit x) 2 : Nat)) ∧ V.cell? ⟨g, pl * 4 + 3, none⟩ = some (.int .u64 (wd (Nat.testBit x) 3 : Nat))) X.drew := ⟨p2, rc⟩
 have HY := hideT (And.intro y0 (And.intro y1 (And.intro hBX owX)))
 clear hX y0 y1 hBX rc owX q0 q2
 go_wp2_with fail
 rename_i K3 hK3
 refine wp_region_held (S := fun V : World => V.cell? ⟨sb, 2, none⟩ = some (.slice (some ⟨g, 0, none⟩) s.size cap) ∧ V.cell? ⟨g, pl * 4, none⟩ = some (.int .u64 (wd (Nat.testBit x) 0 : Nat)) ∧ V.cell? ⟨g, pl * 4 + 1, none⟩ = some (.int .u64 (wd (Nat.testBit x) 1 : Nat)) ∧ V.cell? ⟨g, pl * 4 + 2, none⟩ = some (.int .u64 (wd (Nat.testBit x) 2 : Nat)) ∧ V.cell? ⟨g, pl * 4 + 3, none⟩ = some (.int .u64 (wd (Nat.testBit x) 3 : Nat))) (by kernel_rfl) ?_
 refine tq 1 17 hS3 ?_
 refine tq 2 18 hS3 ?_
 refine tq 3 19 hS3 ?_
 refine tq 4 20 hS3 ?_
 refine tq 5 21 hS3 ?_
 refine tq 6 22 hS3 ?_
 refine tq 7 23 hS3 ?_
 refine wpAnyH_all (rs := [0]) (by kernel_rfl) (by simp) (fun i hi => ?_)
 obtain rfl : i = 0 := List.mem_singleton.1 hi
 refine op_value (some 16) rfl rfl (by rfl) (v := .agg #[.int .u64 (wd (Nat.testBit wt) 0 : Nat), .int .u64 (wd (Nat.testBit wt) 1 : Nat), .int .u64 (wd (Nat.testBit wt) 2 : Nat), .int .u64 (wd (Nat.testBit wt) 3 : Nat)]) (by go_simp; (try with_reducible rfl)) ⟨hS3, ?_⟩
 simp only [Act.put, List.setIfInBounds_toArray, List.set_cons_zero, List.set_cons_succ]
 refine wpAnyH_all (rs := [8]) (by kernel_rfl) (by simp) (fun i hi => ?_)
 obtain rfl : i = 8 := List.mem_singleton.1 hi
 refine op_call (R := fun v w1 => v = .agg #[.int .u64 (wd (Nat.testBit (wo wt x)) 0 : Nat), .int .u64 (wd (Nat.testBit (wo wt x)) 1 : Nat), .int .u64 (wd (Nat.testBit (wo wt x)) 2 : Nat), .int .u64 (wd (Nat.testBit (wo wt x)) 3 : Nat)] ∧ Below X.heap.size X w1) (f := 95) (some 24) rfl rfl (by rfl) (by go_simp; (try with_reducible rfl)) ((HW.out _).mono ?_) ?_
 · rintro e w1 ⟨rfl, hb0⟩
   exact ⟨_, rfl, rfl, ((Below.refl X.heap.size X).drew).trans hb0⟩
 rintro v w1 ⟨rfl, hb1⟩
 obtain ⟨s0, s1, s2, s3, s4⟩ := hS3
 have hS3' : (fun V : World => V.cell? ⟨sb, 2, none⟩ = some (.slice (some ⟨g, 0, none⟩) s.size cap) ∧ V.cell? ⟨g, pl * 4, none⟩ = some (.int .u64 (wd (Nat.testBit x) 0 : Nat)) ∧ V.cell? ⟨g, pl * 4 + 1, none⟩ = some (.int .u64 (wd (Nat.testBit x) 1 : Nat)) ∧ V.cell? ⟨g, pl * 4 + 2, none⟩ = some (.int .u64 (wd (Nat.testBit x) 2 : Nat)) ∧ V.cell? ⟨g, pl * 4 + 3, none⟩ = some (.int .u64 (wd (Nat.testBit x) 3 : Nat))) w1 := ⟨keep_cell hb1 s0, keep_cell hb1 s1, keep_cell hb1 s2, keep_cell hb1 s3, keep_cell hb1 s4⟩
 have y0 := HY.out.1.below hb1 HY.out.1.lt
 clear c0 c1 c2 c3 g0 g1 g2 g3
 obtain ⟨⟨c0, c1, c2, c3⟩, g0, g1, g2, g3⟩ := y0.cells
 refine ⟨hS3', ?_⟩
 simp only [Act.put, List.setIfInBounds_toArray, List.set_cons_zero, List.set_cons_succ]
 refine wpAnyH_all (rs := [9]) (by kernel_rfl) (by simp) (fun i hi => ?_)
 obtain rfl : i = 9 := List.mem_singleton.1 hi
 have pc : ∀ a : Addr, a.block ≠ w.heap.size → (put4at w1 w.heap.size 0 (wo wt x)).cell? a = w1.cell? a := fun a h => World.cell?_of_block (put4at_far w1 _ 0 _ h)
 obtain ⟨t0, t1, t2, t3, t4⟩ := hS3'
 have t0' := (pc ⟨sb, 2, none⟩ (by show sb ≠ _; omega)).trans t0
 refine op_skip rfl rfl (by rfl) (w' := put4at w1 w.heap.size 0 (wo wt x)) (by go_simp; (try with_reducible rfl)) ⟨⟨t0', (pc _ (by show g ≠ _; omega)).trans t1, (pc _ (by show g ≠ _; omega)).trans t2, (pc _ (by show g ≠ _; omega)).trans t3, (pc _ (by show g ≠ _; omega)).trans t4⟩, ?_⟩
 refine wpAnyH_done (by kernel_rfl) (hK3 _ _ ?_) _
 have z0 := y0.put (wo wt x)
 have z1 : Ps4 (put4at w1 w.heap.size 0 (wo wt x)) (w.heap.size + 1) 0 := (put4at_far w1 _ 0 _ (by omega)).trans (HY.out.2.1.below hb1 HY.out.2.1.lt)
 have zB : Below w.heap.size w (put4at w1 w.heap.size 0 (wo wt x)) := put_below (HY.out.2.2.1.trans (hb1.mono HY.out.2.2.1.size)) (Nat.le_refl _) _ _
 have zw := owns_keep HR.out.1 (W' := put4at w1 w.heap.size 0 (wo wt x)) fun k hk => zB.block k (owns_blk HR.out.1 hk).2.1
 have zs : w.heap.size + 2 ≤ (put4at w1 w.heap.size 0 (wo wt x)).heap.size := by rw [put4at_size]; have := hb1.size; omega
 generalize put4at w1 w.heap.size 0 (wo wt x) = Y at *
 clear c0 c1 c2 c3 g0 g1 g2 g3 t0 t1 t2 t3 t4 s0 s1 s2 s3 s4 hb1 y0 HY hK3 pc p0 p2 hsX
 simp only [Act.put]
 obtain ⟨⟨c0, c1, c2, c3⟩, -⟩ := z0.cells
 obtain ⟨⟨r0, r1, r2, r3⟩, -⟩ := row_cells zw hx
 have hS4 : (fun V : World => V.cell? ⟨sb, 2, none⟩ = some (.slice (some ⟨g, 0, none⟩) s.size cap) ∧ V.cell? ⟨w.heap.size, 0, none⟩ = some (.int .u64 (wd (Nat.testBit (wo wt x)) 0 : Nat)) ∧ V.cell? ⟨w.heap.size, 1, none⟩ = some (.int .u64 (wd (Nat.testBit (wo wt x)) 1 : Nat)) ∧ V.cell? ⟨w.heap.size, 2, none⟩ = some (.int .u64 (wd (Nat.testBit (wo wt x)) 2 : Nat)) ∧ V.cell? ⟨w.heap.size, 3, none⟩ = some (.int .u64 (wd (Nat.testBit (wo wt x)) 3 : Nat))) Y.drew := ⟨t0', c0, c1, c2, c3⟩
 go_wp2_with fail
 rename_i K4 hK4
 refine wp_region_held (S := fun V : World => V.cell? ⟨sb, 2, none⟩ = some (.slice (some ⟨g, 0, none⟩) s.size cap) ∧ V.cell? ⟨w.heap.size, 0, none⟩ = some (.int .u64 (wd (Nat.testBit (wo wt x)) 0 : Nat)) ∧ V.cell? ⟨w.heap.size, 1, none⟩ = some (.int .u64 (wd (Nat.testBit (wo wt x)) 1 : Nat)) ∧ V.cell? ⟨w.heap.size, 2, none⟩ = some (.int .u64 (wd (Nat.testBit (wo wt x)) 2 : Nat)) ∧ V.cell? ⟨w.heap.size, 3, none⟩ = some (.int .u64 (wd (Nat.testBit (wo wt x)) 3 : Nat))) (by kernel_rfl) ?_
 refine tq 0 25 hS4 ?_
 refine tq 1 26 hS4 ?_
 refine tq 2 27 hS4 ?_
 refine tq 3 28 hS4 ?_
 refine tq 4 29 hS4 ?_
 refine tq 5 30 hS4 ?_
 refine tq 6 31 hS4 ?_
 refine tq 7 32 hS4 ?_
 refine tq 8 33 hS4 ?_
 refine tq 9 34 hS4 ?_
 refine tq 10 35 hS4 ?_
 refine tq 12 37 hS4 ?_
 simp only [Act.put, List.setIfInBounds_toArray, List.set_cons_zero, List.set_cons_succ]
 refine wpAnyH_all (rs := [11]) (by kernel_rfl) (by simp) (fun i hi => ?_)
 obtain rfl : i = 11 := List.mem_singleton.1 hi
 refine op_value (some 36) rfl rfl (by rfl) (v := .agg #[.int .u64 (wd (Nat.testBit x) 0 : Nat), .int .u64 (wd (Nat.testBit x) 1 : Nat), .int .u64 (wd (Nat.testBit x) 2 : Nat), .int .u64 (wd (Nat.testBit x) 3 : Nat)]) (by go_simp; (try with_reducible rfl)) ⟨hS4, ?_⟩
 simp only [Act.put, List.setIfInBounds_toArray, List.set_cons_zero, List.set_cons_succ]
 refine wpAnyH_all (rs := [13]) (by kernel_rfl) (by simp) (fun i hi => ?_)
 obtain rfl : i = 13 := List.mem_singleton.1 hi
 refine op_call (R := fun v w1 => v = .agg #[.int .u64 (wd (Nat.testBit (x ||| wo wt x)) 0 : Nat), .int .u64 (wd (Nat.testBit (x ||| wo wt x)) 1 : Nat), .int .u64 (wd (Nat.testBit (x ||| wo wt x)) 2 : Nat), .int .u64 (wd (Nat.testBit (x ||| wo wt x)) 3 : Nat)] ∧ Below Y.heap.size Y w1) (f := 93) (some 38) rfl rfl (by rfl) (by go_simp; (try with_reducible rfl)) ((HO.out _).mono ?_) ?_
 · rintro e w1 ⟨rfl, hb0⟩
   exact ⟨_, rfl, rfl, ((Below.refl Y.heap.size Y).drew).trans hb0⟩
 rintro v w2 ⟨rfl, hb2⟩
 obtain ⟨s0, s1, s2, s3, s4⟩ := hS4
 have hS4' : (fun V : World => V.cell? ⟨sb, 2, none⟩ = some (.slice (some ⟨g, 0, none⟩) s.size cap) ∧ V.cell? ⟨w.heap.size, 0, none⟩ = some (.int .u64 (wd (Nat.testBit (wo wt x)) 0 : Nat)) ∧ V.cell? ⟨w.heap.size, 1, none⟩ = some (.int .u64 (wd (Nat.testBit (wo wt x)) 1 : Nat)) ∧ V.cell? ⟨w.heap.size, 2, none⟩ = some (.int .u64 (wd (Nat.testBit (wo wt x)) 2 : Nat)) ∧ V.cell? ⟨w.heap.size, 3, none⟩ = some (.int .u64 (wd (Nat.testBit (wo wt x)) 3 : Nat))) w2 := ⟨keep_cell hb2 s0, keep_cell hb2 s1, keep_cell hb2 s2, keep_cell hb2 s3, keep_cell hb2 s4⟩
 have zw2 := owns_keep zw (W' := w2) fun k hk => hb2.block k (owns_blk zw hk).2.1
 obtain ⟨⟨r0, r1, r2, r3⟩, g0, g1, g2, g3⟩ := row_cells zw2 hx
 refine ⟨hS4', ?_⟩
 simp only [Act.put, List.setIfInBounds_toArray, List.set_cons_zero, List.set_cons_succ]
 refine tq 14 39 hS4' ?_
 refine wpAnyH_all (rs := [15]) (by kernel_rfl) (by simp) (fun i hi => ?_)
 obtain rfl : i = 15 := List.mem_singleton.1 hi
 have pc : ∀ a : Addr, a.block ≠ g → (put4at w2 g (pl * 4) (x ||| wo wt x)).cell? a = w2.cell? a := fun a h => World.cell?_of_block (put4at_far w2 _ _ _ h)
 obtain ⟨t0, t1, t2, t3, t4⟩ := hS4'
 refine op_skip rfl rfl (by rfl) (w' := put4at w2 g (pl * 4) (x ||| wo wt x)) (by go_simp; (try with_reducible rfl)) ⟨⟨(pc _ (fun e => hgs e.symm)).trans t0, (pc _ (by show w.heap.size ≠ _; omega)).trans t1, (pc _ (by show w.heap.size ≠ _; omega)).trans t2, (pc _ (by show w.heap.size ≠ _; omega)).trans t3, (pc _ (by show w.heap.size ≠ _; omega)).trans t4⟩, ?_⟩
 refine wpAnyH_done (by kernel_rfl) (hK4 _ _ ?_) _
 have v0 : Ps4 (put4at w2 g (pl * 4) (x ||| wo wt x)) w.heap.size (wo wt x) := (put4at_far w2 _ _ _ (by omega)).trans (z0.below hb2 z0.lt)
 have v1 : Ps4 (put4at w2 g (pl * 4) (x ||| wo wt x)) (w.heap.size + 1) 0 := (put4at_far w2 _ _ _ (by omega)).trans (z1.below hb2 z1.lt)
 have vw := owns_nx zw2 htl (x ||| wo wt x)
 have vF : Fs g w (put4at w2 g (pl * 4) (x ||| wo wt x)) := ⟨hb2.os.trans zB.os, hb2.tape.trans zB.tape, hb2.output.trans zB.output, by rw [put4at_size]; have := hb2.size; omega, fun k a1 a2 => (put4at_far w2 _ _ _ a2).trans ((hb2.block k (by omega)).trans (zB.block k a1))⟩
 generalize put4at w2 g (pl * 4) (x ||| wo wt x) = Z at *
 clear c0 c1 c2 c3 r0 r1 r2 r3 g0 g1 g2 g3 t0 t1 t2 t3 t4 s0 s1 s2 s3 s4 hb2 zw zw2 z0 z1 zB hK4 pc t0'
 simp only [Act.put]
 obtain ⟨⟨c0, c1, c2, c3⟩, -⟩ := v0.cells
 obtain ⟨⟨d0, d1, d2, d3⟩, f0, f1, f2, f3⟩ := v1.cells
 have u1 := v1.put (wo wt x)
 have uw := owns_keep vw (W' := put4at Z (w.heap.size + 1) 0 (wo wt x)) fun k hk => put4at_far Z _ _ _ (by obtain rfl : g = k := Option.some.inj hk; omega)
 have uF : Fs g w (put4at Z (w.heap.size + 1) 0 (wo wt x)) := ⟨vF.os, vF.tape, vF.output, by rw [put4at_size]; exact vF.size, fun k a1 a2 => (put4at_far Z _ _ _ (by omega)).trans (vF.same k a1 a2)⟩
 have HU := hideT (And.intro u1 (And.intro uw uF))
 clear v0 v1 vw vF u1 uw uF
 go_wp2
 obtain ⟨⟨z0, z1, z2, z3⟩, -⟩ := HU.out.1.cells
 exact bodyPost_ret (v := .agg #[.int .u64 (wd (Nat.testBit (wo wt x)) 0 : Nat), .int .u64 (wd (Nat.testBit (wo wt x)) 1 : Nat), .int .u64 (wd (Nat.testBit (wo wt x)) 2 : Nat), .int .u64 (wd (Nat.testBit (wo wt x)) 3 : Nat)]) (by simp [results, Tryz.results67, go_sem, z0, z1, z2, z3]) rfl ⟨rfl, HU.out.2.1, HU.out.2.2⟩
end Go.Proofs.YtbekghinikjjeaaGreatDoor.smt
namespace Go.Proofs.YtbekghinikjjeaaGreatDoor.smt
open Go.RowKit Go.Proofs.YtbekghinikjjeaaGreatDoor.br
theorem nxV_rep : ∀ n : Nat, nxV (List.replicate n 0) = List.replicate (n * 4) (.int .u64 0)
 | 0 => rfl
 | n + 1 => by
  rw [List.replicate_succ, nxV, nxV_rep n, wd_zero, wd_zero, wd_zero, wd_zero, show (n + 1) * 4 = n * 4 + 1 + 1 + 1 + 1 by omega]
  rfl
theorem made_one (zs : Array Value) (z : Value) (h : ∀ i, zs[i % zs.size]! = z) (m : Nat) : madeCells zs m = (List.replicate m z).toArray := by
 apply Array.ext
 · simp [madeCells]
 · intro i h1 h2
   simp [madeCells, h]
theorem info_po2 : (Tryz.prog.info? 157).map (fun i => (i.zero, i.size, i.bytes)) = some (some (.agg #[.int .u64 0, .int .u64 0, .int .u64 0, .int .u64 0]), 4, 32) := by kernel_rfl
theorem make_nx (n : Nat) (hn : n ≤ 1000000) (V : World) : (Instr.makeSlice 130 (.int .i64 (n : Nat)) (.int .i64 (n : Nat))).run Tryz.prog V = .ok (.slice (some ⟨V.heap.size, 0, none⟩) n n) (V.alloc (.cells (nxV (List.replicate n 0)).toArray 157)) := by
 obtain ⟨i0, hi, hz0, hz1, hz2⟩ := info_parts info_po2
 have := run_makeSlice (P := Tryz.prog) (w := V) 130 157 i0 _ Tryz.underlying130 hi hz0 .i64 .i64 n n (by omega) (Int.le_refl _) (by rw [hz1, Int.toNat_natCast]; omega) (by rw [hz2]; omega) (by omega)
 rw [hz1, Int.toNat_natCast] at this
 rw [this, nxV_rep, made_one _ (.int .u64 0) (fun i => ?_)]
 have h4 : i % 4 < 4 := Nat.mod_lt _ (by omega)
 show (#[Value.int .u64 0, .int .u64 0, .int .u64 0, .int .u64 0] : Array Value)[i % 4]! = _
 match i % 4, h4 with
 | 0, _ => rfl
 | 1, _ => rfl
 | 2, _ => rfl
 | 3, _ => rfl
theorem owns_made (V : World) (B n : Nat) (hB : B ≤ V.heap.size) (hn : n ≤ 1000000) : (V.alloc (.cells (nxV (List.replicate n 0)).toArray 157)).ownsRow B 157 4 (.slice (some ⟨V.heap.size, 0, none⟩) n n) n (nxV (List.replicate n 0)) := by
 have h := World.ownsRow_lit (base := B) (e := 157) (size := 4) V (nxV (List.replicate n 0)).toArray n hB (by unfold maxLen; omega) (by rw [List.size_toArray, nxV_len, List.length_replicate])
 simpa using h
def spV : List (Int × Int) → List Value
 | [] => []
 | x :: xs => [.int .i64 x.1, .int .i64 x.2] ++ spV xs
theorem spV_len : ∀ l : List (Int × Int), (spV l).length = l.length * 2
 | [] => rfl
 | _ :: l => by simp only [spV, List.length_append, List.length_cons, List.length_nil, spV_len l]; omega
theorem spV_get : ∀ {l : List (Int × Int)} {i : Nat} {x : Int × Int}, l[i]? = some x → (spV l)[i * 2]? = some (.int .i64 x.1) ∧ (spV l)[i * 2 + 1]? = some (.int .i64 x.2)
 | [], _, _, h => by simp at h
 | y :: l, 0, x, h => by
  simp only [List.getElem?_cons_zero, Option.some.injEq] at h
  subst h; exact ⟨rfl, rfl⟩
 | y :: l, i + 1, x, h => by
  have := spV_get (l := l) (i := i) (x := x) (by simpa using h)
  rw [show (i + 1) * 2 = i * 2 + 1 + 1 by omega, show i * 2 + 1 + 1 + 1 = (i * 2 + 1) + 1 + 1 by omega]
  exact this
theorem spV_set (q : Int × Int) : ∀ (l : List (Int × Int)) (i : Nat), i < l.length → ((spV l).set (i * 2) (.int .i64 q.1)).set (i * 2 + 1) (.int .i64 q.2) = spV (l.set i q)
 | [], _, h => by simp at h
 | y :: l, 0, _ => rfl
 | y :: l, i + 1, h => by
  have := spV_set q l i (by simpa using h)
  rw [show (i + 1) * 2 = i * 2 + 1 + 1 by omega]
  exact congrArg (fun z => Value.int .i64 y.1 :: Value.int .i64 y.2 :: z) this
theorem owns_sp {W : World} {B n g cap i : Nat} {l : List (Int × Int)} (h : W.ownsRow B 30 2 (.slice (some ⟨g, 0, none⟩) n cap) n (spV l)) (hi : i < l.length) (q : Int × Int) : ((W.setCell ⟨g, i * 2, none⟩ (.int .i64 q.1)).setCell ⟨g, i * 2 + 1, none⟩ (.int .i64 q.2)).ownsRow B 30 2 (.slice (some ⟨g, 0, none⟩) n cap) n (spV (l.set i q)) := by
 have e := owns_set (owns_set h (i * 2) (.int .i64 q.1)) (i * 2 + 1) (.int .i64 q.2)
 rw [spV_set q l i hi] at e
 exact e
theorem spV_rep : ∀ n : Nat, spV (List.replicate n (0, 0)) = List.replicate (n * 2) (.int .i64 0)
 | 0 => rfl
 | n + 1 => by
  rw [List.replicate_succ, spV, spV_rep n, show (n + 1) * 2 = n * 2 + 1 + 1 by omega]
  rfl
theorem info_sp : (Tryz.prog.info? 30).map (fun i => (i.zero, i.size, i.bytes)) = some (some (.agg #[.int .i64 0, .int .i64 0]), 2, 16) := by kernel_rfl
theorem make_sp (n : Nat) (hn : n ≤ 1000000) (V : World) : (Instr.makeSlice 28 (.int .i64 (n : Nat)) (.int .i64 (n : Nat))).run Tryz.prog V = .ok (.slice (some ⟨V.heap.size, 0, none⟩) n n) (V.alloc (.cells (spV (List.replicate n (0, 0))).toArray 30)) := by
 obtain ⟨i0, hi, hz0, hz1, hz2⟩ := info_parts info_sp
 have := run_makeSlice (P := Tryz.prog) (w := V) 28 30 i0 _ Tryz.underlying28 hi hz0 .i64 .i64 n n (by omega) (Int.le_refl _) (by rw [hz1, Int.toNat_natCast]; omega) (by rw [hz2]; omega) (by omega)
 rw [hz1, Int.toNat_natCast] at this
 rw [this, spV_rep, made_one _ (.int .i64 0) (fun i => ?_)]
 have h4 : i % 2 < 2 := Nat.mod_lt _ (by omega)
 show (#[Value.int .i64 0, .int .i64 0] : Array Value)[i % 2]! = _
 match i % 2, h4 with
 | 0, _ => rfl
 | 1, _ => rfl
theorem made_sp (V : World) (B n : Nat) (hB : B ≤ V.heap.size) (hn : n ≤ 1000000) : (V.alloc (.cells (spV (List.replicate n (0, 0))).toArray 30)).ownsRow B 30 2 (.slice (some ⟨V.heap.size, 0, none⟩) n n) n (spV (List.replicate n (0, 0))) := by
 have h := World.ownsRow_lit (base := B) (e := 30) (size := 2) V (spV (List.replicate n (0, 0))).toArray n hB (by unfold maxLen; omega) (by rw [List.size_toArray, spV_len, List.length_replicate])
 simpa using h
theorem rep_step (n k : Nat) (h : k < n) : (List.replicate k ((-1 : Int), (-1 : Int)) ++ List.replicate (n - k) (0, 0)).set k (-1, -1) = List.replicate (k + 1) (-1, -1) ++ List.replicate (n - (k + 1)) (0, 0) := by
 rw [List.set_append_right _ _ (by simp), List.length_replicate, Nat.sub_self, show n - k = (n - (k + 1)) + 1 by omega, List.replicate_succ, List.set_cons_zero, List.replicate_succ', List.append_assoc]
 rfl
theorem unmatched_any (n : Nat) (hn : n ≤ 100) (w : World) : Calls Tryz.prog 46 #[.int .i64 (n : Nat)] w fun e w' => e = .returned (.slice (some ⟨w.heap.size, 0, none⟩) n n) ∧ w'.ownsRow w.heap.size 30 2 (.slice (some ⟨w.heap.size, 0, none⟩) n n) n (spV (List.replicate n (-1, -1))) ∧ Below w.heap.size w w' := by
 have hmk := make_sp n (by omega)
 have hm0 := made_sp w w.heap.size n (Nat.le_refl _) (by omega)
 have hB0 := (Below.refl w.heap.size w).alloc (Nat.le_refl _) (.cells (spV (List.replicate n (0, 0))).toArray 30)
 have HM := hideT (And.intro hm0 hB0)
 clear hm0 hB0
 generalize (spV (List.replicate n (0, 0))).toArray = mc at *
 go_enter Tryz.func46, Tryz.ntmps46
 go_wp2_with fail
 obtain ⟨hm0, hB0⟩ := HM.out
 generalize w.alloc (.cells mc 30) = W0 at *
 go_loopw [9] (fun iv wq => ∃ k : Nat, k ≤ n ∧ iv = .int .i64 k ∧ wq.ownsRow w.heap.size 30 2 (.slice (some ⟨w.heap.size, 0, none⟩) n n) n (spV (List.replicate k (-1, -1) ++ List.replicate (n - k) (0, 0))) ∧ Below w.heap.size w wq) (fun iv _ => (n - intOf iv).toNat)
 case atStart => exact ⟨0, by omega, rfl, by simpa using hm0, hB0⟩
 case round =>
  obtain ⟨k, hk, rfl, ow, hB⟩ := hrel
  by_cases hlt : k < n
  · have i1 : (k : Int) < (n : Int) := by omega
    have i2 : (0 : Int) ≤ (k : Int) := by omega
    have hx : (List.replicate k ((-1 : Int), (-1 : Int)) ++ List.replicate (n - k) (0, 0))[k]? = some (0, 0) := by
     rw [List.getElem?_append_right (by simp), List.length_replicate, Nat.sub_self, List.getElem?_replicate]; simp; omega
    obtain ⟨a0, a1⟩ := spV_get hx
    obtain ⟨c0, f0⟩ := owns_cell ow _ _ a0
    obtain ⟨c1, f1⟩ := owns_cell ow _ _ a1
    have o2 := owns_sp ow (i := k) (by simp; omega) (-1, -1)
    rw [rep_step n k hlt] at o2
    have b2 := (hB.setCell (p := ⟨w.heap.size, k * 2, none⟩) (Nat.le_refl _) (.int .i64 (-1))).setCell (p := ⟨w.heap.size, k * 2 + 1, none⟩) (Nat.le_refl _) (.int .i64 (-1))
    have HO := hideT (And.intro o2 b2)
    clear ow hx a0 a1 o2 b2 hB hm0 hB0 HM hmk
    go_wp2
    go_roundw
    case rel => exact ⟨k + 1, by omega, by go_num, HO.out.1, HO.out.2⟩
    case measure => simp [intOf]; omega
  · obtain rfl : k = n := by omega
    rw [Nat.sub_self, List.replicate_zero, List.append_nil] at ow
    have HO := hideT (And.intro ow hB)
    clear ow hB hm0 hB0 HM hmk
    go_wp2
    go_ret
    exact ⟨rfl, HO.out.1, HO.out.2⟩
end Go.Proofs.YtbekghinikjjeaaGreatDoor.smt
