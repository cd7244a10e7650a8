/- script: table. -/
import Derived.Test.YtjfkhlmoppbbgaaGreatDoorKXw
namespace Go.Proofs.YtjfkhlmoppbbgaaGreatDoor
open Go.RowKit
open scanP scrP tpl ytb

theorem op_call {P : Program} {ops : Array Oper} {Q : Exit → Act → World → Prop} {i : Nat} {o : Oper} {K : Act → World → Prop} {a : Act} {w : World} {f : FuncId} {args : Array Value} {R : Value → World → Prop} (d : Option Tmp) (hi : ops[i]? = some o) (hd : o.dst = d) (hw : Region.wanted o (yielded ops a.tmps) = true) (hx : (execOp a.eval o).run P w = .ok (.enter f args) w) (hc : Calls P f args w fun e w' => ∃ v, e = .returned v ∧ R v w') (h : ∀ v w', R v w' → K (a.put d v) w') : wpOp P ops Q i K a w := by
  unfold wpOp
  rw [hi]
  dsimp only
  rw [if_pos hw]
  refine .inl ?_
  unfold Oper.wp
  rw [hx]
  refine Calls.mono hc ?_
  rintro e w' ⟨v, rfl, hR⟩
  show K (a.put o.dst v) w'
  rw [hd]
  exact h v w' hR
set_option maxRecDepth 100000 in
set_option maxHeartbeats 4000000 in
theorem table_any {b g B : Nat} {s : ByteArray} {i : Nat} {c : Co} {pv : Value} (w : World) (h : Both w b g B s i c pv) (hi : i ≤ s.size) (hs : s.size ≤ 4096) : Calls Tryz.prog 65 #[.pointer (some ⟨b, 0, none⟩), .pointer (some ⟨g, 0, none⟩)] w (PC b g B s w (tabR s.data.toList c i)) := by
  generalize hRR : tabR s.data.toList c i = RR
  have HRR := hideT hRR
  have HH := hideT h
  have d0 := h.m.cell 0 (v := .int .i64 (c.pl : Nat)) rfl
  clear hRR h
  go_enter Tryz.func65, Tryz.ntmps65
  go_wp2_with fail
  refine (delim_any 19 c.pl w HH.out.r hi hs).mono ?_
  intro e w1 hp
  rcases hd : delR s.data.toList i 19 c.pl with x | ⟨d, j⟩
  · rw [hd] at hp
    obtain ⟨rfl, ht⟩ := hp
    have T := hideT (ht.wide (g := g))
    have ER := hideT (show RR = .error x by rw [← HRR.out]; unfold tabR; rw [hd])
    clear ht hd HRR
    go_wp2
    rw [ER.out]
    exact ⟨rfl, rfl, T.out⟩
  rw [hd] at hp
  obtain ⟨rfl, hr, ht⟩ := hp
  obtain ⟨rfl, hj, _, _⟩ := del_len hd
  have H1 := hideT (HH.out.step hr ht)
  have T1 := hideT (ht.wide (g := g))
  have R1 := hideT (show tabR s.data.toList c i = (match sidR s.data.toList d c.pl (i + 1) with
    | .error x => .error x
    | .ok (f, k) => match sidR s.data.toList d c.pl k with
      | .error x => .error x
      | .ok (t, m) => if f.length ≠ t.length ∨ twB f = true then .error (21, c.pl) else .ok ({ c with fr := f, to := t }, m)) by unfold tabR; rw [hd]; first | done | rfl)
  rw [HRR.out] at R1
  clear hr ht hd HRR HH d0
  have d0 := H1.out.m.cell 0 (v := .int .i64 (c.pl : Nat)) rfl
  go_wp2_with fail
  refine (side_any d c.pl w1 H1.out.r hj hs).mono ?_
  intro e w2 hp
  rcases hd : sidR s.data.toList d c.pl (i + 1) with x | ⟨f, k⟩
  · rw [hd] at hp R1
    obtain ⟨rfl, ht⟩ := hp
    have T := hideT (T1.out.more (ht.wide (g := g)))
    clear ht hd
    go_wp2
    rw [R1.out]
    exact ⟨rfl, rfl, T.out⟩
  rw [hd] at hp R1
  obtain ⟨rfl, hr, ht⟩ := hp
  have hkl := sid_len hd hj
  have hfl := bst_sz (sid_sz hd hj) hs
  have H2 := hideT (H1.out.step hr ht)
  have T2 := hideT (T1.out.more (ht.wide (g := g)))
  clear hr ht hd T1 H1 d0
  have d17 := H2.out.m.cell 17 (v := .string (bst c.fr)) rfl
  have f17 := H2.out.m.fz 17
  have d0 := H2.out.m.cell 0 (v := .int .i64 (c.pl : Nat)) rfl
  have H3 := hideT (H2.out.set 17 (.string (bst f)) (c' := { c with fr := f }) rfl rfl)
  have T3 := hideT (T2.out.putg 17 (.string (bst f)))
  go_wp2_with fail
  clear d0 d17 f17 H2 T2
  generalize w2.setCell ⟨g, 17, none⟩ (.string (bst f)) = W3 at *
  refine (side_any d c.pl W3 H3.out.r hkl hs).mono ?_
  intro e w4 hp
  rcases hd : sidR s.data.toList d c.pl k with x | ⟨t, m⟩
  · rw [hd] at hp R1
    obtain ⟨rfl, ht⟩ := hp
    have T := hideT (T3.out.more (ht.wide (g := g)))
    clear ht hd
    go_wp2
    rw [R1.out]
    exact ⟨rfl, rfl, T.out⟩
  rw [hd] at hp R1
  obtain ⟨rfl, hr, ht⟩ := hp
  have H4 := hideT (H3.out.step hr ht)
  have T4 := hideT (T3.out.more (ht.wide (g := g)))
  clear hr ht hd T3 H3
  have d18 := H4.out.m.cell 18 (v := .string (bst c.to)) rfl
  have f18 := H4.out.m.fz 18
  have H5 := hideT (H4.out.set 18 (.string (bst t)) (c' := { c with fr := f, to := t }) rfl rfl)
  have T5 := hideT (T4.out.putg 18 (.string (bst t)))
  go_wp2_with fail
  clear d18 f18 H4 T4
  have d0 : True := trivial
  generalize w4.setCell ⟨g, 18, none⟩ (.string (bst t)) = W5 at *
  clear d0
  have d0 := H5.out.m.cell 0 (v := .int .i64 (c.pl : Nat)) rfl
  have d17 := H5.out.m.cell 17 (v := .string (bst f)) rfl
  have d18 := H5.out.m.cell 18 (v := .string (bst t)) rfl
  have HNW := hideT (fun W => new_any (bst f) (bst t) (by rw [bst_size]; omega) W)
  rw [bst_list, bst_list] at HNW
  have hone := new_one f t
  have hE : (newR f t).2 = if f.length ≠ t.length ∨ twB f = true then 21 else 0 := by unfold newR; split <;> rfl
  have hAl := arV_len (newR f t).1
  generalize arV (newR f t).1 = A at *
  generalize (newR f t).2 = E at *
  have hZ : ∀ w, (zeroValue 133).run Tryz.prog w = .ok (.agg (arV fun _ => .int .u8 0).toArray) w := (zero_of_info inf31).1
  have hZl := arV_len (fun _ => .int .u8 0)
  generalize (arV fun _ => Value.int .u8 0) = Z at *
  have s0 : W5.drew.cell? ⟨g, 17, none⟩ = some (.string (bst f)) ∧ W5.drew.cell? ⟨g, 18, none⟩ = some (.string (bst t)) := ⟨d17, d18⟩
  refine wp_region_held (S := fun V => V.cell? ⟨g, 17, none⟩ = some (.string (bst f)) ∧ V.cell? ⟨g, 18, none⟩ = some (.string (bst t))) (by kernel_rfl) ?_
  refine tq 0 34 s0 ?_
  refine tq 1 35 s0 ?_
  refine tq 2 36 s0 ?_
  refine tq 3 37 s0 ?_ (hy := by intro V hV; have hc := hV.1; go_simp; (try with_reducible rfl))
  refine tq 4 38 s0 ?_
  refine tq 5 39 s0 ?_
  refine tq 6 40 s0 ?_
  refine tq 7 41 s0 ?_ (hy := by intro V hV; have hc := hV.2; go_simp; (try with_reducible rfl))
  refine wpAnyH_all (rs := [8, 12]) (by kernel_rfl) (by simp) (fun i hi => ?_)
  simp only [List.mem_cons, List.not_mem_nil, or_false] at hi
  rcases hi with rfl | rfl
  · simp only [Act.put, List.setIfInBounds_toArray, List.set_cons_succ, List.set_cons_zero]
    refine op_call (some 42) rfl rfl (wanted_none rfl _) (by go_simp; (try with_reducible rfl)) (R := fun u w' => u = .tuple #[.agg A.toArray, .int .i64 (E : Nat)] ∧ Below W5.drew.heap.size W5.drew w') ((HNW.out _).mono (fun e w' h => ⟨_, h.1, rfl, h.2⟩)) ?_
    rintro u w6 ⟨rfl, hb⟩
    have s1 : w6.cell? ⟨g, 17, none⟩ = some (.string (bst f)) ∧ w6.cell? ⟨g, 18, none⟩ = some (.string (bst t)) := ⟨keep_cell hb s0.1, keep_cell hb s0.2⟩
    refine ⟨s1, ?_⟩
    refine tq 9 33 s1 ?_
    refine tq 10 43 s1 ?_
    refine tq 11 44 s1 ?_
    refine wpAnyH_all (rs := [12]) (by kernel_rfl) (by simp) (fun i hi => ?_)
    obtain rfl : i = 12 := by simpa using hi
    simp only [Act.put, List.setIfInBounds_toArray, List.set_cons_succ, List.set_cons_zero]
    have hA := (Below.refl w6.heap.size w6).alloc (Nat.le_refl _) (.cells Z.toArray 133)
    have hN := heap_alloc_new w6 (.cells Z.toArray 133)
    refine op_value (some 5) (w' := w6.alloc (.cells Z.toArray 133)) (v := .pointer (some ⟨w6.heap.size, 0, none⟩)) rfl rfl (wanted_none rfl _) (by go_simp; (try with_reducible rfl)) ?_
    have s2 := And.intro (keep_cell hA s1.1) (keep_cell hA s1.2)
    refine ⟨s2, ?_⟩
    have TW := hideT (Tch.of (F := fun _ => False) (hb.trans (hA.mono hb.size))).und
    have HN := hideT hN
    have hNB : W5.heap.size ≤ w6.heap.size := hb.size
    have hgn : g ≠ w6.heap.size := by have := blk_lt H5.out.m; omega
    clear hb hA hN
    generalize w6.alloc (.cells Z.toArray 133) = W7 at *
    refine wpAnyH_all (rs := [13]) (by kernel_rfl) (by simp) (fun i hi => ?_)
    obtain rfl : i = 13 := by simpa using hi
    simp only [Act.put, List.setIfInBounds_toArray, List.set_cons_succ, List.set_cons_zero]
    have hsz : A.toArray.size = 256 := hAl
    refine op_of rfl (wanted_none rfl _) (wp_store_mid 133 _ _ rfl w6.heap.size 0 A.toArray rfl rfl (by rw [hsz]; exact there_block HN.out 256 hZl) (by rw [info31, hsz]) (by rw [Array.all_eq_true_iff_forall_mem]; exact fun u hu => hone u (by simpa using hu)) ?_)
    have T8 := hideT (Tch.newC (TW.out) hNB A 0)
    have s3 : (W7.setCells w6.heap.size 0 A).cell? ⟨g, 17, none⟩ = some (.string (bst f)) ∧ (W7.setCells w6.heap.size 0 A).cell? ⟨g, 18, none⟩ = some (.string (bst t)) := ⟨(World.cell?_of_block (setCells_far W7 w6.heap.size hgn A 0)).trans s2.1, (World.cell?_of_block (setCells_far W7 w6.heap.size hgn A 0)).trans s2.2⟩
    refine ⟨s3, ?_⟩
    refine tq 14 6 s3 ?_
    refine wpAnyH_done (by kernel_rfl) ?_ _
    simp only [Act.put, List.setIfInBounds_toArray]
    have H8 := hideT (H5.out.tch T8.out)
    have T9 := hideT (T5.out.more (T8.out.mono (fun _ h => h.elim)))
    generalize W7.setCells w6.heap.size 0 A = W8 at *
    have d0 := H8.out.m.cell 0 (v := .int .i64 (c.pl : Nat)) rfl
    by_cases hbad : f.length ≠ t.length ∨ twB f = true
    · rw [if_pos hbad] at hE R1
      have HN1 := hideT (need_bad E c.pl (by rw [hE]; decide))
      rw [hE] at HN1
      subst hE
      go_wp2_with fail
      refine (HN1.out _).mono ?_
      rintro x w9 ⟨rfl, rfl⟩
      go_wp2
      rw [R1.out]
      exact ⟨rfl, rfl, T9.out⟩
    · rw [if_neg hbad] at hE R1
      have HN1 := hideT (need_ok c.pl)
      subst hE
      go_wp2_with fail
      refine (HN1.out _).mono ?_
      rintro x w9 ⟨rfl, rfl⟩
      go_wp2
      go_end0
      rw [R1.out]
      exact ⟨rfl, H8.out.r, T9.out, pv, H8.out.m, H8.out.p⟩
  · simp only [Act.put, List.setIfInBounds_toArray, List.set_cons_succ, List.set_cons_zero]
    have hA := (Below.refl W5.drew.heap.size W5.drew).alloc (Nat.le_refl _) (.cells Z.toArray 133)
    have hN := heap_alloc_new W5.drew (.cells Z.toArray 133)
    refine op_value (some 5) (w' := W5.drew.alloc (.cells Z.toArray 133)) (v := .pointer (some ⟨W5.drew.heap.size, 0, none⟩)) rfl rfl (wanted_none rfl _) (by go_simp; (try with_reducible rfl)) ?_
    have s1 := And.intro (keep_cell hA s0.1) (keep_cell hA s0.2)
    refine ⟨s1, ?_⟩
    have TA := hideT (Tch.of (F := fun _ => False) hA).und
    have hgn : g ≠ W5.drew.heap.size := by have := blk_lt H5.out.m; show g ≠ W5.heap.size; omega
    have hNB : W5.heap.size ≤ W5.drew.heap.size := Nat.le_refl _
    generalize W5.drew.alloc (.cells Z.toArray 133) = W6 at *
    refine wpAnyH_all (rs := [8]) (by kernel_rfl) (by simp) (fun i hi => ?_)
    obtain rfl : i = 8 := by simpa using hi
    simp only [Act.put, List.setIfInBounds_toArray, List.set_cons_succ, List.set_cons_zero]
    refine op_call (some 42) rfl rfl (wanted_none rfl _) (by go_simp; (try with_reducible rfl)) (R := fun u w' => u = .tuple #[.agg A.toArray, .int .i64 (E : Nat)] ∧ Below W6.heap.size W6 w') ((HNW.out _).mono (fun e w' h => ⟨_, h.1, rfl, h.2⟩)) ?_
    rintro u W7 ⟨rfl, hb⟩
    have s2 : W7.cell? ⟨g, 17, none⟩ = some (.string (bst f)) ∧ W7.cell? ⟨g, 18, none⟩ = some (.string (bst t)) := ⟨keep_cell hb s1.1, keep_cell hb s1.2⟩
    refine ⟨s2, ?_⟩
    have TW := hideT (TA.out.more (Tch.of (F := fun _ => False) hb))
    have HN := hideT ((hb.block _ (blk_lt hN)).trans hN)
    generalize W5.drew.heap.size = NB at *
    clear hb hA hN
    refine tq 9 33 s2 ?_
    refine tq 10 43 s2 ?_
    refine tq 11 44 s2 ?_
    refine wpAnyH_all (rs := [13]) (by kernel_rfl) (by simp) (fun i hi => ?_)
    obtain rfl : i = 13 := by simpa using hi
    simp only [Act.put, List.setIfInBounds_toArray, List.set_cons_succ, List.set_cons_zero]
    have hsz : A.toArray.size = 256 := hAl
    refine op_of rfl (wanted_none rfl _) (wp_store_mid 133 _ _ rfl NB 0 A.toArray rfl rfl (by rw [hsz]; exact there_block HN.out 256 hZl) (by rw [info31, hsz]) (by rw [Array.all_eq_true_iff_forall_mem]; exact fun u hu => hone u (by simpa using hu)) ?_)
    have T8 := hideT (Tch.newC (TW.out) hNB A 0)
    have s3 : (W7.setCells NB 0 A).cell? ⟨g, 17, none⟩ = some (.string (bst f)) ∧ (W7.setCells NB 0 A).cell? ⟨g, 18, none⟩ = some (.string (bst t)) := ⟨(World.cell?_of_block (setCells_far W7 NB hgn A 0)).trans s2.1, (World.cell?_of_block (setCells_far W7 NB hgn A 0)).trans s2.2⟩
    refine ⟨s3, ?_⟩
    refine tq 14 6 s3 ?_
    refine wpAnyH_done (by kernel_rfl) ?_ _
    simp only [Act.put, List.setIfInBounds_toArray]
    have H8 := hideT (H5.out.tch T8.out)
    have T9 := hideT (T5.out.more (T8.out.mono (fun _ h => h.elim)))
    generalize W7.setCells NB 0 A = W8 at *
    have d0 := H8.out.m.cell 0 (v := .int .i64 (c.pl : Nat)) rfl
    by_cases hbad : f.length ≠ t.length ∨ twB f = true
    · rw [if_pos hbad] at hE R1
      have HN1 := hideT (need_bad E c.pl (by rw [hE]; decide))
      rw [hE] at HN1
      subst hE
      go_wp2_with fail
      refine (HN1.out _).mono ?_
      rintro x w9 ⟨rfl, rfl⟩
      go_wp2
      rw [R1.out]
      exact ⟨rfl, rfl, T9.out⟩
    · rw [if_neg hbad] at hE R1
      have HN1 := hideT (need_ok c.pl)
      subst hE
      go_wp2_with fail
      refine (HN1.out _).mono ?_
      rintro x w9 ⟨rfl, rfl⟩
      go_wp2
      go_end0
      rw [R1.out]
      exact ⟨rfl, H8.out.r, T9.out, pv, H8.out.m, H8.out.p⟩
theorem tabOk : TabOk := fun _ _ _ _ _ _ _ w h hi hs => table_any w h hi hs

end Go.Proofs.YtjfkhlmoppbbgaaGreatDoor
