/- script: table. -/
import Derived.Test.YtjfkhlmoppbbgaaGreatDoorKXw
import Derived.Test.YtjfkhlmoppbbgaaGreatDoorKXs1
import Derived.Test.YtjfkhlmoppbbgaaGreatDoorKMf
import Derived.Laws.EntriesVeiled
namespace Go.Proofs.YtjfkhlmoppbbgaaGreatDoor
open Go.RowKit
open scanP scrP tpl ytb

theorem op_call {P : Program} {ops : Array Oper} {Q : Exit → Act → World → Prop} {i : Nat} {o : Oper} {K : Act → World → Prop} {a : Act} {w : World} {f : FuncId} {args : Array Value} {R : Value → World → Prop} (d : Option Tmp) (hi : ops[i]? = some o) (hd : o.dst = d) (hw : Region.wanted o (yielded ops a.tmps) = true) (hx : (execOp a.eval o).run P w = .ok (.enter f args) w) (hc : Calls P f args w fun e w' => ∃ v, e = .returned v ∧ R v w') (h : ∀ v w', R v w' → K (a.put d v) w') : wpOp P ops Q i K a w := by
  unfold wpOp
  rw [hi]
  dsimp only
  rw [if_pos hw]
  refine .inl ?_
  unfold Oper.wp
  rw [hx]
  refine Calls.mono hc ?_
  rintro e w' ⟨v, rfl, hR⟩
  show K (a.put o.dst v) w'
  rw [hd]
  exact h v w' hR
set_option maxRecDepth 100000 in
set_option maxHeartbeats 4000000 in
theorem table_any {b g B : Nat} {s : ByteArray} {i : Nat} {c : Co} {pv : Value} (w : World) (h : Both w b g B s i c pv) (hi : i ≤ s.size) (hs : s.size ≤ 4096) : Calls Tryz.prog 65 #[.pointer (some ⟨b, 0, none⟩), .pointer (some ⟨g, 0, none⟩)] w (PC b g B s w (tabR s.data.toList c i)) := by
  generalize hRR : tabR s.data.toList c i = RR
  have HRR := hideT hRR
  have HH := hideT h
  have d0 := h.m.cell 0 (v := .int .i64 (c.pl : Nat)) rfl
  clear hRR h
  go_enter Tryz.func65, Tryz.ntmps65
  go_wp2_with fail
  refine (delim_any 19 c.pl w HH.out.r hi hs).mono ?_
  intro e w1 hp
  rcases hd : delR s.data.toList i 19 c.pl with x | ⟨d, j⟩
  · rw [hd] at hp
    obtain ⟨rfl, ht⟩ := hp
    have T := hideT (ht.wide (g := g))
    have ER := hideT (show RR = .error x by rw [← HRR.out]; unfold tabR; rw [hd])
    clear ht hd HRR
    go_wp2
    rw [ER.out]
    exact ⟨rfl, rfl, T.out⟩
  rw [hd] at hp
  obtain ⟨rfl, hr, ht⟩ := hp
  obtain ⟨rfl, hj, _, _⟩ := del_len hd
  have H1 := hideT (HH.out.step hr ht)
  have T1 := hideT (ht.wide (g := g))
  have R1 := hideT (show tabR s.data.toList c i = (match sidR s.data.toList d c.pl (i + 1) with
    | .error x => .error x
    | .ok (f, k) => match sidR s.data.toList d c.pl k with
      | .error x => .error x
      | .ok (t, m) => if f.length ≠ t.length ∨ twB f = true then .error (21, c.pl) else .ok ({ c with fr := f, to := t }, m)) by unfold tabR; rw [hd]; first | done | rfl)
  rw [HRR.out] at R1
  clear hr ht hd HRR HH d0
  have d0 := H1.out.m.cell 0 (v := .int .i64 (c.pl : Nat)) rfl
  go_wp2_with fail
  refine (side_any d c.pl w1 H1.out.r hj hs).mono ?_
  intro e w2 hp
  rcases hd : sidR s.data.toList d c.pl (i + 1) with x | ⟨f, k⟩
  · rw [hd] at hp R1
    obtain ⟨rfl, ht⟩ := hp
    have T := hideT (T1.out.more (ht.wide (g := g)))
    clear ht hd
    go_wp2
    rw [R1.out]
    exact ⟨rfl, rfl, T.out⟩
  rw [hd] at hp R1
  obtain ⟨rfl, hr, ht⟩ := hp
  have hkl := sid_len hd hj
  have hfl := bst_sz (sid_sz hd hj) hs
  have H2 := hideT (H1.out.step hr ht)
  have T2 := hideT (T1.out.more (ht.wide (g := g)))
  clear hr ht hd T1 H1 d0
  have d17 := H2.out.m.cell 17 (v := .string (bst c.fr)) rfl
  have f17 := H2.out.m.fz 17
  have d0 := H2.out.m.cell 0 (v := .int .i64 (c.pl : Nat)) rfl
  have H3 := hideT (H2.out.set 17 (.string (bst f)) (c' := { c with fr := f }) rfl rfl)
  have T3 := hideT (T2.out.putg 17 (.string (bst f)))
  go_wp2_with fail
  clear d0 d17 f17 H2 T2
  generalize w2.setCell ⟨g, 17, none⟩ (.string (bst f)) = W3 at *
  refine (side_any d c.pl W3 H3.out.r hkl hs).mono ?_
  intro e w4 hp
  rcases hd : sidR s.data.toList d c.pl k with x | ⟨t, m⟩
  · rw [hd] at hp R1
    obtain ⟨rfl, ht⟩ := hp
    have T := hideT (T3.out.more (ht.wide (g := g)))
    clear ht hd
    go_wp2
    rw [R1.out]
    exact ⟨rfl, rfl, T.out⟩
  rw [hd] at hp R1
  obtain ⟨rfl, hr, ht⟩ := hp
  have H4 := hideT (H3.out.step hr ht)
  have T4 := hideT (T3.out.more (ht.wide (g := g)))
  clear hr ht hd T3 H3
  have d18 := H4.out.m.cell 18 (v := .string (bst c.to)) rfl
  have f18 := H4.out.m.fz 18
  have H5 := hideT (H4.out.set 18 (.string (bst t)) (c' := { c with fr := f, to := t }) rfl rfl)
  have T5 := hideT (T4.out.putg 18 (.string (bst t)))
  go_wp2_with fail
  clear d18 f18 H4 T4
  have d0 : True := trivial
  generalize w4.setCell ⟨g, 18, none⟩ (.string (bst t)) = W5 at *
  clear d0
  have d0 := H5.out.m.cell 0 (v := .int .i64 (c.pl : Nat)) rfl
  have d17 := H5.out.m.cell 17 (v := .string (bst f)) rfl
  have d18 := H5.out.m.cell 18 (v := .string (bst t)) rfl
  have HNW := hideT (fun W => new_any (bst f) (bst t) (by rw [bst_size]; omega) W)
  rw [bst_list, bst_list] at HNW
  have hone := new_one f t
  have hE : (newR f t).2 = if f.length ≠ t.length ∨ twB f = true then 21 else 0 := by unfold newR; split <;> rfl
  have hAl := arV_len (newR f t).1
  generalize arV (newR f t).1 = A at *
  generalize (newR f t).2 = E at *
  have hZ : ∀ w, (zeroValue 133).run Tryz.prog w = .ok (.agg (arV fun _ => .int .u8 0).toArray) w := (zero_of_info inf31).1
  have hZl := arV_len (fun _ => .int .u8 0)
  generalize (arV fun _ => Value.int .u8 0) = Z at *
  have s0 : W5.drew.cell? ⟨g, 17, none⟩ = some (.string (bst f)) ∧ W5.drew.cell? ⟨g, 18, none⟩ = some (.string (bst t)) := ⟨d17, d18⟩
  refine wp_region_held (S := fun V => V.cell? ⟨g, 17, none⟩ = some (.string (bst f)) ∧ V.cell? ⟨g, 18, none⟩ = some (.string (bst t))) (by kernel_rfl) ?_
  refine tq 0 34 s0 ?_
  refine tq 1 35 s0 ?_
  refine tq 2 36 s0 ?_
  refine tq 3 37 s0 ?_ (hy := by intro V hV; have hc := hV.1; go_simp; (try with_reducible rfl))
  refine tq 4 38 s0 ?_
  refine tq 5 39 s0 ?_
  refine tq 6 40 s0 ?_
  refine tq 7 41 s0 ?_ (hy := by intro V hV; have hc := hV.2; go_simp; (try with_reducible rfl))
  refine wpAnyH_all (rs := [8, 12]) (by kernel_rfl) (by simp) (fun i hi => ?_)
  simp only [List.mem_cons, List.not_mem_nil, or_false] at hi
  rcases hi with rfl | rfl
  · simp only [Act.put, List.setIfInBounds_toArray, List.set_cons_succ, List.set_cons_zero]
    refine op_call (some 42) rfl rfl (wanted_none rfl _) (by go_simp; (try with_reducible rfl)) (R := fun u w' => u = .tuple #[.agg A.toArray, .int .i64 (E : Nat)] ∧ Below W5.drew.heap.size W5.drew w') ((HNW.out _).mono (fun e w' h => ⟨_, h.1, rfl, h.2⟩)) ?_
    rintro u w6 ⟨rfl, hb⟩
    have s1 : w6.cell? ⟨g, 17, none⟩ = some (.string (bst f)) ∧ w6.cell? ⟨g, 18, none⟩ = some (.string (bst t)) := ⟨keep_cell hb s0.1, keep_cell hb s0.2⟩
    refine ⟨s1, ?_⟩
    refine tq 9 33 s1 ?_
    refine tq 10 43 s1 ?_
    refine tq 11 44 s1 ?_
    refine wpAnyH_all (rs := [12]) (by kernel_rfl) (by simp) (fun i hi => ?_)
    obtain rfl : i = 12 := by simpa using hi
    simp only [Act.put, List.setIfInBounds_toArray, List.set_cons_succ, List.set_cons_zero]
    have hA := (Below.refl w6.heap.size w6).alloc (Nat.le_refl _) (.cells Z.toArray 133)
    have hN := heap_alloc_new w6 (.cells Z.toArray 133)
    refine op_value (some 5) (w' := w6.alloc (.cells Z.toArray 133)) (v := .pointer (some ⟨w6.heap.size, 0, none⟩)) rfl rfl (wanted_none rfl _) (by go_simp; (try with_reducible rfl)) ?_
    have s2 := And.intro (keep_cell hA s1.1) (keep_cell hA s1.2)
    refine ⟨s2, ?_⟩
    have TW := hideT (Tch.of (F := fun _ => False) (hb.trans (hA.mono hb.size))).und
    have HN := hideT hN
    have hNB : W5.heap.size ≤ w6.heap.size := hb.size
    have hgn : g ≠ w6.heap.size := by have := blk_lt H5.out.m; omega
    clear hb hA hN
    generalize w6.alloc (.cells Z.toArray 133) = W7 at *
    refine wpAnyH_all (rs := [13]) (by kernel_rfl) (by simp) (fun i hi => ?_)
    obtain rfl : i = 13 := by simpa using hi
    simp only [Act.put, List.setIfInBounds_toArray, List.set_cons_succ, List.set_cons_zero]
    have hsz : A.toArray.size = 256 := hAl
    refine op_of rfl (wanted_none rfl _) (wp_store_mid 133 _ _ rfl w6.heap.size 0 A.toArray rfl rfl (by rw [hsz]; exact there_block HN.out 256 hZl) (by rw [info31, hsz]) (by rw [Array.all_eq_true_iff_forall_mem]; exact fun u hu => hone u (by simpa using hu)) ?_)
    have T8 := hideT (Tch.newC (TW.out) hNB A 0)
    have s3 : (W7.setCells w6.heap.size 0 A).cell? ⟨g, 17, none⟩ = some (.string (bst f)) ∧ (W7.setCells w6.heap.size 0 A).cell? ⟨g, 18, none⟩ = some (.string (bst t)) := ⟨(World.cell?_of_block (setCells_far W7 w6.heap.size hgn A 0)).trans s2.1, (World.cell?_of_block (setCells_far W7 w6.heap.size hgn A 0)).trans s2.2⟩
    refine ⟨s3, ?_⟩
    refine tq 14 6 s3 ?_
    refine wpAnyH_done (by kernel_rfl) ?_ _
    simp only [Act.put, List.setIfInBounds_toArray]
    have H8 := hideT (H5.out.tch T8.out)
    have T9 := hideT (T5.out.more (T8.out.mono (fun _ h => h.elim)))
    generalize W7.setCells w6.heap.size 0 A = W8 at *
    have d0 := H8.out.m.cell 0 (v := .int .i64 (c.pl : Nat)) rfl
    by_cases hbad : f.length ≠ t.length ∨ twB f = true
    · rw [if_pos hbad] at hE R1
      have HN1 := hideT (need_bad E c.pl (by rw [hE]; decide))
      rw [hE] at HN1
      subst hE
      go_wp2_with fail
      refine (HN1.out _).mono ?_
      rintro x w9 ⟨rfl, rfl⟩
      go_wp2
      rw [R1.out]
      exact ⟨rfl, rfl, T9.out⟩
    · rw [if_neg hbad] at hE R1
      have HN1 := hideT (need_ok c.pl)
      subst hE
      go_wp2_with fail
      refine (HN1.out _).mono ?_
      rintro x w9 ⟨rfl, rfl⟩
      go_wp2
      go_end0
      rw [R1.out]
      exact ⟨rfl, H8.out.r, T9.out, pv, H8.out.m, H8.out.p⟩
  · simp only [Act.put, List.setIfInBounds_toArray, List.set_cons_succ, List.set_cons_zero]
    have hA := (Below.refl W5.drew.heap.size W5.drew).alloc (Nat.le_refl _) (.cells Z.toArray 133)
    have hN := heap_alloc_new W5.drew (.cells Z.toArray 133)
    refine op_value (some 5) (w' := W5.drew.alloc (.cells Z.toArray 133)) (v := .pointer (some ⟨W5.drew.heap.size, 0, none⟩)) rfl rfl (wanted_none rfl _) (by go_simp; (try with_reducible rfl)) ?_
    have s1 := And.intro (keep_cell hA s0.1) (keep_cell hA s0.2)
    refine ⟨s1, ?_⟩
    have TA := hideT (Tch.of (F := fun _ => False) hA).und
    have hgn : g ≠ W5.drew.heap.size := by have := blk_lt H5.out.m; show g ≠ W5.heap.size; omega
    have hNB : W5.heap.size ≤ W5.drew.heap.size := Nat.le_refl _
    generalize W5.drew.alloc (.cells Z.toArray 133) = W6 at *
    refine wpAnyH_all (rs := [8]) (by kernel_rfl) (by simp) (fun i hi => ?_)
    obtain rfl : i = 8 := by simpa using hi
    simp only [Act.put, List.setIfInBounds_toArray, List.set_cons_succ, List.set_cons_zero]
    refine op_call (some 42) rfl rfl (wanted_none rfl _) (by go_simp; (try with_reducible rfl)) (R := fun u w' => u = .tuple #[.agg A.toArray, .int .i64 (E : Nat)] ∧ Below W6.heap.size W6 w') ((HNW.out _).mono (fun e w' h => ⟨_, h.1, rfl, h.2⟩)) ?_
    rintro u W7 ⟨rfl, hb⟩
    have s2 : W7.cell? ⟨g, 17, none⟩ = some (.string (bst f)) ∧ W7.cell? ⟨g, 18, none⟩ = some (.string (bst t)) := ⟨keep_cell hb s1.1, keep_cell hb s1.2⟩
    refine ⟨s2, ?_⟩
    have TW := hideT (TA.out.more (Tch.of (F := fun _ => False) hb))
    have HN := hideT ((hb.block _ (blk_lt hN)).trans hN)
    generalize W5.drew.heap.size = NB at *
    clear hb hA hN
    refine tq 9 33 s2 ?_
    refine tq 10 43 s2 ?_
    refine tq 11 44 s2 ?_
    refine wpAnyH_all (rs := [13]) (by kernel_rfl) (by simp) (fun i hi => ?_)
    obtain rfl : i = 13 := by simpa using hi
    simp only [Act.put, List.setIfInBounds_toArray, List.set_cons_succ, List.set_cons_zero]
    have hsz : A.toArray.size = 256 := hAl
    refine op_of rfl (wanted_none rfl _) (wp_store_mid 133 _ _ rfl NB 0 A.toArray rfl rfl (by rw [hsz]; exact there_block HN.out 256 hZl) (by rw [info31, hsz]) (by rw [Array.all_eq_true_iff_forall_mem]; exact fun u hu => hone u (by simpa using hu)) ?_)
    have T8 := hideT (Tch.newC (TW.out) hNB A 0)
    have s3 : (W7.setCells NB 0 A).cell? ⟨g, 17, none⟩ = some (.string (bst f)) ∧ (W7.setCells NB 0 A).cell? ⟨g, 18, none⟩ = some (.string (bst t)) := ⟨(World.cell?_of_block (setCells_far W7 NB hgn A 0)).trans s2.1, (World.cell?_of_block (setCells_far W7 NB hgn A 0)).trans s2.2⟩
    refine ⟨s3, ?_⟩
    refine tq 14 6 s3 ?_
    refine wpAnyH_done (by kernel_rfl) ?_ _
    simp only [Act.put, List.setIfInBounds_toArray]
    have H8 := hideT (H5.out.tch T8.out)
    have T9 := hideT (T5.out.more (T8.out.mono (fun _ h => h.elim)))
    generalize W7.setCells NB 0 A = W8 at *
    have d0 := H8.out.m.cell 0 (v := .int .i64 (c.pl : Nat)) rfl
    by_cases hbad : f.length ≠ t.length ∨ twB f = true
    · rw [if_pos hbad] at hE R1
      have HN1 := hideT (need_bad E c.pl (by rw [hE]; decide))
      rw [hE] at HN1
      subst hE
      go_wp2_with fail
      refine (HN1.out _).mono ?_
      rintro x w9 ⟨rfl, rfl⟩
      go_wp2
      rw [R1.out]
      exact ⟨rfl, rfl, T9.out⟩
    · rw [if_neg hbad] at hE R1
      have HN1 := hideT (need_ok c.pl)
      subst hE
      go_wp2_with fail
      refine (HN1.out _).mono ?_
      rintro x w9 ⟨rfl, rfl⟩
      go_wp2
      go_end0
      rw [R1.out]
      exact ⟨rfl, H8.out.r, T9.out, pv, H8.out.m, H8.out.p⟩
theorem tabOk : TabOk := fun _ _ _ _ _ _ _ w h hi hs => table_any w h hi hs

end Go.Proofs.YtjfkhlmoppbbgaaGreatDoor

/- script: matcher.New out of measure.Of. -/
namespace Go.Proofs.YtjfkhlmoppbbgaaGreatDoor
open Go.RowKit
open scanP scrP tpl ytb

theorem two_obj (w : World) (o1 o2 : Obj) : Below w.heap.size w ((w.alloc o1).alloc o2) ∧ ((w.alloc o1).alloc o2).heap[w.heap.size]? = some o1 ∧ ((w.alloc o1).alloc o2).heap[w.heap.size + 1]? = some o2 := by
  have e1 : (w.alloc o1).heap.size = w.heap.size + 1 := by simp
  have hA := (Below.refl w.heap.size w).alloc (Nat.le_refl _) o1
  have hA2 := (Below.refl (w.alloc o1).heap.size (w.alloc o1)).alloc (Nat.le_refl _) o2
  refine ⟨hA.trans (hA2.mono hA.size), (hA2.block _ (by rw [e1]; omega)).trans (heap_alloc_new w o1), ?_⟩
  rw [← e1]
  exact heap_alloc_new _ _
/-- What is known of a BRE: its error, its groups. -/
noncomputable def gM : Gr := fun t => ((br.ofM (bst t)).2.1.toNat, (br.ofM (bst t)).1.groups.toNat)
theorem of_groups (s : ByteArray) : 0 ≤ (br.ofM s).1.groups := by
  unfold br.ofM
  cases h : br.parseT s with
  | ok ts => exact (br.parse_measure s ts h).2.2.1
  | error x => exact Int.le_refl 0
set_option maxRecDepth 100000 in
set_option maxHeartbeats 4000000 in
theorem newOk (hpos : ∀ s, 0 ≤ (br.ofM s).2.1) : NewOk gM := by
  intro t w ht hg
  have hmf : ∀ (fn : Fn) (first cap : Array Value) (w : World), (Instr.makeFunc fn first cap).run Tryz.prog w = .ok (.func fn first cap) w := fun _ _ _ _ => rfl
  have hA := (Below.refl w.heap.size w).alloc (Nat.le_refl _) (.cells #[.int .i64 0, .int .i64 0] 25)
  have hN := heap_alloc_new w (.cells #[.int .i64 0, .int .i64 0] 25)
  have HO := hideT (br.mOf_any (bst t) (w.alloc (.cells #[.int .i64 0, .int .i64 0] 25)) (show br.Glob _ from (hg.stay (Tch.of (F := fun _ => False) hA) (fun _ h => h.elim)).1))
  have hp := hpos (bst t)
  have hgr := of_groups (bst t)
  have HE : gM t = ((br.ofM (bst t)).2.1.toNat, (br.ofM (bst t)).1.groups.toNat) := rfl
  rw [HE]
  clear HE hpos
  generalize br.ofM (bst t) = M at *
  obtain ⟨⟨m1, m2, m3, m4, m5, m6, m7⟩, e, p⟩ := M
  simp only at hp hgr HO ⊢
  obtain ⟨en, rfl⟩ := Int.eq_ofNat_of_zero_le hp
  obtain ⟨gn, rfl⟩ := Int.eq_ofNat_of_zero_le hgr
  simp only [Int.toNat_natCast]
  have HA := hideT (And.intro hA hN)
  have HC := hideT (fun w => prg.clone_any (bst t) w (by rw [bst_size]; omega))
  clear hA hN hp hgr hg
  by_cases he : en = 0
  · subst he
    go_enter Tryz.func110, Tryz.ntmps110
    go_wp2_with fail
    generalize w.alloc (.cells #[.int .i64 0, .int .i64 0] 25) = Y at *
    refine HO.out.mono ?_
    rintro x w1 ⟨rfl, hb⟩
    have N1 := (hb.block _ (blk_lt HA.out.2)).trans HA.out.2
    have B1 := HA.out.1.trans (hb.mono HA.out.1.size)
    obtain ⟨hB2, k1, k2⟩ := two_obj w1 (.cells #[.int .i64 m1, .int .i64 (gn : Nat), .int .i64 m3, .int .i64 m4, .bool m5, .bool m6, .bool m7] 190) (.cells #[.int .i64 ((0 : Nat) : Int), .int .i64 (p : Nat)] 25)
    have hw1 := blk_lt N1
    have N2 := (hB2.block _ hw1).trans N1
    have B2 := B1.trans (hB2.mono B1.size)
    have K := hideT (And.intro N2 (And.intro k1 (And.intro k2 B2)))
    clear hb HO HA N1 B1 hB2 k1 k2 N2 B2
    simp only [br.Ms.arr]
    go_wp2_with fail
    generalize (w1.alloc (.cells #[.int .i64 m1, .int .i64 (gn : Nat), .int .i64 m3, .int .i64 m4, .bool m5, .bool m6, .bool m7] 190)).alloc (.cells #[.int .i64 ((0 : Nat) : Int), .int .i64 (p : Nat)] 25) = V at *
    refine (HC.out V).mono ?_
    rintro x w2 ⟨rfl, hb2⟩
    obtain ⟨h0, h1, h2, h3⟩ := K.out
    have g1 := (hb2.block _ (blk_lt h1)).trans h1
    have g0 := (hb2.block _ (blk_lt h0)).trans h0
    have B3 := h3.trans (hb2.mono h3.size)
    have hA := (Below.refl w2.heap.size w2).alloc (Nat.le_refl _)
    have q1 : w2.cell? ⟨w1.heap.size, 1, none⟩ = some (.int .i64 (gn : Nat)) := by simp [World.cell?, g1]
    have hlt1 := blk_lt g1
    have hlt0 := blk_lt g0
    have q4 : ∀ o, (w2.alloc o).cell? ⟨w1.heap.size, 4, none⟩ = some (.bool m5) := fun o => by rw [World.cell?_alloc_lt _ _ _ hlt1]; simp [World.cell?, g1]
    have r0 : ∀ o, (w2.alloc o).cell? ⟨w.heap.size, 0, none⟩ = some (.int .i64 0) := fun o => by rw [World.cell?_alloc_lt _ _ _ hlt0]; simp [World.cell?, g0]
    have r1 : ∀ o, (w2.alloc o).cell? ⟨w.heap.size, 1, none⟩ = some (.int .i64 0) := fun o => by rw [World.cell?_alloc_lt _ _ _ hlt0]; simp [World.cell?, g0]
    have z0 : ∀ o, (w2.alloc o).frozen? ⟨w.heap.size, 0, none⟩ = false := fun o => by rw [World.frozen?_alloc_old _ _ _ (Nat.ne_of_lt hlt0)]; simp [World.frozen?, g0]
    have z1 : ∀ o, (w2.alloc o).frozen? ⟨w.heap.size, 1, none⟩ = false := fun o => by rw [World.frozen?_alloc_old _ _ _ (Nat.ne_of_lt hlt0)]; simp [World.frozen?, g0]
    have KN : ∀ fv, Hid ((w2.alloc (.cells #[.string (bst t), .int .i64 (gn : Nat), fv, .int .i64 0] 197)).heap[w.heap.size]? = some (.cells #[.int .i64 0, .int .i64 0] 25 (0, 0)) ∧ (w2.alloc (.cells #[.string (bst t), .int .i64 (gn : Nat), fv, .int .i64 0] 197)).heap[w2.heap.size]? = some (.cells #[.string (bst t), .int .i64 (gn : Nat), fv, .int .i64 0] 197 (0, 0)) ∧ Below w.heap.size w (w2.alloc (.cells #[.string (bst t), .int .i64 (gn : Nat), fv, .int .i64 0] 197))) := fun fv => by
      have hX := (Below.refl w2.heap.size w2).alloc (Nat.le_refl _) (.cells #[.string (bst t), .int .i64 (gn : Nat), fv, .int .i64 0] 197)
      exact hideT ⟨(hX.block _ hlt0).trans g0, heap_alloc_new w2 _, B3.trans (hX.mono B3.size)⟩
    have hne : w2.heap.size ≠ w.heap.size := by omega
    have HNE := hideT hne
    clear h0 h1 h2 h3 g0 g1 B3 K hb2 HC hA hlt0 hlt1 hw1 hne
    cases m5 with
    | false =>
      go_wp2
      obtain ⟨u0, u1, u2⟩ := (KN (.func (.func 131) #[.string (bst t)] #[])).out
      have u3 := ytb.put2 u0 (.int .i64 0) (.int .i64 0)
      refine bodyPost_ret (tpl.fault_result (b := w.heap.size) (fr := (0, 0)) rfl rfl u3) rfl ?_
      refine ⟨(u2.setCell (p := ⟨w.heap.size, 0, none⟩) (Nat.le_refl _) _).setCell (p := ⟨w.heap.size, 1, none⟩) (Nat.le_refl _) _, .inl ⟨trivial, w2.heap.size, rfl, ?_⟩⟩
      refine (World.cell?_of_block ((put_far _ w.heap.size 1 _ HNE.out).trans (put_far _ w.heap.size 0 _ HNE.out))).trans ?_
      simp only [World.cell?, u1]; rfl
    | true =>
      go_wp2
      obtain ⟨u0, u1, u2⟩ := (KN (.func (.func 132) #[.string (bst t)] #[])).out
      have u3 := ytb.put2 u0 (.int .i64 0) (.int .i64 0)
      refine bodyPost_ret (tpl.fault_result (b := w.heap.size) (fr := (0, 0)) rfl rfl u3) rfl ?_
      refine ⟨(u2.setCell (p := ⟨w.heap.size, 0, none⟩) (Nat.le_refl _) _).setCell (p := ⟨w.heap.size, 1, none⟩) (Nat.le_refl _) _, .inl ⟨trivial, w2.heap.size, rfl, ?_⟩⟩
      refine (World.cell?_of_block ((put_far _ w.heap.size 1 _ HNE.out).trans (put_far _ w.heap.size 0 _ HNE.out))).trans ?_
      simp only [World.cell?, u1]; rfl
  · have c1 : ((en : Int) != 0) = true := by rw [bne_iff_ne]; omega
    go_enter Tryz.func110, Tryz.ntmps110
    go_wp2_with fail
    generalize w.alloc (.cells #[.int .i64 0, .int .i64 0] 25) = Y at *
    refine HO.out.mono ?_
    rintro x w1 ⟨rfl, hb⟩
    have N1 := (hb.block _ (blk_lt HA.out.2)).trans HA.out.2
    have B1 := HA.out.1.trans (hb.mono HA.out.1.size)
    obtain ⟨hB2, k1, k2⟩ := two_obj w1 (.cells #[.int .i64 m1, .int .i64 (gn : Nat), .int .i64 m3, .int .i64 m4, .bool m5, .bool m6, .bool m7] 190) (.cells #[.int .i64 ((en : Nat) : Int), .int .i64 (p : Nat)] 25)
    have hw1 := blk_lt N1
    have N2 := (hB2.block _ hw1).trans N1
    have B2 := B1.trans (hB2.mono B1.size)
    have K := hideT (And.intro N2 (And.intro k1 (And.intro k2 B2)))
    clear hb HO HA N1 B1 hB2 k1 k2 N2 B2
    simp only [br.Ms.arr]
    go_wp2_with fail
    generalize hV : (w1.alloc (.cells #[.int .i64 m1, .int .i64 (gn : Nat), .int .i64 m3, .int .i64 m4, .bool m5, .bool m6, .bool m7] 190)).alloc (.cells #[.int .i64 ((en : Nat) : Int), .int .i64 (p : Nat)] 25) = V at *
    clear hV
    obtain ⟨h0, h1, h2, h3⟩ := K.out
    have a0 : V.cell? ⟨w1.heap.size + 1, 0, none⟩ = some (.int .i64 (en : Nat)) := by simp [World.cell?, h2]
    have a1 : V.cell? ⟨w1.heap.size + 1, 1, none⟩ = some (.int .i64 (p : Nat)) := by simp [World.cell?, h2]
    have b0 : V.cell? ⟨w.heap.size, 0, none⟩ = some (.int .i64 0) := by simp [World.cell?, h0]
    have b1 : V.cell? ⟨w.heap.size, 1, none⟩ = some (.int .i64 0) := by simp [World.cell?, h0]
    have z0 : V.frozen? ⟨w.heap.size, 0, none⟩ = false := by simp [World.frozen?, h0]
    have z1 : V.frozen? ⟨w.heap.size, 1, none⟩ = false := by simp [World.frozen?, h0]
    have HF := hideT (ytb.put2 h0 (.int .i64 (en : Nat)) (.int .i64 (p : Nat)))
    have B3 := hideT ((h3.setCell (p := ⟨w.heap.size, 0, none⟩) (Nat.le_refl _) (.int .i64 (en : Nat))).setCell (p := ⟨w.heap.size, 1, none⟩) (Nat.le_refl _) (.int .i64 (p : Nat)))
    clear h0 h1 h2 h3 K
    go_region
    all_goals
      go_wp2
      generalize (V.setCell ⟨w.heap.size, 0, none⟩ (.int .i64 (en : Nat))).setCell ⟨w.heap.size, 1, none⟩ (.int .i64 (p : Nat)) = V2 at *
      refine bodyPost_ret (tpl.fault_result (b := w.heap.size) (fr := (0, 0)) rfl rfl HF.out) rfl ?_
      exact ⟨B3.out.drew, .inr ⟨he, p, rfl⟩⟩

end Go.Proofs.YtjfkhlmoppbbgaaGreatDoor

/- script: an error of a BRE isn't below nothing; matcher.New. -/
namespace Go.Proofs.YtjfkhlmoppbbgaaGreatDoor
open Go.RowKit
open scanP scrP tpl ytb

namespace br
theorem err_e (e : Int) : (It.err e).e = e := rfl
theorem fault_e (e : Int) (i : Nat) : (faultT e i).e = e := rfl
theorem class_pos (s : ByteArray) : 0 ≤ classC s := by
  unfold classC ccF
  repeat' split
  all_goals decide
theorem mark_pos (s : ByteArray) (i : Nat) : 0 ≤ (markS s i).e := by
  unfold markS
  split
  · show (0 : Int) ≤ 6; decide
  · split
    · exact class_pos _
    · split
      · exact Int.le_refl 0
      · show (0 : Int) ≤ 8; decide
theorem item_pos (s : ByteArray) (i : Nat) : 0 ≤ (itemS s i).e := by
  unfold itemS
  split
  · split
    · exact mark_pos s i
    · exact Int.le_refl 0
  · show (0 : Int) ≤ 6; decide
theorem range_pos (s : ByteArray) (a : It) : 0 ≤ (rangeS s a).e := by
  have h := item_pos s (a.next + 1)
  unfold rangeS
  split
  · show (0 : Int) ≤ 6; decide
  · split
    · show (0 : Int) ≤ 7; decide
    · split
      · exact h
      · split
        · show (0 : Int) ≤ 7; decide
        · exact Int.le_refl 0
theorem entry_pos (s : ByteArray) (i : Nat) : 0 ≤ (entryS s i).e := by
  have h := item_pos s i
  unfold entryS
  split
  · exact h
  · split
    · exact range_pos s _
    · exact Int.le_refl 0
theorem loop_pos (s : ByteArray) : ∀ (f : Nat) (b : Bool) (q : Nat → Bool) (i : Nat), 0 ≤ (loopS s f b q i).e
  | 0, b, q, i => by rw [loopS]; show (0 : Int) ≤ 6; decide
  | f + 1, b, q, i => by
    have h := entry_pos s i
    rw [loopS]
    split
    · exact Int.le_refl 0
    · split
      · exact h
      · exact loop_pos s f _ _ _
theorem parseS_pos (s : ByteArray) (i : Nat) : 0 ≤ (parseS s i).e := by
  have h1 := loop_pos s (s.size + 2) true noneP (i + 1)
  have h2 := loop_pos s (s.size + 2) true noneP (i + 2)
  unfold parseS
  split
  · split
    · split
      · exact h2
      · exact Int.le_refl 0
    · split
      · exact h1
      · exact Int.le_refl 0
  · show (0 : Int) ≤ 1; decide
theorem parseX_pos (s : ByteArray) (x : Int) : 0 ≤ (parseX s x).e := by
  unfold parseX
  split
  · exact parseS_pos s _
  · show (0 : Int) ≤ 1; decide
theorem bracket_pos (s : ByteArray) (i : Nat) : 0 ≤ (bracketT s i).e := by
  have h := parseX_pos s i
  unfold bracketT
  split
  · exact h
  · exact Int.le_refl 0
theorem interval_pos (s : ByteArray) (i : Nat) : 0 ≤ (intervalT s i).e := by
  unfold intervalT ivlT
  dsimp only
  repeat' split
  all_goals first | exact Int.le_refl 0 | (show (0 : Int) ≤ 9; decide)
theorem escape_pos (s : ByteArray) (i k : Nat) : 0 ≤ (escapeT s i k).e := by
  have h := interval_pos s i
  unfold escapeT
  split
  · show (0 : Int) ≤ 6; decide
  · unfold escB
    repeat' split
    all_goals first | exact h | exact Int.le_refl 0 | (show (0 : Int) ≤ 9; decide) | (show (0 : Int) ≤ 12; decide)
theorem token_pos (s : ByteArray) (i k : Nat) : 0 ≤ (tokenT s i k).e := by
  have h1 := escape_pos s i k
  have h2 := bracket_pos s i
  unfold tokenT
  split
  · exact h1
  · split
    · exact h2
    · repeat' split
      all_goals exact Int.le_refl 0
theorem grown_pos (P : Ps) : 0 ≤ P.grown.1 := by
  show 0 ≤ bigE P.size
  unfold bigE
  split <;> decide
theorem take_pos (P : Ps) (t : Tk) (h : 0 ≤ t.e) : 0 ≤ (P.take t).1 := by
  unfold Ps.take
  split
  · exact h
  · exact grown_pos _
  · exact grown_pos _
  · exact grown_pos _
  · split
    · show (0 : Int) ≤ 4; decide
    · exact Int.le_refl 0
  · split
    · show (0 : Int) ≤ 10; decide
    · exact Int.le_refl 0
  · split
    · exact grown_pos _
    · show (0 : Int) ≤ 11; decide
  · split
    · exact Int.le_refl 0
    · exact grown_pos _
theorem run_pos (s : ByteArray) : ∀ (f i k : Nat) (P : Ps) (e : Int) (p : Nat), runT s f i k P = .error (e, p) → 0 ≤ e
  | 0, i, k, P, e, p, h => by rw [runT] at h; cases h
  | f + 1, i, k, P, e, p, h => by
    rw [runT] at h
    split at h
    · split at h
      · exact run_pos s f _ _ _ e p h
      · cases h; exact take_pos P _ (token_pos s i k)
    · cases h
theorem parse_epos (s : ByteArray) (e : Int) (p : Nat) (h : parseT s = .error (e, p)) : 0 ≤ e := by
  unfold parseT at h
  split at h
  · cases h; decide
  · split at h
    · rename_i x hx
      cases h
      exact run_pos s _ _ _ _ e p hx
    · split at h
      · cases h
      · cases h; decide
theorem of_pos (s : ByteArray) : 0 ≤ (ofM s).2.1 := by
  unfold ofM
  cases h : parseT s with
  | ok ts => exact Int.le_refl 0
  | error x => obtain ⟨e, p⟩ := x; exact parse_epos s e p h
end br

/-- matcher.New keeps its answers. -/
theorem new_ok : NewOk gM := newOk br.of_pos
end Go.Proofs.YtjfkhlmoppbbgaaGreatDoor

/- script: Parse, with nothing left open. -/
namespace Go.Proofs.YtjfkhlmoppbbgaaGreatDoor
open Go.RowKit
open scanP scrP tpl ytb

/-- What Parse answers, of any text. -/
theorem parse_ok (s : ByteArray) (hs : s.size ≤ 140737488355000) (w : World) (hg : Gl w) : Calls Tryz.prog 9 #[.string s] w (PP gM s w) := Go.Proofs.YtjfkhlmoppbbgaaGreatDoor.parse_any new_ok tabOk s hs w hg
end Go.Proofs.YtjfkhlmoppbbgaaGreatDoor

/- script: the document's Same of two commands that read alike; of two lists. -/
namespace Go.Proofs.YtjfkhlmoppbbgaaGreatDoor
open Go.RowKit
open scanP scrP tpl ytb

set_option maxRecDepth 100000 in
set_option maxHeartbeats 1000000 in
/-- Same of two lists of the same parts. -/
theorem parts_same (a b : Value) (l : List Pt) (w : World) (ha : PRow w a l) (hb : PRow w b l) (hl : l.length ≤ 9223372036854775807) :
    Calls Tryz.prog 16 #[a, b] w fun e w' => e = .returned (.bool true) ∧ Below w.heap.size w w' := by
  obtain ⟨pa, ca, rfl⟩ := ha.shape
  obtain ⟨pb, cb, rfl⟩ := hb.shape
  go_enter Tryz.func16, Tryz.ntmps16
  go_wp2_with fail
  go_loopw [5] (fun i wr => ∃ k : Nat, k ≤ l.length ∧ i = .int .i64 k ∧ Below w.heap.size w wr) (fun i _ => l.length - (intOf i).toNat)
  case atStart => exact ⟨0, by omega, rfl, Below.refl _ _⟩
  case round =>
    obtain ⟨k, hk, rfl, hB⟩ := hrel
    by_cases hlt : k < l.length
    · rcases ha with ⟨rfl, -⟩ | ⟨g, off, c, e1, ha⟩
      · simp at hlt
      rcases hb with ⟨rfl, -⟩ | ⟨g2, off2, c2, e2, hb⟩
      · simp at hlt
      cases e1
      cases e2
      obtain ⟨a1, a2⟩ := ha k hlt
      obtain ⟨b1, b2⟩ := hb k hlt
      have c1 := tpl.keep_cell hB a1
      have c2 := tpl.keep_cell hB a2
      have d1 := tpl.keep_cell hB b1
      have d2 := tpl.keep_cell hB b2
      have i1 : (k : Int) < (l.length : Int) := by omega
      have i2 : (0 : Int) ≤ (k : Int) := by omega
      go_upto_region 6 with fail
      go_quiet (fail)
      go_wp2
      exact ⟨⟨k + 1, by omega, by go_num, hB.trans (tpl.below_drewN _ _ _)⟩, by simp [intOf]; omega⟩
    · obtain rfl : k = l.length := by omega
      go_wp2
      go_ret
      exact ⟨rfl, hB⟩

set_option maxRecDepth 100000 in
set_option maxHeartbeats 4000000 in
theorem same_cmd (c : Co) (pv qv : Value) (W : World) (h : PRow W pv c.ps) (h' : PRow W qv c.ps) (hl : c.ps.length ≤ 1000000000000000) : Calls Tryz.prog 24 #[.agg (coV c pv).toArray, .agg (coV c qv).toArray, .bool true] W fun e w' => e = .returned (.bool true) ∧ Below W.heap.size W w' := by
  have HH := hideT (And.intro h h')
  have HL := hideT hl
  clear h h' hl
  go_enter Tryz.func24, Tryz.ntmps24
  go_upto_region 1 with fail
  have hb : Below W.heap.size W ((W.alloc (.cells (coV c pv).toArray 41)).alloc (.cells (coV c qv).toArray 41)) := ((Below.refl _ _).alloc (Nat.le_refl _) _).alloc (by simp) _
  have hk1 : ((W.alloc (.cells (coV c pv).toArray 41)).alloc (.cells (coV c qv).toArray 41)).heap[W.heap.size]? = some (.cells (coV c pv).toArray 41 (0, 0)) := (Below.heap_alloc _ _ _ (by simp)).trans (heap_alloc_new W _)
  have hk2 : ((W.alloc (.cells (coV c pv).toArray 41)).alloc (.cells (coV c qv).toArray 41)).heap[W.heap.size + 1]? = some (.cells (coV c qv).toArray 41 (0, 0)) := by
    have h1 := heap_alloc_new (W.alloc (.cells (coV c pv).toArray 41)) (.cells (coV c qv).toArray 41)
    rw [World.size_alloc] at h1
    exact h1
  obtain ⟨X, hX⟩ : ∃ X, X = ((W.alloc (.cells (coV c pv).toArray 41)).alloc (.cells (coV c qv).toArray 41)) := ⟨_, rfl⟩
  rw [← hX] at hb hk1 hk2 ⊢
  obtain ⟨N, hN⟩ : ∃ N, N = W.heap.size := ⟨_, rfl⟩
  rw [← hN] at hk1 hk2 ⊢
  have HXB := hideT hb
  have HX1 := hideT hk1
  have HX2 := hideT hk2
  have p1 : X.cell? ⟨N, 13, none⟩ = some pv := by have h := tpl.range_block hk1 13 _ rfl; simpa using h
  have p2 : X.cell? ⟨N + 1, 13, none⟩ = some qv := by have h := tpl.range_block hk2 13 _ rfl; simpa using h
  have HPS := hideT (parts_same pv qv c.ps X (HH.out.1.stay hb (Nat.le_refl _)) (HH.out.2.stay hb (Nat.le_refl _)) (by have := HL.out; omega))
  have HNN := hideT hN
  clear hX hb hk1 hk2 hN
  go_wp2_with fail
  refine HPS.out.mono ?_
  rintro e w1 ⟨rfl, hb1⟩
  have HK1 := hideT ((hb1.block N (Array.getElem?_eq_some_iff.1 HX1.out).1).trans HX1.out)
  have HK2 := hideT ((hb1.block (N + 1) (Array.getElem?_eq_some_iff.1 HX2.out).1).trans HX2.out)
  have HF := hideT (HXB.out.trans (hb1.mono HXB.out.size))
  clear hb1 p1 p2 HPS
  have a0 : w1.cell? ⟨N, 0, none⟩ = some (.int .i64 (c.pl : Nat)) := by have h := tpl.range_block HK1.out 0 _ rfl; simpa using h
  have d0 : w1.cell? ⟨N + 1, 0, none⟩ = some (.int .i64 (c.pl : Nat)) := by have h := tpl.range_block HK2.out 0 _ rfl; simpa using h
  have a1 : w1.cell? ⟨N, 1, none⟩ = some (.int .i64 (c.a.k : Nat)) := by have h := tpl.range_block HK1.out 1 _ rfl; simpa using h
  have d1 : w1.cell? ⟨N + 1, 1, none⟩ = some (.int .i64 (c.a.k : Nat)) := by have h := tpl.range_block HK2.out 1 _ rfl; simpa using h
  have a2 : w1.cell? ⟨N, 2, none⟩ = some (.int .i64 (c.a.ln : Nat)) := by have h := tpl.range_block HK1.out 2 _ rfl; simpa using h
  have d2 : w1.cell? ⟨N + 1, 2, none⟩ = some (.int .i64 (c.a.ln : Nat)) := by have h := tpl.range_block HK2.out 2 _ rfl; simpa using h
  have a3 : w1.cell? ⟨N, 3, none⟩ = some (.string (bst c.a.re)) := by have h := tpl.range_block HK1.out 3 _ rfl; simpa using h
  have d3 : w1.cell? ⟨N + 1, 3, none⟩ = some (.string (bst c.a.re)) := by have h := tpl.range_block HK2.out 3 _ rfl; simpa using h
  have a4 : w1.cell? ⟨N, 4, none⟩ = some (.int .i64 (c.b.k : Nat)) := by have h := tpl.range_block HK1.out 4 _ rfl; simpa using h
  have d4 : w1.cell? ⟨N + 1, 4, none⟩ = some (.int .i64 (c.b.k : Nat)) := by have h := tpl.range_block HK2.out 4 _ rfl; simpa using h
  have a5 : w1.cell? ⟨N, 5, none⟩ = some (.int .i64 (c.b.ln : Nat)) := by have h := tpl.range_block HK1.out 5 _ rfl; simpa using h
  have d5 : w1.cell? ⟨N + 1, 5, none⟩ = some (.int .i64 (c.b.ln : Nat)) := by have h := tpl.range_block HK2.out 5 _ rfl; simpa using h
  have a6 : w1.cell? ⟨N, 6, none⟩ = some (.string (bst c.b.re)) := by have h := tpl.range_block HK1.out 6 _ rfl; simpa using h
  have d6 : w1.cell? ⟨N + 1, 6, none⟩ = some (.string (bst c.b.re)) := by have h := tpl.range_block HK2.out 6 _ rfl; simpa using h
  have a7 : w1.cell? ⟨N, 7, none⟩ = some (.bool c.nt) := by have h := tpl.range_block HK1.out 7 _ rfl; simpa using h
  have d7 : w1.cell? ⟨N + 1, 7, none⟩ = some (.bool c.nt) := by have h := tpl.range_block HK2.out 7 _ rfl; simpa using h
  have a8 : w1.cell? ⟨N, 8, none⟩ = some (.int .u8 (c.nm.toNat : Nat)) := by have h := tpl.range_block HK1.out 8 _ rfl; simpa using h
  have d8 : w1.cell? ⟨N + 1, 8, none⟩ = some (.int .u8 (c.nm.toNat : Nat)) := by have h := tpl.range_block HK2.out 8 _ rfl; simpa using h
  have a9 : w1.cell? ⟨N, 9, none⟩ = some (.string (bst c.lb)) := by have h := tpl.range_block HK1.out 9 _ rfl; simpa using h
  have d9 : w1.cell? ⟨N + 1, 9, none⟩ = some (.string (bst c.lb)) := by have h := tpl.range_block HK2.out 9 _ rfl; simpa using h
  have a10 : w1.cell? ⟨N, 10, none⟩ = some (.string (bst c.tx)) := by have h := tpl.range_block HK1.out 10 _ rfl; simpa using h
  have d10 : w1.cell? ⟨N + 1, 10, none⟩ = some (.string (bst c.tx)) := by have h := tpl.range_block HK2.out 10 _ rfl; simpa using h
  have a11 : w1.cell? ⟨N, 11, none⟩ = some (.string (bst c.fl)) := by have h := tpl.range_block HK1.out 11 _ rfl; simpa using h
  have d11 : w1.cell? ⟨N + 1, 11, none⟩ = some (.string (bst c.fl)) := by have h := tpl.range_block HK2.out 11 _ rfl; simpa using h
  have a12 : w1.cell? ⟨N, 12, none⟩ = some (.string (bst c.re)) := by have h := tpl.range_block HK1.out 12 _ rfl; simpa using h
  have d12 : w1.cell? ⟨N + 1, 12, none⟩ = some (.string (bst c.re)) := by have h := tpl.range_block HK2.out 12 _ rfl; simpa using h
  have a14 : w1.cell? ⟨N, 14, none⟩ = some (.int .i64 (c.nh : Nat)) := by have h := tpl.range_block HK1.out 14 _ rfl; simpa using h
  have d14 : w1.cell? ⟨N + 1, 14, none⟩ = some (.int .i64 (c.nh : Nat)) := by have h := tpl.range_block HK2.out 14 _ rfl; simpa using h
  have a15 : w1.cell? ⟨N, 15, none⟩ = some (.bool c.an) := by have h := tpl.range_block HK1.out 15 _ rfl; simpa using h
  have d15 : w1.cell? ⟨N + 1, 15, none⟩ = some (.bool c.an) := by have h := tpl.range_block HK2.out 15 _ rfl; simpa using h
  have a16 : w1.cell? ⟨N, 16, none⟩ = some (.bool c.pr) := by have h := tpl.range_block HK1.out 16 _ rfl; simpa using h
  have d16 : w1.cell? ⟨N + 1, 16, none⟩ = some (.bool c.pr) := by have h := tpl.range_block HK2.out 16 _ rfl; simpa using h
  have a17 : w1.cell? ⟨N, 17, none⟩ = some (.string (bst c.fr)) := by have h := tpl.range_block HK1.out 17 _ rfl; simpa using h
  have d17 : w1.cell? ⟨N + 1, 17, none⟩ = some (.string (bst c.fr)) := by have h := tpl.range_block HK2.out 17 _ rfl; simpa using h
  have a18 : w1.cell? ⟨N, 18, none⟩ = some (.string (bst c.to)) := by have h := tpl.range_block HK1.out 18 _ rfl; simpa using h
  have d18 : w1.cell? ⟨N + 1, 18, none⟩ = some (.string (bst c.to)) := by have h := tpl.range_block HK2.out 18 _ rfl; simpa using h
  clear HK1 HK2 HX1 HX2 HH
  go_wp2
  go_ret
  exact ⟨rfl, HF.out⟩

end Go.Proofs.YtjfkhlmoppbbgaaGreatDoor

/- script: the document's SameList of two lists of commands that read alike. -/
namespace Go.Proofs.YtjfkhlmoppbbgaaGreatDoor
open Go.RowKit
open scanP scrP tpl ytb

theorem range_lt {W : World} {g o : Nat} {c : Co} {pv : Value} (h : W.rangeAt g o (coV c pv)) : g < W.heap.size := tpl.cell_lt (h 0 _ rfl)
theorem range_keep {W W' : World} {g o : Nat} {xs : List Value} (h : W.rangeAt g o xs) (e : W'.heap[g]? = W.heap[g]?) : W'.rangeAt g o xs := fun j v hv => (World.cell?_of_block (a := ⟨g, o + j, none⟩) e).trans (h j v hv)
/-- A slice that reads as a list of commands, their parts too. -/
def CRow (W : World) (v : Value) (l : List Co) : Prop := ∃ a cp, v = .slice a l.length cp ∧ ∀ (k : Nat) (c : Co), l[k]? = some c → ∃ g o pv, a = some ⟨g, o, none⟩ ∧ W.rangeAt g (o + k * 19) (coV c pv) ∧ PRow W pv c.ps
theorem load_yield {g o : Nat} {c : Co} {pv : Value} {V : World} {a : Act} {op : Oper} {x : Operand} (ho : op.op = .load 41 x) (hx : a.eval x = .pointer (some ⟨g, o, none⟩)) (h : V.rangeAt g o (coV c pv)) : (execOp a.eval op).run Tryz.prog V = .ok (.value (.agg (coV c pv).toArray)) V := by
  have h1 := run_loadAt_mid (P := Tryz.prog) V g o 41 (coV c pv) _ h und_cmd rfl (by rw [info_cmd]; rfl)
  simp [execOp, ho, hx, h1]

set_option maxRecDepth 100000 in
set_option maxHeartbeats 4000000 in
theorem sameList_any (a b : Value) (l : List Co) (W : World) (ha : CRow W a l) (hb : CRow W b l) (hp : ∀ c ∈ l, c.ps.length ≤ 1000000000000000) (hl : l.length ≤ 100000000) : Calls Tryz.prog 12 #[a, b, .bool true] W fun e w' => e = .returned (.bool true) ∧ Below W.heap.size W w' := by
  obtain ⟨pa, ca, rfl, ha⟩ := ha
  obtain ⟨pb, cb, rfl, hb⟩ := hb
  have HA := hideT ha
  have HB := hideT hb
  have HP := hideT hp
  clear ha hb hp
  go_enter Tryz.func12, Tryz.ntmps12
  go_wp2_with fail
  go_loopw [7] (fun i wr => ∃ k : Nat, k ≤ l.length ∧ i = .int .i64 k ∧ Hid (Below W.heap.size W wr)) (fun i _ => l.length - (intOf i).toNat)
  case atStart => exact ⟨0, by omega, rfl, hideT (Below.refl _ _)⟩
  case round =>
    obtain ⟨k, hk, rfl, HW⟩ := hrel
    by_cases hlt : k < l.length
    · obtain ⟨g, o, pv, rfl, a1, u1⟩ := HA.out k _ (List.getElem?_eq_getElem hlt)
      obtain ⟨g2, o2, qv, rfl, b1, u2⟩ := HB.out k _ (List.getElem?_eq_getElem hlt)
      have hpk := HP.out _ (List.getElem_mem hlt)
      generalize (l[k]'hlt) = c at *
      have i1 : (k : Int) < (l.length : Int) := by omega
      have i2 : (0 : Int) ≤ (k : Int) := by omega
      have q1 := range_keep a1 (HW.out.block g (range_lt a1))
      have q2 := range_keep b1 (HW.out.block g2 (range_lt b1))
      have HR1 := hideT (fun (V : World) (hV : Below wr.heap.size wr V) => range_keep q1 (hV.block g (range_lt q1)))
      have HR2 := hideT (fun (V : World) (hV : Below wr.heap.size wr V) => range_keep q2 (hV.block g2 (range_lt q2)))
      have s0 : Below wr.heap.size wr wr.drew := (Below.refl _ _).drew
      have HS := hideT (same_cmd c pv qv wr.drew ((u1.stay HW.out (Nat.le_refl _)).stay s0 (Nat.le_refl _)) ((u2.stay HW.out (Nat.le_refl _)).stay s0 (Nat.le_refl _)) hpk)
      clear a1 b1 u1 u2 hpk q1 q2
      go_wp2_with fail
      refine wp_region_held (S := fun V => Below wr.heap.size wr V) (by kernel_rfl) ?_
      refine' take_d 0 (some 19) rfl rfl (by kernel_rfl) (by kernel_rfl) (by kernel_rfl) (fun _ _ _ h => h) (wanted_none rfl _) s0 ?tk1 ?rs1
      case tk1 => intro V hV; go_simp; (try with_reducible rfl)
      refine' take_d 1 (some 20) rfl rfl (by kernel_rfl) (by kernel_rfl) (by kernel_rfl) (fun _ _ _ h => h) (wanted_none rfl _) s0 ?tk2 ?rs2
      case tk2 => intro V hV; go_simp; (try with_reducible rfl)
      refine' take_d 2 (some 21) rfl rfl (by kernel_rfl) (by kernel_rfl) (by kernel_rfl) (fun _ _ _ h => h) (wanted_none rfl _) s0 ?tk3 ?rs3
      case tk3 => intro V hV; go_simp; (try with_reducible rfl)
      simp only [Act.put, List.setIfInBounds_toArray, List.set_cons_zero, List.set_cons_succ]
      refine' take_d 3 (some 22) rfl rfl (by kernel_rfl) (by kernel_rfl) (by kernel_rfl) (fun _ _ _ h => h) (wanted_none rfl _) s0 ?tk4 ?rs4
      case tk4 => intro V hV; exact load_yield rfl rfl (HR1.out V hV)
      refine' take_d 4 (some 23) rfl rfl (by kernel_rfl) (by kernel_rfl) (by kernel_rfl) (fun _ _ _ h => h) (wanted_none rfl _) s0 ?tk5 ?rs5
      case tk5 => intro V hV; go_simp; (try with_reducible rfl)
      refine' take_d 5 (some 24) rfl rfl (by kernel_rfl) (by kernel_rfl) (by kernel_rfl) (fun _ _ _ h => h) (wanted_none rfl _) s0 ?tk6 ?rs6
      case tk6 => intro V hV; go_simp; (try with_reducible rfl)
      refine' take_d 6 (some 25) rfl rfl (by kernel_rfl) (by kernel_rfl) (by kernel_rfl) (fun _ _ _ h => h) (wanted_none rfl _) s0 ?tk7 ?rs7
      case tk7 => intro V hV; go_simp; (try with_reducible rfl)
      simp only [Act.put, List.setIfInBounds_toArray, List.set_cons_zero, List.set_cons_succ]
      refine' take_d 7 (some 26) rfl rfl (by kernel_rfl) (by kernel_rfl) (by kernel_rfl) (fun _ _ _ h => h) (wanted_none rfl _) s0 ?tk8 ?rs8
      case tk8 => intro V hV; exact load_yield rfl rfl (HR2.out V hV)
      refine' take_d 8 (some 27) rfl rfl (by kernel_rfl) (by kernel_rfl) (by kernel_rfl) (fun _ _ _ h => h) (wanted_none rfl _) s0 ?tk9 ?rs9
      case tk9 => intro V hV; go_simp; (try with_reducible rfl)
      simp only [Act.put, List.setIfInBounds_toArray, List.set_cons_zero, List.set_cons_succ]
      refine wpAnyH_all (rs := [9]) (by kernel_rfl) (by simp) (fun i hi => ?_)
      obtain rfl : i = 9 := List.mem_singleton.1 hi
      refine op_call (some 28) rfl rfl (wanted_none rfl _) (by go_simp; (try with_reducible rfl)) (R := fun v w' => v = .bool true ∧ Below wr.heap.size wr w') (HS.out.mono (fun e w' h => ⟨_, h.1, rfl, s0.trans (h.2.mono s0.size)⟩)) ?_
      rintro v8 w8 ⟨rfl, hb8⟩
      refine And.intro hb8 ?_
      refine' take_d 10 (some 29) rfl rfl (by kernel_rfl) (by kernel_rfl) (by kernel_rfl) (fun _ _ _ h => h) (wanted_none rfl _) hb8 ?tk10 ?rs10
      case tk10 => intro V hV; go_simp; (try with_reducible rfl)
      refine wpAnyH_done (by kernel_rfl) ?_ _
      simp only [Act.put, List.setIfInBounds_toArray, List.set_cons_zero, List.set_cons_succ]
      have HF := hideT (HW.out.trans (hb8.mono HW.out.size))
      clear hb8 s0 HS HR1 HR2
      go_wp2
      exact ⟨⟨k + 1, by omega, by go_num, HF⟩, by simp [intOf]; omega⟩
    · obtain rfl : k = l.length := by omega
      have i1 : ((l.length : Int) < (l.length : Int)) = False := by rw [eq_iff_iff, iff_false]; omega
      go_wp2
      go_ret
      exact ⟨rfl, HW.out⟩
end Go.Proofs.YtjfkhlmoppbbgaaGreatDoor

/- script: what awake asks, by the text alone. -/
namespace Go.Proofs.YtjfkhlmoppbbgaaGreatDoor
open Go.RowKit
open scanP scrP tpl ytb

theorem tok_x : br.tokenT (bst [120]) 0 4 = br.selfT 120 0 1 := by
  unfold br.tokenT
  rw [if_neg (by decide), if_neg (by decide), if_neg (by decide), if_neg (by decide), if_neg (by decide), if_neg (by decide)]
  rfl
theorem tok_a : br.tokenT (bst [97]) 0 4 = br.selfT 97 0 1 := by
  unfold br.tokenT
  rw [if_neg (by decide), if_neg (by decide), if_neg (by decide), if_neg (by decide), if_neg (by decide), if_neg (by decide)]
  rfl
theorem parse_one (b : UInt8) (n : Nat) (ht : br.tokenT (bst [b]) 0 4 = br.selfT n 0 1) : br.parseT (bst [b]) = .ok [br.byteT (br.selfP n)] := by
  have hz : (bst [b]).size = 1 := rfl
  have e1 : br.runT (bst [b]) ((bst [b]).size + 1) 0 4 br.Ps.start = .ok (br.Ps.start.add (br.byteT (br.selfP n)) 1) := by
    rw [hz, br.runT, if_pos (by rw [hz]; decide), ht]
    have e2 : br.Ps.start.take (br.selfT n 0 1) = (0, br.Ps.start.add (br.byteT (br.selfP n)) 1) := rfl
    rw [e2, if_pos rfl, br.runT, if_neg (by rw [hz]; show ¬ (1 < 1); decide)]
  unfold br.parseT
  rw [if_neg (by rw [hz]; decide), e1]
  rfl
theorem g_one (b : UInt8) (n : Nat) (ht : br.tokenT (bst [b]) 0 4 = br.selfT n 0 1) : gM [b] = (0, 0) := by
  unfold gM br.ofM
  rw [parse_one b n ht]
  rfl
theorem g_as : ∃ g : Gr, gM = fun t => if t = [120] then (0, 0) else if t = [97] then (0, 0) else g t := ⟨gM, funext fun t => by
  split
  · rename_i h; rw [h]; exact g_one 120 120 tok_x
  · split
    · rename_i h; rw [h]; exact g_one 97 97 tok_a
    · rfl⟩
/-- The command of awake. -/
def awC : Co := ⟨9, ⟨1, 2, []⟩, ⟨3, 0, [120]⟩, true, 115, [], [], [], [97], [⟨-1, bst [98]⟩], 2, true, true, [], []⟩
theorem aw_one : scrR gM [35, 110, 10, 50, 44, 47, 120, 47, 33, 115, 47, 97, 47, 98, 47, 50, 103, 112] = ([awC], true, 0, 0) := by
  obtain ⟨g, h⟩ := g_as
  rw [h]
  kernel_rfl
theorem aw_two : scrR gM [49, 44, 112] = ([], false, 17, 2) := by
  obtain ⟨g, h⟩ := g_as
  rw [h]
  kernel_rfl
end Go.Proofs.YtjfkhlmoppbbgaaGreatDoor

/- script: a list of one's own reads as its commands. -/
namespace Go.Proofs.YtjfkhlmoppbbgaaGreatDoor
open Go.RowKit
open scanP scrP tpl ytb

theorem coX_at : ∀ (l : List (Co × Value)) (k : Nat) (x : Co × Value), l[k]? = some x → ∀ (j : Nat) (v : Value), (coV x.1 x.2)[j]? = some v → (coX l)[k * 19 + j]? = some v
  | [], k, x, h, j, v, hv => by simp at h
  | y :: r, 0, x, h, j, v, hv => by
    have e : y = x := by simpa using h
    subst e
    have hj := (List.getElem?_eq_some_iff.1 hv).1
    rw [coX, Nat.zero_mul, Nat.zero_add, List.getElem?_append_left hj]
    exact hv
  | y :: r, k + 1, x, h, j, v, hv => by
    have h' : r[k]? = some x := by simpa using h
    rw [coX, List.getElem?_append_right (by rw [coV_len]; omega), coV_len, show (k + 1) * 19 + j - 19 = k * 19 + j by omega]
    exact coX_at r k x h' j v hv
theorem LsAt.crow {W : World} {B : Nat} {v : Value} {L : List (Co × Value)} (h : LsAt W B v L) : CRow W v (L.map (·.1)) := by
  rcases h.own.2 with ⟨rfl, h0⟩ | ⟨g, cap, cur, rfl, hg, hh, hrest⟩
  · have : L = [] := List.eq_nil_of_length_eq_zero h0
    subst this
    exact ⟨none, 0, rfl, fun k c hc => by simp at hc⟩
  · refine ⟨some ⟨g, 0, none⟩, cap, by rw [List.length_map], fun k c hc => ?_⟩
    rw [List.getElem?_map] at hc
    cases hx : L[k]? with
    | none => rw [hx] at hc; cases hc
    | some x =>
      rw [hx] at hc
      cases hc
      refine ⟨g, 0, x.2, rfl, fun j u hu => ?_, PRow.of_owns (h.pa x (List.mem_of_getElem? hx))⟩
      have h1 := h.own.cells (g := g) rfl (k * 19 + j) _ (coX_at L k x hx j u hu)
      have hplain : ∀ k, (⟨g, 0, none⟩ : Addr).add k = ⟨g, 0 + k, none⟩ := fun k => by unfold Addr.add; split <;> simp_all
      rw [hplain] at h1
      rw [Nat.add_assoc]
      exact h1
/-- Parse, as one who reads its answer sees it. -/
theorem parse_reads (s : ByteArray) (hs : s.size ≤ 140737488355000) (w : World) (hg : Gl w) : Calls Tryz.prog 9 #[.string s] w fun e w' => ∃ v, e = .returned (.tuple #[v, .bool (scrR gM s.data.toList).2.1, .agg #[.int .i64 ((scrR gM s.data.toList).2.2.1 : Nat), .int .i64 ((scrR gM s.data.toList).2.2.2 : Nat)]]) ∧ CRow w' v (scrR gM s.data.toList).1 ∧ Below w.heap.size w w' := by
  refine (parse_ok s hs w hg).mono ?_
  rintro e w' ⟨v, L, rfl, hL, hm, hb⟩
  exact ⟨v, rfl, hm ▸ hL.crow, hb⟩
theorem aw_first (w : World) (hg : Gl w) : Calls Tryz.prog 9 #[.string ⟨#[35, 110, 10, 50, 44, 47, 120, 47, 33, 115, 47, 97, 47, 98, 47, 50, 103, 112]⟩] w fun e w' => ∃ g o cp pv, e = .returned (.tuple #[.slice (some ⟨g, o, none⟩) 1 cp, .bool true, .agg #[.int .i64 0, .int .i64 0]]) ∧ w'.rangeAt g o (coV awC pv) ∧ PRow w' pv awC.ps ∧ Below w.heap.size w w' := by
  refine (parse_reads _ (by decide) w hg).mono ?_
  rintro e w' ⟨v, rfl, hC, hb⟩
  rw [aw_one] at hC ⊢
  obtain ⟨a, cp, rfl, hC⟩ := hC
  obtain ⟨g, o, pv, rfl, h1, h2⟩ := hC 0 awC rfl
  exact ⟨g, o, cp, pv, rfl, by simpa using h1, h2, hb⟩
theorem aw_next (w : World) (hg : Gl w) : Calls Tryz.prog 9 #[.string ⟨#[49, 44, 112]⟩] w fun e w' => ∃ v, e = .returned (.tuple #[v, .bool false, .agg #[.int .i64 17, .int .i64 2]]) ∧ Below w.heap.size w w' := by
  refine (parse_reads _ (by decide) w hg).mono ?_
  rintro e w' ⟨v, rfl, hC, hb⟩
  rw [aw_two]
  exact ⟨v, rfl, hb⟩
end Go.Proofs.YtjfkhlmoppbbgaaGreatDoor
