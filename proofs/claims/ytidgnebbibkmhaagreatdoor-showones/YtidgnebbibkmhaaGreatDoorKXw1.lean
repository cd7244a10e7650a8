/- script: table. -/
import Derived.Test.YtidgnebbibkmhaaGreatDoorKXa
import Derived.Test.YtidgnebbibkmhaaGreatDoorKXw
import Derived.Test.YtidgnebbibkmhaaGreatDoorKXs1
import Derived.Test.YtidgnebbibkmhaaGreatDoorKMf
import Derived.Test.YtidgnebbibkmhaaGreatDoorKCk
import Derived.Laws.EntriesVeiled
import Derived.Test.YtidgnebbibkmhaaGreatDoorRows
import Derived.LaidHandle
import Derived.Lay
set_option maxRecDepth 100000
set_option maxHeartbeats 4000000
namespace Go.Proofs.YtidgnebbibkmhaaGreatDoor
open Go.RowKit
open scanP scrP tpl ytb
theorem xp8 {P : Program} {ops : Array Oper} {Q : Exit → Act → World → Prop} {i : Nat} {o : Oper} {K : Act → World → Prop} {a : Act} {w : World} {f : FuncId} {args : Array Value} {R : Value → World → Prop} (d : Option Tmp) (hi : ops[i]? = some o) (hd : o.dst = d) (hw : Region.wanted o (yielded ops a.tmps) = true) (hx : (execOp a.eval o).run P w = .ok (.enter f args) w) (hc : Calls P f args w fun e w' => ∃ v, e = .returned v ∧ R v w') (h : ∀ v w', R v w' → K (a.put d v) w') : wpOp P ops Q i K a w := by
 unfold wpOp
 rw [hi]
 dsimp only
 rw [if_pos hw]
 refine .inl ?_
 unfold Oper.wp
 rw [hx]
 refine Calls.mono hc ?_
 rintro e w' ⟨v, rfl, hR⟩
 show K (a.put o.dst v) w'
 rw [hd]
 exact h v w' hR
theorem xp9 {b g B : Nat} {s : ByteArray} {i : Nat} {c : Co} {pv : Value} (w : World) (h : Both w b g B s i c pv) (hi : i ≤ s.size) (hs : s.size ≤ 4096) : Calls Tryz.prog 80 #[.pointer (some ⟨b, 0, none⟩), .pointer (some ⟨g, 0, none⟩)] w (PC b g B s w (tabR s.data.toList c i)) := by
 generalize hRR : tabR s.data.toList c i = RR
 have HRR := hideT hRR
 have HH := hideT h
 have d0 := h.m.cell 0 (v := .int .i64 c.pl) rfl
 clear hRR h
 go_enter Tryz.func80, Tryz.ntmps80
 go_wp2_with fail
 refine (xcx 19 c.pl w HH.out.r hi hs).mono ?_
 intro e w1 hp
 rcases hd : delR s.data.toList i 19 c.pl with x | ⟨d, j⟩
 ·rw [hd] at hp
  obtain ⟨rfl, ht⟩ := hp
  have T := hideT (ht.wide (g := g))
  have ER := hideT (show RR = .error x by rw [← HRR.out]; unfold tabR; rw [hd])
  clear ht hd HRR
  go_wp2
  rw [ER.out]
  exact ⟨rfl, rfl, T.out⟩
 rw [hd] at hp
 obtain ⟨rfl, hr, ht⟩ := hp
 obtain ⟨rfl, hj, _, _⟩ := xb4 hd
 have H1 := hideT (HH.out.step hr ht)
 have T1 := hideT (ht.wide (g := g))
 have R1 := hideT (show tabR s.data.toList c i = (match sidR s.data.toList d c.pl (i + 1) with
  | .error x => .error x
  | .ok (f, k) => match sidR s.data.toList d c.pl k with
   | .error x => .error x
   | .ok (t, m) => if f.length ≠ t.length ∨ twB f = true then .error (21, c.pl) else .ok ({ c with fr := f, to := t }, m)) by unfold tabR; rw [hd]; first | done | rfl)
 rw [HRR.out] at R1
 clear hr ht hd HRR HH d0
 have d0 := H1.out.m.cell 0 (v := .int .i64 c.pl) rfl
 go_wp2_with fail
 refine (xl5 d c.pl w1 H1.out.r hj hs).mono ?_
 intro e w2 hp
 rcases hd : sidR s.data.toList d c.pl (i + 1) with x | ⟨f, k⟩
 ·rw [hd] at hp R1
  obtain ⟨rfl, ht⟩ := hp
  have T := hideT (T1.out.more (ht.wide (g := g)))
  clear ht hd
  go_wp2
  rw [R1.out]
  exact ⟨rfl, rfl, T.out⟩
 rw [hd] at hp R1
 obtain ⟨rfl, hr, ht⟩ := hp
 have hkl := xkc hd hj
 have hfl := xir (sid_sz hd hj) hs
 have H2 := hideT (H1.out.step hr ht)
 have T2 := hideT (T1.out.more (ht.wide (g := g)))
 clear hr ht hd T1 H1 d0
 have d17 := H2.out.m.cell 17 (v := .string (bst c.fr)) rfl
 have f17 := H2.out.m.fz 17
 have d0 := H2.out.m.cell 0 (v := .int .i64 c.pl) rfl
 have H3 := hideT (H2.out.set 17 (.string (bst f)) (c' := { c with fr := f }) rfl rfl)
 have T3 := hideT (T2.out.putg 17 (.string (bst f)))
 go_wp2_with fail
 clear d0 d17 f17 H2 T2
 generalize w2.setCell ⟨g, 17, none⟩ (.string (bst f)) = W3 at *
 refine (xl5 d c.pl W3 H3.out.r hkl hs).mono ?_
 intro e w4 hp
 rcases hd : sidR s.data.toList d c.pl k with x | ⟨t, m⟩
 ·rw [hd] at hp R1
  obtain ⟨rfl, ht⟩ := hp
  have T := hideT (T3.out.more (ht.wide (g := g)))
  clear ht hd
  go_wp2
  rw [R1.out]
  exact ⟨rfl, rfl, T.out⟩
 rw [hd] at hp R1
 obtain ⟨rfl, hr, ht⟩ := hp
 have H4 := hideT (H3.out.step hr ht)
 have T4 := hideT (T3.out.more (ht.wide (g := g)))
 clear hr ht hd T3 H3
 have d18 := H4.out.m.cell 18 (v := .string (bst c.to)) rfl
 have f18 := H4.out.m.fz 18
 have H5 := hideT (H4.out.set 18 (.string (bst t)) (c' := { c with fr := f, to := t }) rfl rfl)
 have T5 := hideT (T4.out.putg 18 (.string (bst t)))
 go_wp2_with fail
 clear d18 f18 H4 T4
 have d0 : True := trivial
 generalize w4.setCell ⟨g, 18, none⟩ (.string (bst t)) = W5 at *
 clear d0
 have d0 := H5.out.m.cell 0 (v := .int .i64 c.pl) rfl
 have d17 := H5.out.m.cell 17 (v := .string (bst f)) rfl
 have d18 := H5.out.m.cell 18 (v := .string (bst t)) rfl
 have HNW := hideT (fun W => new_any (bst f) (bst t) (by rw [xbt]; omega) W)
 rw [xbu, xbu] at HNW
 have hone := new_one f t
 have hE : (newR f t).2 = if f.length ≠ t.length ∨ twB f = true then 21 else 0 := by unfold newR; split <;> rfl
 have hAl := xb3 (newR f t).1
 generalize arV (newR f t).1 = A at *
 generalize (newR f t).2 = E at *
 have hZ : ∀ w, (zeroValue 165).run Tryz.prog w = .ok (.agg (arV fun _ => .int .u8 0).toArray) w := (zero_of_info inf31).1
 have hZl := xb3 (fun _ => .int .u8 0)
 generalize (arV fun _ => Value.int .u8 0) = Z at *
 have s0 : W5.drew.cell? ⟨g, 17, none⟩ = some (.string (bst f)) ∧ W5.drew.cell? ⟨g, 18, none⟩ = some (.string (bst t)) := ⟨d17, d18⟩
 refine wp_region_held (S := fun V => V.cell? ⟨g, 17, none⟩ = some (.string (bst f)) ∧ V.cell? ⟨g, 18, none⟩ = some (.string (bst t))) (by kernel_rfl) ?_
 refine tq 0 34 s0 ?_
 refine tq 1 35 s0 ?_
 refine tq 2 36 s0 ?_
 refine tq 3 37 s0 ?_ (hy := by intro V hV; have hc := hV.1; go_simp; (try with_reducible rfl))
 refine tq 4 38 s0 ?_
 refine tq 5 39 s0 ?_
 refine tq 6 40 s0 ?_
 refine tq 7 41 s0 ?_ (hy := by intro V hV; have hc := hV.2; go_simp; (try with_reducible rfl))
 refine wpAnyH_all (rs := [8, 12]) (by kernel_rfl) (by simp) (fun i hi => ?_)
 simp only [List.mem_cons, List.not_mem_nil, or_false] at hi
 rcases hi with rfl | rfl
 ·simp only [Act.put, List.setIfInBounds_toArray, List.set_cons_succ, List.set_cons_zero]
  refine xp8 (some 42) rfl rfl (wanted_none rfl _) (by go_simp; (try with_reducible rfl)) (R := fun u w' => u = .tuple #[.agg A.toArray, .int .i64 E] ∧ Below W5.drew.heap.size W5.drew w') ((HNW.out _).mono (fun e w' h => ⟨_, h.1, rfl, h.2⟩)) ?_
  rintro u w6 ⟨rfl, hb⟩
  have s1 : w6.cell? ⟨g, 17, none⟩ = some (.string (bst f)) ∧ w6.cell? ⟨g, 18, none⟩ = some (.string (bst t)) := ⟨keep_cell hb s0.1, keep_cell hb s0.2⟩
  refine ⟨s1, ?_⟩
  refine tq 9 33 s1 ?_
  refine tq 10 43 s1 ?_
  refine tq 11 44 s1 ?_
  refine wpAnyH_all (rs := [12]) (by kernel_rfl) (by simp) (fun i hi => ?_)
  obtain rfl : i = 12 := by simpa using hi
  simp only [Act.put, List.setIfInBounds_toArray, List.set_cons_succ, List.set_cons_zero]
  have hA := (Below.refl w6.heap.size w6).alloc (Nat.le_refl _) (.cells Z.toArray 165)
  have hN := heap_alloc_new w6 (.cells Z.toArray 165)
  refine op_value (some 5) (w' := w6.alloc (.cells Z.toArray 165)) (v := .pointer (some ⟨w6.heap.size, 0, none⟩)) rfl rfl (wanted_none rfl _) (by go_simp; (try with_reducible rfl)) ?_
  have s2 := And.intro (keep_cell hA s1.1) (keep_cell hA s1.2)
  refine ⟨s2, ?_⟩
  have TW := hideT (Tch.of (F := fun _ => False) (hb.trans (hA.mono hb.size))).und
  have HN := hideT hN
  have hNB : W5.heap.size ≤ w6.heap.size := hb.size
  have hgn : g ≠ w6.heap.size := by have := xah H5.out.m; omega
  clear hb hA hN
  generalize w6.alloc (.cells Z.toArray 165) = W7 at *
  refine wpAnyH_all (rs := [13]) (by kernel_rfl) (by simp) (fun i hi => ?_)
  obtain rfl : i = 13 := by simpa using hi
  simp only [Act.put, List.setIfInBounds_toArray, List.set_cons_succ, List.set_cons_zero]
  have hsz : A.toArray.size = 256 := hAl
  refine op_of rfl (wanted_none rfl _) (wp_store_mid 165 _ _ rfl w6.heap.size 0 A.toArray rfl rfl (by rw [hsz]; exact xcd HN.out 256 hZl) (by rw [xlu, hsz]) (by rw [Array.all_eq_true_iff_forall_mem]; exact fun u hu => hone u (by simpa using hu)) ?_)
  have T8 := hideT (Tch.newC (TW.out) hNB A 0)
  have s3 : (W7.setCells w6.heap.size 0 A).cell? ⟨g, 17, none⟩ = some (.string (bst f)) ∧ (W7.setCells w6.heap.size 0 A).cell? ⟨g, 18, none⟩ = some (.string (bst t)) := ⟨(World.cell?_of_block (xbg W7 w6.heap.size hgn A 0)).trans s2.1, (World.cell?_of_block (xbg W7 w6.heap.size hgn A 0)).trans s2.2⟩
  refine ⟨s3, ?_⟩
  refine tq 14 6 s3 ?_
  refine wpAnyH_done (by kernel_rfl) ?_ _
  simp only [Act.put, List.setIfInBounds_toArray]
  have H8 := hideT (H5.out.tch T8.out)
  have T9 := hideT (T5.out.more (T8.out.mono (fun _ h => h.elim)))
  generalize W7.setCells w6.heap.size 0 A = W8 at *
  have d0 := H8.out.m.cell 0 (v := .int .i64 c.pl) rfl
  by_cases hbad : f.length ≠ t.length ∨ twB f = true
  ·rw [if_pos hbad] at hE R1
   have HN1 := hideT (xc4 E c.pl (by rw [hE]; decide))
   rw [hE] at HN1
   subst hE
   go_wp2_with fail
   refine (HN1.out _).mono ?_
   rintro x w9 ⟨rfl, rfl⟩
   go_wp2
   rw [R1.out]
   exact ⟨rfl, rfl, T9.out⟩
  ·rw [if_neg hbad] at hE R1
   have HN1 := hideT (xdx c.pl)
   subst hE
   go_wp2_with fail
   refine (HN1.out _).mono ?_
   rintro x w9 ⟨rfl, rfl⟩
   go_wp2
   go_end0
   rw [R1.out]
   exact ⟨rfl, H8.out.r, T9.out, pv, H8.out.m, H8.out.p⟩
 ·simp only [Act.put, List.setIfInBounds_toArray, List.set_cons_succ, List.set_cons_zero]
  have hA := (Below.refl W5.drew.heap.size W5.drew).alloc (Nat.le_refl _) (.cells Z.toArray 165)
  have hN := heap_alloc_new W5.drew (.cells Z.toArray 165)
  refine op_value (some 5) (w' := W5.drew.alloc (.cells Z.toArray 165)) (v := .pointer (some ⟨W5.drew.heap.size, 0, none⟩)) rfl rfl (wanted_none rfl _) (by go_simp; (try with_reducible rfl)) ?_
  have s1 := And.intro (keep_cell hA s0.1) (keep_cell hA s0.2)
  refine ⟨s1, ?_⟩
  have TA := hideT (Tch.of (F := fun _ => False) hA).und
  have hgn : g ≠ W5.drew.heap.size := by have := xah H5.out.m; show g ≠ W5.heap.size; omega
  have hNB : W5.heap.size ≤ W5.drew.heap.size := Nat.le_refl _
  generalize W5.drew.alloc (.cells Z.toArray 165) = W6 at *
  refine wpAnyH_all (rs := [8]) (by kernel_rfl) (by simp) (fun i hi => ?_)
  obtain rfl : i = 8 := by simpa using hi
  simp only [Act.put, List.setIfInBounds_toArray, List.set_cons_succ, List.set_cons_zero]
  refine xp8 (some 42) rfl rfl (wanted_none rfl _) (by go_simp; (try with_reducible rfl)) (R := fun u w' => u = .tuple #[.agg A.toArray, .int .i64 E] ∧ Below W6.heap.size W6 w') ((HNW.out _).mono (fun e w' h => ⟨_, h.1, rfl, h.2⟩)) ?_
  rintro u W7 ⟨rfl, hb⟩
  have s2 : W7.cell? ⟨g, 17, none⟩ = some (.string (bst f)) ∧ W7.cell? ⟨g, 18, none⟩ = some (.string (bst t)) := ⟨keep_cell hb s1.1, keep_cell hb s1.2⟩
  refine ⟨s2, ?_⟩
  have TW := hideT (TA.out.more (Tch.of (F := fun _ => False) hb))
  have HN := hideT ((hb.block _ (xah hN)).trans hN)
  generalize W5.drew.heap.size = NB at *
  clear hb hA hN
  refine tq 9 33 s2 ?_
  refine tq 10 43 s2 ?_
  refine tq 11 44 s2 ?_
  refine wpAnyH_all (rs := [13]) (by kernel_rfl) (by simp) (fun i hi => ?_)
  obtain rfl : i = 13 := by simpa using hi
  simp only [Act.put, List.setIfInBounds_toArray, List.set_cons_succ, List.set_cons_zero]
  have hsz : A.toArray.size = 256 := hAl
  refine op_of rfl (wanted_none rfl _) (wp_store_mid 165 _ _ rfl NB 0 A.toArray rfl rfl (by rw [hsz]; exact xcd HN.out 256 hZl) (by rw [xlu, hsz]) (by rw [Array.all_eq_true_iff_forall_mem]; exact fun u hu => hone u (by simpa using hu)) ?_)
  have T8 := hideT (Tch.newC (TW.out) hNB A 0)
  have s3 : (W7.setCells NB 0 A).cell? ⟨g, 17, none⟩ = some (.string (bst f)) ∧ (W7.setCells NB 0 A).cell? ⟨g, 18, none⟩ = some (.string (bst t)) := ⟨(World.cell?_of_block (xbg W7 NB hgn A 0)).trans s2.1, (World.cell?_of_block (xbg W7 NB hgn A 0)).trans s2.2⟩
  refine ⟨s3, ?_⟩
  refine tq 14 6 s3 ?_
  refine wpAnyH_done (by kernel_rfl) ?_ _
  simp only [Act.put, List.setIfInBounds_toArray]
  have H8 := hideT (H5.out.tch T8.out)
  have T9 := hideT (T5.out.more (T8.out.mono (fun _ h => h.elim)))
  generalize W7.setCells NB 0 A = W8 at *
  have d0 := H8.out.m.cell 0 (v := .int .i64 c.pl) rfl
  by_cases hbad : f.length ≠ t.length ∨ twB f = true
  ·rw [if_pos hbad] at hE R1
   have HN1 := hideT (xc4 E c.pl (by rw [hE]; decide))
   rw [hE] at HN1
   subst hE
   go_wp2_with fail
   refine (HN1.out _).mono ?_
   rintro x w9 ⟨rfl, rfl⟩
   go_wp2
   rw [R1.out]
   exact ⟨rfl, rfl, T9.out⟩
  ·rw [if_neg hbad] at hE R1
   have HN1 := hideT (xdx c.pl)
   subst hE
   go_wp2_with fail
   refine (HN1.out _).mono ?_
   rintro x w9 ⟨rfl, rfl⟩
   go_wp2
   go_end0
   rw [R1.out]
   exact ⟨rfl, H8.out.r, T9.out, pv, H8.out.m, H8.out.p⟩
theorem tabOk : xop := fun _ _ _ _ _ _ _ w h hi hs => xp9 w h hi hs
theorem xqa (w : World) (o1 o2 : Obj) : Below w.heap.size w ((w.alloc o1).alloc o2) ∧ ((w.alloc o1).alloc o2).heap[w.heap.size]? = some o1 ∧ ((w.alloc o1).alloc o2).heap[w.heap.size + 1]? = some o2 := by
 have e1 : (w.alloc o1).heap.size = w.heap.size + 1 := by simp
 have hA := (Below.refl w.heap.size w).alloc (Nat.le_refl _) o1
 have hA2 := (Below.refl (w.alloc o1).heap.size (w.alloc o1)).alloc (Nat.le_refl _) o2
 refine ⟨hA.trans (hA2.mono hA.size), (hA2.block _ (by rw [e1]; omega)).trans (heap_alloc_new w o1), ?_⟩
 rw [← e1]
 exact heap_alloc_new _ _
noncomputable def gM : Gr := fun t => ((br.ofM (bst t)).2.1.toNat, (br.ofM (bst t)).1.groups.toNat)
theorem xqb (s : ByteArray) : 0 ≤ (br.ofM s).1.groups := by
 unfold br.ofM
 cases h : br.parseT s with
 | ok ts => exact (br.parse_measure s ts h).2.2.1
 | error x => exact Int.le_refl 0
theorem newOk (hpos : ∀ s, 0 ≤ (br.ofM s).2.1) : xf2 gM := by
 intro t w ht hg
 have hmf : ∀ (fn : Fn) (first cap : Array Value) (w : World), (Instr.makeFunc fn first cap).run Tryz.prog w = .ok (.func fn first cap) w := fun _ _ _ _ => rfl
 have hA := (Below.refl w.heap.size w).alloc (Nat.le_refl _) (.cells #[.int .i64 0, .int .i64 0] 29)
 have hN := heap_alloc_new w (.cells #[.int .i64 0, .int .i64 0] 29)
 have HO := hideT (br.mOf_any (bst t) (w.alloc (.cells #[.int .i64 0, .int .i64 0] 29)) (show br.Glob _ from (hg.stay (Tch.of (F := fun _ => False) hA) (fun _ h => h.elim)).1))
 have hp := hpos (bst t)
 have hgr := xqb (bst t)
 have HE : gM t = ((br.ofM (bst t)).2.1.toNat, (br.ofM (bst t)).1.groups.toNat) := rfl
 rw [HE]
 clear HE hpos
 generalize br.ofM (bst t) = M at *
 obtain ⟨⟨m1, m2, m3, m4, m5, m6, m7⟩, e, p⟩ := M
 simp only at hp hgr HO ⊢
 obtain ⟨en, rfl⟩ := Int.eq_ofNat_of_zero_le hp
 obtain ⟨gn, rfl⟩ := Int.eq_ofNat_of_zero_le hgr
 simp only [Int.toNat_natCast]
 have HA := hideT (And.intro hA hN)
 have HC := hideT (fun w => prg.clone_any (bst t) w (by rw [xbt]; omega))
 clear hA hN hp hgr hg
 by_cases he : en = 0
 ·subst he
  go_enter Tryz.func118, Tryz.ntmps118
  go_wp2_with fail
  generalize w.alloc (.cells #[.int .i64 0, .int .i64 0] 29) = Y at *
  refine HO.out.mono ?_
  rintro x w1 ⟨rfl, hb⟩
  have N1 := (hb.block _ (xah HA.out.2)).trans HA.out.2
  have B1 := HA.out.1.trans (hb.mono HA.out.1.size)
  obtain ⟨hB2, k1, k2⟩ := xqa w1 (.cells #[.int .i64 m1, .int .i64 gn, .int .i64 m3, .int .i64 m4, .bool m5, .bool m6, .bool m7] 205) (.cells #[.int .i64 ((0 : Nat) : Int), .int .i64 p] 29)
  have hw1 := xah N1
  have N2 := (hB2.block _ hw1).trans N1
  have B2 := B1.trans (hB2.mono B1.size)
  have K := hideT (And.intro N2 (And.intro k1 (And.intro k2 B2)))
  clear hb HO HA N1 B1 hB2 k1 k2 N2 B2
  simp only [br.Ms.arr]
  go_wp2_with fail
  generalize (w1.alloc (.cells #[.int .i64 m1, .int .i64 gn, .int .i64 m3, .int .i64 m4, .bool m5, .bool m6, .bool m7] 205)).alloc (.cells #[.int .i64 ((0 : Nat) : Int), .int .i64 p] 29) = V at *
  refine (HC.out V).mono ?_
  rintro x w2 ⟨rfl, hb2⟩
  obtain ⟨h0, h1, h2, h3⟩ := K.out
  have g1 := (hb2.block _ (xah h1)).trans h1
  have g0 := (hb2.block _ (xah h0)).trans h0
  have B3 := h3.trans (hb2.mono h3.size)
  have hA := (Below.refl w2.heap.size w2).alloc (Nat.le_refl _)
  have q1 : w2.cell? ⟨w1.heap.size, 1, none⟩ = some (.int .i64 gn) := by simp [World.cell?, g1]
  have hlt1 := xah g1
  have hlt0 := xah g0
  have q4 : ∀ o, (w2.alloc o).cell? ⟨w1.heap.size, 4, none⟩ = some (.bool m5) := fun o => by rw [World.cell?_alloc_lt _ _ _ hlt1]; simp [World.cell?, g1]
  have r0 : ∀ o, (w2.alloc o).cell? ⟨w.heap.size, 0, none⟩ = some (.int .i64 0) := fun o => by rw [World.cell?_alloc_lt _ _ _ hlt0]; simp [World.cell?, g0]
  have r1 : ∀ o, (w2.alloc o).cell? ⟨w.heap.size, 1, none⟩ = some (.int .i64 0) := fun o => by rw [World.cell?_alloc_lt _ _ _ hlt0]; simp [World.cell?, g0]
  have z0 : ∀ o, (w2.alloc o).frozen? ⟨w.heap.size, 0, none⟩ = false := fun o => by rw [World.frozen?_alloc_old _ _ _ (Nat.ne_of_lt hlt0)]; simp [World.frozen?, g0]
  have z1 : ∀ o, (w2.alloc o).frozen? ⟨w.heap.size, 1, none⟩ = false := fun o => by rw [World.frozen?_alloc_old _ _ _ (Nat.ne_of_lt hlt0)]; simp [World.frozen?, g0]
  have KN : ∀ fv, Hid ((w2.alloc (.cells #[.string (bst t), .int .i64 gn, fv, .int .i64 0] 212)).heap[w.heap.size]? = some (.cells #[.int .i64 0, .int .i64 0] 29) ∧ (w2.alloc (.cells #[.string (bst t), .int .i64 gn, fv, .int .i64 0] 212)).heap[w2.heap.size]? = some (.cells #[.string (bst t), .int .i64 gn, fv, .int .i64 0] 212) ∧ Below w.heap.size w (w2.alloc (.cells #[.string (bst t), .int .i64 gn, fv, .int .i64 0] 212))) := fun fv => by
   have hX := (Below.refl w2.heap.size w2).alloc (Nat.le_refl _) (.cells #[.string (bst t), .int .i64 gn, fv, .int .i64 0] 212)
   exact hideT ⟨(hX.block _ hlt0).trans g0, heap_alloc_new w2 _, B3.trans (hX.mono B3.size)⟩
  have hne : w2.heap.size ≠ w.heap.size := by omega
  have HNE := hideT hne
  clear h0 h1 h2 h3 g0 g1 B3 K hb2 HC hA hlt0 hlt1 hw1 hne
  cases m5 with
  | false =>
   go_wp2
   obtain ⟨u0, u1, u2⟩ := (KN (.func (.func 145) #[.string (bst t)] #[])).out
   have u3 := ytb.put2 u0 (.int .i64 0) (.int .i64 0)
   refine bodyPost_ret (tpl.fault_result (b := w.heap.size) (fr := (0, 0)) rfl rfl u3) rfl ?_
   refine ⟨(u2.setCell (p := ⟨w.heap.size, 0, none⟩) (Nat.le_refl _) _).setCell (p := ⟨w.heap.size, 1, none⟩) (Nat.le_refl _) _, .inl ⟨trivial, w2.heap.size, rfl, ?_⟩⟩
   refine (World.cell?_of_block ((put_far _ w.heap.size 1 _ HNE.out).trans (put_far _ w.heap.size 0 _ HNE.out))).trans ?_
   simp only [World.cell?, u1]; rfl
  | true =>
   go_wp2
   obtain ⟨u0, u1, u2⟩ := (KN (.func (.func 146) #[.string (bst t)] #[])).out
   have u3 := ytb.put2 u0 (.int .i64 0) (.int .i64 0)
   refine bodyPost_ret (tpl.fault_result (b := w.heap.size) (fr := (0, 0)) rfl rfl u3) rfl ?_
   refine ⟨(u2.setCell (p := ⟨w.heap.size, 0, none⟩) (Nat.le_refl _) _).setCell (p := ⟨w.heap.size, 1, none⟩) (Nat.le_refl _) _, .inl ⟨trivial, w2.heap.size, rfl, ?_⟩⟩
   refine (World.cell?_of_block ((put_far _ w.heap.size 1 _ HNE.out).trans (put_far _ w.heap.size 0 _ HNE.out))).trans ?_
   simp only [World.cell?, u1]; rfl
 ·have c1 : ((en : Int) != 0) = true := by rw [bne_iff_ne]; omega
  go_enter Tryz.func118, Tryz.ntmps118
  go_wp2_with fail
  generalize w.alloc (.cells #[.int .i64 0, .int .i64 0] 29) = Y at *
  refine HO.out.mono ?_
  rintro x w1 ⟨rfl, hb⟩
  have N1 := (hb.block _ (xah HA.out.2)).trans HA.out.2
  have B1 := HA.out.1.trans (hb.mono HA.out.1.size)
  obtain ⟨hB2, k1, k2⟩ := xqa w1 (.cells #[.int .i64 m1, .int .i64 gn, .int .i64 m3, .int .i64 m4, .bool m5, .bool m6, .bool m7] 205) (.cells #[.int .i64 ((en : Nat) : Int), .int .i64 p] 29)
  have hw1 := xah N1
  have N2 := (hB2.block _ hw1).trans N1
  have B2 := B1.trans (hB2.mono B1.size)
  have K := hideT (And.intro N2 (And.intro k1 (And.intro k2 B2)))
  clear hb HO HA N1 B1 hB2 k1 k2 N2 B2
  simp only [br.Ms.arr]
  go_wp2_with fail
  generalize hV : (w1.alloc (.cells #[.int .i64 m1, .int .i64 gn, .int .i64 m3, .int .i64 m4, .bool m5, .bool m6, .bool m7] 205)).alloc (.cells #[.int .i64 ((en : Nat) : Int), .int .i64 p] 29) = V at *
  clear hV
  obtain ⟨h0, h1, h2, h3⟩ := K.out
  have a0 : V.cell? ⟨w1.heap.size + 1, 0, none⟩ = some (.int .i64 en) := by simp [World.cell?, h2]
  have a1 : V.cell? ⟨w1.heap.size + 1, 1, none⟩ = some (.int .i64 p) := by simp [World.cell?, h2]
  have b0 : V.cell? ⟨w.heap.size, 0, none⟩ = some (.int .i64 0) := by simp [World.cell?, h0]
  have b1 : V.cell? ⟨w.heap.size, 1, none⟩ = some (.int .i64 0) := by simp [World.cell?, h0]
  have z0 : V.frozen? ⟨w.heap.size, 0, none⟩ = false := by simp [World.frozen?, h0]
  have z1 : V.frozen? ⟨w.heap.size, 1, none⟩ = false := by simp [World.frozen?, h0]
  have HF := hideT (ytb.put2 h0 (.int .i64 en) (.int .i64 p))
  have B3 := hideT ((h3.setCell (p := ⟨w.heap.size, 0, none⟩) (Nat.le_refl _) (.int .i64 en)).setCell (p := ⟨w.heap.size, 1, none⟩) (Nat.le_refl _) (.int .i64 p))
  clear h0 h1 h2 h3 K
  go_region
  all_goals
   go_wp2
   generalize (V.setCell ⟨w.heap.size, 0, none⟩ (.int .i64 en)).setCell ⟨w.heap.size, 1, none⟩ (.int .i64 p) = V2 at *
   refine bodyPost_ret (tpl.fault_result (b := w.heap.size) (fr := (0, 0)) rfl rfl HF.out) rfl ?_
   exact ⟨B3.out.drew, .inr ⟨he, p, rfl⟩⟩
namespace br
theorem xqc (s : ByteArray) : 0 ≤ xi9 s := cc0 s
theorem mark_pos (s : ByteArray) (i : Nat) : 0 ≤ (xa2 s i).e := by
 unfold xa2
 split
 ·show (0 : Int) ≤ 6; decide
 ·split
  ·exact xqc _
  ·split
   ·exact Int.le_refl 0
   ·show (0 : Int) ≤ 8; decide
theorem xmo (s : ByteArray) (i : Nat) : 0 ≤ (xa4 s i).e := by
 unfold xa4
 split
 ·split
  ·exact mark_pos s i
  ·exact Int.le_refl 0
 ·show (0 : Int) ≤ 6; decide
theorem xqd (s : ByteArray) (a : It) : 0 ≤ (xg4 s a).e := by
 have h := xmo s (a.next + 1)
 unfold xg4
 split
 ·show (0 : Int) ≤ 6; decide
 ·split
  ·show (0 : Int) ≤ 7; decide
  ·split
   ·exact h
   ·split
    ·show (0 : Int) ≤ 7; decide
    ·exact Int.le_refl 0
theorem xqe (s : ByteArray) (i : Nat) : 0 ≤ (xa6 s i).e := by
 have h := xmo s i
 unfold xa6
 split
 ·exact h
 ·split
  ·exact xqd s _
  ·exact Int.le_refl 0
theorem xib (s : ByteArray) : ∀ (f : Nat) (b : Bool) (q : Nat → Bool) (i : Nat), 0 ≤ (xbe s f b q i).e
 | 0, b, q, i => by rw [xbe]; show (0 : Int) ≤ 6; decide
 | f + 1, b, q, i => by
  have h := xqe s i
  rw [xbe]
  split
  ·exact Int.le_refl 0
  ·split
   ·exact h
   ·exact xib s f _ _ _
theorem xnx (s : ByteArray) (i : Nat) : 0 ≤ (xco s i).e := by
 have h1 := xib s (s.size + 2) true xad (i + 1)
 have h2 := xib s (s.size + 2) true xad (i + 2)
 unfold xco
 split
 ·split
  ·split
   ·exact h2
   ·exact Int.le_refl 0
  ·split
   ·exact h1
   ·exact Int.le_refl 0
 ·show (0 : Int) ≤ 1; decide
theorem xny (s : ByteArray) (x : Int) : 0 ≤ (xay s x).e := by
 unfold xay
 split
 ·exact xnx s _
 ·show (0 : Int) ≤ 1; decide
theorem xld (s : ByteArray) (i : Nat) : 0 ≤ (xcp s i).e := by
 have h := xny s i
 unfold xcp
 split
 ·exact h
 ·exact Int.le_refl 0
theorem xjx (s : ByteArray) (i : Nat) : 0 ≤ (xbm s i).e := by
 unfold xbm ivlT
 dsimp only
 repeat' split
 all_goals first | exact Int.le_refl 0 | (show (0 : Int) ≤ 9; decide)
theorem xnz (s : ByteArray) (i k : Nat) : 0 ≤ (xc6 s i k).e := by
 have h := xjx s i
 unfold xc6
 split
 ·show (0 : Int) ≤ 6; decide
 ·unfold escB
  repeat' split
  all_goals first | exact h | exact Int.le_refl 0 | (show (0 : Int) ≤ 9; decide) | (show (0 : Int) ≤ 12; decide)
theorem xqf (s : ByteArray) (i k : Nat) : 0 ≤ (tokenT s i k).e := by
 have h1 := xnz s i k
 have h2 := xld s i
 unfold tokenT
 split
 ·exact h1
 ·split
  ·exact h2
  ·repeat' split
   all_goals exact Int.le_refl 0
theorem xdi (P : Ps) : 0 ≤ P.grown.1 := by
 show 0 ≤ bigE P.size
 unfold bigE
 split <;> decide
theorem take_pos (P : Ps) (t : Tk) (h : 0 ≤ t.e) : 0 ≤ (P.take t).1 := by
 unfold Ps.take
 split
 ·exact h
 ·exact xdi _
 ·exact xdi _
 ·exact xdi _
 ·split
  ·show (0 : Int) ≤ 4; decide
  ·exact Int.le_refl 0
 ·split
  ·show (0 : Int) ≤ 10; decide
  ·exact Int.le_refl 0
 ·split
  ·exact xdi _
  ·show (0 : Int) ≤ 11; decide
 ·split
  ·exact Int.le_refl 0
  ·exact xdi _
theorem xqg (s : ByteArray) : ∀ (f i k : Nat) (P : Ps) (e : Int) (p : Nat), runT s f i k P = .error (e, p) → 0 ≤ e
 | 0, i, k, P, e, p, h => by rw [runT] at h; cases h
 | f + 1, i, k, P, e, p, h => by
  rw [runT] at h
  split at h
  ·split at h
   ·exact xqg s f _ _ _ e p h
   ·cases h; exact take_pos P _ (xqf s i k)
  ·cases h
theorem xn0 (s : ByteArray) (e : Int) (p : Nat) (h : parseT s = .error (e, p)) : 0 ≤ e := by
 unfold parseT at h
 split at h
 ·cases h; decide
 ·split at h
  ·rename_i x hx
   cases h
   exact xqg s _ _ _ _ e p hx
  ·split at h
   ·cases h
   ·cases h; decide
theorem of_pos (s : ByteArray) : 0 ≤ (ofM s).2.1 := by
 unfold ofM
 cases h : parseT s with
 | ok ts => exact Int.le_refl 0
 | error x => obtain ⟨e, p⟩ := x; exact xn0 s e p h
end br
theorem new_ok : xf2 gM := newOk br.of_pos
theorem parse_ok (s : ByteArray) (hs : s.size ≤ 140737488355000) (w : World) (hg : Gl w) : Calls Tryz.prog 11 #[.string s] w (PP gM s w) := Go.Proofs.YtidgnebbibkmhaaGreatDoor.parse_any new_ok tabOk s hs w hg
theorem xic {W : World} {g o : Nat} {c : Co} {pv : Value} (h : W.rangeAt g o (coV c pv)) : g < W.heap.size := tpl.cell_lt (h 0 _ rfl)
theorem xdr {W W' : World} {g o : Nat} {xs : List Value} (h : W.rangeAt g o xs) (e : W'.heap[g]? = W.heap[g]?) : W'.rangeAt g o xs := fun j v hv => (World.cell?_of_block (a := ⟨g, o + j, none⟩) e).trans (h j v hv)
def CRow (W : World) (v : Value) (l : List Co) : Prop := ∃ a cp, v = .slice a l.length cp ∧ ∀ (k : Nat) (c : Co), l[k]? = some c → ∃ g o pv, a = some ⟨g, o, none⟩ ∧ W.rangeAt g (o + k * 19) (coV c pv) ∧ PRow W pv c.ps
theorem xqh (b : UInt8) (n : Nat) (ht : br.tokenT (bst [b]) 0 4 = br.selfT n 0 1) : br.parseT (bst [b]) = .ok [br.byteT (br.selfP n)] := by
 have hz : (bst [b]).size = 1 := rfl
 have e1 : br.runT (bst [b]) ((bst [b]).size + 1) 0 4 br.Ps.start = .ok (br.Ps.start.add (br.byteT (br.selfP n)) 1) := by
  rw [hz, br.runT, if_pos (by rw [hz]; decide), ht]
  have e2 : br.Ps.start.take (br.selfT n 0 1) = (0, br.Ps.start.add (br.byteT (br.selfP n)) 1) := rfl
  rw [e2, if_pos rfl, br.runT, if_neg (by rw [hz]; show ¬ (1 < 1); decide)]
 unfold br.parseT
 rw [if_neg (by rw [hz]; decide), e1]
 rfl
theorem g_one (b : UInt8) (n : Nat) (ht : br.tokenT (bst [b]) 0 4 = br.selfT n 0 1) : gM [b] = (0, 0) := by
 unfold gM br.ofM
 rw [xqh b n ht]
 rfl
theorem coX_at : ∀ (l : List (Co × Value)) (k : Nat) (x : Co × Value), l[k]? = some x → ∀ (j : Nat) (v : Value), (coV x.1 x.2)[j]? = some v → (coX l)[k * 19 + j]? = some v
 | [], k, x, h, j, v, hv => by simp at h
 | y :: r, 0, x, h, j, v, hv => by
  have e : y = x := by simpa using h
  subst e
  have hj := (List.getElem?_eq_some_iff.1 hv).1
  rw [coX, Nat.zero_mul, Nat.zero_add, List.getElem?_append_left hj]
  exact hv
 | y :: r, k + 1, x, h, j, v, hv => by
  have h' : r[k]? = some x := by simpa using h
  rw [coX, List.getElem?_append_right (by rw [xf7]; omega), xf7, show (k + 1) * 19 + j - 19 = k * 19 + j by omega]
  exact coX_at r k x h' j v hv
theorem Gl.below {w w' : World} (h : Gl w) (hb : Below w.heap.size w w') : Gl w' := (h.stay (Tch.of (F := fun _ => False) hb) (fun _ h => h.elim))
namespace emP
open scrP ckp ckp.chkP
def toCm (c : Co) : Cm := ⟨c.pl, c.a.k, c.b.k, c.nt, c.nm, c.lb⟩
def wrB (c : Co) : Bool := c.nm == 119 || c.nm == 115 && !c.fl.isEmpty
structure Js where
 ends : Nat → Nat
 labs : List UInt8 → Nat
 op : List Nat
def Js.step (s : Js) (i : Nat) (c : Co) : Js :=
 if c.nm = 123 then { s with op := s.op ++ [i] }
 else if c.nm = 125 then { s with ends := fun j => if j = s.op.getLastD 0 then i else s.ends j, op := s.op.dropLast }
 else if c.nm = 58 then { s with labs := fun t => if t = c.lb then i else s.labs t }
 else s
def jsR (l : List Co) : Nat → Js
 | 0 => ⟨fun _ => 0, fun t => if t = [] then l.length else 0, []⟩
 | k + 1 => match l[k]? with
  | none => jsR l k
  | some c => (jsR l k).step k c
theorem xie (l : List Co) (k : Nat) (c : Co) (h : l[k]? = some c) : jsR l (k + 1) = (jsR l k).step k c := by
 rw [jsR, h]
def depO : List Co → Option Nat → Option Nat
 | [], o => o
 | c :: r, o => depO r (match o with
  | none => none
  | some n => if c.nm = 123 then some (n + 1) else if c.nm = 125 then (if n ≤ 1 then none else some (n - 1)) else if n = 0 then none else some n)
theorem xek (x y : List Co) (o : Option Nat) : depO (x ++ y) o = depO y (depO x o) := by
 induction x generalizing o with
 | nil => rfl
 | cons c r ih => exact ih _
theorem xel {l : List Co} {k i : Nat} {c : Co} (h : l[k]? = some c) (hi : i ≤ k) : (l.take (k + 1)).drop i = (l.take k).drop i ++ [c] := by
 obtain ⟨hk, e⟩ := List.getElem?_eq_some_iff.1 h
 rw [List.take_succ_eq_append_getElem hk, e, List.drop_append_of_le_length (by rw [List.length_take]; omega)]
theorem dep_open {l : List Co} {k i n : Nat} {c : Co} (h : l[k]? = some c) (hi : i ≤ k) (hc : c.nm = 123) (hd : depO ((l.take k).drop i) (some 0) = some n) : depO ((l.take (k + 1)).drop i) (some 0) = some (n + 1) := by
 rw [xel h hi, xek, hd]; simp [depO, hc]
theorem dep_shut {l : List Co} {k i n : Nat} {c : Co} (h : l[k]? = some c) (hi : i ≤ k) (hc : c.nm = 125) (hn : 2 ≤ n) (hd : depO ((l.take k).drop i) (some 0) = some n) : depO ((l.take (k + 1)).drop i) (some 0) = some (n - 1) := by
 rw [xel h hi, xek, hd]; simp [depO, hc]; omega
theorem dep_else {l : List Co} {k i n : Nat} {c : Co} (h : l[k]? = some c) (hi : i ≤ k) (h1 : c.nm ≠ 123) (h2 : c.nm ≠ 125) (hn : 1 ≤ n) (hd : depO ((l.take k).drop i) (some 0) = some n) : depO ((l.take (k + 1)).drop i) (some 0) = some n := by
 rw [xel h hi, xek, hd]; simp [depO, h1, h2]; omega
def Meets (l : List Co) (k i j : Nat) : Prop := i < j ∧ j < k ∧ (∃ c, l[j]? = some c ∧ c.nm = 125) ∧ depO ((l.take j).drop i) (some 0) = some 1
structure JI (l : List Co) (k : Nat) (s : Js) : Prop where
 st : ∀ (p i : Nat), s.op[p]? = some i → i < k ∧ depO ((l.take k).drop i) (some 0) = some (s.op.length - p)
 br : ∀ (i : Nat) (c : Co), i < k → l[i]? = some c → c.nm = 123 → i ∈ s.op ∨ Meets l k i (s.ends i)
 la : ∀ (t : List UInt8), t ≠ [] → labB ((l.take k).map toCm) t = true → ∃ c, l[s.labs t]? = some c ∧ s.labs t < k ∧ c.nm = 58 ∧ c.lb = t
 le : s.labs [] = l.length
 en : ∀ i, s.ends i ≤ l.length
 lt : ∀ t, s.labs t ≤ l.length
theorem JI.start (l : List Co) : JI l 0 (jsR l 0) := ⟨fun p i h => by simp [jsR] at h, fun i c h => by omega, fun t _ h => by simp [labB] at h, by simp [jsR], fun i => Nat.zero_le _, fun t => by simp only [jsR]; split <;> omega⟩
theorem Meets.up {l : List Co} {k i j : Nat} (h : Meets l k i j) : Meets l (k + 1) i j := ⟨h.1, by have := h.2.1; omega, h.2.2⟩
theorem xft (l : List Co) (k : Nat) (c : Co) (h : l[k]? = some c) (t : List UInt8) : labB ((l.take (k + 1)).map toCm) t = (labB ((l.take k).map toCm) t || (c.nm == 58 && c.lb == t)) := by
 obtain ⟨hk, e⟩ := List.getElem?_eq_some_iff.1 h
 rw [List.take_succ_eq_append_getElem hk, e]
 simp [labB, toCm]
theorem JI.next {l : List Co} {k : Nat} {s : Js} {c : Co} (h : JI l k s) (hc : l[k]? = some c) (hs : c.nm = 125 → s.op ≠ []) (hl : c.nm = 58 → c.lb ≠ []) : JI l (k + 1) (s.step k c) := by
 have hk := (List.getElem?_eq_some_iff.1 hc).1
 unfold Js.step
 by_cases h1 : c.nm = 123
 ·rw [if_pos h1]
  refine ⟨fun p i hp => ?_, fun i d hi hd hn => ?_, fun t ht hb => ?_, h.le, h.en, h.lt⟩
  ·simp only at hp ⊢
   rcases Nat.lt_or_ge p s.op.length with hq | hq
   ·rw [List.getElem?_append_left hq] at hp
    obtain ⟨a, b⟩ := h.st p i hp
    refine ⟨by omega, ?_⟩
    rw [dep_open hc (by omega) h1 b, List.length_append]
    simp only [List.length_singleton]
    congr 1; omega
   ·rw [List.getElem?_append_right hq] at hp
    have : p - s.op.length = 0 := by
     have := (List.getElem?_eq_some_iff.1 hp).1
     simp at this; omega
    rw [this] at hp
    simp at hp
    subst hp
    refine ⟨by omega, ?_⟩
    rw [xel hc (Nat.le_refl _), List.drop_of_length_le (by simp; omega)]
    simp [depO, h1]
    omega
  ·simp only at *
   rcases Nat.lt_or_ge i k with hik | hik
   ·rcases h.br i d hik hd hn with h2 | h2
    ·exact .inl (by simp [h2])
    ·exact .inr h2.up
   ·obtain rfl : i = k := by omega
    exact .inl (by simp)
  ·rw [xft l k c hc] at hb
   have : (c.nm == 58) = false := by rw [h1]; rfl
   rw [this, Bool.false_and, Bool.or_false] at hb
   obtain ⟨d, a, b, e⟩ := h.la t ht hb
   exact ⟨d, a, by simp only at *; omega, e⟩
 ·rw [if_neg h1]
  by_cases h2 : c.nm = 125
  ·rw [if_pos h2]
   obtain ⟨q, z, hz⟩ : ∃ q z, s.op = q ++ [z] := by
    rcases List.eq_nil_or_concat s.op with e | ⟨q, z, e⟩
    ·exact absurd e (hs h2)
    ·exact ⟨q, z, by rw [e, List.concat_eq_append]⟩
   have hq : s.op[q.length]? = some z := by rw [hz]; simp
   have htop := h.st _ _ hq
   have hlast : s.op.getLastD 0 = z := by rw [hz]; simp
   have hdr : s.op.dropLast = q := by rw [hz]; simp
   refine ⟨fun p i hp => ?_, fun i d hi hd hn => ?_, fun t ht hb => ?_, h.le, fun i => ?_, h.lt⟩
   ·simp only at hp ⊢
    rw [hdr] at hp ⊢
    have hpl := (List.getElem?_eq_some_iff.1 hp).1
    obtain ⟨a, b⟩ := h.st p i (by rw [hz, List.getElem?_append_left hpl]; exact hp)
    refine ⟨by omega, ?_⟩
    rw [hz, List.length_append] at b
    rw [dep_shut hc (by omega) h2 (by simp; omega) b]
    simp only [List.length_singleton]
    congr 1; omega
   ·simp only
    rw [hlast, hdr]
    rcases Nat.lt_or_ge i k with hik | hik
    ·by_cases hiz : i = z
     ·right
      rw [if_pos hiz]
      subst hiz
      refine ⟨hik, by omega, ⟨c, hc, h2⟩, ?_⟩
      have := htop.2
      rw [hz] at this
      simpa using this
     ·rw [if_neg hiz]
      rcases h.br i d hik hd hn with h3 | h3
      ·left
       rw [hz] at h3
       rcases List.mem_append.1 h3 with h3 | h3
       ·exact h3
       ·exact absurd (List.mem_singleton.1 h3) hiz
      ·exact .inr h3.up
    ·obtain rfl : i = k := by omega
     rw [hc] at hd
     cases hd
     exact absurd hn h1
   ·rw [xft l k c hc] at hb
    have : (c.nm == 58) = false := by rw [h2]; rfl
    rw [this, Bool.false_and, Bool.or_false] at hb
    obtain ⟨d, a, b, e⟩ := h.la t ht hb
    exact ⟨d, a, by simp only at *; omega, e⟩
   ·simp only
    split
    ·omega
    ·exact h.en i
  ·rw [if_neg h2]
   have hst : ∀ (p i : Nat), s.op[p]? = some i → i < k + 1 ∧ depO ((l.take (k + 1)).drop i) (some 0) = some (s.op.length - p) := fun p i hp => by
    obtain ⟨a, b⟩ := h.st p i hp
    have hpl := (List.getElem?_eq_some_iff.1 hp).1
    exact ⟨by omega, dep_else hc (by omega) h1 h2 (by omega) b⟩
   have hbr : ∀ (i : Nat) (d : Co), i < k + 1 → l[i]? = some d → d.nm = 123 → i ∈ s.op ∨ Meets l (k + 1) i (s.ends i) := fun i d hi hd hn => by
    rcases Nat.lt_or_ge i k with hik | hik
    ·rcases h.br i d hik hd hn with h3 | h3
     ·exact .inl h3
     ·exact .inr h3.up
    ·obtain rfl : i = k := by omega
     rw [hc] at hd
     cases hd
     exact absurd hn h1
   by_cases h3 : c.nm = 58
   ·rw [if_pos h3]
    refine ⟨hst, hbr, fun t ht hb => ?_, ?_, h.en, fun t => ?_⟩
    ·simp only
     by_cases htc : t = c.lb
     ·rw [if_pos htc]
      exact ⟨c, hc, by omega, h3, htc.symm⟩
     ·rw [if_neg htc]
      rw [xft l k c hc] at hb
      have : (c.lb == t) = false := by rw [beq_eq_false_iff_ne]; exact fun e => htc e.symm
      rw [this, Bool.and_false, Bool.or_false] at hb
      obtain ⟨d, a, b, e⟩ := h.la t ht hb
      exact ⟨d, a, by omega, e⟩
    ·simp only
     rw [if_neg (fun e => hl h3 e.symm)]
     exact h.le
    ·simp only
     split
     ·omega
     ·exact h.lt t
   ·rw [if_neg h3]
    refine ⟨hst, hbr, fun t ht hb => ?_, h.le, h.en, h.lt⟩
    rw [xft l k c hc] at hb
    have : (c.nm == 58) = false := by rw [beq_eq_false_iff_ne]; exact h3
    rw [this, Bool.false_and, Bool.or_false] at hb
    obtain ⟨d, a, b, e⟩ := h.la t ht hb
    exact ⟨d, a, by omega, e⟩
theorem one_ok {pre : List Cm} {d : Nat} {c : Cm} (h : (oneR pre d c).1 = 0) : (c.nm = 123 → (oneR pre d c).2 = d + 1 ∧ d + 1 ≤ 16) ∧ (c.nm = 125 → 0 < d ∧ (oneR pre d c).2 = d - 1) ∧ (c.nm ≠ 123 → c.nm ≠ 125 → (oneR pre d c).2 = d) ∧ (c.nm = 58 → c.lb ≠ []) := by
 unfold oneR at h ⊢
 by_cases ha : adrR c = 0
 ·simp only [ha, ne_eq, not_true, if_false] at h ⊢
  by_cases h1 : c.nm = 123
  ·simp only [h1, if_true] at h ⊢
   by_cases h2 : 16 < d + 1
   ·simp [h2] at h
   ·simp [h2]; omega
  ·by_cases h2 : c.nm = 125
   ·simp only [h2] at h ⊢
    by_cases h3 : d = 0
    ·simp [h3] at h
    ·simp [h3]; omega
   ·simp only [h1, h2, if_false] at h ⊢
    by_cases h3 : c.nm = 58 ∧ (c.lb = [] ∨ 32 < c.lb.length ∨ labB pre c.lb = true)
    ·rw [if_pos h3] at h; cases h
    ·rw [if_neg h3]
     refine ⟨fun e => absurd e id, fun e => absurd e id, fun _ _ => rfl, fun e he => h3 ⟨e, .inl he⟩⟩
 ·simp [ha] at h
structure GI (l : List Co) (k : Nat) (s : Js) : Prop where
 ji : JI l k s
 go : goR ((l.take k).map toCm) s.op.length ((l.drop k).map toCm) = .inr 0
 le : s.op.length ≤ 16
theorem GI.start {l : List Co} (h : goR [] 0 (l.map toCm) = .inr 0) : GI l 0 (jsR l 0) := ⟨JI.start l, by simpa [jsR] using h, by simp [jsR]⟩
theorem GI.facts {l : List Co} {k : Nat} {s : Js} {c : Co} (h : GI l k s) (hc : l[k]? = some c) : (c.nm = 125 → s.op ≠ []) ∧ (c.nm = 58 → c.lb ≠ []) ∧ (c.nm = 123 → s.op.length + 1 ≤ 16) ∧ GI l (k + 1) (s.step k c) := by
 obtain ⟨hk, e⟩ := List.getElem?_eq_some_iff.1 hc
 have hg := h.go
 rw [List.drop_eq_getElem_cons hk, e, List.map_cons, goR] at hg
 split at hg
 ·cases hg
 ·rename_i h0
  have h0 : (oneR ((l.take k).map toCm) s.op.length (toCm c)).1 = 0 := by simpa using h0
  obtain ⟨o1, o2, o3, o4⟩ := one_ok h0
  have a1 : c.nm = 125 → s.op ≠ [] := fun hn he => by have := (o2 hn).1; rw [he] at this; simp at this
  refine ⟨a1, o4, fun hn => (o1 hn).2, h.ji.next hc a1 o4, ?_, ?_⟩
  ·have ht : (l.take (k + 1)).map toCm = (l.take k).map toCm ++ [toCm c] := by rw [List.take_succ_eq_append_getElem hk, e, List.map_append]; rfl
   have hlen : (s.step k c).op.length = (oneR ((l.take k).map toCm) s.op.length (toCm c)).2 := by
    unfold Js.step
    by_cases h1 : c.nm = 123
    ·rw [if_pos h1, (o1 h1).1]; simp
    ·rw [if_neg h1]
     by_cases h2 : c.nm = 125
     ·rw [if_pos h2, (o2 h2).2]; simp
     ·rw [if_neg h2, o3 h1 h2]
      split <;> rfl
   rw [ht, hlen]
   exact hg
  ·unfold Js.step
   by_cases h1 : c.nm = 123
   ·rw [if_pos h1]; have := (o1 h1).2; simp; omega
   ·rw [if_neg h1]
    have := h.le
    split
    ·simp; omega
    ·split <;> exact this
theorem GI.all {l : List Co} (h : goR [] 0 (l.map toCm) = .inr 0) : ∀ k, k ≤ l.length → GI l k (jsR l k)
 | 0, _ => GI.start h
 | k + 1, hk => by
  have hc : l[k]? = some (l[k]'hk) := List.getElem?_eq_getElem hk
  rw [xie l k _ hc]
  exact ((GI.all h k (by omega)).facts hc).2.2.2
end emP
def mv (n : Nat) (c : Co) : Co := { c with pl := n + c.pl }
theorem xig {l : List UInt8} {i : Nat} (hi : mtB l i [35] = true) : i < (xbi l i).2 := by
 have hl := xct hi
 unfold mtB at hi
 rw [List.getElem?_eq_getElem hl] at hi
 have hc : l[i] = 35 := by simpa using hi
 unfold xbi
 have hb : xab l i = i := by
  unfold xab
  rw [xhh hl, if_neg (by rw [hc]; decide)]
  rfl
 simp only [hb]
 rw [xn6 hl, if_neg (by rw [hc]; decide)]
 omega
theorem xem (l : List UInt8) : ∀ (n i : Nat), i ≤ l.length → l.length < n + i → cmsR l (n + 1) i = cmsR l n i
 | 0, i, h0, h => by omega
 | n + 1, i, h0, h => by
  rw [cmsR.eq_def l (n + 1 + 1), cmsR.eq_def l (n + 1)]
  simp only
  split
  ·rfl
  ·split
   ·rename_i hm
    exact xem l n _ (xct hm) (by omega)
   ·split
    ·rename_i hm
     have := xig hm
     exact xem l n _ (xis h0) (by omega)
    ·rfl
def cmF (l : List UInt8) (i : Nat) : Option Nat := cmsR l (l.length + 1) i
theorem xqo (l : List UInt8) (i : Nat) (h0 : i ≤ l.length) : cmF l i = if l.length ≤ i then none else if mtB l i [32, 9, 10, 59] then cmF l (i + 1) else if mtB l i [35] then cmF l (xbi l i).2 else some i := by
 unfold cmF
 rw [cmsR.eq_def]
 simp only
 split
 ·rfl
 ·split
  ·rename_i hm; have := xct hm; exact (xem l _ _ this (by omega)).symm
  ·split
   ·rename_i hm; have := xig hm; exact (xem l _ _ (xis h0) (by omega)).symm
   ·rfl
theorem xih (G : Gr) (l : List UInt8) : ∀ (n i : Nat) (acc : List Co), i ≤ l.length → l.length < n + i → allR G l (n + 1) i acc = allR G l n i acc
 | 0, i, acc, h0, h => by omega
 | n + 1, i, acc, h0, h => by
  rw [allR.eq_def G l (n + 1 + 1), allR.eq_def G l (n + 1)]
  simp only
  split
  ·rfl
  ·rename_i k hk
   have h1 := xe8 _ h0 hk
   split
   ·rfl
   ·rename_i c m hc
    have h2 := xf8 hc
    exact xih G l n _ _ h2.2 (by omega)
def alF (G : Gr) (l : List UInt8) (i : Nat) (acc : List Co) : Rd (List Co) := allR G l (l.length + 1) i acc
theorem xqp (G : Gr) (l : List UInt8) (i : Nat) (acc : List Co) (h0 : i ≤ l.length) : alF G l i acc = match cmF l i with
  | none => .ok acc
  | some k => match cmdR G l k with
   | .error x => .error x
   | .ok (c, m) => alF G l m (acc ++ [c]) := by
 unfold alF
 rw [allR.eq_def]
 simp only
 show (match cmF l i with | none => _ | some k => _) = _
 cases hk : cmF l i with
 | none => rfl
 | some k =>
  have h1 := xe8 _ h0 hk
  simp only
  cases hc : cmdR G l k with
  | error x => rfl
  | ok x =>
   obtain ⟨c, m⟩ := x
   have h2 := xf8 hc
   exact (xih G l l.length _ _ h2.2 (by omega)).symm
theorem not_le {l : List UInt8} {i : Nat} (hi : i ≤ l.length) : (notR l i).2 ≤ l.length := by
 have h := xao l i hi
 unfold notR
 split
 ·rename_i hm
  exact xao l _ (xct hm)
 ·exact h
def Er (l : List UInt8) (x : Nat × Nat) : Prop := x.1 ≠ 0 ∧ x.2 ≤ l.length
theorem xqw {l : List UInt8} {i e q : Nat} {x : Nat × Nat} (he : e ≠ 0) (hq : q ≤ l.length) (h : delR l i e q = .error x) : Er l x := by
 unfold delR at h
 split at h
 ·cases h; exact ⟨he, hq⟩
 ·split at h
  ·cases h; exact ⟨he, hq⟩
  ·cases h
theorem xmw {l : List UInt8} {i q : Nat} {d : UInt8} {ln : Bool} {x : Nat × Nat} (hq : q ≤ l.length) (h : pieR l i d ln q = .error x) : Er l x := by
 unfold pieR at h
 split at h
 ·cases h
 ·rename_i hn; cases h; exact ⟨hn, hq⟩
theorem er_grp {G : Gr} {l t : List UInt8} {q : Nat} {x : Nat × Nat} (hq : q ≤ l.length) (h : grpR G t q = .error x) : Er l x := by
 unfold grpR at h
 split at h
 ·cases h
 ·rename_i hn; cases h; exact ⟨hn, hq⟩
theorem er_mat {G : Gr} {l : List UInt8} {q i : Nat} {x : Nat × Nat} (hq : q ≤ l.length) (h : matR G l q i = .error x) : Er l x := by
 unfold matR at h
 split at h
 ·rename_i hd; cases h; exact xqw (by decide) hq hd
 ·split at h
  ·rename_i hp; cases h; exact xmw hq hp
  ·split at h
   ·rename_i hg; cases h; exact er_grp hq hg
   ·cases h
theorem er_one {G : Gr} {l : List UInt8} {i : Nat} {x : Nat × Nat} (hi : i ≤ l.length) (h : oneA G l i = .error x) : Er l x := by
 unfold oneA at h
 split at h
 ·unfold linR at h
  split at h
  ·cases h; exact ⟨Nat.succ_ne_zero _, hi⟩
  ·cases h
 ·split at h
  ·cases h
  ·split at h
   ·exact er_mat hi h
   ·split at h
    ·exact er_mat hi h
    ·cases h
theorem er_two {G : Gr} {l : List UInt8} {i : Nat} {x : Nat × Nat} (hi : i ≤ l.length) (h : twoA G l i = .error x) : Er l x := by
 unfold twoA at h
 split at h
 ·rename_i ho; cases h; exact er_one hi ho
 ·rename_i a k ho
  have hk := xew ho hi
  split at h
  ·cases h
  ·split at h
   ·rename_i hm
    have h1 := xao l (xab l k + 1) (xct hm)
    split at h
    ·rename_i h2; cases h; exact er_one h1 h2
    ·rename_i h2
     split at h
     ·cases h; exact ⟨Nat.succ_ne_zero _, xew h2 h1⟩
     ·cases h
   ·cases h
theorem xlg {l : List UInt8} {c : Co} {i : Nat} {x : Nat × Nat} (hi : i ≤ l.length) (h : endC l c i = .error x) : Er l x := by
 unfold endC endR at h
 split at h
 ·rename_i he
  cases h
  split at he
  ·cases he
  ·cases he; exact ⟨Nat.succ_ne_zero _, xao l i hi⟩
 ·cases h
theorem xqx {l : List UInt8} {c : Co} {i : Nat} {x : Nat × Nat} (hc : c.pl ≤ l.length) (h : filC l c i = .error x) : Er l x := by
 unfold filC filR at h
 split at h
 ·rename_i he
  cases h
  split at he
  ·cases he
  ·cases he; exact ⟨Nat.succ_ne_zero _, hc⟩
 ·cases h
theorem er_labC {l : List UInt8} {c : Co} {i : Nat} {x : Nat × Nat} (hc : c.pl ≤ l.length) (h : labC l c i = .error x) : Er l x := by
 unfold labC labR at h
 split at h
 ·rename_i he
  cases h
  split at he
  ·cases he; exact ⟨Nat.succ_ne_zero _, hc⟩
  ·cases he
 ·cases h
theorem er_txtC {l : List UInt8} {c : Co} {i : Nat} {x : Nat × Nat} (hc : c.pl ≤ l.length) (h : txtC l c i = .error x) : Er l x := by
 unfold txtC txtR at h
 split at h
 ·rename_i he
  cases h
  split at he
  ·cases he
  ·rename_i hn; cases he; exact ⟨hn, hc⟩
 ·cases h
theorem xmx {l : List UInt8} : ∀ (n : Nat) {c : Co} {i : Nat} {x : Nat × Nat}, c.pl ≤ l.length → i ≤ l.length → flgR l n c i = .error x → Er l x
 | 0, c, i, x, hc, hi, h => by cases h
 | n + 1, c, i, x, hc, hi, h => by
  unfold flgR at h
  split at h
  ·rename_i hm
   split at h
   ·cases h; exact ⟨Nat.succ_ne_zero _, hi⟩
   ·exact xmx n (by exact hc) (xct hm) h
  ·split at h
   ·rename_i hm
    split at h
    ·cases h; exact ⟨Nat.succ_ne_zero _, hi⟩
    ·exact xmx n (by exact hc) (xct hm) h
   ·split at h
    ·split at h
     ·cases h; exact ⟨Nat.succ_ne_zero _, hi⟩
     ·rename_i hn
      have he : (numR l i).2.2 = 0 := Decidable.not_not.1 fun e => hn (.inr (.inl e))
      exact xmx n (by exact hc) (xeu hi he) h
    ·split at h
     ·exact xqx hc h
     ·exact xlg hi h
theorem er_sed {G : Gr} {l : List UInt8} {c : Co} {i : Nat} {x : Nat × Nat} (hc : c.pl ≤ l.length) (h : sedR G l c i = .error x) : Er l x := by
 unfold sedR at h
 split at h
 ·rename_i hd; cases h; exact xqw (by decide) hc hd
 ·rename_i d j hd
  have hj := (xb4 hd).2.1
  split at h
  ·rename_i hp; cases h; exact xmw hc hp
  ·rename_i t k hp
   have hk := (xbd hp hj).2
   split at h
   ·rename_i hp; cases h; exact xmw hc hp
   ·rename_i u m hu
    have hm := (xbd hu hk).2
    split at h
    ·rename_i hg; cases h; exact er_grp hc hg
    ·split at h
     ·rename_i hn; cases h; exact ⟨hn, hc⟩
     ·split at h
      ·cases h; exact ⟨Nat.succ_ne_zero _, hc⟩
      ·split at h
       ·rename_i hf; cases h; exact xmx _ (by exact hc) hm hf
       ·cases h
theorem er_sid {l : List UInt8} {d : UInt8} {q i : Nat} {x : Nat × Nat} (hq : q ≤ l.length) (h : sidR l d q i = .error x) : Er l x := by
 unfold sidR at h
 split at h
 ·rename_i hp; cases h; exact xmw hq hp
 ·split at h
  ·cases h
  ·rename_i hn; cases h; exact ⟨hn, hq⟩
theorem er_tab {l : List UInt8} {c : Co} {i : Nat} {x : Nat × Nat} (hc : c.pl ≤ l.length) (h : tabR l c i = .error x) : Er l x := by
 unfold tabR at h
 split at h
 ·rename_i hd; cases h; exact xqw (by decide) hc hd
 ·split at h
  ·rename_i hp; cases h; exact er_sid hc hp
  ·split at h
   ·rename_i hp; cases h; exact er_sid hc hp
   ·split at h
    ·cases h; exact ⟨Nat.succ_ne_zero _, hc⟩
    ·cases h
theorem er_rst {G : Gr} {l : List UInt8} {c : Co} {i : Nat} {x : Nat × Nat} (hc : c.pl ≤ l.length) (hi : i ≤ l.length) (h : rstR G l c i = .error x) : Er l x := by
 unfold rstR at h
 split at h
 ·cases h
 ·split at h
  ·exact er_txtC hc h
  ·split at h
   ·exact er_labC hc h
   ·split at h
    ·exact xqx hc h
    ·split at h
     ·exact er_sed hc h
     ·split at h
      ·split at h
       ·rename_i ht; cases h; exact er_tab hc ht
       ·rename_i ht
        exact xlg (xho ht) h
      ·split at h
       ·exact xlg hi h
       ·cases h; exact ⟨Nat.succ_ne_zero _, hc⟩
theorem er_cmd {G : Gr} {l : List UInt8} {i : Nat} {x : Nat × Nat} (hi : i ≤ l.length) (h : cmdR G l i = .error x) : Er l x := by
 unfold cmdR at h
 split at h
 ·rename_i ht; cases h; exact er_two hi ht
 ·rename_i a b k ht
  have hn := not_le (xkd ht hi)
  split at h
  ·cases h; exact ⟨Nat.succ_ne_zero _, hn⟩
  ·rename_i nm hm
   have hlt := (List.getElem?_eq_some_iff.1 hm).1
   exact er_rst (by exact hn) hlt h
theorem xqy {G : Gr} {l : List UInt8} : ∀ (n : Nat) {i : Nat} {acc : List Co} {x : Nat × Nat}, i ≤ l.length → allR G l n i acc = .error x → Er l x
 | 0, i, acc, x, hi, h => by cases h
 | n + 1, i, acc, x, hi, h => by
  unfold allR at h
  split at h
  ·cases h
  ·rename_i k hk
   have h1 := xe8 _ hi hk
   split at h
   ·rename_i hc; cases h; exact er_cmd (by omega) hc
   ·rename_i c m hc
    exact xqy n (xf8 hc).2 h
theorem xqz (G : Gr) (l : List UInt8) (hl : l.length ≤ 4096) : scrR G l = (match alF G l 0 [] with | .error (e, p) => ([], false, e, p) | .ok cs => (cs, quiB l, 0, 0)) := by
 unfold scrR
 rw [if_neg (by omega)]
 rfl
theorem xhc {G : Gr} {l : List UInt8} (h : (scrR G l).2.2.1 = 0) : l.length ≤ 4096 ∧ ∃ cs, alF G l 0 [] = .ok cs ∧ scrR G l = (cs, quiB l, 0, 0) := by
 have hl : l.length ≤ 4096 := by
  unfold scrR at h
  split at h
  ·simp at h
  ·omega
 refine ⟨hl, ?_⟩
 rw [xqz G l hl] at h ⊢
 cases ha : alF G l 0 [] with
 | error x =>
  rw [ha] at h
  exact absurd h (xqy _ (Nat.zero_le _) ha).1
 | ok cs => exact ⟨cs, rfl, rfl⟩
def Sep (p : List UInt8) : Prop := ∀ q l : List UInt8, cmF (q ++ (p ++ l)) q.length = cmF (q ++ (p ++ l)) (q.length + p.length)
theorem Sep.nil : Sep [] := fun _ _ => rfl
theorem Sep.one {b : UInt8} (hb : [32, 9, 10, 59].contains b = true) : Sep [b] := fun q l => by
 have hg : (q ++ ([b] ++ l))[q.length]? = some b := by rw [List.getElem?_append_right (Nat.le_refl _), Nat.sub_self]; rfl
 have hm : mtB (q ++ ([b] ++ l)) q.length [32, 9, 10, 59] = true := by unfold mtB; rw [hg]; exact hb
 have hlt := xct hm
 rw [xqo _ _ (by omega), if_neg (by omega), if_pos hm]
 rfl
structure FO (c : Co) : Prop where
 lb : c.nm ≠ 58 → c.nm ≠ 98 → c.nm ≠ 116 → c.lb = []
 tx : c.nm ≠ 97 → c.nm ≠ 105 → c.nm ≠ 99 → c.tx = []
 fl : c.nm ≠ 114 → c.nm ≠ 119 → c.nm ≠ 115 → c.fl = []
 fr : c.nm ≠ 121 → c.fr = [] ∧ c.to = []
 sd : c.nm ≠ 115 → c.re = [] ∧ c.ps = [] ∧ c.nh = 0 ∧ c.an = false ∧ c.pr = false
 nh : c.nm = 115 → 1 ≤ c.nh ∧ c.nh ≤ 512
 te : c.nm = 97 ∨ c.nm = 105 ∨ c.nm = 99 → ∃ t, c.tx = t ++ [10]
 ft : c.fr.length = c.to.length
 ad : c.a.k = 0 → c.b.k = 0
structure Bg (c : Co) : Prop where
 lb : c.lb = []
 tx : c.tx = []
 fl : c.fl = []
 fr : c.fr = []
 to : c.to = []
 re : c.re = []
 ps : c.ps = []
 nh : c.nh = 0
 an : c.an = false
 pr : c.pr = false
 ad : c.a.k = 0 → c.b.k = 0
theorem two_ad {G : Gr} {l : List UInt8} {i k : Nat} {a b : Adr} (h : twoA G l i = .ok (a, b, k)) : a.k = 0 → b.k = 0 := by
 unfold twoA at h
 split at h
 ·cases h
 ·split at h
  ·cases h; intro _; rfl
  ·rename_i hn
   split at h
   ·split at h
    ·cases h
    ·split at h
     ·cases h
     ·cases h; intro h0; exact absurd h0 hn
   ·cases h; intro _; rfl
structure Fg (c : Co) (d : Co) : Prop where
 pl : d.pl = c.pl
 nm : d.nm = c.nm
 a : d.a = c.a
 b : d.b = c.b
 lb : d.lb = c.lb
 tx : d.tx = c.tx
 fr : d.fr = c.fr
 to : d.to = c.to
 nh : d.nh ≤ 512
theorem xen {l : List UInt8} : ∀ (n : Nat) {c d : Co} {i k : Nat}, c.nh ≤ 512 → flgR l n c i = .ok (d, k) → Fg c d
 | 0, c, d, i, k, hc, h => by cases h; exact ⟨rfl, rfl, rfl, rfl, rfl, rfl, rfl, rfl, hc⟩
 | n + 1, c, d, i, k, hc, h => by
  unfold flgR at h
  split at h
  ·split at h
   ·cases h
   ·have := xen n (by exact hc) h; exact ⟨this.pl, this.nm, this.a, this.b, this.lb, this.tx, this.fr, this.to, this.nh⟩
  ·split at h
   ·split at h
    ·cases h
    ·have := xen n (by exact hc) h; exact ⟨this.pl, this.nm, this.a, this.b, this.lb, this.tx, this.fr, this.to, this.nh⟩
   ·split at h
    ·split at h
     ·cases h
     ·rename_i hn
      have h5 : (numR l i).1 ≤ 512 := Nat.le_of_not_lt fun e => hn (.inr (.inr (.inr e)))
      have := xen n (by exact h5) h; exact ⟨this.pl, this.nm, this.a, this.b, this.lb, this.tx, this.fr, this.to, this.nh⟩
    ·split at h
     ·unfold filC at h
      split at h
      ·cases h
      ·cases h; exact ⟨rfl, rfl, rfl, rfl, rfl, rfl, rfl, rfl, hc⟩
     ·unfold endC at h
      split at h
      ·cases h
      ·cases h; exact ⟨rfl, rfl, rfl, rfl, rfl, rfl, rfl, rfl, hc⟩
theorem xlh : ∀ (x : List UInt8) (p : Nat) (t : List UInt8), (txR x p t).2.2 = 0 → ∃ y, (txR x p t).1 = y ++ [10]
 | [], p, t => by intro _; exact ⟨t, by simp [txR]⟩
 | [b], p, t => by
  unfold txR
  split
  ·intro _; exact ⟨t, rfl⟩
  ·split
   ·simp
   ·intro _; exact ⟨t ++ [b], rfl⟩
 | b :: c :: r, p, t => by
  have h1 := xlh (c :: r) (p + 1) (t ++ [b])
  have h2 := xlh r (p + 2) (t ++ [c])
  unfold txR
  split
  ·intro _; exact ⟨t, rfl⟩
  ·split
   ·exact h2
   ·exact h1
theorem xq0 {l : List UInt8} {i : Nat} (h : (scanP.textR l i).2.2 = 0) : ∃ y, (scanP.textR l i).1 = y ++ [10] := by
 unfold scanP.textR at h ⊢
 simp only at h ⊢
 split
 ·rename_i b c r hd
  rw [hd] at h
  simp only at h
  split
  ·rename_i hc
   rw [if_pos hc] at h
   split
   ·rename_i hr; rw [if_pos hr] at h; simp at h
   ·rename_i hr; rw [if_neg hr] at h; exact xlh _ _ _ h
  ·rename_i hc; rw [if_neg hc] at h; simp at h
 ·rename_i hx
  exfalso
  split at h
  ·rename_i hd; exact hx _ _ _ hd
  ·simp at h
theorem rst_fo {G : Gr} {l : List UInt8} {c d : Co} {i k : Nat} (hc : Bg c) (h : rstR G l c i = .ok (d, k)) : FO d ∧ d.pl = c.pl ∧ d.nm = c.nm := by
 unfold rstR at h
 split at h
 ·rename_i hn
  cases h
  exact ⟨⟨fun _ _ _ => hc.lb, fun _ _ _ => hc.tx, fun _ _ _ => hc.fl, fun _ => ⟨hc.fr, hc.to⟩, fun _ => ⟨hc.re, hc.ps, hc.nh, hc.an, hc.pr⟩, fun e => (by rw [hn] at e; cases e), fun e => absurd e (by rw [hn]; decide), by rw [hc.fr, hc.to], hc.ad⟩, rfl, rfl⟩
 ·split at h
  ·rename_i hn
   unfold txtC txtR at h
   split at h
   ·cases h
   ·rename_i ht
    split at ht
    ·rename_i he
     cases ht
     cases h
     have hl := xq0 he
     refine ⟨⟨fun _ _ _ => hc.lb, fun a b e => ?_, fun _ _ _ => hc.fl, fun _ => ⟨hc.fr, hc.to⟩, fun _ => ⟨hc.re, hc.ps, hc.nh, hc.an, hc.pr⟩, fun e => ?_, fun _ => hl, by rw [hc.fr, hc.to], hc.ad⟩, rfl, rfl⟩
     ·rcases hn with hn | hn | hn
      ·exact absurd hn a
      ·exact absurd hn b
      ·exact absurd hn e
     ·rcases hn with hn | hn | hn <;> · rw [show c.nm = 115 from e] at hn; cases hn
    ·cases ht
  ·rename_i hn1
   split at h
   ·rename_i hn
    unfold labC labR at h
    split at h
    ·cases h
    ·rename_i ht
     split at ht
     ·cases ht
     ·cases ht
      cases h
      refine ⟨⟨fun a b e => ?_, fun _ _ _ => hc.tx, fun _ _ _ => hc.fl, fun _ => ⟨hc.fr, hc.to⟩, fun _ => ⟨hc.re, hc.ps, hc.nh, hc.an, hc.pr⟩, fun e => ?_, fun e => absurd e hn1, by rw [hc.fr, hc.to], hc.ad⟩, rfl, rfl⟩
      ·rcases hn with hn | hn | hn
       ·exact absurd hn a
       ·exact absurd hn b
       ·exact absurd hn e
      ·rcases hn with hn | hn | hn <;> · rw [show c.nm = 115 from e] at hn; cases hn
   ·split at h
    ·rename_i hn
     unfold filC filR at h
     split at h
     ·cases h
     ·cases h
      refine ⟨⟨fun _ _ _ => hc.lb, fun _ _ _ => hc.tx, fun a b e => ?_, fun _ => ⟨hc.fr, hc.to⟩, fun _ => ⟨hc.re, hc.ps, hc.nh, hc.an, hc.pr⟩, fun e => ?_, fun e => absurd e hn1, by rw [hc.fr, hc.to], hc.ad⟩, rfl, rfl⟩
      ·rcases hn with hn | hn
       ·exact absurd hn a
       ·exact absurd hn b
      ·rcases hn with hn | hn <;> · rw [show c.nm = 115 from e] at hn; cases hn
    ·split at h
     ·rename_i hn
      unfold sedR at h
      split at h
      ·cases h
      ·split at h
       ·cases h
       ·split at h
        ·cases h
        ·split at h
         ·cases h
         ·split at h
          ·cases h
          ·split at h
           ·cases h
           ·split at h
            ·cases h
            ·rename_i d2 k2 hf
             cases h
             have hk := xen _ (by show c.nh ≤ 512; rw [hc.nh]; omega) hf
             have en : d2.nm = 115 := hk.nm.trans hn
             refine ⟨⟨fun _ _ _ => hk.lb.trans hc.lb, fun _ _ _ => hk.tx.trans hc.tx, fun _ _ e => absurd en e, fun _ => ⟨hk.fr.trans hc.fr, hk.to.trans hc.to⟩, fun e => absurd en e, fun _ => ⟨Nat.le_max_right _ _, Nat.max_le.2 ⟨hk.nh, by omega⟩⟩, fun e => absurd ?_ hn1, by show d2.fr.length = d2.to.length; rw [hk.fr, hk.to]; show c.fr.length = c.to.length; rw [hc.fr, hc.to], fun e => ?_⟩, hk.pl, hk.nm⟩
             ·have e2 : d2.nm = c.nm := hk.nm
              rw [← e2]; exact e
             ·have e1 : d2.a = c.a := hk.a
              have e2 : d2.b = c.b := hk.b
              show d2.b.k = 0
              rw [e2]
              refine hc.ad ?_
              rw [← e1]; exact e
     ·rename_i hns
      split at h
      ·rename_i hn
       split at h
       ·cases h
       ·rename_i c2 k2 ht
        unfold endC at h
        split at h
        ·cases h
        ·cases h
         unfold tabR at ht
         split at ht
         ·cases ht
         ·split at ht
          ·cases ht
          ·split at ht
           ·cases ht
           ·split at ht
            ·cases ht
            ·rename_i hne
             cases ht
             exact ⟨⟨fun _ _ _ => hc.lb, fun _ _ _ => hc.tx, fun _ _ _ => hc.fl, fun e => absurd hn e, fun _ => ⟨hc.re, hc.ps, hc.nh, hc.an, hc.pr⟩, fun e => absurd e hns, fun e => absurd e hn1, Decidable.not_not.1 fun e => hne (.inl e), hc.ad⟩, rfl, rfl⟩
      ·split at h
       ·unfold endC at h
        split at h
        ·cases h
        ·cases h
         exact ⟨⟨fun _ _ _ => hc.lb, fun _ _ _ => hc.tx, fun _ _ _ => hc.fl, fun _ => ⟨hc.fr, hc.to⟩, fun _ => ⟨hc.re, hc.ps, hc.nh, hc.an, hc.pr⟩, fun e => absurd e hns, fun e => absurd e hn1, by rw [hc.fr, hc.to], hc.ad⟩, rfl, rfl⟩
       ·cases h
theorem not_ge (l : List UInt8) (i : Nat) : i ≤ (notR l i).2 := by
 have h1 := xgr l i
 unfold notR
 split
 ·have h2 := xgr l (xab l i + 1)
  show i ≤ xab l (xab l i + 1)
  omega
 ·exact h1
theorem cmd_fo {G : Gr} {l : List UInt8} {i k : Nat} {c : Co} (h : cmdR G l i = .ok (c, k)) : FO c ∧ i ≤ c.pl ∧ c.pl < k ∧ l[c.pl]? = some c.nm := by
 unfold cmdR at h
 split at h
 ·cases h
 ·rename_i a b m ht
  have hm := two_ge ht
  have hg := not_ge l m
  split at h
  ·cases h
  ·rename_i nm hn
   have hlt := (List.getElem?_eq_some_iff.1 hn).1
   obtain ⟨h1, h2, h3⟩ := rst_fo ⟨rfl, rfl, rfl, rfl, rfl, rfl, rfl, rfl, rfl, rfl, two_ad ht⟩ h
   have h4 := rst_fw hlt h
   have h2' : c.pl = (notR l m).2 := h2
   have h3' : c.nm = nm := h3
   exact ⟨h1, by omega, by omega, by rw [h2', h3']; exact hn⟩
open Go.ChangeShapes Go.WideShapes Go.RowKit
theorem et : Tryz.prog.globalNamed "errors.errorType" = some 0 := by kernel_rfl
theorem rt : (Tryz.prog.cutTypes.find? (·.1 == "internal/reflectlite.rtype")).map (·.2) = some 119 := by kernel_rfl
theorem tysize : Tryz.prog.types.size = 435 := by kernel_rfl
theorem oneRow : ((List.range 435).filter fun t => Tryz.prog.rowNamed t [101, 114, 114, 111, 114]) = [58] := by kernel_rfl
noncomputable def startW (os : Os) : World :=
 let w0 := World.holding Tryz.prog os ⟨#[], #[], []⟩
 { w0 with heap := w0.heap.modify 0 fun
   | .cells _ t frozen => .cells #[.iface 119 (.agg #[.pointer (some ⟨7, 58, none⟩)])] t frozen
   | o => o }
end Go.Proofs.YtidgnebbibkmhaaGreatDoor
