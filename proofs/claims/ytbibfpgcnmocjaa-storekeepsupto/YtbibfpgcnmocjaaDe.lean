/- store: both stores beside one another; play. -/
import Derived.Test.YtbibfpgcnmocjaaDd
namespace Go.Proofs.Ytbibfpgcnmocjaa
open Go.RowKit

/-- The program's store (at b, of S) and the document's (at d, of S'), both newer than W0, apart from one another and from Q. -/
def Bo (W0 W : World) (b d : Nat) (S S' : Sr) (Q : Nat → Prop) : Prop := ∃ lv ov, FrP W0 W b S (fun k => dft d lv ov k ∨ Q k) ∧ DA W W0.heap.size d lv ov S' ∧ ∀ k, Q k → ¬ dft d lv ov k
section
variable {W0 W W' : World} {b d : Nat} {S S' S2 : Sr} {Q : Nat → Prop}
theorem Bo.bel (h : Bo W0 W b d S S' Q) : Below W0.heap.size W0 W := by
  obtain ⟨_, _, h, _⟩ := h
  exact h.bel
theorem Bo.callS {f : FuncId} {args : Array Value} {R : Value} (h : Bo W0 W b d S S' Q) (c : ∀ F, I0 W F b S → Calls Try.prog f args W (Pst F W b S2 R)) : Calls Try.prog f args W fun e w' => e = .returned R ∧ Bo W0 w' b d S2 S' Q ∧ Stay Q W w' := by
  obtain ⟨lv, ov, hF, hD, hQ⟩ := h
  refine (hF.call c).mono ?_
  rintro e w' ⟨rfl, h1, h2⟩
  exact ⟨rfl, ⟨lv, ov, h1, hD.keep (fun k hk => h2 k (.inl hk)), hQ⟩, fun k hk => h2 k (.inr hk)⟩
theorem Bo.callD {f : FuncId} {args : Array Value} {R : Value} (h : Bo W0 W b d S S' Q) (c : ∀ lv ov, DA W W0.heap.size d lv ov S' → Calls Try.prog f args W (Dst W W0.heap.size d lv ov S2 R)) : Calls Try.prog f args W fun e w' => e = .returned R ∧ Bo W0 w' b d S S2 Q ∧ Stay Q W w' := by
  obtain ⟨lv, ov, ⟨F, hI, h0, hF, hP⟩, hD, hQ⟩ := h
  refine (c lv ov hD).mono ?_
  rintro e w' ⟨rfl, ht, lv2, ov2, hD2, hs⟩
  have hq2 : ∀ k, Q k → ¬ dft d lv2 ov2 k := fun k hk h2 => (hs k h2).elim (hQ k hk) (fun e => by have := hP k (.inr hk); omega)
  refine ⟨rfl, ⟨lv2, ov2, ⟨F, hI.keep (fun k hk => ht.block k (hI.lt k hk) (fun hd => (hF k hk).2 (.inl hd))), below_of_tch h0 ht (fun k hk => (hD.lt hk).1), fun k hk => ⟨(hF k hk).1, fun hp => ?_⟩, fun k hk => ?_⟩, hD2, hq2⟩, fun k hk => ht.block k (hP k (.inr hk)) (hQ k hk)⟩
  · rcases hp with hp | hp
    · rcases hs k hp with hp | hp
      · exact (hF k hk).2 (.inl hp)
      · have := hI.lt k hk
        omega
    · exact (hF k hk).2 (.inr hp)
  · rcases hk with hk | hk
    · exact (hD2.lt hk).2
    · exact Nat.lt_of_lt_of_le (hP k (.inr hk)) ht.size
theorem Bo.step (h : Bo W0 W b d S S' Q) (hb : Below W.heap.size W W') : Bo W0 W' b d S S' Q ∧ Stay Q W W' := by
  obtain ⟨lv, ov, hF, hD, hQ⟩ := h
  obtain ⟨h1, h2⟩ := hF.step hb
  exact ⟨⟨lv, ov, h1, hD.keep (fun k hk => h2 k (.inl hk)), hQ⟩, fun k hk => h2 k (.inr hk)⟩
theorem Bo.more (h : Bo W0 W b d S S' Q) (hb : Below W.heap.size W W') {P : Nat → Prop} (hP : ∀ k, P k → W.heap.size ≤ k ∧ k < W'.heap.size) : Bo W0 W' b d S S' (fun k => Q k ∨ P k) ∧ Stay Q W W' := by
  obtain ⟨lv, ov, hF, hD, hQ⟩ := h
  obtain ⟨h1, h2⟩ := hF.more hb hP
  refine ⟨⟨lv, ov, h1.less (fun k hk => ?_), hD.keep (fun k hk => h2 k (.inl hk)), fun k hk hd => ?_⟩, fun k hk => h2 k (.inr hk)⟩
  · rcases hk with hk | hk | hk
    · exact .inl (.inl hk)
    · exact .inl (.inr hk)
    · exact .inr hk
  · rcases hk with hk | hk
    · exact hQ k hk hd
    · have := (hP k hk).1
      have := (hD.lt hd).2
      omega
theorem Bo.less {P : Nat → Prop} (h : Bo W0 W b d S S' Q) (hP : ∀ k, P k → Q k) : Bo W0 W b d S S' P := by
  obtain ⟨lv, ov, hF, hD, hQ⟩ := h
  exact ⟨lv, ov, hF.less (fun k hk => hk.elim .inl (fun h => .inr (hP k h))), hD, fun k hk => hQ k (hP k hk)⟩
theorem Stay.less {P Q : Nat → Prop} (h : Stay Q W W') (hP : ∀ k, P k → Q k) : Stay P W W' := fun k hk => h k (hP k hk)
end
/-- A call of both. -/
def Sr.play (S : Sr) (x : Op4) : Sr := if x.kd = 0 then S.openS x.nm.data.toList else if x.kd = 1 then S.write x.nm.data.toList (opT x).data.toList else if x.kd = 2 then S.print (opT x).data.toList else S
theorem SOk.play {S : Sr} (h : SOk S) (x : Op4) : SOk (S.play x) := by
  unfold Sr.play
  split
  · exact h.openS _
  · split
    · exact h.write _ _
    · split
      · exact h.print _
      · exact h
abbrev opO (x : Op4) : Obj := .cells #[.int .i64 x.kd, .string x.nm, .string x.tx, .int .u8 (x.tm.toNat : Nat)] 30 (0, 0)
theorem opO_cells {V : World} {ob : Nat} {x : Op4} (h : V.heap[ob]? = some (opO x)) : V.cell? ⟨ob, 0, none⟩ = some (.int .i64 x.kd) ∧ V.cell? ⟨ob, 1, none⟩ = some (.string x.nm) ∧ V.cell? ⟨ob, 2, none⟩ = some (.string x.tx) ∧ V.cell? ⟨ob, 3, none⟩ = some (.int .u8 (x.tm.toNat : Nat)) := by simp [World.cell?, h]

set_option maxRecDepth 100000 in
set_option maxHeartbeats 4000000 in
theorem play_any {W0 W : World} {b d : Nat} {S : Sr} {Q : Nat → Prop} (h : Bo W0 W b d S S Q) (ho : SOk S) (x : Op4) (hn : x.nm.size ≤ 140737488355000) (ht : x.tx.size ≤ 140737488355000) : Calls Try.prog 10 #[ptrV b, ptrV d, opV x] W fun e w' => e = .returned (.bool true) ∧ Bo W0 w' b d (S.play x) (S.play x) Q ∧ Stay Q W w' := by
  obtain ⟨W1, hW1⟩ : ∃ W1, W1 = W.alloc (.cells #[.int .i64 x.kd, .string x.nm, .string x.tx, .int .u8 (x.tm.toNat : Nat)] 30) := ⟨_, rfl⟩
  have hbx : W1.heap[W.heap.size]? = some (opO x) := by rw [hW1]; exact heap_alloc_new W _
  have hWb : Below W.heap.size W W1 := by rw [hW1]; exact (Below.refl _ W).alloc (Nat.le_refl _) _
  have hlt := (Array.getElem?_eq_some_iff.1 hbx).1
  have HB := hideT (h.more hWb (P := fun k => k = W.heap.size) (fun k hk => by rw [hk]; exact ⟨Nat.le_refl _, hlt⟩))
  have HO := hideT ho
  have HTX := hideT (fun V => text_any V x ht)
  have hto := opT_size x
  have HST := hideT hto
  have HBX := hideT hbx
  clear h ho ht hWb hlt hto hbx
  go_enter Try.func10, Try.ntmps10
  by_cases k0 : x.kd = 0
  · have e0 : (x.kd == 0) = true := by rw [k0]; rfl
    have hS : S.play x = S.openS x.nm.data.toList := by unfold Sr.play; rw [if_pos k0]
    rw [hS]
    have HW := hideT (show W1 = W.alloc (.cells #[.int .i64 0, .string x.nm, .string x.tx, .int .u8 (x.tm.toNat : Nat)] 30) by rw [hW1, k0])
    clear hS hW1
    go_wp2_with fail
    rw [← HW.out]
    clear HW k0 e0
    generalize W.heap.size = ob at *
    have s0 : W1.drew.heap[ob]? = some (opO x) := HBX.out
    refine wp_region_held (S := fun V => V.heap[ob]? = some (opO x)) (by kernel_rfl) ?_
    refine' take_d 0 (some 11) rfl rfl (by kernel_rfl) (by kernel_rfl) (by kernel_rfl) (fun _ _ _ h => h) (wanted_none rfl _) s0 ?tk1 ?rs1
    case tk1 => intro V hV; go_simp; (try with_reducible rfl)
    refine' take_d 1 (some 12) rfl rfl (by kernel_rfl) (by kernel_rfl) (by kernel_rfl) (fun _ _ _ h => h) (wanted_none rfl _) s0 ?tk2 ?rs2
    case tk2 => intro V hV; go_simp; (try with_reducible rfl)
    refine' take_d 2 (some 13) rfl rfl (by kernel_rfl) (by kernel_rfl) (by kernel_rfl) (fun _ _ _ h => h) (wanted_none rfl _) s0 ?tk3 ?rs3
    case tk3 => intro V hV; have hc := (opO_cells hV).2.1; go_simp; (try with_reducible rfl)
    refine' take_d 4 (some 15) rfl rfl (by kernel_rfl) (by kernel_rfl) (by kernel_rfl) (fun _ _ _ h => h) (wanted_none rfl _) s0 ?tk4 ?rs4
    case tk4 => intro V hV; go_simp; (try with_reducible rfl)
    refine' take_d 5 (some 16) rfl rfl (by kernel_rfl) (by kernel_rfl) (by kernel_rfl) (fun _ _ _ h => h) (wanted_none rfl _) s0 ?tk5 ?rs5
    case tk5 => intro V hV; go_simp; (try with_reducible rfl)
    refine' take_d 6 (some 17) rfl rfl (by kernel_rfl) (by kernel_rfl) (by kernel_rfl) (fun _ _ _ h => h) (wanted_none rfl _) s0 ?tk6 ?rs6
    case tk6 => intro V hV; have hc := (opO_cells hV).2.1; go_simp; (try with_reducible rfl)
    simp only [Act.put, List.setIfInBounds_toArray, List.set_cons_zero, List.set_cons_succ]
    refine wpAnyH_all (rs := [3]) (by kernel_rfl) (by simp) (fun i hi => ?_)
    obtain rfl : i = 3 := List.mem_singleton.1 hi
    clear hi
    have HB1 := hideT (HB.out.1.step ((Below.refl _ W1).drew))
    refine op_call (some 14) rfl rfl (wanted_none rfl _) (by go_simp; (try with_reducible rfl)) (R := fun u w' => u = .int .i64 (openE S x.nm.data.toList : Nat) ∧ Bo W0 w' b d (S.openS x.nm.data.toList) S (fun k => Q k ∨ k = ob) ∧ Stay (fun k => Q k ∨ k = ob) W1.drew w') ((HB1.out.1.callS (fun F hI => openS_any hI HO.out x.nm hn)).mono (fun e w' h => ⟨_, h.1, rfl, h.2⟩)) ?_
    rintro u w2 ⟨rfl, h2, t2⟩
    have s2 : w2.heap[ob]? = some (opO x) := (t2 ob (.inr rfl)).trans s0
    have H2 := hideT h2
    have T2 := hideT (HB.out.2.trans ((HB1.out.2.trans t2).less (fun k hk => .inl hk)))
    clear h2 t2 HB1
    refine And.intro s2 ?_
    simp only [Act.put, List.setIfInBounds_toArray, List.set_cons_zero, List.set_cons_succ]
    refine wpAnyH_all (rs := [7]) (by kernel_rfl) (by simp) (fun i hi => ?_)
    obtain rfl : i = 7 := List.mem_singleton.1 hi
    clear hi
    refine op_call (some 18) rfl rfl (wanted_none rfl _) (by go_simp; (try with_reducible rfl)) (R := fun u w' => u = .int .i64 (openE S x.nm.data.toList : Nat) ∧ Bo W0 w' b d (S.openS x.nm.data.toList) (S.openS x.nm.data.toList) (fun k => Q k ∨ k = ob) ∧ Stay (fun k => Q k ∨ k = ob) w2 w') ((H2.out.callD (fun lv ov hD => docOpen_any hD HO.out x.nm)).mono (fun e w' h => ⟨_, h.1, rfl, h.2⟩)) ?_
    rintro u w3 ⟨rfl, h3, t3⟩
    have s3 : w3.heap[ob]? = some (opO x) := (t3 ob (.inr rfl)).trans s2
    have H3 := hideT (h3.less (P := Q) (fun k hk => .inl hk))
    have T3 := hideT (T2.out.trans (t3.less (fun k hk => .inl hk)))
    clear h3 t3
    refine And.intro s3 ?_
    simp only [Act.put, List.setIfInBounds_toArray, List.set_cons_zero, List.set_cons_succ]
    refine' take_d 8 (some 19) rfl rfl (by kernel_rfl) (by kernel_rfl) (by kernel_rfl) (fun _ _ _ h => h) (wanted_none rfl _) s3 ?tk7 ?rs7
    case tk7 => intro V hV; go_simp; (try with_reducible rfl)
    refine' take_d 9 (some 6) rfl rfl (by kernel_rfl) (by kernel_rfl) (by kernel_rfl) (fun _ _ _ h => h) (wanted_none rfl _) s3 ?tk8 ?rs8
    case tk8 => intro V hV; go_simp; (try with_reducible rfl)
    simp only [Act.put, List.setIfInBounds_toArray, List.set_cons_zero, List.set_cons_succ]
    refine wpAnyH_done (by kernel_rfl) ?_ _
    go_wp2
    go_ret
    exact ⟨by simp, H3.out, T3.out⟩
  · have e0 : (x.kd == 0) = false := by rw [beq_eq_false_iff_ne]; exact k0
    by_cases k1 : x.kd = 1
    · have e1 : (x.kd == 1) = true := by rw [k1]; rfl
      have hS : S.play x = S.write x.nm.data.toList (opT x).data.toList := by unfold Sr.play; rw [if_neg k0, if_pos k1]
      rw [hS]
      have HW := hideT (show W1 = W.alloc (.cells #[.int .i64 1, .string x.nm, .string x.tx, .int .u8 (x.tm.toNat : Nat)] 30) by rw [hW1, k1])
      clear hS hW1
      go_wp2_with fail
      rw [← HW.out]
      clear HW k0 k1 e0 e1
      generalize W.heap.size = ob at *
      have s0 : W1.drew.heap[ob]? = some (opO x) := HBX.out
      refine wp_region_held (S := fun V => V.heap[ob]? = some (opO x)) (by kernel_rfl) ?_
      refine' take_d 0 (some 22) rfl rfl (by kernel_rfl) (by kernel_rfl) (by kernel_rfl) (fun _ _ _ h => h) (wanted_none rfl _) s0 ?tk9 ?rs9
      case tk9 => intro V hV; go_simp; (try with_reducible rfl)
      refine' take_d 1 (some 23) rfl rfl (by kernel_rfl) (by kernel_rfl) (by kernel_rfl) (fun _ _ _ h => h) (wanted_none rfl _) s0 ?tk10 ?rs10
      case tk10 => intro V hV; go_simp; (try with_reducible rfl)
      refine' take_d 2 (some 24) rfl rfl (by kernel_rfl) (by kernel_rfl) (by kernel_rfl) (fun _ _ _ h => h) (wanted_none rfl _) s0 ?tk11 ?rs11
      case tk11 => intro V hV; have hc := (opO_cells hV).2.1; go_simp; (try with_reducible rfl)
      refine' take_d 3 (some 25) rfl rfl (by kernel_rfl) (by kernel_rfl) (by kernel_rfl) (fun _ _ _ h => h) (wanted_none rfl _) s0 ?tk12 ?rs12
      case tk12 => intro V hV; obtain ⟨hc0, hc1, hc2, hc3⟩ := opO_cells hV; go_simp; (try with_reducible rfl)
      refine' take_d 6 (some 28) rfl rfl (by kernel_rfl) (by kernel_rfl) (by kernel_rfl) (fun _ _ _ h => h) (wanted_none rfl _) s0 ?tk13 ?rs13
      case tk13 => intro V hV; go_simp; (try with_reducible rfl)
      refine' take_d 7 (some 29) rfl rfl (by kernel_rfl) (by kernel_rfl) (by kernel_rfl) (fun _ _ _ h => h) (wanted_none rfl _) s0 ?tk14 ?rs14
      case tk14 => intro V hV; go_simp; (try with_reducible rfl)
      refine' take_d 8 (some 30) rfl rfl (by kernel_rfl) (by kernel_rfl) (by kernel_rfl) (fun _ _ _ h => h) (wanted_none rfl _) s0 ?tk15 ?rs15
      case tk15 => intro V hV; have hc := (opO_cells hV).2.1; go_simp; (try with_reducible rfl)
      refine' take_d 9 (some 31) rfl rfl (by kernel_rfl) (by kernel_rfl) (by kernel_rfl) (fun _ _ _ h => h) (wanted_none rfl _) s0 ?tk16 ?rs16
      case tk16 => intro V hV; obtain ⟨hc0, hc1, hc2, hc3⟩ := opO_cells hV; go_simp; (try with_reducible rfl)
      simp only [Act.put, List.setIfInBounds_toArray, List.set_cons_zero, List.set_cons_succ]
      refine wpAnyH_all (rs := [4]) (by kernel_rfl) (by simp) (fun i hi => ?_)
      obtain rfl : i = 4 := List.mem_singleton.1 hi
      clear hi
      have HB1 := hideT (HB.out.1.step ((Below.refl _ W1).drew))
      refine op_call (some 26) rfl rfl (wanted_none rfl _) (by go_simp; (try with_reducible rfl)) (R := fun u w' => u = .string (opT x) ∧ Below W1.drew.heap.size W1.drew w') ((HTX.out _).mono (fun e w' h => ⟨_, h.1, rfl, h.2⟩)) ?_
      rintro u v1 ⟨rfl, hv1⟩
      have HB2 := hideT (HB1.out.1.step hv1)
      have s1 : v1.heap[ob]? = some (opO x) := (HB2.out.2 ob (.inr rfl)).trans s0
      have T1 := hideT (HB.out.2.trans ((HB1.out.2.trans HB2.out.2).less (P := Q) (fun k hk => .inl hk)))
      clear hv1 HB1
      refine And.intro s1 ?_
      simp only [Act.put, List.setIfInBounds_toArray, List.set_cons_zero, List.set_cons_succ]
      refine wpAnyH_all (rs := [5]) (by kernel_rfl) (by simp) (fun i hi => ?_)
      obtain rfl : i = 5 := List.mem_singleton.1 hi
      clear hi
      refine op_call (some 27) rfl rfl (wanted_none rfl _) (by go_simp; (try with_reducible rfl)) (R := fun u w' => u = .int .i64 (writeE S x.nm.data.toList (opT x).data.toList : Nat) ∧ Bo W0 w' b d (S.write x.nm.data.toList (opT x).data.toList) S (fun k => Q k ∨ k = ob) ∧ Stay (fun k => Q k ∨ k = ob) v1 w') ((HB2.out.1.callS (fun F hI => writeS_any hI HO.out x.nm (opT x) (by omega) (by have := HST.out; omega))).mono (fun e w' h => ⟨_, h.1, rfl, h.2⟩)) ?_
      rintro u w2 ⟨rfl, h2, t2⟩
      have s2 : w2.heap[ob]? = some (opO x) := (t2 ob (.inr rfl)).trans s1
      have H2 := hideT h2
      have T2 := hideT (T1.out.trans (t2.less (fun k hk => .inl hk)))
      clear h2 t2 HB2
      refine And.intro s2 ?_
      simp only [Act.put, List.setIfInBounds_toArray, List.set_cons_zero, List.set_cons_succ]
      refine wpAnyH_all (rs := [10]) (by kernel_rfl) (by simp) (fun i hi => ?_)
      obtain rfl : i = 10 := List.mem_singleton.1 hi
      clear hi
      refine op_call (some 32) rfl rfl (wanted_none rfl _) (by go_simp; (try with_reducible rfl)) (R := fun u w' => u = .string (opT x) ∧ Below w2.heap.size w2 w') ((HTX.out _).mono (fun e w' h => ⟨_, h.1, rfl, h.2⟩)) ?_
      rintro u v2 ⟨rfl, hv2⟩
      have HB3 := hideT (H2.out.step hv2)
      have s2b : v2.heap[ob]? = some (opO x) := (HB3.out.2 ob (.inr rfl)).trans s2
      have T2b := hideT (T2.out.trans (HB3.out.2.less (fun k hk => .inl hk)))
      clear hv2
      refine And.intro s2b ?_
      simp only [Act.put, List.setIfInBounds_toArray, List.set_cons_zero, List.set_cons_succ]
      refine wpAnyH_all (rs := [11]) (by kernel_rfl) (by simp) (fun i hi => ?_)
      obtain rfl : i = 11 := List.mem_singleton.1 hi
      clear hi
      refine op_call (some 33) rfl rfl (wanted_none rfl _) (by go_simp; (try with_reducible rfl)) (R := fun u w' => u = .int .i64 (writeE S x.nm.data.toList (opT x).data.toList : Nat) ∧ Bo W0 w' b d (S.write x.nm.data.toList (opT x).data.toList) (S.write x.nm.data.toList (opT x).data.toList) (fun k => Q k ∨ k = ob) ∧ Stay (fun k => Q k ∨ k = ob) v2 w') ((HB3.out.1.callD (fun lv ov hD => docWrite_any hD HO.out x.nm (opT x) (by have := HST.out; omega))).mono (fun e w' h => ⟨_, h.1, rfl, h.2⟩)) ?_
      rintro u w3 ⟨rfl, h3, t3⟩
      have s3 : w3.heap[ob]? = some (opO x) := (t3 ob (.inr rfl)).trans s2b
      have H3 := hideT (h3.less (P := Q) (fun k hk => .inl hk))
      have T3 := hideT (T2b.out.trans (t3.less (fun k hk => .inl hk)))
      clear h3 t3
      refine And.intro s3 ?_
      simp only [Act.put, List.setIfInBounds_toArray, List.set_cons_zero, List.set_cons_succ]
      refine' take_d 12 (some 34) rfl rfl (by kernel_rfl) (by kernel_rfl) (by kernel_rfl) (fun _ _ _ h => h) (wanted_none rfl _) s3 ?tk17 ?rs17
      case tk17 => intro V hV; go_simp; (try with_reducible rfl)
      refine' take_d 13 (some 6) rfl rfl (by kernel_rfl) (by kernel_rfl) (by kernel_rfl) (fun _ _ _ h => h) (wanted_none rfl _) s3 ?tk18 ?rs18
      case tk18 => intro V hV; go_simp; (try with_reducible rfl)
      simp only [Act.put, List.setIfInBounds_toArray, List.set_cons_zero, List.set_cons_succ]
      refine wpAnyH_done (by kernel_rfl) ?_ _
      go_wp2
      go_ret
      exact ⟨by simp, H3.out, T3.out⟩
    · have e1 : (x.kd == 1) = false := by rw [beq_eq_false_iff_ne]; exact k1
      by_cases k2 : x.kd = 2
      · have e2 : (x.kd == 2) = true := by rw [k2]; rfl
        have hS : S.play x = S.print (opT x).data.toList := by unfold Sr.play; rw [if_neg k0, if_neg k1, if_pos k2]
        rw [hS]
        have HW := hideT (show W1 = W.alloc (.cells #[.int .i64 2, .string x.nm, .string x.tx, .int .u8 (x.tm.toNat : Nat)] 30) by rw [hW1, k2])
        clear hS hW1
        go_wp2_with fail
        rw [← HW.out]
        clear HW k0 k1 k2 e0 e1 e2
        generalize W.heap.size = ob at *
        have s0 : W1.drew.heap[ob]? = some (opO x) := HBX.out
        refine wp_region_held (S := fun V => V.heap[ob]? = some (opO x)) (by kernel_rfl) ?_
        refine' take_d 0 (some 37) rfl rfl (by kernel_rfl) (by kernel_rfl) (by kernel_rfl) (fun _ _ _ h => h) (wanted_none rfl _) s0 ?tk19 ?rs19
        case tk19 => intro V hV; go_simp; (try with_reducible rfl)
        refine' take_d 1 (some 38) rfl rfl (by kernel_rfl) (by kernel_rfl) (by kernel_rfl) (fun _ _ _ h => h) (wanted_none rfl _) s0 ?tk20 ?rs20
        case tk20 => intro V hV; obtain ⟨hc0, hc1, hc2, hc3⟩ := opO_cells hV; go_simp; (try with_reducible rfl)
        refine' take_d 4 (some 41) rfl rfl (by kernel_rfl) (by kernel_rfl) (by kernel_rfl) (fun _ _ _ h => h) (wanted_none rfl _) s0 ?tk21 ?rs21
        case tk21 => intro V hV; go_simp; (try with_reducible rfl)
        refine' take_d 5 (some 42) rfl rfl (by kernel_rfl) (by kernel_rfl) (by kernel_rfl) (fun _ _ _ h => h) (wanted_none rfl _) s0 ?tk22 ?rs22
        case tk22 => intro V hV; obtain ⟨hc0, hc1, hc2, hc3⟩ := opO_cells hV; go_simp; (try with_reducible rfl)
        simp only [Act.put, List.setIfInBounds_toArray, List.set_cons_zero, List.set_cons_succ]
        refine wpAnyH_all (rs := [2]) (by kernel_rfl) (by simp) (fun i hi => ?_)
        obtain rfl : i = 2 := List.mem_singleton.1 hi
        clear hi
        have HB1 := hideT (HB.out.1.step ((Below.refl _ W1).drew))
        refine op_call (some 39) rfl rfl (wanted_none rfl _) (by go_simp; (try with_reducible rfl)) (R := fun u w' => u = .string (opT x) ∧ Below W1.drew.heap.size W1.drew w') ((HTX.out _).mono (fun e w' h => ⟨_, h.1, rfl, h.2⟩)) ?_
        rintro u v1 ⟨rfl, hv1⟩
        have HB2 := hideT (HB1.out.1.step hv1)
        have s1 : v1.heap[ob]? = some (opO x) := (HB2.out.2 ob (.inr rfl)).trans s0
        have T1 := hideT (HB.out.2.trans ((HB1.out.2.trans HB2.out.2).less (P := Q) (fun k hk => .inl hk)))
        clear hv1 HB1
        refine And.intro s1 ?_
        simp only [Act.put, List.setIfInBounds_toArray, List.set_cons_zero, List.set_cons_succ]
        refine wpAnyH_all (rs := [3]) (by kernel_rfl) (by simp) (fun i hi => ?_)
        obtain rfl : i = 3 := List.mem_singleton.1 hi
        clear hi
        refine op_call (some 40) rfl rfl (wanted_none rfl _) (by go_simp; (try with_reducible rfl)) (R := fun u w' => u = .int .i64 (printE S (opT x).data.toList : Nat) ∧ Bo W0 w' b d (S.print (opT x).data.toList) S (fun k => Q k ∨ k = ob) ∧ Stay (fun k => Q k ∨ k = ob) v1 w') ((HB2.out.1.callS (fun F hI => print_any hI HO.out (opT x) (by have := HST.out; omega))).mono (fun e w' h => ⟨_, h.1, rfl, h.2⟩)) ?_
        rintro u w2 ⟨rfl, h2, t2⟩
        have s2 : w2.heap[ob]? = some (opO x) := (t2 ob (.inr rfl)).trans s1
        have H2 := hideT h2
        have T2 := hideT (T1.out.trans (t2.less (fun k hk => .inl hk)))
        clear h2 t2 HB2
        refine And.intro s2 ?_
        simp only [Act.put, List.setIfInBounds_toArray, List.set_cons_zero, List.set_cons_succ]
        refine wpAnyH_all (rs := [6]) (by kernel_rfl) (by simp) (fun i hi => ?_)
        obtain rfl : i = 6 := List.mem_singleton.1 hi
        clear hi
        refine op_call (some 43) rfl rfl (wanted_none rfl _) (by go_simp; (try with_reducible rfl)) (R := fun u w' => u = .string (opT x) ∧ Below w2.heap.size w2 w') ((HTX.out _).mono (fun e w' h => ⟨_, h.1, rfl, h.2⟩)) ?_
        rintro u v2 ⟨rfl, hv2⟩
        have HB3 := hideT (H2.out.step hv2)
        have s2b : v2.heap[ob]? = some (opO x) := (HB3.out.2 ob (.inr rfl)).trans s2
        have T2b := hideT (T2.out.trans (HB3.out.2.less (fun k hk => .inl hk)))
        clear hv2
        refine And.intro s2b ?_
        simp only [Act.put, List.setIfInBounds_toArray, List.set_cons_zero, List.set_cons_succ]
        refine wpAnyH_all (rs := [7]) (by kernel_rfl) (by simp) (fun i hi => ?_)
        obtain rfl : i = 7 := List.mem_singleton.1 hi
        clear hi
        refine op_call (some 44) rfl rfl (wanted_none rfl _) (by go_simp; (try with_reducible rfl)) (R := fun u w' => u = .int .i64 (printE S (opT x).data.toList : Nat) ∧ Bo W0 w' b d (S.print (opT x).data.toList) (S.print (opT x).data.toList) (fun k => Q k ∨ k = ob) ∧ Stay (fun k => Q k ∨ k = ob) v2 w') ((HB3.out.1.callD (fun lv ov hD => docPrint_any hD HO.out (opT x) (by have := HST.out; omega))).mono (fun e w' h => ⟨_, h.1, rfl, h.2⟩)) ?_
        rintro u w3 ⟨rfl, h3, t3⟩
        have s3 : w3.heap[ob]? = some (opO x) := (t3 ob (.inr rfl)).trans s2b
        have H3 := hideT (h3.less (P := Q) (fun k hk => .inl hk))
        have T3 := hideT (T2b.out.trans (t3.less (fun k hk => .inl hk)))
        clear h3 t3
        refine And.intro s3 ?_
        simp only [Act.put, List.setIfInBounds_toArray, List.set_cons_zero, List.set_cons_succ]
        refine' take_d 8 (some 45) rfl rfl (by kernel_rfl) (by kernel_rfl) (by kernel_rfl) (fun _ _ _ h => h) (wanted_none rfl _) s3 ?tk23 ?rs23
        case tk23 => intro V hV; go_simp; (try with_reducible rfl)
        refine' take_d 9 (some 6) rfl rfl (by kernel_rfl) (by kernel_rfl) (by kernel_rfl) (fun _ _ _ h => h) (wanted_none rfl _) s3 ?tk24 ?rs24
        case tk24 => intro V hV; go_simp; (try with_reducible rfl)
        simp only [Act.put, List.setIfInBounds_toArray, List.set_cons_zero, List.set_cons_succ]
        refine wpAnyH_done (by kernel_rfl) ?_ _
        go_wp2
        go_ret
        exact ⟨by simp, H3.out, T3.out⟩
      · have e2 : (x.kd == 2) = false := by rw [beq_eq_false_iff_ne]; exact k2
        have hS : S.play x = S := by unfold Sr.play; rw [if_neg k0, if_neg k1, if_neg k2]
        rw [hS]
        have HW := hideT hW1
        clear k0 k1 k2 hS hW1
        go_wp2
        go_ret
        rw [← HW.out]
        exact ⟨rfl, HB.out.1.less (fun k hk => .inl hk), HB.out.2⟩
end Go.Proofs.Ytbibfpgcnmocjaa
