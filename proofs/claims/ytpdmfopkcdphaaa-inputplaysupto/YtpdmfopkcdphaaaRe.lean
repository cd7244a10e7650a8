/- input: the program's Feed; the program's queue keeps all answers. -/
import Derived.Test.YtpdmfopkcdphaaaRd
import Derived.Test.YtpdmfopkcdphaaaQg
namespace Go.Proofs.Ytpdmfopkcdphaaa
open Go.RowKit

/-- A line was laid behind. -/
theorem IA.fedOn {W w1 w2 : World} {b g o cap : Nat} {v : Value} {q : Qs} {t : List UInt8} (hq : IA W v b q) (h1 : Below W.heap.size W w1) (hgr : w1.grownBy w2 v.ownBlock) (hw : Win w2 (.slice (some ⟨g, o, none⟩) ((q.fed.drop q.tk).length + 1) cap) (q.fed.drop q.tk ++ [t])) (hg : v.ownBlock = some g ∨ w1.heap.size ≤ g) (htk : q.tk ≤ q.fed.length) (x : Int) (hx : x = ((q.held + t.length : Nat) : Int)) :
    IA ((w2.setCell ⟨b, 0, none⟩ (.slice (some ⟨g, o, none⟩) ((q.fed.drop q.tk).length + 1) cap)).setCell ⟨b, 1, none⟩ (.int .i64 x)) (.slice (some ⟨g, o, none⟩) ((q.fed.drop q.tk).length + 1) cap) b ⟨q.fed ++ [t], q.tk, q.cl⟩ := by
  subst hx
  have hb := hq.blt
  have hs := h1.size
  have hne : v.ownBlock ≠ some b := fun e => hq.ne e rfl
  have hgb : g ≠ b := by
    rcases hg with hg | hg
    · exact hq.ne hg
    · omega
  have b0 := ((hgr.block b (by omega) (fun e => hne e.symm)).trans (h1.block b hb)).trans hq.blk
  have b1 := put_same _ b 0 (.slice (some ⟨g, o, none⟩) ((q.fed.drop q.tk).length + 1) cap) b0
  have b2 := put_same _ b 1 (.int .i64 ((q.held + t.length : Nat) : Int)) b1
  have hd : (q.fed ++ [t]).drop q.tk = q.fed.drop q.tk ++ [t] := List.drop_append_of_le_length htk
  have hh : Qs.held ⟨q.fed ++ [t], q.tk, q.cl⟩ = q.held + t.length := by
    unfold Qs.held
    show sumL ((q.fed ++ [t]).drop q.tk) = _
    rw [hd]
    simp [sumL]
  refine ⟨?_, ?_⟩
  · rw [hh]
    exact b2
  · show Win _ _ ((q.fed ++ [t]).drop q.tk)
    rw [hd]
    refine hw.keep (fun g' hg' => ?_)
    cases hg'
    exact (put_far _ b 1 _ hgb).trans (put_far _ b 0 _ hgb)

theorem op_append {P : Program} {ops : Array Oper} {Q : Exit → Act → World → Prop} {i : Nat} {op : Oper} {K : Act → World → Prop} {a : Act} {w w' : World} {v : Value} (d : Option Tmp) (hi : ops[i]? = some op) (hd : op.dst = d) (hw : Region.wanted op (yielded ops a.tmps) = true) (s x : Operand) (t : TypeId) (ho : op.op = .call { callee := .builtin .append, args := #[s, x], argTypes := #[t, t] }) (hx : (Builtin.append_ #[t, t] op.type #[a.eval s, a.eval x]).run P w = .ok v w') (h : K (a.put d v) w') : wpOp P ops Q i K a w := by
  refine op_value d hi hd hw ?_ h
  unfold execOp
  simp only [ho, resolve, invoke, builtin, Sem.run_bind, Sem.run_pure, Result.andThen_ok, List.map_toArray, List.map_cons, List.map_nil, hx]
/-- What is there when a line was laid behind. -/
theorem fed_fin {W w3 w4 : World} {b g o cap : Nat} {v : Value} {q : Qs} {s : ByteArray} (hq : IA W v b q) (htk : q.tk ≤ q.fed.length) (h3 : Below W.heap.size W w3) (hgr : w3.grownBy w4 v.ownBlock) (hw : Win w4 (.slice (some ⟨g, o, none⟩) ((q.fed.drop q.tk).length + 1) cap) (q.fed.drop q.tk ++ [s.data.toList])) (hg : v.ownBlock = some g ∨ w3.heap.size ≤ g) {q2 : Qs} (h2 : q2 = ⟨q.fed ++ [s.data.toList], q.tk, q.cl⟩) :
    ((w4.cell? ⟨b, 0, none⟩ = some v ∧ w4.frozen? ⟨b, 0, none⟩ = false) ∧ (w4.setCell ⟨b, 0, none⟩ (.slice (some ⟨g, o, none⟩) ((q.fed.drop q.tk).length + 1) cap)).cell? ⟨b, 1, none⟩ = some (.int .i64 (q.held : Nat)) ∧ (w4.setCell ⟨b, 0, none⟩ (.slice (some ⟨g, o, none⟩) ((q.fed.drop q.tk).length + 1) cap)).frozen? ⟨b, 1, none⟩ = false) ∧ ∀ x : Int, x = (q.held : Int) + (s.size : Int) → Tch (foot b v) W ((w4.setCell ⟨b, 0, none⟩ (.slice (some ⟨g, o, none⟩) ((q.fed.drop q.tk).length + 1) cap)).setCell ⟨b, 1, none⟩ (.int .i64 x)) ∧ ∃ F', I0 ((w4.setCell ⟨b, 0, none⟩ (.slice (some ⟨g, o, none⟩) ((q.fed.drop q.tk).length + 1) cap)).setCell ⟨b, 1, none⟩ (.int .i64 x)) F' b q2 ∧ ∀ k, F' k → foot b v k ∨ W.heap.size ≤ k := by
  subst h2
  have hb := hq.blt
  have hs := h3.size
  have hne : v.ownBlock ≠ some b := fun e => hq.ne e rfl
  have b0 := ((hgr.block b (by omega) (fun e => hne e.symm)).trans (h3.block b hb)).trans hq.blk
  have b1 := put_same _ b 0 (.slice (some ⟨g, o, none⟩) ((q.fed.drop q.tk).length + 1) cap) b0
  refine ⟨⟨⟨by simp [World.cell?, b0], by simp [World.frozen?, b0]⟩, by simp [World.cell?, b1, -List.length_drop], by simp [World.frozen?, b1, -List.length_drop]⟩, fun x hx => ⟨?_, _, ⟨_, hq.fedOn h3 hgr hw hg htk x (by rw [hx]; show _ = ((q.held + s.size : Nat) : Int); omega), rfl⟩, ?_⟩⟩
  · exact (((Tch.of h3 : Tch (foot b v) _ _).trans (Tch.grown (F := foot b v) hgr (fun g' hg' => .inr hg')) (fun _ hj => .inl hj)).put (.inl rfl) _ _).put (.inl rfl) _ _
  · rintro k (rfl | hk)
    · exact .inl (.inl rfl)
    · cases hk
      rcases hg with hg | hg
      · exact .inl (.inr hg)
      · exact .inr (by show W.heap.size ≤ g; omega)

set_option maxRecDepth 100000 in
set_option maxHeartbeats 4000000 in
theorem feed_any {W : World} {F : Nat → Prop} {b n : Nat} {q : Qs} (h : I0 W F b q) (ho : QOk q n) (hn : n ≤ 100000000) (s : ByteArray) (hs : s.size ≤ 140737488355000) : Calls Try.prog 8 #[ptrV b, .string s] W fun e w' => e = .returned (.int .i64 (feedE q s.data.toList : Nat)) ∧ Tch F W w' ∧ ∃ F', I0 w' F' b (q.feed s.data.toList) ∧ ∀ k, F' k → F k ∨ W.heap.size ≤ k := by
  obtain ⟨v, h, rfl⟩ := h
  obtain ⟨c3, f3⟩ := h.c3
  have HH := hideT h
  have HO := hideT ho
  obtain ⟨E, hE⟩ : ∃ E, E = feedE q s.data.toList := ⟨_, rfl⟩
  rw [← hE]
  have HN := hideT (fun (h0 : E ≠ 0) => show Ending.returned (.int .i64 (E : Nat)) = .returned (.int .i64 (E : Nat)) ∧ Tch (foot b v) W W ∧ ∃ F', I0 W F' b (q.feed s.data.toList) ∧ ∀ k, F' k → foot b v k ∨ W.heap.size ≤ k from by
    refine ⟨rfl, Tch.refl _ _, foot b v, ⟨v, ?_, rfl⟩, fun _ hk => .inl hk⟩
    unfold Qs.feed
    rw [← hE, if_neg h0]
    exact h)
  obtain ⟨cl, hcl⟩ : ∃ cl, cl = q.cl := ⟨_, rfl⟩
  rw [← hcl] at c3
  have HC := hideT (nl_contains s)
  cases cl with
  | true =>
    have hv : E = 25 := by rw [hE]; unfold feedE; rw [← hcl]; rfl
    have HF := hideT (HN.out (by omega))
    rw [hv] at HF ⊢
    clear h ho hn hE hcl HN hv
    go_enter Try.func8, Try.ntmps8
    go_wp2
    go_ret
    exact ⟨rfl, HF.out.2⟩
  | false =>
    have he : E = if 10 ∈ s.data.toList then 19 else if 1024 < s.size then 15 else 0 := by rw [hE]; unfold feedE; rw [← hcl]; rfl
    clear hcl
    by_cases h10 : 10 ∈ s.data.toList
    · have hv : E = 19 := by rw [he, if_pos h10]
      have HF := hideT (HN.out (by omega))
      rw [decide_eq_true h10] at HC
      rw [hv] at HF ⊢
      clear h ho hn hE HN hv he h10
      go_enter Try.func8, Try.ntmps8
      go_wp2_with fail
      refine (HC.out _).mono ?_
      rintro e w1 ⟨rfl, rfl⟩
      go_wp2
      go_ret
      exact ⟨rfl, HF.out.2⟩
    · rw [decide_eq_false h10] at HC
      rw [if_neg h10] at he
      clear h10
      by_cases hbig : 1024 < s.size
      · have k1 : (1024 : Int) < (s.size : Int) := by omega
        have hv : E = 15 := by rw [he, if_pos hbig]
        have HF := hideT (HN.out (by omega))
        rw [hv] at HF ⊢
        clear h ho hn hE HN hv he hbig
        go_enter Try.func8, Try.ntmps8
        go_wp2_with fail
        refine (HC.out _).mono ?_
        rintro e w1 ⟨rfl, rfl⟩
        go_wp2
        go_ret
        exact ⟨rfl, HF.out.2⟩
      · have k1 : ((1024 : Int) < (s.size : Int)) = False := by rw [eq_iff_iff, iff_false]; omega
        have k2 : (1024 < s.size) = False := by rw [eq_iff_iff, iff_false]; exact hbig
        have hv : E = 0 := by rw [he, if_neg hbig]
        have HQ := hideT (show q.feed s.data.toList = ⟨q.fed ++ [s.data.toList], q.tk, q.cl⟩ by unfold Qs.feed; rw [← hE, if_pos hv])
        rw [hv]
        have hsm : s.size ≤ 1024 := by omega
        have hhd : q.held ≤ 102400000000 := by
          have h1 := sum_le (q.fed.drop q.tk) (fun s hs => ho.line s (List.mem_of_mem_drop hs))
          rw [List.length_drop] at h1
          have h2 := ho.len
          unfold Qs.held
          omega
        have wr : IntKind.i64.wrap ((q.held : Int) + (s.size : Int)) = (q.held : Int) + (s.size : Int) := by rw [IntKind.wrap_i64]; omega
        have HCL := hideT (fun w => clone_any s w hs)
        obtain ⟨c0, f0⟩ := h.c0
        clear h hE HN hv he hbig
        go_enter Try.func8, Try.ntmps8
        go_wp2_with fail
        refine (HC.out _).mono ?_
        rintro e W ⟨rfl, rfl⟩
        -- the region that draws
        have HLN := hideT (show (q.fed.drop q.tk).length ≤ 100000000 by rw [List.length_drop]; have := ho.len; omega)
        have HB0 := hideT ((Below.refl W.heap.size W).drew)
        have HFIN := hideT (fun (w3 w4 : World) (g o cap : Nat) (hb3 : Below W.heap.size W w3) (hgr : w3.grownBy w4 v.ownBlock) (hwin : Win w4 (.slice (some ⟨g, o, none⟩) ((q.fed.drop q.tk).length + 1) cap) (q.fed.drop q.tk ++ [s.data.toList])) (hg : v.ownBlock = some g ∨ w3.heap.size ≤ g) => fed_fin HH.out HO.out.tk hb3 hgr hwin hg HQ.out)
        clear ho hhd hsm
        go_wp2_with fail
        refine wp_region_held (S := fun _ => True) (by kernel_rfl) ?_
        refine' take_d 0 (some 21) rfl rfl (by kernel_rfl) (by kernel_rfl) (by kernel_rfl) (fun _ _ _ h => h) (wanted_none rfl _) trivial ?tk1 ?rs1
        case tk1 => intro V hV; go_simp; (try with_reducible rfl)
        simp only [Act.put, List.setIfInBounds_toArray, List.set_cons_zero, List.set_cons_succ]
        refine' take_d 1 (some 22) rfl rfl (by kernel_rfl) (by kernel_rfl) (by kernel_rfl) (fun _ _ _ h => h) (wanted_none rfl _) trivial ?tk2 ?rs2
        case tk2 => intro V hV; go_simp; (try with_reducible rfl)
        simp only [Act.put, List.setIfInBounds_toArray, List.set_cons_zero, List.set_cons_succ]
        refine' take_d 2 (some 23) rfl rfl (by kernel_rfl) (by kernel_rfl) (by kernel_rfl) (fun _ _ _ h => h) (wanted_none rfl _) trivial ?tk3 ?rs3
        case tk3 => intro V hV; go_simp; (try with_reducible rfl)
        simp only [Act.put, List.setIfInBounds_toArray, List.set_cons_zero, List.set_cons_succ]
        refine' take_d 3 (some 24) rfl rfl (by kernel_rfl) (by kernel_rfl) (by kernel_rfl) (fun _ _ _ h => h) (wanted_none rfl _) trivial ?tk4 ?rs4
        case tk4 => intro V hV; go_simp; (try with_reducible rfl)
        simp only [Act.put, List.setIfInBounds_toArray, List.set_cons_zero, List.set_cons_succ]
        refine' take_d 5 (some 26) rfl rfl (by kernel_rfl) (by kernel_rfl) (by kernel_rfl) (fun _ _ _ h => h) (wanted_none rfl _) trivial ?tk5 ?rs5
        case tk5 => intro V hV; go_simp; (try with_reducible rfl)
        simp only [Act.put, List.setIfInBounds_toArray, List.set_cons_zero, List.set_cons_succ]
        refine wpAnyH_all (rs := [4, 6]) (by kernel_rfl) (by simp) (fun i hi => ?_)
        have hc2 : i = 4 ∨ i = 6 := by simpa using hi
        clear hi
        rcases hc2 with rfl | rfl
        · refine op_value (some 25) (v := v) (w' := W.drew) rfl rfl (wanted_none rfl _) (by have hc := c0; go_simp; (try with_reducible rfl)) ?_
          refine And.intro trivial ?_
          simp only [Act.put, List.setIfInBounds_toArray, List.set_cons_zero, List.set_cons_succ]
          refine wpAnyH_all (rs := [6]) (by kernel_rfl) (by simp) (fun i hi => ?_)
          obtain rfl : i = 6 := List.mem_singleton.1 hi
          clear hi
          refine op_call (some 27) rfl rfl (wanted_none rfl _) (by go_simp; (try with_reducible rfl)) (R := fun v w' => v = .string s ∧ Below W.heap.size W w') (((HCL.out _).mono (fun e w' h => ⟨.string s, h.1, rfl, HB0.out.trans (h.2.mono HB0.out.size)⟩))) ?_
          rintro x w2 ⟨rfl, hb2⟩
          have HB2 := hideT hb2
          clear hb2
          refine And.intro trivial ?_
          simp only [Act.put, List.setIfInBounds_toArray, List.set_cons_zero, List.set_cons_succ]
          refine wpAnyH_all (rs := [7]) (by kernel_rfl) (by simp) (fun i hi => ?_)
          obtain rfl : i = 7 := List.mem_singleton.1 hi
          clear hi
          refine op_value (some 28) (v := .slice (some ⟨w2.heap.size, 0, none⟩) 1 1) (w' := w2.alloc (.cells #[.string s] 9)) rfl rfl (wanted_none rfl _) (by go_simp; (try with_reducible rfl)) ?_
          refine And.intro trivial ?_
          simp only [Act.put, List.setIfInBounds_toArray, List.set_cons_zero, List.set_cons_succ]
          refine wpAnyH_all (rs := [8]) (by kernel_rfl) (by simp) (fun i hi => ?_)
          obtain rfl : i = 8 := List.mem_singleton.1 hi
          clear hi
          have hb3 := HB2.out.alloc HB2.out.size (.cells #[.string s] 9)
          have hn3 : (w2.alloc (.cells #[.string s] 9)).cell? ⟨w2.heap.size, 0, none⟩ = some (.string s) := by simp only [World.cell?, heap_alloc_new w2 (.cells #[.string s] 9)]; rfl
          generalize w2.alloc (.cells #[.string s] 9) = w3 at *
          obtain ⟨g, o, cap, w4, hrun, hwin, hgr, hg⟩ := append_win v (q.fed.drop q.tk) (HH.out.step hb3).win ⟨w2.heap.size, 0, none⟩ s hn3 HLN.out 26
          refine op_append (some 29) rfl rfl (wanted_none rfl _) _ _ _ rfl hrun ?_
          refine And.intro trivial ?_
          simp only [Act.put, List.setIfInBounds_toArray, List.set_cons_zero, List.set_cons_succ]
          have hfin := HFIN.out w3 w4 g o cap hb3 hgr hwin hg
          have HF2 := hideT hfin.2
          obtain ⟨⟨d0, e0⟩, d1, e1⟩ := hfin.1
          clear hfin hrun hwin hgr hg hb3 hn3
          generalize (q.fed.drop q.tk).length + 1 = N at *
          refine' take_d 9 (some 30) rfl rfl (by kernel_rfl) (by kernel_rfl) (by kernel_rfl) (fun _ _ _ h => h) (wanted_none rfl _) trivial ?tk51 ?rs51
          case tk51 => intro V hV; go_simp; (try with_reducible rfl)
          simp only [Act.put, List.setIfInBounds_toArray, List.set_cons_zero, List.set_cons_succ]
          refine' take_d 10 (some 31) rfl rfl (by kernel_rfl) (by kernel_rfl) (by kernel_rfl) (fun _ _ _ h => h) (wanted_none rfl _) trivial ?tk52 ?rs52
          case tk52 => intro V hV; go_simp; (try with_reducible rfl)
          simp only [Act.put, List.setIfInBounds_toArray, List.set_cons_zero, List.set_cons_succ]
          refine wpAnyH_all (rs := [11]) (by kernel_rfl) (by simp) (fun i hi => ?_)
          obtain rfl : i = 11 := List.mem_singleton.1 hi
          clear hi
          refine op_skip (w' := w4.setCell ⟨b, 0, none⟩ (.slice (some ⟨g, o, none⟩) N cap)) rfl rfl (wanted_none rfl _) (by go_simp; (try with_reducible rfl)) ?_
          refine And.intro trivial ?_
          simp only [Act.put]
          refine wpAnyH_done (by kernel_rfl) ?_ _
          generalize w4.setCell ⟨b, 0, none⟩ (.slice (some ⟨g, o, none⟩) N cap) = w5 at *
          clear d0 e0
          go_wp2
          go_ret
          exact ⟨rfl, HF2.out _ rfl⟩
        · refine op_call (some 27) rfl rfl (wanted_none rfl _) (by go_simp; (try with_reducible rfl)) (R := fun v w' => v = .string s ∧ Below W.heap.size W w') (((HCL.out _).mono (fun e w' h => ⟨.string s, h.1, rfl, HB0.out.trans (h.2.mono HB0.out.size)⟩))) ?_
          rintro x w2 ⟨rfl, hb2⟩
          have HB2 := hideT hb2
          clear hb2
          refine And.intro trivial ?_
          simp only [Act.put, List.setIfInBounds_toArray, List.set_cons_zero, List.set_cons_succ]
          refine wpAnyH_all (rs := [4, 7]) (by kernel_rfl) (by simp) (fun i hi => ?_)
          have hc2 : i = 4 ∨ i = 7 := by simpa using hi
          clear hi
          rcases hc2 with rfl | rfl
          · refine op_value (some 25) (v := v) (w' := w2) rfl rfl (wanted_none rfl _) (by have hc := keep_cell HB2.out c0; go_simp; (try with_reducible rfl)) ?_
            refine And.intro trivial ?_
            simp only [Act.put, List.setIfInBounds_toArray, List.set_cons_zero, List.set_cons_succ]
            refine wpAnyH_all (rs := [7]) (by kernel_rfl) (by simp) (fun i hi => ?_)
            obtain rfl : i = 7 := List.mem_singleton.1 hi
            clear hi
            refine op_value (some 28) (v := .slice (some ⟨w2.heap.size, 0, none⟩) 1 1) (w' := w2.alloc (.cells #[.string s] 9)) rfl rfl (wanted_none rfl _) (by go_simp; (try with_reducible rfl)) ?_
            refine And.intro trivial ?_
            simp only [Act.put, List.setIfInBounds_toArray, List.set_cons_zero, List.set_cons_succ]
            refine wpAnyH_all (rs := [8]) (by kernel_rfl) (by simp) (fun i hi => ?_)
            obtain rfl : i = 8 := List.mem_singleton.1 hi
            clear hi
            have hb3 := HB2.out.alloc HB2.out.size (.cells #[.string s] 9)
            have hn3 : (w2.alloc (.cells #[.string s] 9)).cell? ⟨w2.heap.size, 0, none⟩ = some (.string s) := by simp only [World.cell?, heap_alloc_new w2 (.cells #[.string s] 9)]; rfl
            generalize w2.alloc (.cells #[.string s] 9) = w3 at *
            obtain ⟨g, o, cap, w4, hrun, hwin, hgr, hg⟩ := append_win v (q.fed.drop q.tk) (HH.out.step hb3).win ⟨w2.heap.size, 0, none⟩ s hn3 HLN.out 26
            refine op_append (some 29) rfl rfl (wanted_none rfl _) _ _ _ rfl hrun ?_
            refine And.intro trivial ?_
            simp only [Act.put, List.setIfInBounds_toArray, List.set_cons_zero, List.set_cons_succ]
            have hfin := HFIN.out w3 w4 g o cap hb3 hgr hwin hg
            have HF2 := hideT hfin.2
            obtain ⟨⟨d0, e0⟩, d1, e1⟩ := hfin.1
            clear hfin hrun hwin hgr hg hb3 hn3
            generalize (q.fed.drop q.tk).length + 1 = N at *
            refine' take_d 9 (some 30) rfl rfl (by kernel_rfl) (by kernel_rfl) (by kernel_rfl) (fun _ _ _ h => h) (wanted_none rfl _) trivial ?tk151 ?rs151
            case tk151 => intro V hV; go_simp; (try with_reducible rfl)
            simp only [Act.put, List.setIfInBounds_toArray, List.set_cons_zero, List.set_cons_succ]
            refine' take_d 10 (some 31) rfl rfl (by kernel_rfl) (by kernel_rfl) (by kernel_rfl) (fun _ _ _ h => h) (wanted_none rfl _) trivial ?tk152 ?rs152
            case tk152 => intro V hV; go_simp; (try with_reducible rfl)
            simp only [Act.put, List.setIfInBounds_toArray, List.set_cons_zero, List.set_cons_succ]
            refine wpAnyH_all (rs := [11]) (by kernel_rfl) (by simp) (fun i hi => ?_)
            obtain rfl : i = 11 := List.mem_singleton.1 hi
            clear hi
            refine op_skip (w' := w4.setCell ⟨b, 0, none⟩ (.slice (some ⟨g, o, none⟩) N cap)) rfl rfl (wanted_none rfl _) (by go_simp; (try with_reducible rfl)) ?_
            refine And.intro trivial ?_
            simp only [Act.put]
            refine wpAnyH_done (by kernel_rfl) ?_ _
            generalize w4.setCell ⟨b, 0, none⟩ (.slice (some ⟨g, o, none⟩) N cap) = w5 at *
            clear d0 e0
            go_wp2
            go_ret
            exact ⟨rfl, HF2.out _ rfl⟩
          · refine op_value (some 28) (v := .slice (some ⟨w2.heap.size, 0, none⟩) 1 1) (w' := w2.alloc (.cells #[.string s] 9)) rfl rfl (wanted_none rfl _) (by go_simp; (try with_reducible rfl)) ?_
            refine And.intro trivial ?_
            simp only [Act.put, List.setIfInBounds_toArray, List.set_cons_zero, List.set_cons_succ]
            refine wpAnyH_all (rs := [4]) (by kernel_rfl) (by simp) (fun i hi => ?_)
            obtain rfl : i = 4 := List.mem_singleton.1 hi
            clear hi
            refine op_value (some 25) (v := v) (w' := _) rfl rfl (wanted_none rfl _) (by have hc := keep_cell (HB2.out.alloc HB2.out.size (.cells #[.string s] 9)) c0; go_simp; (try with_reducible rfl)) ?_
            refine And.intro trivial ?_
            simp only [Act.put, List.setIfInBounds_toArray, List.set_cons_zero, List.set_cons_succ]
            refine wpAnyH_all (rs := [8]) (by kernel_rfl) (by simp) (fun i hi => ?_)
            obtain rfl : i = 8 := List.mem_singleton.1 hi
            clear hi
            have hb3 := HB2.out.alloc HB2.out.size (.cells #[.string s] 9)
            have hn3 : (w2.alloc (.cells #[.string s] 9)).cell? ⟨w2.heap.size, 0, none⟩ = some (.string s) := by simp only [World.cell?, heap_alloc_new w2 (.cells #[.string s] 9)]; rfl
            generalize w2.alloc (.cells #[.string s] 9) = w3 at *
            obtain ⟨g, o, cap, w4, hrun, hwin, hgr, hg⟩ := append_win v (q.fed.drop q.tk) (HH.out.step hb3).win ⟨w2.heap.size, 0, none⟩ s hn3 HLN.out 26
            refine op_append (some 29) rfl rfl (wanted_none rfl _) _ _ _ rfl hrun ?_
            refine And.intro trivial ?_
            simp only [Act.put, List.setIfInBounds_toArray, List.set_cons_zero, List.set_cons_succ]
            have hfin := HFIN.out w3 w4 g o cap hb3 hgr hwin hg
            have HF2 := hideT hfin.2
            obtain ⟨⟨d0, e0⟩, d1, e1⟩ := hfin.1
            clear hfin hrun hwin hgr hg hb3 hn3
            generalize (q.fed.drop q.tk).length + 1 = N at *
            refine' take_d 9 (some 30) rfl rfl (by kernel_rfl) (by kernel_rfl) (by kernel_rfl) (fun _ _ _ h => h) (wanted_none rfl _) trivial ?tk251 ?rs251
            case tk251 => intro V hV; go_simp; (try with_reducible rfl)
            simp only [Act.put, List.setIfInBounds_toArray, List.set_cons_zero, List.set_cons_succ]
            refine' take_d 10 (some 31) rfl rfl (by kernel_rfl) (by kernel_rfl) (by kernel_rfl) (fun _ _ _ h => h) (wanted_none rfl _) trivial ?tk252 ?rs252
            case tk252 => intro V hV; go_simp; (try with_reducible rfl)
            simp only [Act.put, List.setIfInBounds_toArray, List.set_cons_zero, List.set_cons_succ]
            refine wpAnyH_all (rs := [11]) (by kernel_rfl) (by simp) (fun i hi => ?_)
            obtain rfl : i = 11 := List.mem_singleton.1 hi
            clear hi
            refine op_skip (w' := w4.setCell ⟨b, 0, none⟩ (.slice (some ⟨g, o, none⟩) N cap)) rfl rfl (wanted_none rfl _) (by go_simp; (try with_reducible rfl)) ?_
            refine And.intro trivial ?_
            simp only [Act.put]
            refine wpAnyH_done (by kernel_rfl) ?_ _
            generalize w4.setCell ⟨b, 0, none⟩ (.slice (some ⟨g, o, none⟩) N cap) = w5 at *
            clear d0 e0
            go_wp2
            go_ret
            exact ⟨rfl, HF2.out _ rfl⟩

theorem imp0 : Imp I0 where
  keep := i0_keep
  lt := i0_lt
  new := new_any
  feed := feed_any
  close := close_any
  next := next_any
  ready := ready_any
  last := last_any
  number := number_any
  waiting := waiting_any
  held := held_any
end Go.Proofs.Ytpdmfopkcdphaaa
