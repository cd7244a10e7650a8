/- store: the program's add, Open. -/
import Derived.Test.YtbibfpgcnmocjaaSf
namespace Go.Proofs.Ytbibfpgcnmocjaa
open Go.RowKit

set_option maxRecDepth 100000 in
set_option maxHeartbeats 2000000 in
theorem add_any {W : World} {b mb : Nat} {p v : Value} {fm : List UInt8 → Option Fb} {D : DataW Unit} {S : Sr} (h : SA W b mb p v fm D S) (n : ByteArray) (hn : n.size ≤ 140737488355000) (hx : fm n.data.toList = none) (hl : S.fs.length ≤ 1000) : Calls Try.prog 31 #[ptrV b, .string n] W fun e w' => ∃ fb D', e = .returned (ptrV fb) ∧ W.heap.size ≤ fb ∧ Tch (fun k => k = mb) W w' ∧ SA w' b mb p v (updF fm n.data.toList ⟨fb, .pointer none, .slice none 0 0, ⟨[], false⟩⟩) D' ⟨insF S.fs n.data.toList ⟨[], false⟩, S.out, S.wr⟩ := by
  have HC := hideT (fun w => clone_any n w hn)
  have HH := hideT h
  have HX := hideT hx
  have HL := hideT hl
  obtain ⟨cm, fr⟩ := h.cm
  have hA : Below W.heap.size W (W.alloc (.cells #[.pointer none, .slice none 0 0, .bool false] 68)) := (Below.refl _ W).alloc (Nat.le_refl _) _
  have HA := hideT (And.intro hA (heap_alloc_new W (.cells #[.pointer none, .slice none 0 0, .bool false] 68)))
  have HZ := hideT (World.size_alloc W (.cells #[.pointer none, .slice none 0 0, .bool false] 68))
  clear h hx hl hA fr
  go_enter Try.func31, Try.ntmps31
  go_wp2_with fail
  have HS := hideT (fun V (hV : Below W.heap.size W V) => keep_cell hV cm)
  have s0 : (W.alloc (.cells #[.pointer none, .slice none 0 0, .bool false] 68)).drew.cell? ⟨b, 0, none⟩ = some (.map (some mb)) := HS.out _ (HA.out.1.drew)
  refine wp_region_held (S := fun V => V.cell? ⟨b, 0, none⟩ = some (.map (some mb))) (by kernel_rfl) ?_
  refine' take_d 0 (some 8) rfl rfl (by kernel_rfl) (by kernel_rfl) (by kernel_rfl) (fun _ _ _ h => h) (wanted_none rfl _) s0 ?tk1 ?rs1
  case tk1 => intro V hV; go_simp; (try with_reducible rfl)
  refine' take_d 1 (some 9) rfl rfl (by kernel_rfl) (by kernel_rfl) (by kernel_rfl) (fun _ _ _ h => h) (wanted_none rfl _) s0 ?tk2 ?rs2
  case tk2 => intro V hV; go_simp; (try with_reducible rfl)
  refine' take_d 2 (some 10) rfl rfl (by kernel_rfl) (by kernel_rfl) (by kernel_rfl) (fun _ _ _ h => h) (wanted_none rfl _) s0 ?tk3 ?rs3
  case tk3 => intro V hV; go_simp; (try with_reducible rfl)
  refine' take_d 3 (some 11) rfl rfl (by kernel_rfl) (by kernel_rfl) (by kernel_rfl) (fun _ _ _ h => h) (wanted_none rfl _) s0 ?tk4 ?rs4
  case tk4 => intro V hV; have hc := hV; go_simp; (try with_reducible rfl)
  refine' take_d 4 (some 12) rfl rfl (by kernel_rfl) (by kernel_rfl) (by kernel_rfl) (fun _ _ _ h => h) (wanted_none rfl _) s0 ?tk5 ?rs5
  case tk5 => intro V hV; go_simp; (try with_reducible rfl)
  refine' take_d 6 (some 14) rfl rfl (by kernel_rfl) (by kernel_rfl) (by kernel_rfl) (fun _ _ _ h => h) (wanted_none rfl _) s0 ?tk6 ?rs6
  case tk6 => intro V hV; go_simp; (try with_reducible rfl)
  simp only [Act.put, List.setIfInBounds_toArray, List.set_cons_zero, List.set_cons_succ]
  refine wpAnyH_all (rs := [5]) (by kernel_rfl) (by simp) (fun i hi => ?_)
  obtain rfl : i = 5 := List.mem_singleton.1 hi
  clear hi
  refine op_call (some 13) rfl rfl (wanted_none rfl _) (by go_simp; (try with_reducible rfl)) (R := fun u w' => u = .string n ∧ Below W.heap.size W w' ∧ w'.heap[W.heap.size]? = some (.cells #[.pointer none, .slice none 0 0, .bool false] 68 (0, 0))) ((HC.out _).mono (fun e w' hh => ⟨.string n, hh.1, rfl, (HA.out.1.drew).trans (hh.2.mono (HA.out.1.drew).size), (hh.2.block W.heap.size (by show W.heap.size < (W.alloc _).heap.size; rw [HZ.out]; omega)).trans HA.out.2⟩)) ?_
  rintro u w1 ⟨rfl, hb1, hf1⟩
  have s1 := HS.out w1 hb1
  refine And.intro s1 ?_
  simp only [Act.put, List.setIfInBounds_toArray, List.set_cons_zero, List.set_cons_succ]
  refine wpAnyH_all (rs := [7]) (by kernel_rfl) (by simp) (fun i hi => ?_)
  obtain rfl : i = 7 := List.mem_singleton.1 hi
  clear hi
  obtain ⟨w2, hrun, hown, hgr⟩ := (HH.out.step hb1).map.update (Maps.string_keyed Try.underlying9) Try.underlying60 (by have := HL.out; unfold maxLen; omega) (WideMaps.keyOf_string_mk Try.underlying9 (s := n) (by unfold maxLen; omega)) (d := ptrD (some W.heap.size)) (ps := []) (ptrR_mk W.heap.size)
  refine op_skip (w' := w2) rfl rfl (wanted_none rfl _) (update_skip rfl rfl rfl rfl hrun) ?_
  have hw2 : ∀ k, k < w1.heap.size → k ≠ mb → w2.heap[k]? = w1.heap[k]? := fun k hk hne => hgr.block k hk (fun e => hne (by cases e; rfl))
  have hsz := hb1.size
  have hWs : W.heap.size < w1.heap.size := (Array.getElem?_eq_some_iff.1 hf1).1
  have hml := HH.out.map.lt
  have s2 : w2.cell? ⟨b, 0, none⟩ = some (.map (some mb)) := (World.cell?_of_block (a := ⟨b, 0, none⟩) (hw2 b (by have := HH.out.prt.blt; omega) (fun e => HH.out.mbne e.symm))).trans s1
  refine And.intro s2 ?_
  refine wpAnyH_done (by kernel_rfl) ?_ _
  simp only [Act.put]
  have HT := hideT (show Tch (fun k => k = mb) W w2 from (Tch.of hb1).trans (Tch.grown (F := fun k => k = mb) hgr (fun g hg => by cases hg; rfl)) (fun _ hj => .inl hj))
  have HF := hideT (show SA w2 b mb p v (updF fm n.data.toList ⟨W.heap.size, .pointer none, .slice none 0 0, ⟨[], false⟩⟩) (D.put (.string n.data.toList) (ptrD (some W.heap.size))) ⟨insF S.fs n.data.toList ⟨[], false⟩, S.out, S.wr⟩ from HH.out.added HX.out (Nat.le_refl _) ((hw2 _ hWs (by omega)).trans hf1) HT.out hown rfl)
  clear hrun hown hgr hw2 hb1 hf1 s1 s2 HH HX HC HA HS hsz hWs hml cm s0
  go_wp2
  go_ret
  exact ⟨_, _, rfl, Nat.le_refl _, HT.out, HF.out⟩

/-- A file that was made empty and opened. -/
theorem opened_file {W w' : World} {x : Fb} (h : BuA w' x.b 0 68 (((cellsF x).setIfInBounds 0 (.pointer none)).setIfInBounds (0 + 1) (.slice none 0 0)) (.pointer none) (.slice none 0 0) []) (ht : Tch (fun j => j = x.b) W w') : FA (w'.setCell ⟨x.b, 2, none⟩ (.bool true)) ⟨x.b, .pointer none, .slice none 0 0, ⟨[], true⟩⟩ ∧ Tch (bft x.b x.v) W (w'.setCell ⟨x.b, 2, none⟩ (.bool true)) :=
  ⟨⟨put_same _ _ 2 _ h.blk, rfl, rfl, .inl rfl, World.ownsRowF_nil _ _ _ _, fun _ => rfl⟩, (ht.mono (fun _ hj => .inl hj)).put (.inl rfl) _ _⟩
theorem set_ins (n : List UInt8) (f g : Fl) : ∀ l : Fs, look l n = none → setF (insF l n f) n g = insF l n g
  | [], _ => by simp [insF, setF]
  | x :: r, h => by
    have hx : ¬ x.1 = n := fun e => by simp [look, e] at h
    have hr : look r n = none := by simpa [look, hx] using h
    unfold insF
    split
    · simp [setF]
    · simp [setF, hx, set_ins n f g r hr]
theorem ft_add {W : World} {b mb fb : Nat} {v : Value} {fm : List UInt8 → Option Fb} {n : List UInt8} {y : Fb} (hb : y.b = fb) (hf : W.heap.size ≤ fb) (hg : ∀ g, y.v.ownBlock = some g → W.heap.size ≤ g) {k : Nat} (hk : ft b mb v (updF fm n y) k) : ft b mb v fm k ∨ W.heap.size ≤ k := by
  rcases hk with h | h | h | ⟨m, z, hz, h⟩
  · exact .inl (.inl h)
  · exact .inl (.inr (.inl h))
  · exact .inl (.inr (.inr (.inl h)))
  · unfold updF at hz
    split at hz
    · cases hz
      rcases h with h | h
      · exact .inr (by omega)
      · exact .inr (hg k h)
    · exact .inl (.inr (.inr (.inr ⟨m, z, hz, h⟩)))
theorem upd_upd (fm : List UInt8 → Option Fb) (n : List UInt8) (x y : Fb) : updF (updF fm n x) n y = updF fm n y := by
  funext m
  unfold updF
  split <;> rfl

set_option maxRecDepth 100000 in
set_option maxHeartbeats 2000000 in
theorem openS_any {W : World} {F : Nat → Prop} {b : Nat} {S : Sr} (h : I0 W F b S) (ho : SOk S) (n : ByteArray) (hn : n.size ≤ 140737488355000) : Calls Try.prog 20 #[ptrV b, .string n] W (Pst F W b (S.openS n.data.toList) (.int .i64 (openE S n.data.toList : Nat))) := by
  have HNM := hideT (name_any n)
  obtain ⟨mb, p, v, fm, D, h, rfl⟩ := h
  have HH := hideT h
  obtain ⟨cm, _⟩ := h.cm
  have hf := h.find n (by omega)
  have hln := h.len 3
  have hl := h.lk n.data.toList
  have HSame := hideT (fun (E : Nat) (hE : openE S n.data.toList = E) (h0 : E ≠ 0) => show S.openS n.data.toList = S from by unfold Sr.openS; rw [hE, if_neg h0])
  cases hnb : nameB n.data.toList with
  | false =>
    have hE : openE S n.data.toList = 3 := by unfold openE; rw [hnb, if_pos rfl]
    rw [hnb] at HNM
    rw [HSame.out 3 hE (by decide), hE]
    clear h hf hln hl hE hnb HSame cm ho
    go_enter Try.func20, Try.ntmps20
    go_wp2_with fail
    refine (HNM.out _).mono ?_
    rintro e w1 ⟨rfl, rfl⟩
    go_wp2
    go_ret
    exact ⟨rfl, Tch.refl _ _, _, ⟨mb, p, v, fm, D, HH.out, rfl⟩, fun k hk => .inl hk⟩
  | true =>
    rw [hnb] at HNM
    cases hx : fm n.data.toList with
    | some x =>
      rw [hx] at hf hl
      have hl' : (look S.fs n.data.toList).isSome = true := by rw [hl]; rfl
      have hf' : (Instr.lookup 60 (.map (some mb)) (.string n) false).run Try.prog W = .ok (.pointer (some ⟨x.b, 0, none⟩)) W := hf
      have hE : openE S n.data.toList = 0 := by unfold openE; rw [hnb, if_neg (by decide), if_pos hl']
      have hS : S.openS n.data.toList = ⟨setF S.fs n.data.toList ⟨[], true⟩, S.out, S.wr⟩ := by unfold Sr.openS; rw [hE, if_pos rfl, if_pos hl']
      rw [hE, hS]
      have HR := hideT (reset_any (h.fil _ x hx))
      have HX := hideT hx
      clear h hf hln hl hE hS hl' hx hnb HSame ho
      go_enter Try.func20, Try.ntmps20
      go_wp2_with fail
      refine (HNM.out _).mono ?_
      rintro e W ⟨rfl, rfl⟩
      go_wp2_with fail
      refine HR.out.mono ?_
      rintro e w1 ⟨rfl, h1, ht, hs⟩
      have c2 : w1.cell? ⟨x.b, 2, none⟩ = some (.bool x.f.op) := by simp [World.cell?, h1.blk, cellsF]
      have f2 : w1.frozen? ⟨x.b, 2, none⟩ = false := by simp [World.frozen?, h1.blk]
      have HO := hideT (opened_file h1 ht)
      have HP := hideT (HH.out.changed HX.out (y := ⟨x.b, .pointer none, .slice none 0 0, ⟨[], true⟩⟩) rfl HO.out.1 HO.out.2 (fun g hg => by cases hg))
      clear h1 ht hs HR hf' cm
      go_wp2
      go_ret
      exact ⟨rfl, HO.out.2.mono (fun j hj => ft_file HX.out hj), _, ⟨mb, p, v, _, D, HP.out, rfl⟩, fun k hk => ft_upd (y := ⟨x.b, .pointer none, .slice none 0 0, ⟨[], true⟩⟩) HX.out rfl (fun g hg => by cases hg) hk⟩
    | none =>
      rw [hx] at hf hl
      have hl' : (look S.fs n.data.toList).isSome = false := by rw [hl]; rfl
      have hf' : (Instr.lookup 60 (.map (some mb)) (.string n) false).run Try.prog W = .ok (.pointer none) W := hf
      have hle := ho.len
      by_cases hfull : 16 ≤ S.fs.length
      · have k1 : ((S.fs.length : Int) == 16) = true := by rw [show S.fs.length = 16 by omega]; rfl
        have hE : openE S n.data.toList = 4 := by unfold openE; rw [hnb, if_neg (by decide), hl', if_neg (by decide), if_pos hfull]
        rw [HSame.out 4 hE (by decide), hE]
        clear h hf hl hE hl' hx hnb HSame ho hfull hle
        go_enter Try.func20, Try.ntmps20
        go_wp2_with fail
        refine (HNM.out _).mono ?_
        rintro e w1 ⟨rfl, rfl⟩
        go_wp2
        go_ret
        exact ⟨rfl, Tch.refl _ _, _, ⟨mb, p, v, fm, D, HH.out, rfl⟩, fun k hk => .inl hk⟩
      · have k1 : ((S.fs.length : Int) == 16) = false := by rw [beq_eq_false_iff_ne]; omega
        have hE : openE S n.data.toList = 0 := by unfold openE; rw [hnb, if_neg (by decide), hl', if_neg (by decide), if_neg hfull]
        have hln0 : look S.fs n.data.toList = none := by rw [hl]; rfl
        have hS : S.openS n.data.toList = ⟨insF S.fs n.data.toList ⟨[], true⟩, S.out, S.wr⟩ := by unfold Sr.openS; rw [hE, if_pos rfl, hl', if_neg (by decide)]
        rw [hE, hS]
        have HADD := hideT (add_any h n hn hx (by omega))
        have HLN := hideT hln0
        clear h hf hl hE hS hl' hx hnb HSame ho hfull hln0
        go_enter Try.func20, Try.ntmps20
        go_wp2_with fail
        refine (HNM.out _).mono ?_
        rintro e W ⟨rfl, rfl⟩
        go_wp2_with fail
        refine HADD.out.mono ?_
        rintro e w1 ⟨fb, D', rfl, hfb, ht1, h1⟩
        have hu : updF fm n.data.toList ⟨fb, .pointer none, .slice none 0 0, ⟨[], false⟩⟩ n.data.toList = some ⟨fb, .pointer none, .slice none 0 0, ⟨[], false⟩⟩ := by unfold updF; rw [if_pos rfl]
        have HR := hideT (reset_any (h1.fil _ _ hu))
        have H1 := hideT (And.intro h1 (And.intro hu (And.intro ht1 hfb)))
        clear h1 ht1 hfb hu HADD HH hf' hln cm
        go_wp2_with fail
        refine HR.out.mono ?_
        rintro e w2 ⟨rfl, h2, ht2, hs2⟩
        have c2 : w2.cell? ⟨fb, 2, none⟩ = some (.bool false) := by simp [World.cell?, h2.blk, cellsF]
        have f2 : w2.frozen? ⟨fb, 2, none⟩ = false := by simp [World.frozen?, h2.blk]
        have HO := hideT (opened_file (x := ⟨fb, .pointer none, .slice none 0 0, ⟨[], false⟩⟩) h2 ht2)
        have HP := hideT (H1.out.1.changed H1.out.2.1 (y := ⟨fb, .pointer none, .slice none 0 0, ⟨[], true⟩⟩) rfl HO.out.1 HO.out.2 (fun g hg => by cases hg))
        have HF := hideT (show Tch (ft b mb v fm) W (w2.setCell ⟨fb, 2, none⟩ (.bool true)) ∧ I0 (w2.setCell ⟨fb, 2, none⟩ (.bool true)) (ft b mb v (updF fm n.data.toList ⟨fb, .pointer none, .slice none 0 0, ⟨[], true⟩⟩)) b ⟨insF S.fs n.data.toList ⟨[], true⟩, S.out, S.wr⟩ ∧ ∀ k, ft b mb v (updF fm n.data.toList ⟨fb, .pointer none, .slice none 0 0, ⟨[], true⟩⟩) k → ft b mb v fm k ∨ W.heap.size ≤ k from by
          refine ⟨(H1.out.2.2.1.mono (fun j hj => .inr (.inl hj))).trans HO.out.2 (fun j hj => ?_), ?_, fun k hk => ft_add (y := ⟨fb, .pointer none, .slice none 0 0, ⟨[], true⟩⟩) rfl H1.out.2.2.2 (fun g hg => by cases hg) hk⟩
          · rcases hj with h | h
            · exact .inr (by have := H1.out.2.2.2; show W.heap.size ≤ j; rw [h]; exact this)
            · cases h
          · have h3 := HP.out
            rw [upd_upd] at h3
            have e3 : setF (insF S.fs n.data.toList ⟨[], false⟩) n.data.toList ⟨[], true⟩ = insF S.fs n.data.toList ⟨[], true⟩ := set_ins _ _ _ _ HLN.out
            have h4 : SA _ b mb p v (updF fm n.data.toList ⟨fb, .pointer none, .slice none 0 0, ⟨[], true⟩⟩) D' ⟨setF (insF S.fs n.data.toList ⟨[], false⟩) n.data.toList ⟨[], true⟩, S.out, S.wr⟩ := h3
            rw [e3] at h4
            exact ⟨mb, p, v, _, D', h4, rfl⟩)
        clear h2 ht2 hs2 HR H1 HO HP
        go_wp2
        go_ret
        exact ⟨rfl, HF.out.1, _, HF.out.2.1, HF.out.2.2⟩
end Go.Proofs.Ytbibfpgcnmocjaa
