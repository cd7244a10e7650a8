/- LinesKeeps: for all arguments of bulk at most 1048576: a list that is handed in stays, spare room too; lists that are answered are new each time: the law returns true, and its arguments read as they did. -/
import Derived.Test.YtfmgpcefghoncaaRows4
namespace Go.Proofs.Ytfmgpcefghoncaa
open Go.ChangeShapes Go.WideShapes Go.ChangeAt Go.RowKit
open Go.ChangeMaps (open_string shut_string)
namespace keeps

theorem hide2 {p : Prop} (h : p) : Hid p := h

theorem owns_some {W : World} {base e size : Nat} {v : Value} {n : Nat} {xs : List Value} (h : W.ownsRow base e size v n xs) (hn : 0 < n) : ∃ g cap, v = .slice (some ⟨g, 0, none⟩) n cap ∧ n ≤ cap ∧ cap ≤ maxLen := by
  rcases h.2 with ⟨_, h0⟩ | ⟨g, cap, cur, hv, _, _, h1, h2, _⟩
  · omega
  · exact ⟨g, cap, hv, h1, h2⟩

theorem Row.front3 {W : World} {p : Option Addr} {n c : Nat} {l : List (List UInt8)} {x : List UInt8} (h : Row W (.slice p n c) (l ++ [x])) (c' : Nat) : Row W (.slice p l.length c') l := by
  rcases h with ⟨e, -⟩ | ⟨g, off, c2, e, hc⟩
  · simp at e
  · cases e
    refine .inr ⟨g, off, c', rfl, fun i hi => ?_⟩
    rw [hc i (by simp; omega), List.getElem_append_left hi]

theorem last_cell {W : World} {base g cap : Nat} {l : List (List UInt8)} {x : List UInt8} (h : W.ownsRow base 9 1 (.slice (some ⟨g, 0, none⟩) (l ++ [x]).length cap) (l ++ [x]).length (strVals (l ++ [x]))) : W.cell? ⟨g, l.length, none⟩ = some (.string (str x)) := by
  rw [h.cellAt l.length (by simp), strVals_snoc, List.getElem?_append_right (by simp [strVals])]
  simp [strVals]

theorem tail_cell {W : World} {base g n cap : Nat} {M m : List (List UInt8)} (h : W.ownsRow base 9 1 (.slice (some ⟨g, 0, none⟩) n cap) (M ++ m).length (strVals (M ++ m))) (hn : n = (M ++ m).length) (j : Nat) (hj : j < m.length) : W.cell? ⟨g, M.length + j, none⟩ = some (.string (str m[j])) := by
  subst hn
  rw [h.cellAt _ (by simp; omega)]
  have e : strVals (M ++ m) = strVals M ++ strVals m := by simp [strVals]
  rw [e, List.getElem?_append_right (by simp [strVals])]
  simp [strVals, List.getElem?_eq_getElem hj]

theorem front_cell {W : World} {base g n cap : Nat} {M m : List (List UInt8)} (h : W.ownsRow base 9 1 (.slice (some ⟨g, 0, none⟩) n cap) (M ++ m).length (strVals (M ++ m))) (hn : n = (M ++ m).length) (j : Nat) (hj : j < M.length) : W.cell? ⟨g, j, none⟩ = some (.string (str M[j])) := by
  subst hn
  rw [h.cellAt _ (by simp; omega)]
  have e : strVals (M ++ m) = strVals M ++ strVals m := by simp [strVals]
  rw [e, List.getElem?_append_left (by simpa [strVals] using hj)]
  simp [strVals, List.getElem?_eq_getElem hj]

theorem owns_app {W : World} {base k : Nat} {v : Value} {l : List (List UInt8)} {ys : List Value} (m : List (List UInt8)) (h : W.ownsRow base 9 1 v (l.length + k) (strVals l ++ ys)) (hk : k = m.length) (he : ys = strVals m) : W.ownsRow base 9 1 v (l ++ m).length (strVals (l ++ m)) := by
  subst he
  subst hk
  rw [List.length_append]
  have e : strVals (l ++ m) = strVals l ++ strVals m := by simp [strVals]
  rw [e]
  exact h

theorem set_mark (l : List (List UInt8)) (m : List UInt8) (k : Nat) (hk : k < l.length) : (List.replicate k m ++ l.drop k).set k m = List.replicate (k + 1) m ++ l.drop (k + 1) := by
  rw [List.set_append_right _ _ (by simp), List.length_replicate, Nat.sub_self, List.drop_eq_getElem_cons hk, List.set_cons_zero, List.replicate_succ']
  simp

set_option maxRecDepth 100000 in
set_option maxHeartbeats 4000000 in
theorem walk (s : ByteArray) (v : Value) (l : List (List UInt8)) (n : Int) (hs : s.size ≤ 1048576) (hl : (joinL l).length ≤ 1048576) (hr : -9223372036854775808 ≤ n ∧ n ≤ 9223372036854775807) (hshape : v = .slice none 0 0 ∨ ∃ ad n c, v = .slice (some ad) n c) (w : World) (hv : Row w v l) :
    Calls Try.prog 8 #[.string s, v, .int .i64 n] w fun e w' => e = .returned (.bool true) ∧ Below w.heap.size w w' := by
  obtain ⟨i0, hi, hz0, hz1, hz2⟩ := info_parts info9
  have hcl := cutL_le s.data.toList
  have hsz : s.data.toList.length = s.size := by simp
  have hn := joinL_len l
  obtain ⟨T, hT⟩ : ∃ T, tailL (cutL s.data.toList) n = T := ⟨_, rfl⟩
  have hTl : T.length ≤ (cutL s.data.toList).length := by
    rw [← hT]; unfold tailL; split <;> simp
  have hC := cutCall s (by omega)
  have hRC := refCut_any s (by omega)
  have hTa := tail_any s (by omega) n hr.2
  have hRT := refTail_any s (by omega) n hr
  obtain ⟨L, hL⟩ : ∃ L, cutL s.data.toList = L := ⟨_, rfl⟩
  rw [hT] at hTa hRT
  rw [hL] at hC hRC hcl hTl
  clear hT hL
  have hLl : L.length ≤ 1048576 := by omega
  have hTl2 : T.length ≤ 1048576 := by omega
  have hln : l.length ≤ 1048576 := by omega
  clear hcl hsz hTl
  have HC := hide hC
  have HRC := hide hRC
  have HT := hide hTa
  have HRT := hide hRT
  have HS := hide hshape
  clear hC hRC hTa hRT hshape
  obtain ⟨p0, c0, rfl⟩ := hv.shape
  have HV := hide hv
  clear hv
  go_enter Try.func8, Try.ntmps8
  go_wp2_with fail
  refine (awake_any w).mono ?_
  rintro e w1 ⟨rfl, hB1⟩
  go_wp2_with (first | (at_builtin; refine append_arg rfl _ _ rfl w.heap.size _ _ [] l rfl (World.ownsRow_nil _ _ _ _) rfl (HV.out.stay hB1 (Nat.le_refl _)) HS.out (by simp only [List.length_nil]; omega) hB1.size ?_; intro v2 w2 hown2 hg2; rw [List.nil_append] at hown2; have hB2 := hB1.grown hg2 hB1.size (fun k hk => by cases hk); obtain ⟨ao2, cp2, rfl⟩ := owns_shape hown2; have HO2 := hide hown2; have hszB2 := hB2.size; clear hown2 hg2 hB1) | (at_builtin; refine wpList_append_own _ rfl _ _ 22 rfl w.heap.size 9 i0 (.string ⟨#[]⟩) 1 16 Try.underlying22 hi hz0 hz1 hz2 rfl (by decide) _ _ _ rfl (HO2.out.alloc _) ⟨w2.heap.size, 0, none⟩ 1 1 [.string ⟨#[98, 101, 104, 105, 110, 100]⟩] rfl rfl (cell_one_new _ _ _) (by simp [Value.oneCell']) (by unfold maxLen; omega) (by omega) (by rw [World.size_alloc]; omega) ?_; intro v3 w3 hown3 hg3 _; have hB3 := (hB2.alloc hszB2 _).grown hg3 (by rw [World.size_alloc]; omega) (owns_block HO2.out); have hown3 : w3.ownsRow w.heap.size 9 1 v3 (l ++ [[98, 101, 104, 105, 110, 100]]).length (strVals (l ++ [[98, 101, 104, 105, 110, 100]])) := (by rw [List.length_append, strVals_snoc]; exact hown3); obtain ⟨g3, cp3, rfl, hcap3, hmx3⟩ := owns_some hown3 (by simp); have HO3 := hide hown3; rw [List.length_append] at hcap3; clear hown3 hg3 hB2 HO2))
  have hlc : l.length ≤ cp3 := by simp at hcap3; omega
  have hlc1 : l.length < l.length + 1 := by omega
  have HF3 := hide (Row.front3 (Row.of_owns HO3.out) cp3)
  refine (join_any _ l w3 HF3.out (by omega) (by omega)).mono ?_
  rintro e w4 ⟨rfl, hb4⟩
  have HO4 := hide (owns_below HO3.out hb4)
  have hB4 := hB3.trans (hb4.mono hB3.size)
  clear HO3 HF3 hb4 hB3
  go_wp2_with fail
  have HF4 := hide (Row.front3 (Row.of_owns HO4.out) cp3)
  refine (same_any _ _ l l w4 HF4.out (HV.out.stay hB4 (Nat.le_refl _)) (by omega) (by omega)).mono ?_
  rintro e w5 ⟨rfl, hb5⟩
  rw [decide_eq_true rfl]
  have hcell : w5.cell? ⟨g3, l.length, none⟩ = some (.string ⟨#[98, 101, 104, 105, 110, 100]⟩) := last_cell (owns_below HO4.out hb5)
  have hB5 := hB4.trans (hb5.mono hB4.size)
  clear HO4 HF4 hb5 hB4
  go_wp2_with fail
  obtain ⟨B, hBd⟩ : ∃ B, B = w5.heap.size := ⟨_, rfl⟩
  refine (HC.out w5).mono ?_
  rintro e w6 ⟨va, rfl, hoa, hb6⟩
  have HR6 := hide (Rows.add (Rows.nil w5 B) hb6 (Nat.le_of_eq hBd) hoa)
  have hB6 := hB5.trans (hb6.mono hB5.size)
  have hBw : w.heap.size ≤ B := by rw [hBd]; exact hB5.size
  have hs6 : B ≤ w6.heap.size := by rw [hBd]; exact hb6.size
  obtain ⟨aoa, cpa, rfl⟩ := owns_shape hoa
  clear hoa hb6 hB5 hBd hcell
  go_wp2_with fail
  refine (HC.out w6).mono ?_
  rintro e w7 ⟨vb, rfl, hob, hb7⟩
  have HR7 := hide (Rows.add HR6.out hb7 hs6 hob)
  have hB7 := hB6.trans (hb7.mono hB6.size)
  have hs7 : B ≤ w7.heap.size := Nat.le_trans hs6 hb7.size
  obtain ⟨aob, cpb, rfl⟩ := owns_shape hob
  clear hob hb7 hB6 HR6 hs6
  go_wp2_with fail
  refine (HT.out w7).mono ?_
  rintro e w8 ⟨vc, rfl, hoc, hb8⟩
  have HR8 := hide (Rows.add HR7.out hb8 hs7 hoc)
  have hB8 := hB7.trans (hb8.mono hB7.size)
  have hs8 : B ≤ w8.heap.size := Nat.le_trans hs7 hb8.size
  obtain ⟨aoc, cpc, rfl⟩ := owns_shape hoc
  clear hoc hb8 hB7 HR7 hs7
  go_wp2_with fail
  refine (HT.out w8).mono ?_
  rintro e w9 ⟨vd, rfl, hod, hb9⟩
  have HR9 := hide (Rows.add HR8.out hb9 hs8 hod)
  have hsBw : B ≤ w9.heap.size := Nat.le_trans hs8 hb9.size
  have hB := hB8.trans (hb9.mono hB8.size)
  obtain ⟨aod, cpd, rfl⟩ := owns_shape hod
  clear hod hb9 hB8 HR8 hs8
  have HR := hide (Rows.pick [(.slice aod T.length cpd, T), (.slice aoc T.length cpc, T), (.slice aob L.length cpb, L)] [] (.slice aoa L.length cpa, L) HR9.out)
  clear HR9
  go_wp2_with fail
  go_loopw [56] (fun i wr => ∃ k : Nat, k ≤ L.length ∧ i = .int .i64 k ∧ Rows wr B [(.slice aoa L.length cpa, List.replicate k [109, 97, 114, 107, 32, 97] ++ L.drop k), (.slice aod T.length cpd, T), (.slice aoc T.length cpc, T), (.slice aob L.length cpb, L)] ∧ Below w.heap.size w wr ∧ B ≤ wr.heap.size) (fun i _ => L.length - (intOf i).toNat)
  case atStart => exact ⟨0, by omega, rfl, by simpa using HR.out, hB, hsBw⟩
  case round =>
    clear HR hB hsBw
    obtain ⟨k, hk, rfl, hR, hB, hsBw⟩ := hrel
    by_cases hlt : k < L.length
    · have hlen : (List.replicate k [109, 97, 114, 107, 32, 97] ++ L.drop k).length = L.length := by simp; omega
      have hown := hR.head
      rw [hlen] at hown
      obtain ⟨g, cap, e, -, -⟩ := owns_some hown (by omega)
      cases e
      obtain ⟨x, hx⟩ : ∃ x, wr.cell? ⟨g, k, none⟩ = some x := by
        rw [hown.cellAt k (by omega)]
        exact ⟨_, List.getElem?_eq_getElem (by simp [strVals]; omega)⟩
      have hf := hown.frozenAt k
      have hR2 := Rows.store (l := List.replicate k [109, 97, 114, 107, 32, 97] ++ L.drop k) (by rw [hlen]; exact hR) k [109, 97, 114, 107, 32, 97]
      rw [hlen, set_mark _ _ _ hlt] at hR2
      have hgk : w.heap.size ≤ g := by
        have := owns_block hown g rfl
        omega
      have hB2 := hB.setCell (p := ⟨g, k, none⟩) hgk (.string (str [109, 97, 114, 107, 32, 97]))
      have HR2 := hide hR2
      have HB2 := hide hB2
      clear hR2 hB2 hR hown hlen hB
      go_wp2_with fail
      refine ⟨⟨k + 1, by omega, by go_num, HR2.out, HB2.out, by simpa using hsBw⟩, by simp [intOf]; omega⟩
    · obtain rfl : k = L.length := by omega
      rw [List.drop_length, List.append_nil] at hR
      clear hlt hk
      obtain ⟨MA, hMA⟩ : ∃ M, List.replicate L.length ([109, 97, 114, 107, 32, 97] : List UInt8) = M := ⟨_, rfl⟩
      have hMAl : MA.length = L.length := by rw [← hMA]; simp
      have HMA := hide hMA
      rw [hMA] at hR
      clear hMA
      have HR := hide (Rows.pick [(.slice aoa L.length cpa, MA), (.slice aod T.length cpd, T)] [(.slice aob L.length cpb, L)] (.slice aoc T.length cpc, T) hR)
      clear hR
      go_wp2_with fail
      go_loopw [65] (fun i wr => ∃ k : Nat, k ≤ T.length ∧ i = .int .i64 k ∧ Rows wr B [(.slice aoc T.length cpc, List.replicate k [109, 97, 114, 107, 32, 99] ++ T.drop k), (.slice aoa L.length cpa, MA), (.slice aod T.length cpd, T), (.slice aob L.length cpb, L)] ∧ Below w.heap.size w wr ∧ B ≤ wr.heap.size) (fun i _ => T.length - (intOf i).toNat)
      case atStart => exact ⟨0, by omega, rfl, by simpa using HR.out, hB, hsBw⟩
      case round =>
        clear HR hB hsBw
        obtain ⟨k, hk, rfl, hR, hB, hsBw⟩ := hrel
        by_cases hlt : k < T.length
        · have hlen : (List.replicate k [109, 97, 114, 107, 32, 99] ++ T.drop k).length = T.length := by simp; omega
          have hown := hR.head
          rw [hlen] at hown
          obtain ⟨g, cap, e, -, -⟩ := owns_some hown (by omega)
          cases e
          obtain ⟨x, hx⟩ : ∃ x, wr.cell? ⟨g, k, none⟩ = some x := by
            rw [hown.cellAt k (by omega)]
            exact ⟨_, List.getElem?_eq_getElem (by simp [strVals]; omega)⟩
          have hf := hown.frozenAt k
          have hR2 := Rows.store (l := List.replicate k [109, 97, 114, 107, 32, 99] ++ T.drop k) (by rw [hlen]; exact hR) k [109, 97, 114, 107, 32, 99]
          rw [hlen, set_mark _ _ _ hlt] at hR2
          have hgk : w.heap.size ≤ g := by
            have := owns_block hown g rfl
            omega
          have hB2 := hB.setCell (p := ⟨g, k, none⟩) hgk (.string (str [109, 97, 114, 107, 32, 99]))
          have HR2 := hide hR2
          have HB2 := hide hB2
          clear hR2 hB2 hR hown hlen hB
          go_wp2_with fail
          refine ⟨⟨k + 1, by omega, by go_num, HR2.out, HB2.out, by simpa using hsBw⟩, by simp [intOf]; omega⟩
        · obtain rfl : k = T.length := by omega
          rw [List.drop_length, List.append_nil] at hR
          clear hlt hk
          have HR := hide (Rows.pick [(.slice aoc T.length cpc, List.replicate T.length [109, 97, 114, 107, 32, 99])] [(.slice aod T.length cpd, T), (.slice aob L.length cpb, L)] (.slice aoa L.length cpa, MA) hR)
          clear hR
          obtain ⟨MC, hMC⟩ : ∃ M, List.replicate T.length ([109, 97, 114, 107, 32, 99] : List UInt8) = M := ⟨_, rfl⟩
          have hMCl : MC.length = T.length := by rw [← hMC]; simp
          rw [hMC] at HR
          simp only [List.cons_append, List.nil_append] at HR
          have hsB := hB.size
          obtain ⟨W0, hW0⟩ : ∃ x, x = wr := ⟨_, rfl⟩
          subst hW0
          have HR0 := HR
          clear HR hMC
          go_wp2_with (first | (at_builtin; refine wpList_append_own_at _ rfl _ _ 22 rfl B 9 i0 (.string ⟨#[]⟩) 1 16 Try.underlying22 hi hz0 hz1 hz2 rfl (by decide) _ _ _ rfl (HR0.out.head.alloc _) ⟨W0.heap.size, 0, none⟩ 2 2 [.string ⟨#[97, 49]⟩, .string ⟨#[97, 50]⟩] rfl rfl (cell_two_new _ _ _ _) (by simp [Value.oneCell']) (by unfold maxLen; omega) (by omega) (by rw [World.size_alloc]; omega) ?_; intro va' wA hownA hgA _ hatA; have hA2 := owns_app [[97, 49], [97, 50]] hownA rfl rfl; have HRA := hide (Rows.pick [(va', MA ++ [[97, 49], [97, 50]])] [(.slice aod T.length cpd, T), (.slice aob L.length cpb, L)] (.slice aoc T.length cpc, MC) (Rows.grown (HR0.out.alloc _) hA2 hgA hatA)); have hBA := (hB.alloc hsB _).grown hgA (by rw [World.size_alloc]; omega) (fun k hk => Nat.le_trans hBw (owns_block HR0.out.head k hk)); have hszA := hBA.size; have hsBA := Nat.le_trans hsBw (Nat.le_trans (by simp) hgA.size); rw [hMAl] at hownA; obtain ⟨ga, cpa2, rfl, hca, hma⟩ := owns_some hownA (by omega); clear hownA hA2 hgA hatA HR0) | (at_builtin; refine wpList_append_own_at _ rfl _ _ 22 rfl B 9 i0 (.string ⟨#[]⟩) 1 16 Try.underlying22 hi hz0 hz1 hz2 rfl (by decide) _ _ _ rfl (HRA.out.head.alloc _) ⟨wA.heap.size, 0, none⟩ 1 1 [.string ⟨#[99, 49]⟩] rfl rfl (cell_one_new _ _ _) (by simp [Value.oneCell']) (by unfold maxLen; omega) (by omega) (by rw [World.size_alloc]; omega) ?_; intro vc' wC hownC hgC _ hatC; have hC2 := owns_app [[99, 49]] hownC rfl rfl; have HRC2 := hide (Rows.grown (HRA.out.alloc _) hC2 hgC hatC); have hBC := (hBA.alloc hszA _).grown hgC (by rw [World.size_alloc]; omega) (fun k hk => Nat.le_trans hBw (owns_block HRA.out.head k hk)); rw [hMCl] at hownC; obtain ⟨gc, cpc2, rfl, hcc, hmc⟩ := owns_some hownC (by omega); have hsBC := Nat.le_trans hsBA (Nat.le_trans (by simp) hgC.size); clear hownC hC2 hgC hatC HRA hBA hszA hsBA hB hsB))
          refine (HRC.out wC).mono ?_
          rintro e w10 ⟨v10, rfl, ho10, hb10⟩
          have HR10 := hide (HRC2.out.below hb10)
          have hB10 := hBC.trans (hb10.mono hBC.size)
          have hs10 : B ≤ w10.heap.size := Nat.le_trans hsBC hb10.size
          obtain ⟨ao10, cp10, rfl⟩ := owns_shape ho10
          have HW10 := hide (Row.of_owns ho10)
          clear ho10 hb10 hBC HRC2 hsBC
          go_wp2_with fail
          refine (same_any _ _ L L w10 (Row.of_owns (HR10.out.1 (.slice aob L.length cpb, L) (by simp))) HW10.out (by omega) (by omega)).mono ?_
          rintro e w11 ⟨rfl, hb11⟩
          rw [decide_eq_true rfl]
          have HR11 := hide (HR10.out.below hb11)
          have hB11 := hB10.trans (hb11.mono hB10.size)
          have hs11 : B ≤ w11.heap.size := Nat.le_trans hs10 hb11.size
          clear hb11 hB10 HR10 hs10 HW10
          go_wp2_with fail
          refine (HRT.out w11).mono ?_
          rintro e w12 ⟨v12, rfl, ho12, hb12⟩
          have HR12 := hide (HR11.out.below hb12)
          have hB12 := hB11.trans (hb12.mono hB11.size)
          have hs12 : B ≤ w12.heap.size := Nat.le_trans hs11 hb12.size
          obtain ⟨ao12, cp12, rfl⟩ := owns_shape ho12
          have HW12 := hide (Row.of_owns ho12)
          clear ho12 hb12 hB11 HR11 hs11
          go_wp2_with fail
          refine (same_any _ _ T T w12 (Row.of_owns (HR12.out.1 (.slice aod T.length cpd, T) (by simp))) HW12.out (by omega) (by omega)).mono ?_
          rintro e w13 ⟨rfl, hb13⟩
          rw [decide_eq_true rfl]
          have HR13 := hide (Rows.pick [(.slice (some ⟨gc, 0, none⟩) (T.length + 1) cpc2, MC ++ [[99, 49]]), (.slice (some ⟨ga, 0, none⟩) (L.length + 2) cpa2, MA ++ [[97, 49], [97, 50]]), (.slice aod T.length cpd, T)] [] (.slice aob L.length cpb, L) (HR12.out.below hb13))
          have hB13 := hB12.trans (hb13.mono hB12.size)
          have hs13 : B ≤ w13.heap.size := Nat.le_trans hs12 hb13.size
          clear hb13 hB12 HR12 hs12 HW12
          have hz13 := hB13.size
          obtain ⟨LB, hLB⟩ : ∃ M, L ++ [[98, 49], [98, 50]] = M := ⟨_, rfl⟩
          have HLB := hide hLB
          clear hLB
          go_wp2_with (first | (at_builtin; refine wpList_append_own_at _ rfl _ _ 22 rfl B 9 i0 (.string ⟨#[]⟩) 1 16 Try.underlying22 hi hz0 hz1 hz2 rfl (by decide) _ _ _ rfl (HR13.out.head.alloc _) ⟨w13.heap.size, 0, none⟩ 2 2 [.string ⟨#[98, 49]⟩, .string ⟨#[98, 50]⟩] rfl rfl (cell_two_new _ _ _ _) (by simp [Value.oneCell']) (by unfold maxLen; omega) (by omega) (by rw [World.size_alloc]; omega) ?_; intro vb' wB hownB hgB _ hatB; have hB2 := owns_app [[98, 49], [98, 50]] hownB rfl rfl; rw [HLB.out] at hB2; have HRB := hide (Rows.pick [(vb', LB), (.slice (some ⟨gc, 0, none⟩) (T.length + 1) cpc2, MC ++ [[99, 49]]), (.slice (some ⟨ga, 0, none⟩) (L.length + 2) cpa2, MA ++ [[97, 49], [97, 50]])] [] (.slice aod T.length cpd, T) (Rows.grown (HR13.out.alloc _) hB2 hgB hatB)); have hBB := (hB13.alloc hz13 _).grown hgB (by rw [World.size_alloc]; omega) (fun k hk => Nat.le_trans hBw (owns_block HR13.out.head k hk)); have hszB := hBB.size; have hsBB := Nat.le_trans hs13 (Nat.le_trans (by simp) hgB.size); obtain ⟨gb, cpb2, rfl, hcb, hmb⟩ := owns_some hB2 (by rw [← HLB.out]; simp); clear hownB hB2 hgB hatB HR13) | (at_builtin; refine wpList_append_own_at _ rfl _ _ 22 rfl B 9 i0 (.string ⟨#[]⟩) 1 16 Try.underlying22 hi hz0 hz1 hz2 rfl (by decide) _ _ _ rfl (HRB.out.head.alloc _) ⟨wB.heap.size, 0, none⟩ 1 1 [.string ⟨#[100, 49]⟩] rfl rfl (cell_one_new _ _ _) (by simp [Value.oneCell']) (by unfold maxLen; omega) (by omega) (by rw [World.size_alloc]; omega) ?_; intro vd' wD hownD hgD _ hatD; have hD2 := owns_app [[100, 49]] hownD rfl rfl; have HRD := hide (Rows.pick [(vd', T ++ [[100, 49]])] [(.slice (some ⟨gc, 0, none⟩) (T.length + 1) cpc2, MC ++ [[99, 49]]), (.slice (some ⟨ga, 0, none⟩) (L.length + 2) cpa2, MA ++ [[97, 49], [97, 50]])] (.slice (some ⟨gb, 0, none⟩) LB.length cpb2, LB) (Rows.grown (HRB.out.alloc _) hD2 hgD hatD)); have hBD := (hBB.alloc hszB _).grown hgD (by rw [World.size_alloc]; omega) (fun k hk => Nat.le_trans hBw (owns_block HRB.out.head k hk)); obtain ⟨gd, cpd2, rfl, hcd, hmd⟩ := owns_some hownD (by omega); have hsBD := Nat.le_trans hsBB (Nat.le_trans (by simp) hgD.size); clear hownD hD2 hgD hatD HRB hBB hszB hsBB hB13 hs13 hz13))
          have hLBl : LB.length ≤ 1048578 := by rw [← HLB.out]; simp; omega
          go_loopw [99] (fun i wr => ∃ k : Nat, k ≤ LB.length ∧ i = .int .i64 k ∧ Rows wr B [(.slice (some ⟨gb, 0, none⟩) LB.length cpb2, List.replicate k [109, 97, 114, 107, 32, 98] ++ LB.drop k), (.slice (some ⟨gd, 0, none⟩) (T.length + 1) cpd2, T ++ [[100, 49]]), (.slice (some ⟨gc, 0, none⟩) (T.length + 1) cpc2, MC ++ [[99, 49]]), (.slice (some ⟨ga, 0, none⟩) (L.length + 2) cpa2, MA ++ [[97, 49], [97, 50]])] ∧ Below w.heap.size w wr ∧ B ≤ wr.heap.size) (fun i _ => LB.length - (intOf i).toNat)
          case atStart => exact ⟨0, by omega, rfl, by simpa using HRD.out, hBD, hsBD⟩
          case round =>
            clear HRD hBD hsBD
            obtain ⟨k, hk, rfl, hR, hB, hsBw⟩ := hrel
            by_cases hlt : k < LB.length
            · have hlen : (List.replicate k [109, 97, 114, 107, 32, 98] ++ LB.drop k).length = LB.length := by simp; omega
              have hown := hR.head
              rw [hlen] at hown
              obtain ⟨x, hx⟩ : ∃ x, wr.cell? ⟨gb, k, none⟩ = some x := by
                rw [hown.cellAt k (by omega)]
                exact ⟨_, List.getElem?_eq_getElem (by simp [strVals]; omega)⟩
              have hf := hown.frozenAt k
              have hR2 := Rows.store (l := List.replicate k [109, 97, 114, 107, 32, 98] ++ LB.drop k) (by rw [hlen]; exact hR) k [109, 97, 114, 107, 32, 98]
              rw [hlen, set_mark _ _ _ hlt] at hR2
              have hgk : w.heap.size ≤ gb := by
                have := owns_block hown gb rfl
                omega
              have hB2 := hB.setCell (p := ⟨gb, k, none⟩) hgk (.string (str [109, 97, 114, 107, 32, 98]))
              have HR2 := hide hR2
              have HB2 := hide hB2
              clear hR2 hB2 hR hown hlen hB
              go_wp2_with fail
              refine ⟨⟨k + 1, by omega, by go_num, HR2.out, HB2.out, by simpa using hsBw⟩, by simp [intOf]; omega⟩
            · obtain rfl : k = LB.length := by omega
              have hMy := hlt
              clear hlt hk
              clear hMy
              have HA4 := hide (hR.1 (.slice (some ⟨ga, 0, none⟩) (L.length + 2) cpa2, MA ++ [[97, 49], [97, 50]]) (by simp))
              have HC4 := hide (hR.1 (.slice (some ⟨gc, 0, none⟩) (T.length + 1) cpc2, MC ++ [[99, 49]]) (by simp))
              have HD4 := hide (hR.1 (.slice (some ⟨gd, 0, none⟩) (T.length + 1) cpd2, T ++ [[100, 49]]) (by simp))
              clear hR hsBw
              go_wp2_with fail
              go_loopw [109] (fun i wq => ∃ k : Nat, k ≤ L.length ∧ i = .int .i64 k ∧ wq = wr) (fun i _ => L.length - (intOf i).toNat)
              case atStart => exact ⟨0, by omega, rfl, rfl⟩
              case round =>
                obtain ⟨k, hk, rfl, rfl⟩ := hrel
                by_cases hlt : k < L.length
                · have hca : wr.cell? ⟨ga, k, none⟩ = some (.string ⟨#[109, 97, 114, 107, 32, 97]⟩) := by
                    have h := front_cell HA4.out (by simp [hMAl]) k (by omega)
                    have hMk : MA[k]'(by omega) = [109, 97, 114, 107, 32, 97] := by
                      have h := HMA.out
                      simp [← h]
                    rw [hMk] at h
                    exact h
                  go_wp2_with fail
                  refine ⟨⟨k + 1, by omega, by go_num, trivial⟩, by simp [intOf]; omega⟩
                · obtain rfl : k = L.length := by omega
                  have c1 : wr.cell? ⟨ga, L.length, none⟩ = some (.string ⟨#[97, 49]⟩) := by
                    have h := tail_cell HA4.out (by simp [hMAl]) 0 (by simp)
                    rw [hMAl] at h
                    exact h
                  have c2 : wr.cell? ⟨ga, L.length + 1, none⟩ = some (.string ⟨#[97, 50]⟩) := by
                    have h := tail_cell HA4.out (by simp [hMAl]) 1 (by simp)
                    rw [hMAl] at h
                    exact h
                  have c3 : wr.cell? ⟨gc, T.length, none⟩ = some (.string ⟨#[99, 49]⟩) := by
                    have h := tail_cell HC4.out (by simp [hMCl]) 0 (by simp)
                    rw [hMCl] at h
                    exact h
                  have c4 : wr.cell? ⟨gd, T.length, none⟩ = some (.string ⟨#[100, 49]⟩) := tail_cell HD4.out (by simp) 0 (by simp)
                  clear HA4 HC4 HD4
                  go_wp2
                  go_ret
                  exact ⟨rfl, hB⟩

theorem own : ownKnob Try.prog.godebug = none := by kernel_rfl
theorem laidOut : laidOutB Try.prog = true := by kernel_rfl

set_option maxHeartbeats 1000000 in
set_option maxRecDepth 100000 in
theorem lifted (os : Os) (started : os.Started) (H : Type) (enc : TypeId × Value → H) (F0 : Stop.Interp) :
    ReturnsInHanded {} Try.checked os 8 .any ((Rows.OpenSpec.upto Rows.linesKeepsSpec).pre6 enc Try.prog Try.f8 Rows.linesKeepsUptoRow.domain false) (((Rows.OpenSpec.upto Rows.linesKeepsSpec).at F0).post enc Try.prog Try.f8 false true false false) := by
  refine returnsInHanded_of_cond (C := Try.checked) (s := (Rows.OpenSpec.upto Rows.linesKeepsSpec)) (k := Rows.uptoSmall) rfl own started (by kernel_rfl) Try.func8
    (OpenSpec.witness (enc := enc) (C := Try.checked) (s := (Rows.OpenSpec.upto Rows.linesKeepsSpec)) (k := Rows.uptoSmall) rfl false ⟨#[], #[.string ⟨#[]⟩, .slice none 0 0, .int .i64 0], []⟩ 8 (by kernel_rfl) (by kernel_rfl) (by kernel_rfl)
      (x := ([.lit (.string []), .nil, .lit (.int .i64 0)], [], [])) (by kernel_rfl) (by kernel_rfl) (by kernel_rfl)) ?_
  intro W base args ds gs before hval0 hW _ hk0 _
  have hval : ∀ (j : Nat) t v, Try.f8.params[j]? = some t → args[j]? = some v → Value.okWide Try.prog W .any base t v := hval0
  have hW' := hW
  obtain ⟨p, q, hA0, hV, rfl, hfz, hnd⟩ := hW
  have hA : DataW.TrodAll enc Try.prog W 0 (fun _ => true) true Try.f8.params.toList args.toList ds p := hA0
  rw [Try.params8] at hA hval
  obtain ⟨v0, vs0, d0, ds0, p0, q0, hargs, rfl, rfl, h0, r0⟩ := trodAll_cons hA
  obtain ⟨v1, vs1, d1, ds1, p1, q1, rfl, rfl, rfl, h1, r1⟩ := trodAll_cons r0
  obtain ⟨v2, vs2, d2, ds2, p2, q2, rfl, rfl, rfl, h2, r2⟩ := trodAll_cons r1
  obtain ⟨rfl, rfl, rfl⟩ := trodAll_nil r2
  obtain rfl : args = #[v0, v1, v2] := by cases args; simp_all
  obtain ⟨rfl, rfl⟩ := trodVars_none hV
  obtain ⟨s0, rfl, rfl, rfl, w0⟩ := open_string Try.underlying9 (hval 0 9 v0 rfl rfl) h0
  have k1 := h1
  have lt1 : ∀ x ∈ p1, x.block < W.heap.size := by obtain ⟨m, hm⟩ := k1; exact DataW.trod_lt m _ _ _ hm
  obtain ⟨l1, row1, shp1, bk1⟩ := open_strs Try.underlying22 (hval 1 22 v1 rfl rfl) h1
  obtain ⟨a2, rfl, rfl, rfl, w2⟩ := open_int Try.underlying3 (hval 2 3 v2 rfl rfl) h2
  clear hA0 hval0
  have hk : Rows.uptoBulkAll ([.lit (.string s0.data.toList), d1, .lit (.int .i64 a2)] ++ [] : List (DataW H)) ≤ 1048576 := of_decide_eq_true hk0
  have zz : (joinL l1).length ≤ 1048576 ∧ s0.size ≤ 1048576 := by
    simp only [List.append_nil, Rows.uptoBulkAll] at hk
    simp only [Rows.uptoBulk] at hk
    simp at hk
    omega
  have z0 : (joinL l1).length ≤ 1048576 := zz.1
  have z1 := zz.2
  refine (walk s0 v1 l1 a2 z1 z0 (by have h := w2; simp [Lit.wf] at h; exact ⟨h.1, h.2⟩) shp1 W row1).mono fun e W' ⟨he, bel⟩ => ?_
  subst he
  exact ⟨_, rfl, _, _, _, [], _, [], hW', trodAll_mk1 (shut_bool Try.underlying4 _), (trodAll_cons_mk (shut_string Try.underlying9 w0) (trodAll_cons_mk (Below.trod laidOut (by kernel_rfl) (of_decide_eq_true (by kernel_rfl)) k1 bel lt1) (trodAll_cons_mk (shut_int Try.underlying3 w2) trodAll_mk0))), rfl, bel.frame _, fun h => by cases h⟩

theorem over : Rows.linesKeepsUptoRow.holds Try.pinned (Rows.OpenSpec.upto Rows.linesKeepsSpec) :=
  OpenClaim.holds_of_cond 8 Try.f8 rfl rfl rfl rfl rfl rfl rfl ⟨rfl, rfl, rfl, rfl, rfl⟩ rfl rfl rfl rfl rfl (by kernel_rfl) Try.func8 (by kernel_rfl)
    (of_decide_eq_true (by kernel_rfl)) (by unfold Func.isWrapper; first | (rw [if_pos (by decide +kernel)]; kernel_rfl) | (rw [if_neg (by decide +kernel)]; exact ⟨rfl, rfl⟩))
    (fun os started H enc _ F0 => lifted os started H enc F0)

end keeps

/-- The statement. -/
theorem linesKeeps_holds : Rows.LinesKeepsUptoSaid := keeps.over
#print axioms linesKeeps_holds
end Go.Proofs.Ytfmgpcefghoncaa
