/- template: the document's Build. -/
import Derived.Test.YtbncokfpkkmoiaaTl
namespace Go.Proofs.Ytbncokfpkkmoiaa
open Go.RowKit

set_option maxRecDepth 100000 in
set_option maxHeartbeats 4000000 in
theorem docBuild_any (v vs : Value) (ps : List Pt) (s : ByteArray) (sp : List (Int × Int)) (w : World) (hv : PRow w v ps) (hvs : SRow w vs sp) (hn : ps.length ≤ 140737488355328) (ht : ∀ p ∈ ps, p.t.size ≤ 140737488355328) (hs : s.size ≤ 140737488355328) :
    Calls Try.prog 18 #[v, .string s, vs] w fun e w' => e = .returned (.tuple #[.string (bst (buildR s.data.toList sp ps []).1), .int .i64 ((buildR s.data.toList sp ps []).2 : Nat)]) ∧ Below w.heap.size w w' := by
  obtain ⟨i0, hi0, hz0, hz1, hz2⟩ := info_parts info5
  obtain ⟨pa, ca, rfl⟩ := hv.shape
  obtain ⟨pb, cb, rfl⟩ := hvs.shape
  generalize hR : buildR s.data.toList sp ps [] = R
  have HR0 := hideT hR
  clear hR
  go_enter Try.func18, Try.ntmps18
  go_wp2_with fail
  go_loopw [8, 9] (fun tv i wr => ∃ (k : Nat) (l : List UInt8), k ≤ ps.length ∧ i = .int .i64 k ∧ wr.ownsRow w.heap.size 5 1 tv l.length (Lib.byteCells l) ∧ Below w.heap.size w wr ∧ buildR s.data.toList sp (ps.drop k) l = R ∧ l.length ≤ 1024) (fun _ i _ => ps.length - (intOf i).toNat)
  case atStart => exact ⟨0, [], by omega, rfl, World.ownsRow_nil _ _ _ _, Below.refl _ _, by rw [List.drop_zero]; exact HR0.out, by simp⟩
  case round =>
    obtain ⟨k, l, hk, rfl, hO, hB, hrun, hl⟩ := hrel
    clear HR0
    obtain ⟨va, vc, rfl⟩ := owns_shape hO
    by_cases hlt : k < ps.length
    · rcases hv with ⟨rfl, -⟩ | ⟨gb, off, c, e1, ha⟩
      · simp at hlt
      cases e1
      obtain ⟨a1, a2⟩ := ha k hlt
      have c1 := (hB.cell (p := ⟨gb, off + k * 2, none⟩) (cell_lt a1)).trans a1
      have c2 := (hB.cell (p := ⟨gb, off + k * 2 + 1, none⟩) (cell_lt a2)).trans a2
      have i1 : (k : Int) < (ps.length : Int) := by omega
      have i2 : (0 : Int) ≤ (k : Int) := by omega
      rw [List.drop_eq_getElem_cons hlt] at hrun
      have htp := ht ps[k] (List.getElem_mem hlt)
      generalize ps[k] = p at *
      obtain ⟨r, hr⟩ : ∃ r, ps.drop (k + 1) = r := ⟨_, rfl⟩
      have HD := hideT hr
      rw [hr] at hrun
      have HR := hideT hrun
      clear hrun hr ha a1 a2
      have HO := hideT (And.intro hO hB)
      have HSP := hideT (hvs.stay hB (Nat.le_refl _))
      clear hO hB
      by_cases hg1 : p.g < -1
      · have hres := build_arg s.data.toList sp p r l hg1
        go_wp2
        go_ret2
        exact ⟨by rw [← HR.out, hres]; rfl, HO.out.2⟩
      · by_cases hg2 : p.g = -1
        · have e2 : ((0 : Int) ≤ p.g) = False := by rw [eq_iff_iff, iff_false]; omega
          have HP2 := hideT (show bst (pieceL s.data.toList sp p) = p.t by unfold pieceL; rw [if_pos hg2]; exact bst_data _)
          have HP := hideT (show (pieceL s.data.toList sp p).length = p.t.size by unfold pieceL; rw [if_pos hg2]; rfl)
          clear hg2
          by_cases hbig : 1024 < l.length + (p.t).size
          · have hres := build_big s.data.toList sp p r l hg1 (by rw [HP.out]; exact hbig)
            have j1 : (1024 : Int) < (l.length : Int) + ((p.t).size : Int) := by omega
            go_wp2
            go_ret2
            exact ⟨by rw [← HR.out, hres]; rfl, HO.out.2⟩
          · have hres := build_fit s.data.toList sp p r l hg1 (by rw [HP.out]; exact hbig)
            have j1 : ((1024 : Int) < (l.length : Int) + ((p.t).size : Int)) = False := by rw [eq_iff_iff, iff_false]; omega
            go_wp2_with (at_builtin; refine wpList_append_own_string rfl _ _ 50 9 rfl w.heap.size 5 i0 _ Try.underlying50 Try.underlying9 hi0 hz0 hz1 hz2 rfl _ l.length (Lib.byteCells l) rfl (HO.out.1) (p.t) rfl (by omega) HO.out.2.size ?_)
            intro v' w2 hown' hgrow hv'
            obtain ⟨va', vc', rfl⟩ := owns_shape hown'
            have HF := hideT (And.intro hown' ((HO.out.2).grown hgrow HO.out.2.size (fun k hk => (owns_blk HO.out.1 hk).1)))
            clear hown' hgrow hv'
            go_wp2
            refine ⟨⟨k + 1, l ++ pieceL s.data.toList sp p, by omega, by go_num, ?_, HF.out.2, ?_, ?_⟩, by simp [intOf]; omega⟩
            · rw [cells_app, List.length_append, HP.out, ← strCells_bst (pieceL s.data.toList sp p), HP2.out, strCells_vals]
              exact HF.out.1
            · rw [HD.out, ← hres]
              exact HR.out
            · rw [List.length_append, HP.out]
              omega
        · have e2 : ((0 : Int) ≤ p.g) := by omega
          have hg0 : 0 ≤ p.g := by omega
          have hDW : Hid (∀ n, Below w.heap.size w (wr.drewN n)) := hideT (fun n => HO.out.2.trans (below_drewN _ _ _))
          by_cases hlt2 : (sp.length : Int) ≤ p.g
          · have hM : matL s.data.toList sp p.g = [] := by
              unfold matL
              rw [List.getElem?_eq_none (by omega)]
            have q1 : decide (p.g < (sp.length : Int)) = false := by rw [decide_eq_false_iff_not]; omega
            have HP2 := hideT (show bst (pieceL s.data.toList sp p) = ⟨#[]⟩ by unfold pieceL; rw [if_neg hg2, hM]; rfl)
            have HP := hideT (show (pieceL s.data.toList sp p).length = (⟨#[]⟩ : ByteArray).size by unfold pieceL; rw [if_neg hg2, hM]; rfl)
            clear hM
            have hz : (⟨#[]⟩ : ByteArray).size = 0 := rfl
            have hres := build_fit s.data.toList sp p r l hg1 (by rw [HP.out, hz]; omega)
            have j1 : ((1024 : Int) < (l.length : Int)) = False := by rw [eq_iff_iff, iff_false]; omega
            clear hz
            go_upto_region 11 with fail
            go_quiet (fail)
            go_wp2_with (at_builtin; refine wpList_append_own_string rfl _ _ 50 9 rfl w.heap.size 5 i0 _ Try.underlying50 Try.underlying9 hi0 hz0 hz1 hz2 rfl _ l.length (Lib.byteCells l) rfl (owns_keep HO.out.1 (fun _ _ => rfl)) (⟨#[]⟩ : ByteArray) rfl (by show l.length + 0 ≤ _; omega) HO.out.2.size ?_)
            intro v' w2 hown' hgrow hv'
            obtain ⟨va', vc', rfl⟩ := owns_shape hown'
            have HF := hideT (And.intro hown' ((hDW.out _).grown hgrow HO.out.2.size (fun k hk => (owns_blk HO.out.1 hk).1)))
            clear hown' hgrow hv'
            go_wp2
            refine ⟨⟨k + 1, l ++ pieceL s.data.toList sp p, by omega, by go_num, ?_, HF.out.2, ?_, ?_⟩, by simp [intOf]; omega⟩
            · rw [cells_app, List.length_append, HP.out, ← strCells_bst (pieceL s.data.toList sp p), HP2.out, strCells_vals]
              exact HF.out.1
            · rw [HD.out, ← hres]
              exact HR.out
            · rw [List.length_append, HP.out]
              show l.length + 0 ≤ 1024
              omega
          · rcases hvs with ⟨rfl, -⟩ | ⟨gs, offs, cs, es1, hspan⟩
            · simp at hlt2; omega
            cases es1
            obtain ⟨n, hn0⟩ : ∃ n : Nat, p.g = (n : Int) := ⟨p.g.toNat, by omega⟩
            have hnl : n < sp.length := by omega
            have hMM : matL s.data.toList sp p.g = if 0 ≤ sp[n].1 ∧ sp[n].1 ≤ sp[n].2 ∧ sp[n].2 ≤ s.data.toList.length then (s.data.toList.drop sp[n].1.toNat).take (sp[n].2.toNat - sp[n].1.toNat) else [] := by
              unfold matL
              rw [hn0, Int.toNat_natCast, List.getElem?_eq_getElem hnl]
            obtain ⟨b1, b2⟩ := hspan n hnl
            have d1 := (HO.out.2.cell (p := ⟨gs, offs + n * 2, none⟩) (cell_lt b1)).trans b1
            have d2 := (HO.out.2.cell (p := ⟨gs, offs + n * 2 + 1, none⟩) (cell_lt b2)).trans b2
            have hlen : s.data.toList.length = s.size := rfl
            rw [hlen] at hMM
            rw [hn0] at c1 e2 hg0
            have q1 : (n : Int) < (sp.length : Int) := by omega
            have HG := hideT hn0
            have hg2' : ¬ ((n : Int) < -1) := by omega
            generalize sp[n].1 = f at *
            generalize sp[n].2 = t at *
            clear hspan b1 b2 hlen HSP hn0
            by_cases k1 : 0 ≤ f
            · by_cases k2 : f ≤ t
              · by_cases k3 : t ≤ (s.size : Int)
                · obtain ⟨fn, rfl⟩ : ∃ fn : Nat, f = (fn : Int) := ⟨f.toNat, by omega⟩
                  obtain ⟨tn, rfl⟩ : ∃ tn : Nat, t = (tn : Int) := ⟨t.toNat, by omega⟩
                  rw [if_pos ⟨k1, k2, k3⟩, Int.toNat_natCast, Int.toNat_natCast] at hMM
                  have HX := hideT (ext_part s fn tn)
                  have k2n : fn ≤ tn := by omega
                  have k3n : tn ≤ s.size := by omega
                  have HP2 := hideT (show bst (pieceL s.data.toList sp p) = s.extract fn tn by unfold pieceL; rw [if_neg hg2, hMM, HX.out])
                  have HP := hideT (show (pieceL s.data.toList sp p).length = (s.extract fn tn).size by unfold pieceL; rw [if_neg hg2, hMM, HX.out, bst_size])
                  have hxs : (s.extract fn tn).size = tn - fn := by rw [ByteArray.size_extract]; omega
                  have HXS := hideT hxs
                  clear hxs hMM
                  have hxle : (s.extract fn tn).size ≤ 140737488355328 := by rw [HXS.out]; omega
                  have q2 : decide ((0 : Int) ≤ (fn : Int)) = true := decide_eq_true k1
                  have q3 : decide ((fn : Int) ≤ (tn : Int)) = true := decide_eq_true k2
                  have q4 : decide ((tn : Int) ≤ (s.size : Int)) = true := decide_eq_true k3
                  by_cases hbig : 1024 < l.length + (s.extract fn tn).size
                  · have hres := build_big s.data.toList sp p r l hg1 (by rw [HP.out]; exact hbig)
                    have j1 : (1024 : Int) < (l.length : Int) + ((s.extract fn tn).size : Int) := by omega
                    go_upto_region 11 with fail
                    go_quiet (fail)
                    go_upto_region 12 with fail
                    go_quiet (fail)
                    clear HXS HX
                    generalize s.extract fn tn = pc at *
                    go_wp2
                    go_ret2
                    exact ⟨by rw [← HR.out, hres]; rfl, hDW.out _⟩
                  · have hres := build_fit s.data.toList sp p r l hg1 (by rw [HP.out]; exact hbig)
                    have j1 : ((1024 : Int) < (l.length : Int) + ((s.extract fn tn).size : Int)) = False := by rw [eq_iff_iff, iff_false]; omega
                    go_upto_region 11 with fail
                    go_quiet (fail)
                    go_upto_region 12 with fail
                    go_quiet (fail)
                    clear HXS HX
                    generalize s.extract fn tn = pc at *
                    go_wp2_with (at_builtin; refine wpList_append_own_string rfl _ _ 50 9 rfl w.heap.size 5 i0 _ Try.underlying50 Try.underlying9 hi0 hz0 hz1 hz2 rfl _ l.length (Lib.byteCells l) rfl (owns_keep HO.out.1 (fun _ _ => rfl)) pc rfl (by omega) HO.out.2.size ?_)
                    intro v' w2 hown' hgrow hv'
                    obtain ⟨va', vc', rfl⟩ := owns_shape hown'
                    have HF := hideT (And.intro hown' ((hDW.out _).grown hgrow HO.out.2.size (fun k hk => (owns_blk HO.out.1 hk).1)))
                    clear hown' hgrow hv'
                    go_wp2
                    refine ⟨⟨k + 1, l ++ pieceL s.data.toList sp p, by omega, by go_num, ?_, HF.out.2, ?_, ?_⟩, by simp [intOf]; omega⟩
                    · rw [cells_app, List.length_append, HP.out, ← strCells_bst (pieceL s.data.toList sp p), HP2.out, strCells_vals]
                      exact HF.out.1
                    · rw [HD.out, ← hres]
                      exact HR.out
                    · rw [List.length_append, HP.out]
                      omega
                · rw [if_neg (fun h => k3 h.2.2)] at hMM
                  have hM := hMM
                  clear hMM
                  have q2 : decide (0 ≤ f) = true := decide_eq_true k1
                  have q3 : decide (f ≤ t) = true := decide_eq_true k2
                  have q4 : decide (t ≤ (s.size : Int)) = false := decide_eq_false k3
                  have HP2 := hideT (show bst (pieceL s.data.toList sp p) = ⟨#[]⟩ by unfold pieceL; rw [if_neg hg2, hM]; rfl)
                  have HP := hideT (show (pieceL s.data.toList sp p).length = (⟨#[]⟩ : ByteArray).size by unfold pieceL; rw [if_neg hg2, hM]; rfl)
                  clear hM
                  have hz : (⟨#[]⟩ : ByteArray).size = 0 := rfl
                  have hres := build_fit s.data.toList sp p r l hg1 (by rw [HP.out, hz]; omega)
                  have j1 : ((1024 : Int) < (l.length : Int)) = False := by rw [eq_iff_iff, iff_false]; omega
                  clear hz
                  go_upto_region 11 with fail
                  go_quiet (fail)
                  go_wp2_with (at_builtin; refine wpList_append_own_string rfl _ _ 50 9 rfl w.heap.size 5 i0 _ Try.underlying50 Try.underlying9 hi0 hz0 hz1 hz2 rfl _ l.length (Lib.byteCells l) rfl (owns_keep HO.out.1 (fun _ _ => rfl)) (⟨#[]⟩ : ByteArray) rfl (by show l.length + 0 ≤ _; omega) HO.out.2.size ?_)
                  intro v' w2 hown' hgrow hv'
                  obtain ⟨va', vc', rfl⟩ := owns_shape hown'
                  have HF := hideT (And.intro hown' ((hDW.out _).grown hgrow HO.out.2.size (fun k hk => (owns_blk HO.out.1 hk).1)))
                  clear hown' hgrow hv'
                  go_wp2
                  refine ⟨⟨k + 1, l ++ pieceL s.data.toList sp p, by omega, by go_num, ?_, HF.out.2, ?_, ?_⟩, by simp [intOf]; omega⟩
                  · rw [cells_app, List.length_append, HP.out, ← strCells_bst (pieceL s.data.toList sp p), HP2.out, strCells_vals]
                    exact HF.out.1
                  · rw [HD.out, ← hres]
                    exact HR.out
                  · rw [List.length_append, HP.out]
                    show l.length + 0 ≤ 1024
                    omega
              · rw [if_neg (fun h => k2 h.2.1)] at hMM
                have hM := hMM
                clear hMM
                have q2 : decide (0 ≤ f) = true := decide_eq_true k1
                have q3 : decide (f ≤ t) = false := decide_eq_false k2
                have HP2 := hideT (show bst (pieceL s.data.toList sp p) = ⟨#[]⟩ by unfold pieceL; rw [if_neg hg2, hM]; rfl)
                have HP := hideT (show (pieceL s.data.toList sp p).length = (⟨#[]⟩ : ByteArray).size by unfold pieceL; rw [if_neg hg2, hM]; rfl)
                clear hM
                have hz : (⟨#[]⟩ : ByteArray).size = 0 := rfl
                have hres := build_fit s.data.toList sp p r l hg1 (by rw [HP.out, hz]; omega)
                have j1 : ((1024 : Int) < (l.length : Int)) = False := by rw [eq_iff_iff, iff_false]; omega
                clear hz
                go_upto_region 11 with fail
                go_quiet (fail)
                go_wp2_with (at_builtin; refine wpList_append_own_string rfl _ _ 50 9 rfl w.heap.size 5 i0 _ Try.underlying50 Try.underlying9 hi0 hz0 hz1 hz2 rfl _ l.length (Lib.byteCells l) rfl (owns_keep HO.out.1 (fun _ _ => rfl)) (⟨#[]⟩ : ByteArray) rfl (by show l.length + 0 ≤ _; omega) HO.out.2.size ?_)
                intro v' w2 hown' hgrow hv'
                obtain ⟨va', vc', rfl⟩ := owns_shape hown'
                have HF := hideT (And.intro hown' ((hDW.out _).grown hgrow HO.out.2.size (fun k hk => (owns_blk HO.out.1 hk).1)))
                clear hown' hgrow hv'
                go_wp2
                refine ⟨⟨k + 1, l ++ pieceL s.data.toList sp p, by omega, by go_num, ?_, HF.out.2, ?_, ?_⟩, by simp [intOf]; omega⟩
                · rw [cells_app, List.length_append, HP.out, ← strCells_bst (pieceL s.data.toList sp p), HP2.out, strCells_vals]
                  exact HF.out.1
                · rw [HD.out, ← hres]
                  exact HR.out
                · rw [List.length_append, HP.out]
                  show l.length + 0 ≤ 1024
                  omega
            · rw [if_neg (fun h => k1 h.1)] at hMM
              have hM := hMM
              clear hMM
              have q2 : decide (0 ≤ f) = false := decide_eq_false k1
              have HP2 := hideT (show bst (pieceL s.data.toList sp p) = ⟨#[]⟩ by unfold pieceL; rw [if_neg hg2, hM]; rfl)
              have HP := hideT (show (pieceL s.data.toList sp p).length = (⟨#[]⟩ : ByteArray).size by unfold pieceL; rw [if_neg hg2, hM]; rfl)
              clear hM
              have hz : (⟨#[]⟩ : ByteArray).size = 0 := rfl
              have hres := build_fit s.data.toList sp p r l hg1 (by rw [HP.out, hz]; omega)
              have j1 : ((1024 : Int) < (l.length : Int)) = False := by rw [eq_iff_iff, iff_false]; omega
              clear hz
              go_upto_region 11 with fail
              go_quiet (fail)
              go_wp2_with (at_builtin; refine wpList_append_own_string rfl _ _ 50 9 rfl w.heap.size 5 i0 _ Try.underlying50 Try.underlying9 hi0 hz0 hz1 hz2 rfl _ l.length (Lib.byteCells l) rfl (owns_keep HO.out.1 (fun _ _ => rfl)) (⟨#[]⟩ : ByteArray) rfl (by show l.length + 0 ≤ _; omega) HO.out.2.size ?_)
              intro v' w2 hown' hgrow hv'
              obtain ⟨va', vc', rfl⟩ := owns_shape hown'
              have HF := hideT (And.intro hown' ((hDW.out _).grown hgrow HO.out.2.size (fun k hk => (owns_blk HO.out.1 hk).1)))
              clear hown' hgrow hv'
              go_wp2
              refine ⟨⟨k + 1, l ++ pieceL s.data.toList sp p, by omega, by go_num, ?_, HF.out.2, ?_, ?_⟩, by simp [intOf]; omega⟩
              · rw [cells_app, List.length_append, HP.out, ← strCells_bst (pieceL s.data.toList sp p), HP2.out, strCells_vals]
                exact HF.out.1
              · rw [HD.out, ← hres]
                exact HR.out
              · rw [List.length_append, HP.out]
                show l.length + 0 ≤ 1024
                omega
    · obtain rfl : k = ps.length := by omega
      rw [List.drop_length] at hrun
      have hres : R = (l, 0) := hrun.symm
      subst hres
      have HC := hideT hB
      have hcv := conv_bytes hO
      clear hO hB
      go_wp2
      go_ret2
      exact ⟨rfl, HC.out⟩

end Go.Proofs.Ytbncokfpkkmoiaa
