/- template: Build. -/
import Derived.Test.YtbncokfpkkmoiaaTk
namespace Go.Proofs.Ytbncokfpkkmoiaa
open Go.RowKit

theorem bu_stay {T e B b : Nat} {bs : List Value} {W W' : World} (h : Lib.IsBuilder T e B b bs W) (hb : Below W.heap.size W W') : Lib.IsBuilder T e B b bs W' := by
  rcases h with ⟨h0, v, h1, h2, h3⟩ | ⟨h0, v, h1, h2, h3⟩
  · exact .inl ⟨h0, v, (hb.block b (Array.getElem?_eq_some_iff.1 h1).1).trans h1, owns_below h2 hb, h3⟩
  · exact .inr ⟨h0, v, (hb.block b (Array.getElem?_eq_some_iff.1 h1).1).trans h1, owns_below h2 hb, h3⟩
theorem strCells_bst (l : List UInt8) : Lib.strCells (bst l) = Lib.byteCells l := by simp [Lib.strCells, Lib.byteCells, bst]

theorem build_arg (s : List UInt8) (sp : List (Int × Int)) (p : Pt) (r : List Pt) (l : List UInt8) (h : p.g < -1) : buildR s sp (p :: r) l = ([], 1) := by rw [buildR, if_pos h]
theorem build_big (s : List UInt8) (sp : List (Int × Int)) (p : Pt) (r : List Pt) (l : List UInt8) (h : ¬ p.g < -1) (h2 : 1024 < l.length + (pieceL s sp p).length) : buildR s sp (p :: r) l = ([], 15) := by rw [buildR, if_neg h, if_pos h2]
theorem build_fit (s : List UInt8) (sp : List (Int × Int)) (p : Pt) (r : List Pt) (l : List UInt8) (h : ¬ p.g < -1) (h2 : ¬ 1024 < l.length + (pieceL s sp p).length) : buildR s sp (p :: r) l = buildR s sp r (l ++ pieceL s sp p) := by rw [buildR, if_neg h, if_neg h2]

theorem matL_len (s : List UInt8) (sp : List (Int × Int)) (g : Int) : (matL s sp g).length ≤ s.length := by
  unfold matL
  split
  · simp
  · split
    · rw [List.length_take, List.length_drop]; omega
    · simp

set_option maxRecDepth 100000 in
set_option maxHeartbeats 2000000 in
theorem build_any (v vs : Value) (ps : List Pt) (s : ByteArray) (sp : List (Int × Int)) (w : World) (hv : PRow w v ps) (hvs : SRow w vs sp) (hn : ps.length ≤ 140737488355328) (ht : ∀ p ∈ ps, p.t.size ≤ 140737488355328) (hs : s.size ≤ 140737488355328) :
    Calls Try.prog 17 #[v, .string s, vs] w fun e w' => e = .returned (.tuple #[.string (bst (buildR s.data.toList sp ps []).1), .int .i64 ((buildR s.data.toList sp ps []).2 : Nat)]) ∧ Below w.heap.size w w' := by
  obtain ⟨pa, ca, rfl⟩ := hv.shape
  generalize hR : buildR s.data.toList sp ps [] = R
  have HR0 := hideT hR
  clear hR
  have hF := Lib.fresh_isBuilder 58 5 w
  have hB0 := (Below.refl w.heap.size w).alloc (Nat.le_refl _) (.cells #[.pointer none, .slice none 0 0] 58)
  go_enter Try.func17, Try.ntmps17
  go_wp2_with fail
  go_loopw [14] (fun i wr => ∃ (k : Nat) (l : List UInt8), k ≤ ps.length ∧ i = .int .i64 k ∧ Lib.IsBuilder 58 5 w.heap.size w.heap.size (Lib.byteCells l) wr ∧ Below w.heap.size w wr ∧ buildR s.data.toList sp (ps.drop k) l = R ∧ l.length ≤ 1024) (fun i _ => ps.length - (intOf i).toNat)
  case atStart => exact ⟨0, [], by omega, rfl, hF, hB0, by rw [List.drop_zero]; exact HR0.out, by simp⟩
  case round =>
    obtain ⟨k, l, hk, rfl, hb, hB, hrun, hl⟩ := hrel
    clear hF hB0 HR0
    by_cases hlt : k < ps.length
    · rcases hv with ⟨rfl, -⟩ | ⟨gb, off, c, e1, ha⟩
      · simp at hlt
      cases e1
      obtain ⟨a1, a2⟩ := ha k hlt
      have c1 := (hB.cell (p := ⟨gb, off + k * 2, none⟩) (cell_lt a1)).trans a1
      have c2 := (hB.cell (p := ⟨gb, off + k * 2 + 1, none⟩) (cell_lt a2)).trans a2
      have i1 : (k : Int) < (ps.length : Int) := by omega
      have i2 : (0 : Int) ≤ (k : Int) := by omega
      rw [List.drop_eq_getElem_cons hlt] at hrun
      have htp := ht ps[k] (List.getElem_mem hlt)
      generalize ps[k] = p at *
      obtain ⟨r, hr⟩ : ∃ r, ps.drop (k + 1) = r := ⟨_, rfl⟩
      have HD := hideT hr
      rw [hr] at hrun
      have HR := hideT hrun
      clear hrun hr ha a1 a2
      have hA := (Below.refl wr.heap.size wr).alloc (Nat.le_refl _) (.cells #[.int .i64 p.g, .string p.t] 48)
      have HBA := hideT (And.intro hA (And.intro (hB.trans (hA.mono hB.size)) (bu_stay hb hA)))
      have HS := hideT (hvs.stay (HBA.out.2.1) (Nat.le_refl _))
      clear hB hA hb
      by_cases hg1 : p.g < -1
      · have hres := build_arg s.data.toList sp p r l hg1
        go_wp2
        go_ret2
        exact ⟨by rw [← HR.out, hres]; rfl, HBA.out.2.1⟩
      · by_cases hg2 : p.g = -1
        · have e2 : (p.g != -1) = false := by rw [bne_eq_false_iff_eq]; exact hg2
          have HP2 := hideT (show bst (pieceL s.data.toList sp p) = p.t by unfold pieceL; rw [if_pos hg2]; exact bst_data _)
          have HP := hideT (show (pieceL s.data.toList sp p).length = p.t.size by unfold pieceL; rw [if_pos hg2]; rfl)
          rw [hg2] at HBA
          by_cases hbig : 1024 < l.length + (p.t).size
          · have hres := build_big s.data.toList sp p r l hg1 (by rw [HP.out]; exact hbig)
            have j1 : (1024 : Int) < (l.length : Int) + ((p.t).size : Int) := by omega
            go_wp2_with fail
            refine (builderLen_any _ _ _ _ HBA.out.2.2).mono ?_
            rintro e w2 ⟨rfl, rfl⟩
            rw [Lib.byteCells_length]
            go_wp2
            go_ret2
            exact ⟨by rw [← HR.out, hres]; rfl, HBA.out.2.1⟩
          · have hres := build_fit s.data.toList sp p r l hg1 (by rw [HP.out]; exact hbig)
            have j1 : ((1024 : Int) < (l.length : Int) + ((p.t).size : Int)) = False := by rw [eq_iff_iff, iff_false]; omega
            go_wp2_with fail
            refine (builderLen_any _ _ _ _ HBA.out.2.2).mono ?_
            rintro e w2 ⟨rfl, rfl⟩
            rw [Lib.byteCells_length]
            go_wp2_with fail
            refine (writeString_any _ _ _ _ _ HBA.out.2.2 (by rw [Lib.byteCells_length]; omega) (by have := (HBA.out.2.1).size; omega)).mono ?_
            rintro e w3 ⟨rfl, hb3, hB3, -⟩
            have HF := hideT (And.intro hb3 ((HBA.out.2.1).trans hB3))
            clear hb3 hB3
            go_wp2
            refine ⟨⟨k + 1, l ++ pieceL s.data.toList sp p, by omega, by go_num, .inr ?_, HF.out.2, ?_, ?_⟩, by simp [intOf]; omega⟩
            · rw [cells_app, ← strCells_bst (pieceL s.data.toList sp p), HP2.out]
              exact HF.out.1
            · rw [HD.out, ← hres]
              exact HR.out
            · rw [List.length_append, HP.out]
              omega
        · have e2 : (p.g != -1) = true := by rw [bne_iff_ne]; exact hg2
          have hg0 : 0 ≤ p.g := by omega
          have HM := hideT (matched_any s vs sp p.g hg0 _ HS.out)
          have hml := matL_len s.data.toList sp p.g
          have hsl : s.data.toList.length = s.size := rfl
          rw [hsl] at hml
          have hms := bst_size (matL s.data.toList sp p.g)
          have HP2 := hideT (show bst (pieceL s.data.toList sp p) = bst (matL s.data.toList sp p.g) by unfold pieceL; rw [if_neg hg2])
          have HP := hideT (show (pieceL s.data.toList sp p).length = (bst (matL s.data.toList sp p.g)).size by unfold pieceL; rw [if_neg hg2, bst_size])
          have hmz : (bst (matL s.data.toList sp p.g)).size ≤ 140737488355328 := by rw [hms]; omega
          generalize bst (matL s.data.toList sp p.g) = pc at *
          clear hms hml hsl
          by_cases hbig : 1024 < l.length + (pc).size
          · have hres := build_big s.data.toList sp p r l hg1 (by rw [HP.out]; exact hbig)
            have j1 : (1024 : Int) < (l.length : Int) + ((pc).size : Int) := by omega
            go_wp2_with fail
            refine HM.out.mono ?_
            rintro e w1 ⟨rfl, hb1⟩
            have HBB := hideT (And.intro (HBA.out.2.1.trans (hb1.mono (by have := HBA.out.2.1.size; have := HBA.out.1.size; omega))) (bu_stay HBA.out.2.2 hb1))
            clear hb1
            go_wp2_with fail
            refine (builderLen_any _ _ _ _ HBB.out.2).mono ?_
            rintro e w2 ⟨rfl, rfl⟩
            rw [Lib.byteCells_length]
            go_wp2
            go_ret2
            exact ⟨by rw [← HR.out, hres]; rfl, HBB.out.1⟩
          · have hres := build_fit s.data.toList sp p r l hg1 (by rw [HP.out]; exact hbig)
            have j1 : ((1024 : Int) < (l.length : Int) + ((pc).size : Int)) = False := by rw [eq_iff_iff, iff_false]; omega
            go_wp2_with fail
            refine HM.out.mono ?_
            rintro e w1 ⟨rfl, hb1⟩
            have HBB := hideT (And.intro (HBA.out.2.1.trans (hb1.mono (by have := HBA.out.2.1.size; have := HBA.out.1.size; omega))) (bu_stay HBA.out.2.2 hb1))
            clear hb1
            go_wp2_with fail
            refine (builderLen_any _ _ _ _ HBB.out.2).mono ?_
            rintro e w2 ⟨rfl, rfl⟩
            rw [Lib.byteCells_length]
            go_wp2_with fail
            refine (writeString_any _ _ _ _ _ HBB.out.2 (by rw [Lib.byteCells_length]; omega) (by have := (HBB.out.1).size; omega)).mono ?_
            rintro e w3 ⟨rfl, hb3, hB3, -⟩
            have HF := hideT (And.intro hb3 ((HBB.out.1).trans hB3))
            clear hb3 hB3
            go_wp2
            refine ⟨⟨k + 1, l ++ pieceL s.data.toList sp p, by omega, by go_num, .inr ?_, HF.out.2, ?_, ?_⟩, by simp [intOf]; omega⟩
            · rw [cells_app, ← strCells_bst (pieceL s.data.toList sp p), HP2.out]
              exact HF.out.1
            · rw [HD.out, ← hres]
              exact HR.out
            · rw [List.length_append, HP.out]
              omega
    · obtain rfl : k = ps.length := by omega
      rw [List.drop_length] at hrun
      have hres : R = (l, 0) := hrun.symm
      subst hres
      go_wp2_with fail
      refine (builderString_any _ _ _ _ hb hB.size).mono ?_
      rintro e w1 ⟨rfl, hb1⟩
      have HF := hideT (hB.trans hb1)
      go_wp2
      go_ret2
      exact ⟨rfl, HF.out⟩

end Go.Proofs.Ytbncokfpkkmoiaa
