/- ShowBack: the walk. -/
import Derived.Test.YtidgnebbibkmhaaGreatDoorKWr
set_option maxRecDepth 100000
set_option maxHeartbeats 4000000
namespace Go.Proofs.YtidgnebbibkmhaaGreatDoor
open Go.RowKit
open scanP scrP tpl ytb
theorem CRow.stay {W W' : World} {v : Value} {l : List Co} (h : CRow W v l) (hb : Below W.heap.size W W') : CRow W' v l := by
  obtain ⟨a, cp, e, h⟩ := h
  refine ⟨a, cp, e, fun k c hc => ?_⟩
  obtain ⟨g, o, pv, h1, h2, h3⟩ := h k c hc
  exact ⟨g, o, pv, h1, fun j u hu => (hb.cell (p := ⟨g, _, none⟩) (cell_lt (h2 j u hu))).trans (h2 j u hu), h3.stay hb (Nat.le_refl _)⟩
namespace sho

theorem back_any (s : ByteArray) (hs : s.size ≤ 140737488355000) (w : World) (hg : Gl w) (hG : Gs w) (hw : 2 < w.heap.size) : Calls Tryz.prog 5 #[.string s] w fun e w' => e = .returned (.bool true) ∧ Below w.heap.size w w' := by
  have HE := hideT (fun V (hV : Below w.heap.size w V) => And.intro (hg.stay (F := fun _ => False) (Tch.of hV) (fun k h => h.elim)) (And.intro (hG.below hV hw) (Nat.lt_of_lt_of_le hw hV.size)))
  have HAW := hideT (awake_any w hg hG hw)
  clear hg hG
  go_enter Tryz.func5, Tryz.ntmps5
  go_wp2_with fail
  refine HAW.out.mono ?_
  rintro e w1 ⟨rfl, hb1⟩
  have H1 := hideT hb1
  clear hb1 HAW
  go_wp2_with fail
  refine (parse_reads s hs w1 (HE.out w1 H1.out).1).mono ?_
  rintro e w2 ⟨v, rfl, hC, hb2⟩
  generalize hP : scrR gM s.data.toList = P at *
  obtain ⟨cs, q, e0, p0⟩ := P
  simp only at hC
  have HP := hideT hP
  have hA := (Below.refl w2.heap.size w2).alloc (Nat.le_refl _) (.cells #[.int .i64 (e0 : Nat), .int .i64 (p0 : Nat)] 29)
  have hn := heap_alloc_new w2 (.cells #[.int .i64 (e0 : Nat), .int .i64 (p0 : Nat)] 29)
  have H2 := hideT ((H1.out.trans (hb2.mono H1.out.size)).trans (hA.mono (H1.out.trans (hb2.mono H1.out.size)).size))
  have HC := hideT (And.intro hC hA)
  have HN := hideT hn
  clear hA hb2 hC hn hP H1
  have HS1 := hideT (show (e0 ≠ 0 → shR gM s.data.toList = ([], e0, p0)) ∧ (e0 = 0 → (shR gM s.data.toList).2.1 = 0 ∨ (shR gM s.data.toList).2.1 = 5) ∧ ((shR gM s.data.toList).2.1 = 0 → (shR gM s.data.toList).1.length ≤ 4096 → ∃ ds, ds.map nfC = cs.map nfC ∧ scrR gM (shR gM s.data.toList).1 = (ds, q, 0, 0) ∧ shR gM (shR gM s.data.toList).1 = ((shR gM s.data.toList).1, 0, 0)) from by
    refine ⟨fun h => ?_, fun h => ?_, fun h hl => ?_⟩
    · unfold shR; rw [HP.out]; simp only; rw [if_pos h]
    · unfold shR
      rw [HP.out]
      simp only
      rw [if_neg (by simp [h])]
      split
      · exact .inr rfl
      · exact .inl rfl
    · obtain ⟨h1, ds, g1, g2⟩ := show_back h hl
      rw [HP.out] at g1 g2
      exact ⟨ds, g1, g2, h1⟩)
  have HSZ := hideT (show e0 = 0 → (∀ c ∈ cs, SzC c) ∧ cs.length ≤ 4097 from fun h => by
    have := scr_sz (G := gM) (l := s.data.toList) (by rw [HP.out]; exact h)
    rw [HP.out] at this
    exact this)
  clear HP
  go_upto_region 4 with fail
  generalize w2.alloc (.cells #[.int .i64 (e0 : Nat), .int .i64 (p0 : Nat)] 29) = X at *
  have hlt := (Array.getElem?_eq_some_iff.1 HN.out).1
  have HSH := hideT (show_any s hs X (HE.out X H2.out).1 (HE.out X H2.out).2.1 (HE.out X H2.out).2.2)
  go_wp2_with fail
  refine HSH.out.mono ?_
  clear HSH
  generalize shR gM s.data.toList = S at *
  obtain ⟨T, e1, p1⟩ := S
  simp only at HS1
  rintro e w3 ⟨rfl, hb3⟩
  have hA := (Below.refl w3.heap.size w3).alloc (Nat.le_refl _) (.cells #[.int .i64 (e1 : Nat), .int .i64 (p1 : Nat)] 29)
  have hn := heap_alloc_new w3 (.cells #[.int .i64 (e1 : Nat), .int .i64 (p1 : Nat)] 29)
  have hXY : Below X.heap.size X (w3.alloc (.cells #[.int .i64 (e1 : Nat), .int .i64 (p1 : Nat)] 29)) := hb3.trans (hA.mono hb3.size)
  go_upto_region 5 with fail
  generalize w3.alloc (.cells #[.int .i64 (e1 : Nat), .int .i64 (p1 : Nat)] 29) = Y at *
  have hx := (hXY.block w2.heap.size hlt).trans HN.out
  have x0 : Y.cell? ⟨w2.heap.size, 0, none⟩ = some (.int .i64 (e0 : Nat)) := by rw [Lib.cell_of_heap hx]; rfl
  have x1 : Y.cell? ⟨w2.heap.size, 1, none⟩ = some (.int .i64 (p0 : Nat)) := by rw [Lib.cell_of_heap hx]; rfl
  have y0 : Y.cell? ⟨w3.heap.size, 0, none⟩ = some (.int .i64 (e1 : Nat)) := by rw [Lib.cell_of_heap hn]; rfl
  have y1 : Y.cell? ⟨w3.heap.size, 1, none⟩ = some (.int .i64 (p1 : Nat)) := by rw [Lib.cell_of_heap hn]; rfl
  have H3 := hideT (H2.out.trans (hXY.mono H2.out.size))
  have HNY := hideT hn
  have HXY := hideT hXY
  clear hA hb3 hXY hx hn hlt
  by_cases he : e0 = 0
  · have hS5 := HS1.out.2.1 he
    have x2 : (((e0 : Nat) : Int) != 0) = false := by simp; omega
    have x3 : (((e0 : Nat) : Int) == 0) = true := by simp; omega
    have HLT := hideT (show ((bst T).size : Int) = (T.length : Int) by rw [xbt])
    by_cases h1 : e1 = 0
    · have n1 : (((e1 : Nat) : Int) != 0) = false := by simp; omega
      have n2 : (((e1 : Nat) : Int) == 0) = true := by simp; omega
      by_cases h2 : 4096 < T.length
      · have n3 : ((4096 : Int) < ((bst T).size : Int)) = True := by rw [HLT.out, eq_iff_iff, iff_true]; omega
        have n4 : (4096 < (bst T).size) = True := by rw [xbt, eq_iff_iff, iff_true]; exact h2
        clear HS1 he hS5 HSZ
        go_wp2
        go_ret
        exact ⟨rfl, H3.out⟩
      · have n3 : ((4096 : Int) < ((bst T).size : Int)) = False := by rw [HLT.out, eq_iff_iff, iff_false]; omega
        have n4 : (4096 < (bst T).size) = False := by rw [xbt, eq_iff_iff, iff_false]; exact h2
        obtain ⟨ds, g1, g2, g3⟩ := HS1.out.2.2 h1 (by omega)
        obtain ⟨z, hz⟩ : ∃ z : Nat, z = 0 := ⟨0, rfl⟩
        have g2 : scrR gM T = (ds, q, z, z) := by rw [hz]; exact g2
        have g3 : shR gM T = (T, z, z) := by rw [hz]; exact g3
        have z1 : (((z : Nat) : Int) == 0) = true := by simp; omega
        have HZ := hideT (HSZ.out he)
        have HTL : Hid (T.length ≤ 4096) := hideT (by omega)
        have HD := hideT g1
        have HPT := hideT (parse_reads (bst T) (by rw [xbt]; omega) Y (HE.out Y H3.out).1)
        rw [show (bst T).data.toList = T from xbu T, g2] at HPT
        have HTT := hideT (fun V (hV : Below w.heap.size w V) => show_any (bst T) (by rw [xbt]; omega) V (HE.out V hV).1 (HE.out V hV).2.1 (HE.out V hV).2.2)
        rw [show (bst T).data.toList = T from xbu T, g3] at HTT
        have HXY3 := hideT (HC.out.1.stay (HC.out.2.trans (HXY.out.mono HC.out.2.size)))
        clear HS1 he hS5 HSZ g1 g2 g3 h1 h2 hz HXY HC HN HNY H2
        go_wp2_with fail
        refine HPT.out.mono ?_
        rintro e w4 ⟨v4, rfl, hC4, hb4⟩
        have hA := (Below.refl w4.heap.size w4).alloc (Nat.le_refl _) (.cells #[.int .i64 (z : Nat), .int .i64 (z : Nat)] 29)
        have hn := heap_alloc_new w4 (.cells #[.int .i64 (z : Nat), .int .i64 (z : Nat)] 29)
        have hl := (Array.getElem?_eq_some_iff.1 hn).1
        have H5 := hideT (hb4.trans (hA.mono hb4.size))
        have HC4 := hideT (hC4.stay hA)
        have HN4 := hideT (And.intro hn hl)
        clear HPT hC4 hb4 hA hn hl
        go_upto_region 10 with fail
        generalize w4.alloc (.cells #[.int .i64 (z : Nat), .int .i64 (z : Nat)] 29) = U at *
        go_wp2_with fail
        refine (HTT.out U (H3.out.trans (H5.out.mono H3.out.size))).mono ?_
        clear HTT
        rintro e w5 ⟨rfl, hb5⟩
        have hA := (Below.refl w5.heap.size w5).alloc (Nat.le_refl _) (.cells #[.int .i64 (z : Nat), .int .i64 (z : Nat)] 29)
        have hn := heap_alloc_new w5 (.cells #[.int .i64 (z : Nat), .int .i64 (z : Nat)] 29)
        have hUV : Below U.heap.size U (w5.alloc (.cells #[.int .i64 (z : Nat), .int .i64 (z : Nat)] 29)) := hb5.trans (hA.mono hb5.size)
        clear hA hb5
        go_upto_region 11 with fail
        generalize w5.alloc (.cells #[.int .i64 (z : Nat), .int .i64 (z : Nat)] 29) = V at *
        have u0 : V.cell? ⟨w4.heap.size, 0, none⟩ = some (.int .i64 (z : Nat)) := by rw [Lib.cell_of_heap ((hUV.block _ HN4.out.2).trans HN4.out.1)]; rfl
        have v0 : V.cell? ⟨w5.heap.size, 0, none⟩ = some (.int .i64 (z : Nat)) := by rw [Lib.cell_of_heap hn]; rfl
        have HYV := hideT (H5.out.trans (hUV.mono H5.out.size))
        have HSL := hideT (sameList_any v v4 cs ds V (HXY3.out.stay HYV.out) (HC4.out.stay hUV) HD.out (fun c hc => by have := (HZ.out.1 c hc).ps; have := bulkP_len c.ps; omega) (by have := HZ.out.2; omega))
        have HF := hideT (H3.out.trans (HYV.out.mono H3.out.size))
        clear hUV hn HN4 HC4 HXY3 HYV H5
        have q1 : (q == q) = true := by simp
        have q2 : ((bst T).toList == (bst T).toList) = true := by simp
        go_wp2_with fail
        refine HSL.out.mono ?_
        rintro e w6 ⟨rfl, hb6⟩
        have HF := hideT (HF.out.trans (hb6.mono HF.out.size))
        clear hb6 HSL
        go_wp2
        go_ret
        exact ⟨rfl, HF.out⟩
    · have h5 : e1 = 5 := hS5.resolve_left h1
      have n1 : (((e1 : Nat) : Int) != 0) = true := by simp; omega
      have n2 : (((e1 : Nat) : Int) == 0) = false := by simp; omega
      have n3 : (((e1 : Nat) : Int) == 5) = true := by simp; omega
      clear HS1 he hS5 HSZ h1 h5
      go_wp2
      go_ret
      exact ⟨rfl, H3.out⟩
  · have hS := HS1.out.1 he
    obtain ⟨rfl, h2⟩ := Prod.mk.inj hS
    obtain ⟨rfl, rfl⟩ := Prod.mk.inj h2
    have n1 : (((e1 : Nat) : Int) != 0) = true := by simp; omega
    have n2 : (((e1 : Nat) : Int) == 0) = false := by simp; omega
    rw [show bst [] = ⟨#[]⟩ from rfl]
    clear HS1 he hS h2 HSZ
    go_wp2
    go_ret
    exact ⟨rfl, H3.out⟩

end sho
end Go.Proofs.YtidgnebbibkmhaaGreatDoor
