/- ScriptJoins: the walk. -/
import Derived.Test.YtjfkhlmoppbbgaaGreatDoorKXd2
import Derived.Deep.Cut
namespace Go.Proofs.YtjfkhlmoppbbgaaGreatDoor
open Go.RowKit
open scanP scrP tpl ytb

theorem cat_list (s t : ByteArray) : (s ++ (⟨#[10]⟩ : ByteArray) ++ t).data.toList = s.data.toList ++ 10 :: t.data.toList := by
  simp [ByteArray.data_append]
theorem ne_z {E : Nat} (h : E ≠ 0) : ((E : Int) != 0) = true := by rw [bne_iff_ne]; omega
set_option maxRecDepth 100000 in
set_option maxHeartbeats 4000000 in
theorem joins_any (s t : ByteArray) (hs : s.size ≤ 140737488355000) (ht : t.size ≤ 140737488355000) (w : World) (hg : Gl w) : Calls Tryz.prog 4 #[.string s, .string t] w fun e w' => e = .returned (.bool true) ∧ Below w.heap.size w w' := by
  have HA := hideT (awake_any w hg)
  have HG := hideT hg
  clear hg
  go_enter Tryz.func4, Tryz.ntmps4
  go_wp2_with fail
  refine HA.out.mono ?_
  rintro e w1 ⟨rfl, hb⟩
  have HP := hideT (parse_rows s hs w1 (HG.out.below hb))
  have HB := hideT hb
  clear hb HA
  go_wp2_with fail
  refine HP.out.mono ?_
  rintro e w2 ⟨v, rfl, hC, hb⟩
  obtain ⟨A, hA⟩ : ∃ A, A = scrR gM s.data.toList := ⟨_, rfl⟩
  rw [← hA] at hC ⊢
  have a0 := (Below.refl w2.heap.size w2).alloc (Nat.le_refl _) (.cells #[.int .i64 (A.2.2.1 : Int), .int .i64 (A.2.2.2 : Int)] 25)
  have n0 := heap_alloc_new w2 (.cells #[.int .i64 (A.2.2.1 : Int), .int .i64 (A.2.2.2 : Int)] 25)
  have b1 := HB.out.trans (hb.mono HB.out.size)
  have b2 := b1.trans (a0.mono b1.size)
  have HB2 := hideT b2
  have HA0 := hideT a0
  have HP2 := hideT (parse_rows t ht (w2.alloc (.cells #[.int .i64 (A.2.2.1 : Int), .int .i64 (A.2.2.2 : Int)] 25)) (HG.out.below b2))
  have HC := hideT (hC.stay a0)
  have HN := hideT n0
  have HAE := hideT hA
  clear hA hC hb a0 n0 b1 b2 HP HB
  go_wp2_with fail
  refine HP2.out.mono ?_
  rintro e w3 ⟨v2, rfl, hC, hb⟩
  obtain ⟨D, hD⟩ : ∃ D, D = scrR gM t.data.toList := ⟨_, rfl⟩
  rw [← hD] at hC ⊢
  have a0 := (Below.refl w3.heap.size w3).alloc (Nat.le_refl _) (.cells #[.int .i64 (D.2.2.1 : Int), .int .i64 (D.2.2.2 : Int)] 25)
  have n1 := (hb.block _ (blk_lt HN.out)).trans HN.out
  have n2 := (a0.block _ (blk_lt n1)).trans n1
  have q0 : (w3.alloc (.cells #[.int .i64 (D.2.2.1 : Int), .int .i64 (D.2.2.2 : Int)] 25)).cell? ⟨w2.heap.size, 0, none⟩ = some (.int .i64 (A.2.2.1 : Int)) := by simp only [World.cell?, n2]; rfl
  have hb3 := hb.trans (a0.mono hb.size)
  have HB3 := hideT (HB2.out.trans (hb3.mono HB2.out.size))
  have HX2 := hideT (HA0.out.trans (hb3.mono HA0.out.size))
  have HX3 := hideT a0
  have HCA := hideT (HC.out.stay hb3)
  have HCD := hideT (hC.stay a0)
  have HDE := hideT hD
  clear hD hC hb a0 n1 n2 hb3 HP2 HB2 HC HN
  obtain ⟨LA, qA, EA, PA⟩ := A
  obtain ⟨LD, qD, ED, PD⟩ := D
  simp only at *
  by_cases hEA : EA = 0
  · subst hEA
    by_cases hED : ED = 0
    · subst hED
      have z00 : ((0 : Nat) : Int) = 0 := rfl
      simp only [z00] at q0 HB3 HX2 HX3 HCA HCD ⊢
      by_cases hsz : s.size + t.size ≤ 4000
      · have wz : IntKind.i64.wrap ((s.size : Int) + (t.size : Int)) = (s.size : Int) + (t.size : Int) := by rw [IntKind.wrap_i64]; omega
        have t1 : decide (4000 < (s.size : Int) + (t.size : Int)) = false := by rw [decide_eq_false_iff_not]; omega
        have t3 : decide (4000 < s.size + t.size) = false := by rw [decide_eq_false_iff_not]; omega
        have w1' : IntKind.i64.wrap ((s.size : Int) + 1) = (s.size : Int) + 1 := by rw [IntKind.wrap_i64]; omega
        have heA : (scrR gM s.data.toList).2.2.1 = 0 := by rw [← HAE.out]
        have heD : (scrR gM t.data.toList).2.2.1 = 0 := by rw [← HDE.out]
        have hj := scr_join heA heD (by show s.size + t.size ≤ 4095; omega)
        have fA := scr_fields heA
        have fD := scr_fields heD
        have pA := scr_ps heA
        have pD := scr_ps heD
        rw [← HAE.out] at hj fA pA
        rw [← HDE.out] at hj fD pD
        simp only at hj fA pA fD pD
        have lA : LA.length ≤ 4096 := by have : LA.length ≤ s.size := fA.lenB; omega
        have lD : LD.length ≤ 4096 := by have : LD.length ≤ t.size := fD.lenB; omega
        have HPL := hideT (fun c (hc : c ∈ LD) => (by have h1 : c.pl < t.size := fD.pl c hc; omega : c.pl ≤ 10000))
        have HPS := hideT (fun c (hc : c ∈ LA ++ LD.map (mv (s.size + 1))) => (by
          rcases List.mem_append.1 hc with h | h
          · have h1 : c.ps.length ≤ s.size := pA c h; omega
          · obtain ⟨d, hd, rfl⟩ := List.mem_map.1 h
            have h1 : d.ps.length ≤ t.size := pD d hd
            show d.ps.length ≤ _
            omega : c.ps.length ≤ 1000000000000000))
        have HJ := hideT (show scrR gM (s ++ (⟨#[10]⟩ : ByteArray) ++ t).data.toList = _ by rw [cat_list, hj])
        have hcs : (s ++ (⟨#[10]⟩ : ByteArray) ++ t).size ≤ 140737488355000 := by rw [ByteArray.size_append, ByteArray.size_append]; show s.size + 1 + t.size ≤ _; omega
        have HQ := hideT (show s.data.toList = [] → qA = false from fun h => by
          have := HAE.out
          rw [h] at this
          exact congrArg (·.2.1) this)
        clear hj fA fD pA pD heA heD HAE HDE
        go_upto_region 5 with fail
        revert q0 HCA HCD HB3 HX2 HX3
        generalize hX : w3.alloc (.cells #[.int .i64 0, .int .i64 (PD : Int)] 25) = X
        have qd0 : X.cell? ⟨w3.heap.size, 0, none⟩ = some (.int .i64 0) := by rw [← hX]; simp only [World.cell?, heap_alloc_new]; rfl
        clear hX
        intro q0 HB3 HX2 HX3 HCA HCD
        go_wp2_with (at_builtin; refine app_rrow rfl _ _ rfl X.heap.size _ _ [] LA rfl (World.ownsRow_nil _ _ _ _) rfl HCA.out (by simp; omega) (Nat.le_refl _) ?_; intro v4 w4 M1 m1 m2 m3 m4; have H4 := hideT (And.intro m1 (And.intro m2 (And.intro m3 m4))); clear m1 m2 m3 m4)
        obtain ⟨m1, m2, m3, m4⟩ := H4.out
        rw [List.nil_append] at m3
        have HMV : Hid (Calls Tryz.prog 13 #[v2, .int .i64 ((s.size : Int) + 1)] w4 _) := hideT (moved_any v2 LD (s.size + 1) w4 w3 (HCD.out.stay m4).read (by omega) (by omega) HPL.out)
        clear m1 m2 m3 m4
        refine HMV.out.mono ?_
        rintro e w5 ⟨v5, L5, rfl, l1, l2, l3, l4⟩
        obtain ⟨m1, m2, m3, m4⟩ := H4.out
        rw [List.nil_append] at m3
        have o5 : w5.ownsRow X.heap.size 41 19 v4 M1.length (coX M1) := owns_keep m3 (fun g hg => l4.block g (owns_blk m3 hg).2.1)
        have HO5 := hideT o5
        have HR5 := hideT (show RRow w5 w3 v5 (LD.map (mv (s.size + 1))) by rw [← l1]; exact rrow_owns l2 l3)
        have b5 := m4.trans (l4.mono m4.size)
        have hm1 : M1.length = LA.length := by rw [← m1, List.length_map]
        have hB5 := b5.size
        have H5 := hideT (And.intro m1 (And.intro m2 b5))
        clear m1 m2 m3 m4 l1 l2 l3 l4 o5 b5 H4 HMV HCD HCA
        go_wp2_with (at_builtin; refine app_rrow rfl _ _ rfl X.heap.size _ _ M1 (LD.map (mv (s.size + 1))) rfl HO5.out rfl HR5.out (by rw [List.length_map]; omega) hB5 ?_; intro v6 w6 M2 m1 m2 m3 m4; have H6 := hideT (And.intro m1 (And.intro m2 (And.intro m3 m4))); clear m1 m2 m3 m4)
        obtain ⟨m1, m2, m3, m4⟩ := H6.out
        obtain ⟨k1, k2, k3⟩ := H5.out
        have b6 : Below X.heap.size X w6 := k3.trans m4
        have b6' := HB3.out.trans (b6.mono HB3.out.size)
        have HPP := hideT (parse_rows (s ++ (⟨#[10]⟩ : ByteArray) ++ t) hcs w6 (HG.out.below b6'))
        have b62 := HX2.out.trans (b6.mono HX2.out.size)
        have b63 := HX3.out.trans (b6.mono HX3.out.size)
        have HW := hideT (show RRow w6 w6 v6 (LA ++ LD.map (mv (s.size + 1))) by
          have := (rrow_owns (Wp := w6) m3 (fun x hx => by
            rcases List.mem_append.1 hx with hx | hx
            · exact (k2 x hx).stay b62 (Nat.le_refl _)
            · exact (m2 x hx).stay b63 (Nat.le_refl _)))
          rw [List.map_append, k1, m1] at this
          exact this)
        have HB6 := hideT b6'
        clear m1 m2 m3 m4 k1 k2 k3 b6 b6' b62 b63 H6 H5 HR5 HO5 HX2 HX3 HB3
        refine HPP.out.mono ?_
        rintro e w7 ⟨v7, rfl, hC, hb⟩
        rw [HJ.out] at hC ⊢
        simp only at hC ⊢
        have a7 := (Below.refl w7.heap.size w7).alloc (Nat.le_refl _) (.cells #[.int .i64 0, .int .i64 0] 25)
        have b7 := hb.trans (a7.mono hb.size)
        have HS := hideT (sameList_any v7 v6 _ _ ((hC.stay a7).crow (fun pv ps h => h.stay a7 (Nat.le_refl _))) ((HW.out.stay b7).crow (fun pv ps h => h.stay b7 (Nat.le_refl _))) HPS.out (by rw [List.length_append, List.length_map]; omega))
        have HB7 := hideT (HB6.out.trans (b7.mono HB6.out.size))
        clear hC hb a7 b7 HPP HW HB6 HJ HPL HPS
        have z00 : ((0 : Nat) : Int) = 0 := rfl
        simp only [z00]
        go_upto_region 11 with fail
        by_cases hne : s.toList = []
        · obtain rfl : qA = false := HQ.out (by rw [← ByteArray.toList_eq]; exact hne)
          clear HQ
          go_wp2_with fail
          refine HS.out.mono ?_
          rintro e w8 ⟨rfl, hb8⟩
          have HF := hideT (HB7.out.trans (hb8.mono HB7.out.size))
          clear hb8
          go_wp2
          go_ret
          exact ⟨rfl, HF.out⟩
        · clear HQ
          cases qA
          all_goals
            go_wp2_with fail
            refine HS.out.mono ?_
            rintro e w8 ⟨rfl, hb8⟩
            have HF := hideT (HB7.out.trans (hb8.mono HB7.out.size))
            clear hb8
            go_wp2
            go_ret
            exact ⟨rfl, HF.out⟩
      · have wz : IntKind.i64.wrap ((s.size : Int) + (t.size : Int)) = (s.size : Int) + (t.size : Int) := by rw [IntKind.wrap_i64]; omega
        have t1 : decide (4000 < (s.size : Int) + (t.size : Int)) = true := by rw [decide_eq_true_iff]; omega
        have t2 : (4000 : Int) < (s.size : Int) + (t.size : Int) := by omega
        have t3 : decide (4000 < s.size + t.size) = true := by rw [decide_eq_true_iff]; omega
        have t4 : 4000 < s.size + t.size := by omega
        go_wp2
        go_ret
        exact ⟨rfl, HB3.out⟩
    · have t1 := ne_z hED
      go_wp2
      go_ret
      exact ⟨rfl, HB3.out⟩
  · have t1 := ne_z hEA
    go_wp2
    go_ret
    exact ⟨rfl, HB3.out⟩
end Go.Proofs.YtjfkhlmoppbbgaaGreatDoor
