/- ytab: the walk of YtabApplies. -/
import Derived.Test.YtgcjjfidcadlgaaYj
namespace Go.Proofs.Ytgcjjfidcadlgaa
open Go.RowKit Go.Sort

theorem app_append (T : Nat → UInt8) (a b : ByteArray) : bst (appL T (a ++ b).data.toList) = bst (appL T a.data.toList) ++ bst (appL T b.data.toList) := by
  rw [bst_app, ByteArray.data_append, Array.toList_append]
  simp [appL]
theorem app_at (T : Nat → UInt8) (a : ByteArray) (k : Nat) (h : k < a.size) (h2 : k < (bst (appL T a.data.toList)).size) : (bst (appL T a.data.toList))[k]'h2 = T (a[k]'h).toNat := by
  show (appL T a.data.toList).toArray[k]'_ = _
  simp only [appL, List.getElem_toArray, List.getElem_map]
  rfl

set_option maxRecDepth 100000 in
set_option maxHeartbeats 4000000 in
theorem applies_walk (T : Nat → UInt8) (a b : ByteArray) (ha : a.size ≤ 1048576) (hb : b.size ≤ 1048576) (w : World) : Calls Try.prog 5 #[.agg (arV (btF T)).toArray, .string a, .string b] w fun e w' => e = .returned (.bool true) ∧ Below w.heap.size w w' := by
  have hA0 := (Below.refl w.heap.size w).alloc (Nat.le_refl _) (.cells (arV (btF T)).toArray 31)
  have hN0 := ArAt.new w 31 (btF T)
  obtain ⟨A, hA⟩ : ∃ A, A = (arV (btF T)).toArray := ⟨_, rfl⟩
  rw [← hA] at hA0 hN0 ⊢
  have hAs := sizeA hA
  have hal : (appL T a.data.toList).length = a.size := by simp [appL]
  have hsz : (bst (appL T a.data.toList)).size = a.size := by rw [bst_size, hal]
  have hat := app_at T a
  have hsb : (bst (appL T b.data.toList)).size = b.size := by rw [bst_size]; simp [appL]
  have q1 : (9223372036854775807 < a.size + b.size) = False := by rw [eq_iff_iff, iff_false]; omega
  have q2 : (9223372036854775807 < (bst (appL T a.data.toList)).size + (bst (appL T b.data.toList)).size) = False := by rw [eq_iff_iff, iff_false]; omega
  have HP := hideT (fun w => applyC T a (by omega) w hA)
  have HPb := hideT (fun w => applyC T b (by omega) w hA)
  have hab := fun w => applyC T (a ++ b) (by rw [ByteArray.size_append]; omega) w hA
  rw [app_append] at hab
  have HPab := hideT hab
  have HR := hideT (fun W b (h : ArAt W b 31 (btF T)) d os => load_regrown hA h d os)
  have HG := hideT (fun W b (h : ArAt W b 31 (btF T)) => rangeA hA h)
  have HAT := hideT hat
  generalize bst (appL T a.data.toList) = sa at *
  generalize bst (appL T b.data.toList) = sb at *
  have H0 := hideT (And.intro hN0 hA0)
  have HZ := hideT hsz
  clear hA hA0 hN0 hal hab hat hb hsz hsb
  go_enter Try.func5, Try.ntmps5
  go_wp2_with fail
  refine (awake_any _).mono ?_
  rintro e w1 ⟨rfl, hb1⟩
  have H1 := hideT (And.intro (H0.out.1.stay hb1) (H0.out.2.trans (hb1.mono H0.out.2.size)))
  clear hb1
  go_wp2_with fail
  refine wp_load_mid 31 _ rfl w.heap.size 0 rfl A.toList _ (HG.out _ _ H1.out.1) und31 rfl (by rw [info31]; simp [hAs]) ?_
  rw [show A.toList.toArray = A from Array.toArray_toList]
  go_wp2_with fail
  refine (HP.out _).mono ?_
  rintro e W2 ⟨rfl, hb2⟩
  have H2 := hideT (And.intro (H1.out.1.stay hb2) (H1.out.2.trans (hb2.mono H1.out.2.size)))
  clear hb2
  have e1 : ((sa.size : Int) != (a.size : Int)) = false := by rw [bne_eq_false_iff_eq]; have := HZ.out; omega
  go_wp2_with fail
  have l1 := HR.out _ _ H2.out.1
  have cP : Hid (∀ d os, Calls Try.prog 12 #[.agg A, .string b] (grow (redrawn W2 d) os) fun e w'' => e = .returned (.string sb) ∧ ∃ p : Regrown, w'' = grow (redrawn W2 p.d) p.os) := fun d os => Calls.regrown_of (HPb.out _)
  have cQ : Hid (∀ d os, Calls Try.prog 12 #[.agg A, .string (a ++ b)] (grow (redrawn W2 d) os) fun e w'' => e = .returned (.string (sa ++ sb)) ∧ ∃ p : Regrown, w'' = grow (redrawn W2 p.d) p.os) := fun d os => Calls.regrown_of (HPab.out _)
  refine wp_region_quiet_below (by kernel_rfl) (by kernel_rfl) ?_
  iterate 6 (quiet_step (fail))
  refine q_load l1 rfl rfl rfl (by rfl) ?_
  iterate 5 (quiet_step (first | with_reducible exact cP.out _ _ | with_reducible exact cQ.out _ _))
  refine q_load l1 rfl rfl rfl (by rfl) ?_
  iterate 5 (quiet_step (first | with_reducible exact cP.out _ _ | with_reducible exact cQ.out _ _))
  refine wpQuiet_nil ?_
  intro _ hw'
  obtain ⟨⟨dq, osq⟩, hw''⟩ := hw'
  subst hw''
  have H3 := hideT (And.intro (H2.out.1.stay (below_regrown W2 dq osq)) (H2.out.2.trans ((below_regrown W2 dq osq).mono H2.out.2.size)))
  clear l1 cP cQ
  generalize grow (redrawn W2 dq) osq = W3 at *
  go_wp2_with fail
  go_loopw [8] (fun i wr => ∃ k : Nat, k ≤ a.size ∧ i = .int .i64 k ∧ ArAt wr w.heap.size 31 (btF T) ∧ Below w.heap.size w wr) (fun i _ => a.size - (intOf i).toNat)
  case atStart => exact ⟨0, by omega, rfl, H3.out.1, H3.out.2⟩
  case round =>
    obtain ⟨k, hk, rfl, hT, hB⟩ := hrel
    have HK := hideT (And.intro hT hB)
    by_cases hlt : k < a.size
    · have hlt2 : k < sa.size := by rw [HZ.out]; exact hlt
      have i1 : (k : Int) < (a.size : Int) := by omega
      have i3 : (k : Int) < (sa.size : Int) := by omega
      have i2 : (0 : Int) ≤ (k : Int) := by omega
      have hcl := (a[k]'hlt).toNat_lt
      have c2 := hT.cell (a[k]'hlt).toNat hcl
      unfold btF at c2
      rw [← HAT.out k hlt hlt2] at c2
      have j1 : (0 : Int) ≤ ((a[k]'hlt).toNat : Int) := by omega
      have j2 : ((a[k]'hlt).toNat : Int) < 256 := by omega
      clear hT hB hcl
      go_wp2_with fail
      go_quiet (fail)
      have HX := hideT (And.intro (show ArAt (wr.drewN nq) w.heap.size 31 (btF T) from HK.out.1) (HK.out.2.trans (below_drewN w.heap.size wr nq)))
      clear c2
      generalize wr.drewN nq = X at *
      go_wp2
      exact ⟨⟨k + 1, by omega, by go_num, HX.out.1, HX.out.2⟩, by simp [intOf]; omega⟩
    · have i1 : ((k : Int) < (sa.size : Int)) = False := by rw [eq_iff_iff, iff_false]; have := HZ.out; omega
      clear hT hB
      go_wp2
      go_ret
      exact ⟨rfl, HK.out.2⟩

end Go.Proofs.Ytgcjjfidcadlgaa
