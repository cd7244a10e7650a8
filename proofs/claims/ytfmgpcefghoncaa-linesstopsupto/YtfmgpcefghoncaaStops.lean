/- LinesStops: for every text of bulk at most 1048576, and every number: All left early has told the first lines; ranged over again it tells all: the law returns true, and its arguments read as they did. -/
import Derived.Test.YtfmgpcefghoncaaZero
import Derived.Test.YtfmgpcefghoncaaCuts
namespace Go.Proofs.Ytfmgpcefghoncaa
open Go.ChangeShapes Go.WideShapes Go.ChangeAt Go.RowKit
open Go.ChangeMaps (open_string shut_string)
namespace stops

theorem Row.front {W : World} {p : Option Addr} {n c : Nat} {l : List (List UInt8)} (h : Row W (.slice p n c) l) (k : Nat) (hk : k ≤ l.length) (c' : Nat) : Row W (.slice p k c') (l.take k) := by
  rcases h with ⟨rfl, p', c2, e⟩ | ⟨g, off, c2, e, hc⟩
  · cases e
    simp at hk
    subst hk
    exact .inl ⟨by simp, _, _, rfl⟩
  · cases e
    refine .inr ⟨g, off, c', by simp [Nat.min_eq_left hk], fun i hi => ?_⟩
    simp at hi
    rw [hc i (by omega)]
    simp

set_option maxRecDepth 100000 in
set_option maxHeartbeats 1000000 in
theorem walk (s : ByteArray) (m : Int) (hs : s.size ≤ 1073741824) (hm : 0 ≤ m ∧ m ≤ 255) (w : World) : Calls Try.prog 5 #[.string s, .int .u8 m] w fun e w' => e = .returned (.bool true) ∧ Below w.heap.size w w' := by
  have hcl := cutL_le s.data.toList
  have hsz : s.data.toList.length = s.size := by simp
  go_enter Try.func5, Try.ntmps5
  go_wp2_with fail
  refine (awake_any w).mono ?_
  rintro e w1 ⟨rfl, hB1⟩
  go_wp2_with fail
  refine (refCut_any s hs w1).mono ?_
  rintro e w2 ⟨v2, rfl, hown2, hb2⟩
  have hB2 := hB1.trans (hb2.mono hB1.size)
  clear hB1 hb2
  have hnum : ∃ T : List (List UInt8), (cutL s.data.toList).take m.toNat = T ∧ T.length ≤ (cutL s.data.toList).length ∧ min m ((cutL s.data.toList).length : Int) = (T.length : Int) ∧ (cutL s.data.toList).take T.length = T := by
    refine ⟨_, rfl, by simp; omega, ?_, by simp⟩
    rw [List.length_take]
    omega
  obtain ⟨T, hT, hl2, hmm, hTT⟩ := hnum
  have hA := all_few s hs m hm.1
  rw [hT] at hA
  clear hT
  have hall := allCall s hs (-1) (by decide)
  generalize hL : cutL s.data.toList = L at *
  clear hL
  rcases (id hown2).2 with ⟨rfl, h0⟩ | ⟨g, cap, cur, rfl, hg, hh, hcap, hmx, hrest⟩
  · obtain rfl : L = [] := List.eq_nil_of_length_eq_zero h0
    obtain rfl : T = [] := List.eq_nil_of_length_eq_zero (by simpa using hl2)
    clear hTT hl2 h0 hcl hsz
    simp only [List.length_nil] at hA hown2 hmm
    simp only [Int.ofNat_zero] at hmm
    have HA : Hid _ := hA
    have HW : Hid _ := hall
    have HO : Hid _ := hown2
    clear hA hall hown2
    all_goals
      go_wp2_with fail
      refine (HA.out w2).mono ?_
      rintro e w3 ⟨v3, rfl, hown3, hb3⟩
      have hB3 := hB2.trans (hb3.mono hB2.size)
      clear hB2 hb3
      obtain ⟨ao3, cp3, rfl⟩ := owns_shape hown3
      have HR : Hid (Row w3 (.slice ao3 0 cp3) []) := .inl ⟨rfl, _, _, rfl⟩
      clear hown3
      go_wp2_with fail
      refine (same_any _ _ _ _ w3 HR.out (.inl ⟨rfl, _, _, rfl⟩) (by simp) (by simp)).mono ?_
      rintro e w4 ⟨rfl, hb4⟩
      rw [decide_eq_true rfl]
      have hB4 := hB3.trans (hb4.mono hB3.size)
      clear hB3 hb4 HR
      go_wp2_with fail
      refine (HW.out w4).mono ?_
      rintro e w5 ⟨v5, pre, rfl, hown5, hpre, hb5⟩
      obtain rfl : pre = [] := by
        rcases hpre with ⟨h, -⟩ | ⟨-, h⟩
        · exact h
        · omega
      clear hpre
      have hB5 := hB4.trans (hb5.mono hB4.size)
      clear hB4 hb5
      obtain ⟨ao5, cp5, rfl⟩ := owns_shape hown5
      have HR5 : Hid _ := Row.of_owns hown5
      clear hown5
      go_wp2_with fail
      refine (same_any _ _ [] [] w5 (.inl ⟨rfl, _, _, rfl⟩) (.inl ⟨rfl, _, _, rfl⟩) (by simp) (by simp)).mono ?_
      rintro e w6 ⟨rfl, hb6⟩
      rw [decide_eq_true rfl]
      have hB6 := hB5.trans (hb6.mono hB5.size)
      clear hB5 hb6 HR5
      go_wp2
      go_ret
      exact ⟨rfl, hB6⟩
  · have HA : Hid _ := hA
    have HW : Hid _ := hall
    have HO : Hid _ := hown2
    clear hA hall hown2 hh hrest
    all_goals
      go_wp2_with fail
      refine (HA.out w2).mono ?_
      rintro e w3 ⟨v3, rfl, hown3, hb3⟩
      have HO3 : Hid _ := owns_below HO.out hb3
      have hB3 := hB2.trans (hb3.mono hB2.size)
      clear hB2 hb3 HO
      obtain ⟨ao3, cp3, rfl⟩ := owns_shape hown3
      have HR : Hid _ := Row.of_owns hown3
      clear hown3
      go_wp2_with fail
      have HP : Hid _ := Row.front (Row.of_owns HO3.out) T.length hl2 cap
      rw [hTT] at HP
      refine (same_any _ _ _ _ w3 HR.out HP.out (by omega) (by omega)).mono ?_
      rintro e w4 ⟨rfl, hb4⟩
      rw [decide_eq_true rfl]
      have hB4 := hB3.trans (hb4.mono hB3.size)
      have HO4 : Hid _ := owns_below HO3.out hb4
      clear hB3 hb4 HR HP HO3
      go_wp2_with fail
      refine (HW.out w4).mono ?_
      rintro e w5 ⟨v5, pre, rfl, hown5, hpre, hb5⟩
      obtain rfl : pre = L := by
        rcases hpre with ⟨h, -⟩ | ⟨-, h⟩
        · exact h
        · omega
      clear hpre
      have hB5 := hB4.trans (hb5.mono hB4.size)
      have HO5 : Hid _ := owns_below HO4.out hb5
      clear hB4 hb5 HO4
      obtain ⟨ao5, cp5, rfl⟩ := owns_shape hown5
      have HR5 : Hid _ := Row.of_owns hown5
      clear hown5
      go_wp2_with fail
      refine (same_any _ _ _ _ w5 HR5.out (Row.of_owns HO5.out) (by omega) (by omega)).mono ?_
      rintro e w6 ⟨rfl, hb6⟩
      rw [decide_eq_true rfl]
      have hB6 := hB5.trans (hb6.mono hB5.size)
      clear hB5 hb6 HR5 HO5
      go_wp2
      go_ret
      exact ⟨rfl, hB6⟩

theorem own : ownKnob Try.prog.godebug = none := by kernel_rfl
theorem laidOut : laidOutB Try.prog = true := by kernel_rfl

set_option maxHeartbeats 1000000 in
set_option maxRecDepth 100000 in
theorem lifted (os : Os) (started : os.Started) (H : Type) (enc : TypeId × Value → H) (F0 : Stop.Interp) :
    ReturnsInHanded {} Try.checked os 5 .any ((Rows.OpenSpec.upto Rows.linesStopsSpec).pre6 enc Try.prog Try.f5 Rows.linesStopsUptoRow.domain false) (((Rows.OpenSpec.upto Rows.linesStopsSpec).at F0).post enc Try.prog Try.f5 false true false false) := by
  refine returnsInHanded_of_cond (C := Try.checked) (s := (Rows.OpenSpec.upto Rows.linesStopsSpec)) (k := Rows.uptoSmall) rfl own started (by kernel_rfl) Try.func5
    (OpenSpec.witness (enc := enc) (C := Try.checked) (s := (Rows.OpenSpec.upto Rows.linesStopsSpec)) (k := Rows.uptoSmall) rfl false ⟨#[], #[.string ⟨#[]⟩, .int .u8 0], []⟩ 8 (by kernel_rfl) (by kernel_rfl) (by kernel_rfl)
      (x := ([.lit (.string []), .lit (.int .u8 0)], [], [])) (by kernel_rfl) (by kernel_rfl) (by kernel_rfl)) ?_
  intro W base args ds gs before hval0 hW _ hk0 _
  have hval : ∀ (j : Nat) t v, Try.f5.params[j]? = some t → args[j]? = some v → Value.okWide Try.prog W .any base t v := hval0
  have hW' := hW
  obtain ⟨p, q, hA0, hV, rfl, hfz, hnd⟩ := hW
  have hA : DataW.TrodAll enc Try.prog W 0 (fun _ => true) true Try.f5.params.toList args.toList ds p := hA0
  rw [Try.params5] at hA hval
  obtain ⟨v0, vs0, d0, ds0, p0, q0, hargs, rfl, rfl, h0, r0⟩ := trodAll_cons hA
  obtain ⟨v1, vs1, d1, ds1, p1, q1, rfl, rfl, rfl, h1, r1⟩ := trodAll_cons r0
  obtain ⟨rfl, rfl, rfl⟩ := trodAll_nil r1
  obtain rfl : args = #[v0, v1] := by cases args; simp_all
  obtain ⟨rfl, rfl⟩ := trodVars_none hV
  obtain ⟨s0, rfl, rfl, rfl, w0⟩ := open_string Try.underlying9 (hval 0 9 v0 rfl rfl) h0
  obtain ⟨a1, rfl, rfl, rfl, w1⟩ := open_int Try.underlying5 (hval 1 5 v1 rfl rfl) h1
  clear hA0 hval0
  have hk : Rows.uptoBulkAll ([.lit (.string s0.data.toList), .lit (.int .u8 a1)] ++ [] : List (DataW H)) ≤ 1048576 := of_decide_eq_true hk0
  have z0 : s0.size ≤ 1073741824 := by
    simp only [List.append_nil, Rows.uptoBulkAll, Rows.uptoBulk] at hk
    simp at hk
    omega
  refine (walk s0 a1 z0 (by have h := w1; simp [Lit.wf] at h; exact ⟨h.1, h.2⟩) W).mono fun e W' ⟨he, bel⟩ => ?_
  subst he
  exact ⟨_, rfl, _, _, _, [], _, [], hW', trodAll_mk1 (shut_bool Try.underlying4 _), (trodAll_cons_mk (shut_string Try.underlying9 w0) (trodAll_cons_mk (shut_int Try.underlying5 w1) trodAll_mk0)), rfl, bel.frame _, fun h => by cases h⟩

theorem over : Rows.linesStopsUptoRow.holds Try.pinned (Rows.OpenSpec.upto Rows.linesStopsSpec) :=
  OpenClaim.holds_of_cond 5 Try.f5 rfl rfl rfl rfl rfl rfl rfl ⟨rfl, rfl, rfl, rfl, rfl⟩ rfl rfl rfl rfl rfl (by kernel_rfl) Try.func5 (by kernel_rfl)
    (of_decide_eq_true (by kernel_rfl)) (by unfold Func.isWrapper; first | (rw [if_pos (by decide +kernel)]; kernel_rfl) | (rw [if_neg (by decide +kernel)]; exact ⟨rfl, rfl⟩))
    (fun os started H enc _ F0 => lifted os started H enc F0)

end stops

/-- The statement. -/
theorem linesStops_holds : Rows.LinesStopsUptoSaid := stops.over
#print axioms linesStops_holds
end Go.Proofs.Ytfmgpcefghoncaa
