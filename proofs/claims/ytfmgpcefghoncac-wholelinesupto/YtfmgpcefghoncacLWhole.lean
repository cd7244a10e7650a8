/- WholeLines: for every text of bulk at most 1048576: the text is its lines and their newlines: the law returns true, and the text reads as it did. -/
import Derived.Test.YtfmgpcefghoncacLMw
import Derived.Test.YtfmgpcefghoncacLAwake
import Derived.ChangeSame
import Derived.JoinedOf
import Derived.JoinedAt
import Derived.JoinedStill
import Derived.JoinedCond
import Derived.RowKit
import Derived.ProofKit
import Derived.ShutString
import Derived.ChangeShapes
import Derived.ChangeMaps5
import Derived.OpenShut
import Derived.Laws.IdiomArrays
namespace Go.Proofs.Ytfmgpcefghoncac
open Go.ChangeShapes Go.WideShapes Go.ChangeAt Go.RowKit
open Go.ChangeMaps (open_string shut_string)
namespace wlines

theorem hide {p : Prop} (h : p) : Hid p := h

theorem owns_shape2 {W : World} {base : Nat} {e : TypeId} {size : Nat} {v : Value} {n : Nat} {xs : List Value} (h : W.ownsRow base e size v n xs) : ∃ ao cp, v = .slice ao n cp := by
  rcases h.2 with ⟨hv, h0⟩ | ⟨g, cap, cur, hv, _⟩
  · exact ⟨none, 0, by rw [hv, h0]⟩
  · exact ⟨_, _, hv⟩

/-- The k-th line's place, as the walk needs it. -/
theorem here (s : ByteArray) (k : Nat) (hk : k < (cutL s.data.toList).length) : ∃ a : Nat, min (joinL ((cutL s.data.toList).take k)).length s.data.toList.length = a ∧
    a + (str (cutL s.data.toList)[k]).size ≤ s.size ∧ s.extract a (a + (str (cutL s.data.toList)[k]).size) = str (cutL s.data.toList)[k] ∧ numL s.data.toList a = k + 1 ∧
    ((a + (str (cutL s.data.toList)[k]).size = s.size ∧ k + 1 = (cutL s.data.toList).length ∧ min (joinL ((cutL s.data.toList).take (k + 1))).length s.data.toList.length = a + (str (cutL s.data.toList)[k]).size) ∨
      (∃ h : a + (str (cutL s.data.toList)[k]).size < s.size, (s[a + (str (cutL s.data.toList)[k]).size].toNat : Int) = 10 ∧ min (joinL ((cutL s.data.toList).take (k + 1))).length s.data.toList.length = a + (str (cutL s.data.toList)[k]).size + 1)) := by
  have hsz : s.data.toList.length = s.size := by simp
  have hx : (str (cutL s.data.toList)[k]).size = (cutL s.data.toList)[k].length := by simp [str, ByteArray.size]
  obtain ⟨h1, h2, h3, h4⟩ := place s.data.toList k hk _ rfl
  refine ⟨_, rfl, ?_, ?_, ?_, ?_⟩
  · rw [place_le _ _ hk, hx]; omega
  · rw [place_le _ _ hk, extract_str, hx, Nat.add_sub_cancel_left, h2]
  · rw [place_le _ _ hk]; exact h3
  · rw [place_le _ _ hk, hx]
    rcases h4 with ⟨e1, e2⟩ | ⟨h, e1, e2⟩
    · refine .inl ⟨by omega, e2, ?_⟩
      rw [List.take_of_length_le (by omega), place_end, e1]
    · refine .inr ⟨by omega, ?_, ?_⟩
      · have : s[(joinL ((cutL s.data.toList).take k)).length + (cutL s.data.toList)[k].length]'(by omega) = 10 := e1
        rw [this]
        rfl
      · rw [← e2]; omega

set_option maxRecDepth 100000 in
set_option maxHeartbeats 1000000 in
theorem walk (s : ByteArray) (hs : s.size ≤ 1073741824) (w : World) : Calls Try.prog 3 #[.string s] w fun e w' => e = .returned (.bool true) ∧ Below w.heap.size w w' := by
  have hcl := cutL_le s.data.toList
  have hsz : s.data.toList.length = s.size := by simp
  have hend := place_end s.data.toList
  have HE := hide (here s)
  obtain ⟨L, hL⟩ : ∃ L, cutL s.data.toList = L := ⟨_, rfl⟩
  have hC := cutCall s hs
  have hT := tail_any s hs (L.length : Int) (by rw [← hL]; omega)
  rw [hL] at HE hC hT hcl hend
  have htl : tailL L (L.length : Int) = L := by
    unfold tailL
    split
    · simp
    · exact (List.eq_nil_of_length_eq_zero (by omega)).symm
  rw [htl] at hT
  clear hL htl
  have HC := hide hC
  have HT := hide hT
  have HD := hide hend
  clear hC hT hend
  go_enter Try.func3, Try.ntmps3
  go_wp2_with fail
  refine (number_in ⟨#[97, 10, 98]⟩ (by decide) 2 (by decide) w).mono ?_
  rintro e w1 ⟨rfl, hw1⟩
  have hw1 := hw1.symm
  subst hw1
  rw [show numL (⟨#[97, 10, 98]⟩ : ByteArray).data.toList 2 = 2 by decide]
  go_wp2_with fail
  refine (HC.out w).mono ?_
  rintro e w2 ⟨v2, rfl, hown2, hB2⟩
  obtain ⟨ao2, cp2, rfl⟩ := owns_shape2 hown2
  have HO2 := hide hown2
  clear hown2 HC
  go_wp2_with fail
  go_loopw [6, 25] (fun p i wr => ∃ k : Nat, k ≤ L.length ∧ i = .int .i64 k ∧ p = .int .i64 (min (joinL (L.take k)).length s.data.toList.length : Nat) ∧ wr.ownsRow w.heap.size 9 1 (.slice ao2 L.length cp2) L.length (strVals L) ∧ Below w.heap.size w wr) (fun _ i _ => L.length - (intOf i).toNat)
  case atStart => exact ⟨0, by omega, rfl, by simp [joinL], HO2.out, hB2⟩
  case round =>
    obtain ⟨k, hk, rfl, rfl, hown, hB⟩ := hrel
    by_cases hlt : k < L.length
    · obtain ⟨a, e1, h1, h2, h3, h4⟩ := HE.out k hlt
      rw [e1]
      rcases Row.of_owns hown with ⟨rfl, -⟩ | ⟨g, off, c, e2, hc⟩
      · simp at hlt
      cases e2
      have hck := hc k hlt
      have HO := hide hown
      clear hc hown e1
      generalize str L[k] = Y at *
      go_wp2_with fail
      refine (number_in s hs a (by omega) _).mono ?_
      rintro e w3 ⟨rfl, hw3⟩
      have hw3 := hw3.symm
      subst hw3
      rw [h3]
      rcases h4 with ⟨e4, e5, e6⟩ | ⟨hl, e4, e6⟩
      · have h2b : s.extract a s.size = Y := by rw [← e4]; exact h2
        have e7 : (k : Int) + 1 ≥ (L.length : Int) := by omega
        clear e5
        go_wp2
        all_goals
          refine ⟨⟨k + 1, by omega, by go_num, ?_, HO.out, hB⟩, by simp [intOf]; omega⟩
          rw [e6]
          go_num
      · go_wp2
        all_goals
          refine ⟨⟨k + 1, by omega, by go_num, ?_, HO.out, hB⟩, by simp [intOf]; omega⟩
          rw [e6]
          go_num
    · obtain rfl : k = L.length := by omega
      rw [List.take_length, HD.out, hsz]
      have HO := hide hown
      clear hown
      go_wp2_with fail
      refine (HT.out _).mono ?_
      rintro e w3 ⟨v3, rfl, hown3, hb3⟩
      obtain ⟨ao3, cp3, rfl⟩ := owns_shape2 hown3
      have HO3 := hide (owns_below HO.out hb3)
      have hB3 := hB.trans (hb3.mono hB.size)
      clear hB hb3 HO
      have HR3 := hide (Row.of_owns hown3)
      clear hown3
      go_wp2_with fail
      refine (same_any _ _ _ _ _ HR3.out (Row.of_owns HO3.out) (by omega) (by omega)).mono ?_
      rintro e w4 ⟨rfl, hb4⟩
      have hB4 := hB3.trans (hb4.mono hB3.size)
      rw [decide_eq_true rfl]
      clear HR3 HO3 hB3 hb4
      go_wp2
      go_ret
      exact ⟨rfl, hB4⟩

theorem own : ownKnob Try.prog.godebug = none := by kernel_rfl
theorem laidOut : laidOutB Try.prog = true := by kernel_rfl

set_option maxHeartbeats 1000000 in
set_option maxRecDepth 100000 in
theorem lifted (os : Os) (started : os.Started) (H : Type) (enc : TypeId × Value → H) (F0 : Stop.Interp) :
    ReturnsInHanded {} Try.checked os 3 .any ((Rows.OpenSpec.upto Rows.wholeLinesSpec).pre6 enc Try.prog Try.f3 Rows.wholeLinesUptoRow.domain false) (((Rows.OpenSpec.upto Rows.wholeLinesSpec).at F0).post enc Try.prog Try.f3 false true false false) := by
  refine returnsInHanded_of_cond (C := Try.checked) (s := (Rows.OpenSpec.upto Rows.wholeLinesSpec)) (k := Rows.uptoSmall) rfl own started (by kernel_rfl) Try.func3
    (OpenSpec.witness (enc := enc) (C := Try.checked) (s := (Rows.OpenSpec.upto Rows.wholeLinesSpec)) (k := Rows.uptoSmall) rfl false ⟨#[], #[.string ⟨#[]⟩], []⟩ 8 (by kernel_rfl) (by kernel_rfl) (by kernel_rfl)
      (x := ([.lit (.string [])], [], [])) (by kernel_rfl) (by kernel_rfl) (by kernel_rfl)) ?_
  intro W base args ds gs before hval0 hW _ hk0 _
  have hval : ∀ (j : Nat) t v, Try.f3.params[j]? = some t → args[j]? = some v → Value.okWide Try.prog W .any base t v := hval0
  have hW' := hW
  obtain ⟨p, q, hA0, hV, rfl, hfz, hnd⟩ := hW
  have hA : DataW.TrodAll enc Try.prog W 0 (fun _ => true) true Try.f3.params.toList args.toList ds p := hA0
  rw [Try.params3] at hA hval
  obtain ⟨v0, vs0, d0, ds0, p0, q0, hargs, rfl, rfl, h0, r0⟩ := trodAll_cons hA
  obtain ⟨rfl, rfl, rfl⟩ := trodAll_nil r0
  obtain rfl : args = #[v0] := by cases args; simp_all
  obtain ⟨rfl, rfl⟩ := trodVars_none hV
  obtain ⟨s0, rfl, rfl, rfl, w0⟩ := open_string Try.underlying9 (hval 0 9 v0 rfl rfl) h0
  clear hA0 hval0
  have hk : Rows.uptoBulkAll ([.lit (.string s0.data.toList)] ++ [] : List (DataW H)) ≤ 1048576 := of_decide_eq_true hk0
  have z0 : s0.size ≤ 1073741824 := by
    simp only [List.append_nil, Rows.uptoBulkAll, Rows.uptoBulk] at hk
    simp at hk
    omega
  refine (walk s0 z0 W).mono fun e W' ⟨he, bel⟩ => ?_
  subst he
  exact ⟨_, rfl, _, _, _, [], _, [], hW', trodAll_mk1 (shut_bool Try.underlying4 _), (trodAll_cons_mk (shut_string Try.underlying9 w0) trodAll_mk0), rfl, bel.frame _, fun h => by cases h⟩

theorem over : Rows.wholeLinesUptoRow.holds Try.pinned (Rows.OpenSpec.upto Rows.wholeLinesSpec) :=
  OpenClaim.holds_of_cond 3 Try.f3 rfl rfl rfl rfl rfl rfl rfl ⟨rfl, rfl, rfl, rfl, rfl⟩ rfl rfl rfl rfl rfl (by kernel_rfl) Try.func3 (by kernel_rfl)
    (of_decide_eq_true (by kernel_rfl)) (by unfold Func.isWrapper; first | (rw [if_pos (by decide +kernel)]; kernel_rfl) | (rw [if_neg (by decide +kernel)]; exact ⟨rfl, rfl⟩))
    (fun os started H enc _ F0 => lifted os started H enc F0)

end wlines

/-- The statement. -/
theorem wholeLines_holds : Rows.WholeLinesUptoSaid := wlines.over
#print axioms wholeLines_holds
end Go.Proofs.Ytfmgpcefghoncac
