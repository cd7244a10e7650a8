/- scan, the program's: Name. -/
import Derived.Test.YtcfbmdelgfkfeaaDoorPa
import Derived.Test.YtcfbmdelgfkfeaaDoorShelf
import Derived.Lib.IndexAny
namespace Go.Proofs.YtcfbmdelgfkfeaaDoor
open Go.RowKit
open scanP
namespace prg

theorem idx_neg (l : List UInt8) (c : UInt8) (h : l.contains c = false) : Lib.indexByte l c < 0 := by
  rw [Lib.contains_iff_indexByte, decide_eq_false_iff_not] at h
  omega
theorem idx_pos (l : List UInt8) (c : UInt8) (h : l.contains c = true) : 0 ≤ Lib.indexByte l c := by
  rw [Lib.contains_iff_indexByte, decide_eq_true_iff] at h
  exact h
theorem all_two (l : List UInt8) : (l.all fun b => decide (b ≠ 10) && decide (b ≠ 0)) = (!l.contains 10 && !l.contains 0) := by
  induction l with
  | nil => rfl
  | cons b r ih =>
    rw [List.all_cons, ih, List.contains_cons, List.contains_cons]
    by_cases h1 : b = 10
    · simp [h1]
    · by_cases h2 : b = 0
      · simp [h2]
      · have h3 : ((10 : UInt8) == b) = false := by rw [beq_eq_false_iff_ne]; exact fun h => h1 h.symm
        have h4 : ((0 : UInt8) == b) = false := by rw [beq_eq_false_iff_ne]; exact fun h => h2 h.symm
        simp [h1, h2, h3, h4]

set_option maxRecDepth 100000 in
set_option maxHeartbeats 1000000 in
theorem name_doc (s : ByteArray) (w : World) : Calls Tryd.prog 10 #[.string s] w fun e w' => e = .returned (.bool (nameB s.data.toList)) ∧ w' = w := by
  have hsz : s.data.toList.length = s.size := rfl
  by_cases h1 : s.size < 1
  · have e : nameB s.data.toList = false := by unfold nameB; rw [hsz, decide_eq_false (by omega)]; rfl
    have x0 : s.toList = [] := by rw [ByteArray.toList_eq]; exact List.eq_nil_of_length_eq_zero (by omega)
    have x1 : s.toList.isEmpty = true := by rw [x0]; rfl
    rw [e]
    clear e
    go_enter Tryd.func10, Tryd.ntmps10
    go_wp2
    go_ret
    exact ⟨rfl, rfl⟩
  · have x0 : (s.toList = []) = False := by
      rw [eq_iff_iff, iff_false, ByteArray.toList_eq]
      intro h
      have e := congrArg List.length h
      rw [hsz] at e
      have : s.size = 0 := e
      omega
    have x1 : s.toList.isEmpty = false := by
      rw [List.isEmpty_eq_false_iff]
      exact fun h => (x0 ▸ h : False)
    by_cases h2 : 64 < s.size
    · have e : nameB s.data.toList = false := by unfold nameB; rw [hsz, decide_eq_false (show ¬ s.size ≤ 64 by omega)]; simp
      have x2 : (64 : Int) < (s.size : Int) := by omega
      rw [e]
      clear e
      go_enter Tryd.func10, Tryd.ntmps10
      go_wp2
      go_ret
      exact ⟨rfl, rfl⟩
    · have x2 : ((64 : Int) < (s.size : Int)) = False := by rw [eq_iff_iff, iff_false]; omega
      have e : nameB s.data.toList = (!s.data.toList.contains 10 && !s.data.toList.contains 0) := by
        unfold nameB
        rw [hsz, decide_eq_true (by omega), decide_eq_true (by omega), all_two]
        rfl
      have E := hideT e
      clear e
      generalize nameB s.data.toList = nb at *
      have H := hideT (Tryd.strings_IndexByte s)
      have P := hideT (idx_pos s.data.toList)
      have N := hideT (idx_neg s.data.toList)
      go_enter Tryd.func10, Tryd.ntmps10
      go_wp2_with fail
      refine (H.out _ _).mono ?_
      rintro e w1 ⟨rfl, rfl⟩
      cases h10 : s.data.toList.contains 10 with
      | true =>
        have E2 := hideT (show nb = false by rw [E.out, h10]; rfl)
        have q := P.out 10 h10
        clear h10 E
        go_wp2_with fail
        go_ret
        exact ⟨by rw [E2.out]; rfl, rfl⟩
      | false =>
        have E2 := hideT (show nb = !s.data.toList.contains 0 by rw [E.out, h10]; rfl)
        have q := N.out 10 h10
        clear h10 E
        go_wp2_with fail
        refine (H.out _ _).mono ?_
        rintro e w2 ⟨rfl, rfl⟩
        cases h0 : s.data.toList.contains 0 with
        | true =>
          have E3 := hideT (show nb = false by rw [E2.out, h0]; rfl)
          have q2 := P.out 0 h0
          clear h0 E2
          go_wp2_with fail
          go_ret
          exact ⟨by rw [E3.out]; exact congrArg (fun b => Ending.returned (Value.bool b)) (decide_eq_false (by omega)), rfl⟩
        | false =>
          have E3 := hideT (show nb = true by rw [E2.out, h0]; rfl)
          have q2 := N.out 0 h0
          clear h0 E2
          go_wp2_with fail
          go_ret
          exact ⟨by rw [E3.out]; rfl, rfl⟩

end prg
end Go.Proofs.YtcfbmdelgfkfeaaDoor
