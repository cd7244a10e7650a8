/- scan: awake. -/
import Derived.Test.YtcfbmdelgfkfeaaDoorPt
import Derived.Test.YtcfbmdelgfkfeaaDoorPn
namespace Go.Proofs.YtcfbmdelgfkfeaaDoor
open Go.RowKit
open scanP

set_option maxRecDepth 100000 in
set_option maxHeartbeats 2000000 in
theorem awake_any (w : World) : Calls Tryd.prog 9 #[] w fun e w' => e = .returned (.bool true) ∧ Below w.heap.size w w' := by
  have h1 := fun w => prg.until_doc ⟨#[97, 92, 47, 98, 47, 99]⟩ 0 47 false (by decide) w
  have h2 := fun w => prg.text_doc ⟨#[92, 10, 97, 98, 92, 10, 99, 10, 100]⟩ 0 (by decide) w
  have h3 := fun w => prg.name_doc ⟨#[102]⟩ w
  have h4 := fun w => prg.name_doc ⟨#[]⟩ w
  have e1 : untilR [97, 92, 47, 98, 47, 99] 0 47 false = ([97, 47, 98], 5, 0) := by decide
  have e2 : textR [92, 10, 97, 98, 92, 10, 99, 10, 100] (insN 9 0) = ([97, 98, 10, 99, 10], 8, 0) := by decide
  have e3 : nameB [102] = true := by decide
  have e4 : nameB [] = false := by decide
  have H1 := hideT (fun w => (h1 w).mono (fun e w' h => (show e = .returned (.tuple #[.string ⟨#[97, 47, 98]⟩, .int .i64 5, .int .i64 0]) ∧ Below w.heap.size w w' from ⟨by rw [h.1]; show Ending.returned (.tuple #[.string (bst (untilR [97, 92, 47, 98, 47, 99] 0 47 false).1), .int .i64 ((untilR [97, 92, 47, 98, 47, 99] 0 47 false).2.1 : Nat), .int .i64 ((untilR [97, 92, 47, 98, 47, 99] 0 47 false).2.2 : Nat)]) = _; rw [e1]; rfl, h.2⟩)))
  have H2 := hideT (fun w => (h2 w).mono (fun e w' h => (show e = .returned (.tuple #[.string ⟨#[97, 98, 10, 99, 10]⟩, .int .i64 8, .int .i64 0]) ∧ Below w.heap.size w w' from ⟨by rw [h.1]; show Ending.returned (.tuple #[.string (bst (textR [92, 10, 97, 98, 92, 10, 99, 10, 100] (insN 9 0)).1), .int .i64 ((textR [92, 10, 97, 98, 92, 10, 99, 10, 100] (insN 9 0)).2.1 : Nat), .int .i64 ((textR [92, 10, 97, 98, 92, 10, 99, 10, 100] (insN 9 0)).2.2 : Nat)]) = _; rw [e2]; rfl, h.2⟩)))
  have H3 := hideT (fun w => (h3 w).mono (fun e w' h => (show e = .returned (.bool true) ∧ Below w.heap.size w w' from ⟨by rw [h.1]; show Ending.returned (.bool (nameB [102])) = _; rw [e3], by rw [h.2]; exact Below.refl _ _⟩)))
  have H4 := hideT (fun w => (h4 w).mono (fun e w' h => (show e = .returned (.bool false) ∧ Below w.heap.size w w' from ⟨by rw [h.1]; show Ending.returned (.bool (nameB [])) = _; rw [e4], by rw [h.2]; exact Below.refl _ _⟩)))
  clear h1 h2 h3 h4 e1 e2 e3 e4
  go_enter Tryd.func9, Tryd.ntmps9
  go_wp2_with fail
  refine (H1.out _).mono ?_
  rintro e w1 ⟨rfl, hb1⟩
  have B1 := hideT hb1
  clear hb1
  go_wp2_with fail
  refine (H2.out _).mono ?_
  rintro e w2 ⟨rfl, hb2⟩
  have B2 := hideT (B1.out.trans (hb2.mono B1.out.size))
  clear hb2
  go_wp2_with fail
  refine (H3.out _).mono ?_
  rintro e w3 ⟨rfl, hb3⟩
  have B3 := hideT (B2.out.trans (hb3.mono B2.out.size))
  clear hb3
  go_wp2_with fail
  refine (H4.out _).mono ?_
  rintro e w4 ⟨rfl, hb4⟩
  have B4 := hideT (B3.out.trans (hb4.mono B3.out.size))
  clear hb4
  go_wp2
  go_ret
  exact ⟨rfl, B4.out⟩

end Go.Proofs.YtcfbmdelgfkfeaaDoor
