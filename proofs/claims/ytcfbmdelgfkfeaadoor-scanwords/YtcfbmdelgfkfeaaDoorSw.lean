/- scan: the walk of Words. -/
import Derived.Test.YtcfbmdelgfkfeaaDoorSk
import Derived.Test.YtcfbmdelgfkfeaaDoorSl
import Derived.Test.YtcfbmdelgfkfeaaDoorSe
import Derived.Test.YtcfbmdelgfkfeaaDoorSn
import Derived.Test.YtcfbmdelgfkfeaaDoorPo
namespace Go.Proofs.YtcfbmdelgfkfeaaDoor
open Go.RowKit
open scanP

set_option maxRecDepth 100000 in
set_option maxHeartbeats 2000000 in
theorem words_walk (s : ByteArray) (i : Int) (hs : s.size ≤ 140737488355000) (w : World) : Calls Tryd.prog 3 #[.string s, .int .i64 i] w fun e w' => e = .returned (.bool true) ∧ Below w.heap.size w w' := by
  have AW := hideT awake_any
  have P1 := hideT (prg.line_doc s i (by omega))
  have D1 := hideT (fun w => (line_doc s i (by omega) w).mono (fun e w' h => (And.intro h.1 (by rw [h.2]; exact Below.refl _ _) : _ ∧ Below w.heap.size w w')))
  have P2 := hideT (prg.word_doc s i (by omega))
  have D2 := hideT (fun w => (word_doc s i (by omega) w).mono (fun e w' h => (And.intro h.1 (by rw [h.2]; exact Below.refl _ _) : _ ∧ Below w.heap.size w w')))
  have P3 := hideT (fun w => (prg.name_doc s w).mono (fun e w' h => (And.intro h.1 (by rw [h.2]; exact Below.refl _ _) : _ ∧ Below w.heap.size w w')))
  have D3 := hideT (fun w => (name_doc s w).mono (fun e w' h => (And.intro h.1 (by rw [h.2]; exact Below.refl _ _) : _ ∧ Below w.heap.size w w')))
  generalize lineR s.data.toList (insN s.size i) = r at *
  generalize wordR s.data.toList (insN s.size i) = q at *
  generalize nameB s.data.toList = b at *
  obtain ⟨r1, r2⟩ := r
  obtain ⟨q1, q2⟩ := q
  generalize bst (r1, r2).1 = rs at *
  generalize bst (q1, q2).1 = qs at *
  go_enter Tryd.func3, Tryd.ntmps3
  go_wp2_with fail
  refine (P1.out _).mono ?_
  rintro e w1 ⟨rfl, hb1⟩
  have B1 := hideT hb1
  clear hb1
  go_wp2_with fail
  refine (D1.out _).mono ?_
  rintro e w2 ⟨rfl, hb2⟩
  have B2 := hideT (B1.out.trans (hb2.mono B1.out.size))
  clear hb2
  go_wp2_with fail
  refine (P2.out _).mono ?_
  rintro e w3 ⟨rfl, hb3⟩
  have B3 := hideT (B2.out.trans (hb3.mono B2.out.size))
  clear hb3
  go_wp2_with fail
  refine (D2.out _).mono ?_
  rintro e w4 ⟨rfl, hb4⟩
  have B4 := hideT (B3.out.trans (hb4.mono B3.out.size))
  clear hb4
  go_wp2_with fail
  refine (AW.out _).mono ?_
  rintro e w5 ⟨rfl, hb5⟩
  have B5 := hideT (B4.out.trans (hb5.mono B4.out.size))
  clear hb5
  go_wp2_with fail
  refine (P3.out _).mono ?_
  rintro e w6 ⟨rfl, hb6⟩
  have B6 := hideT (B5.out.trans (hb6.mono B5.out.size))
  clear hb6
  go_wp2_with fail
  refine (D3.out _).mono ?_
  rintro e w7 ⟨rfl, hb7⟩
  have B7 := hideT (B6.out.trans (hb7.mono B6.out.size))
  clear hb7
  go_wp2
  go_ret
  exact ⟨rfl, B7.out⟩

end Go.Proofs.YtcfbmdelgfkfeaaDoor
