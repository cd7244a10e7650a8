/- scan: the walks of Untils, Texts, Moves. -/
import Derived.Test.YtcfbmdelgfkfeaaSk
import Derived.Test.YtcfbmdelgfkfeaaSf
import Derived.Test.YtcfbmdelgfkfeaaSh
import Derived.Test.YtcfbmdelgfkfeaaPf
namespace Go.Proofs.Ytcfbmdelgfkfeaa
open Go.RowKit
open scanP

set_option maxRecDepth 100000 in
set_option maxHeartbeats 2000000 in
theorem untils_walk (s : ByteArray) (i : Int) (d : UInt8) (ln : Bool) (hs : s.size ≤ 140737488355000) (w : World) : Calls Try.prog 4 #[.string s, .int .i64 i, .int .u8 (d.toNat : Nat), .bool ln] w fun e w' => e = .returned (.bool true) ∧ Below w.heap.size w w' := by
  have AW := hideT awake_any
  have P1 := hideT (prg.until_doc s i d ln hs)
  have D1 := hideT (until_doc s i d ln hs)
  generalize untilR s.data.toList i d ln = r at *
  obtain ⟨r1, r2, r3⟩ := r
  generalize bst (r1, r2, r3).1 = rs at *
  go_enter Try.func4, Try.ntmps4
  go_wp2_with fail
  refine (P1.out _).mono ?_
  rintro e w1 ⟨rfl, hb1⟩
  have B1 := hideT hb1
  clear hb1
  go_wp2_with fail
  refine (D1.out _).mono ?_
  rintro e w2 ⟨rfl, hb2⟩
  have B2 := hideT (B1.out.trans (hb2.mono B1.out.size))
  clear hb2
  go_wp2_with fail
  refine (AW.out _).mono ?_
  rintro e w3 ⟨rfl, hb3⟩
  have B3 := hideT (B2.out.trans (hb3.mono B2.out.size))
  clear hb3
  go_wp2
  go_ret
  exact ⟨rfl, B3.out⟩

set_option maxRecDepth 100000 in
set_option maxHeartbeats 2000000 in
theorem texts_walk (s : ByteArray) (i : Int) (hs : s.size ≤ 140737488355000) (w : World) : Calls Try.prog 5 #[.string s, .int .i64 i] w fun e w' => e = .returned (.bool true) ∧ Below w.heap.size w w' := by
  have AW := hideT awake_any
  have P1 := hideT (prg.text_doc s i hs)
  have D1 := hideT (text_doc s i hs)
  generalize textR s.data.toList (insN s.size i) = r at *
  obtain ⟨r1, r2, r3⟩ := r
  generalize bst (r1, r2, r3).1 = rs at *
  go_enter Try.func5, Try.ntmps5
  go_wp2_with fail
  refine (P1.out _).mono ?_
  rintro e w1 ⟨rfl, hb1⟩
  have B1 := hideT hb1
  clear hb1
  go_wp2_with fail
  refine (D1.out _).mono ?_
  rintro e w2 ⟨rfl, hb2⟩
  have B2 := hideT (B1.out.trans (hb2.mono B1.out.size))
  clear hb2
  go_wp2_with fail
  refine (AW.out _).mono ?_
  rintro e w3 ⟨rfl, hb3⟩
  have B3 := hideT (B2.out.trans (hb3.mono B2.out.size))
  clear hb3
  go_wp2
  go_ret
  exact ⟨rfl, B3.out⟩

set_option maxRecDepth 100000 in
set_option maxHeartbeats 2000000 in
theorem moves_walk (s : ByteArray) (i : Int) (hs : s.size ≤ 140737488355000) (w : World) : Calls Try.prog 3 #[.string s, .int .i64 i] w fun e w' => e = .returned (.bool true) ∧ Below w.heap.size w w' := by
  have AW := hideT awake_any
  have P1 := hideT (fun w => (prg.number_doc s i (by omega) w).mono (fun e w' h => (And.intro h.1 (by rw [h.2]; exact Below.refl _ _) : _ ∧ Below w.heap.size w w')))
  have D1 := hideT (fun w => (number_doc s i (by omega) w).mono (fun e w' h => (And.intro h.1 (by rw [h.2]; exact Below.refl _ _) : _ ∧ Below w.heap.size w w')))
  have P2 := hideT (fun w => (prg.blanks_doc s i (by omega) w).mono (fun e w' h => (And.intro h.1 (by rw [h.2]; exact Below.refl _ _) : _ ∧ Below w.heap.size w w')))
  have D2 := hideT (fun w => (blanks_doc s i (by omega) w).mono (fun e w' h => (And.intro h.1 (by rw [h.2]; exact Below.refl _ _) : _ ∧ Below w.heap.size w w')))
  generalize numR s.data.toList (insN s.size i) = r at *
  generalize blanksN s.data.toList (insN s.size i) = b at *
  obtain ⟨r1, r2, r3⟩ := r
  go_enter Try.func3, Try.ntmps3
  go_wp2_with fail
  refine (P1.out _).mono ?_
  rintro e w1 ⟨rfl, hb1⟩
  have B1 := hideT hb1
  clear hb1
  go_wp2_with fail
  refine (D1.out _).mono ?_
  rintro e w2 ⟨rfl, hb2⟩
  have B2 := hideT (B1.out.trans (hb2.mono B1.out.size))
  clear hb2
  go_wp2_with fail
  refine (AW.out _).mono ?_
  rintro e w3 ⟨rfl, hb3⟩
  have B3 := hideT (B2.out.trans (hb3.mono B2.out.size))
  clear hb3
  go_wp2_with fail
  refine (P2.out _).mono ?_
  rintro e w4 ⟨rfl, hb4⟩
  have B4 := hideT (B3.out.trans (hb4.mono B3.out.size))
  clear hb4
  go_wp2_with fail
  refine (D2.out _).mono ?_
  rintro e w5 ⟨rfl, hb5⟩
  have B5 := hideT (B4.out.trans (hb5.mono B4.out.size))
  clear hb5
  go_wp2
  go_ret
  exact ⟨rfl, B5.out⟩

end Go.Proofs.Ytcfbmdelgfkfeaa
