/- listing: awake; the walk of ListingLines. -/
import Derived.Test.YtiegmgcdfafhiaaDoorHl
import Derived.Test.YtiegmgcdfafhiaaDoorHg
namespace Go.Proofs.YtiegmgcdfafhiaaDoor
open Go.RowKit

theorem row_one (W : World) (x : List UInt8) : Row (W.alloc (.cells #[.string (bst x)] 9)) (.slice (some ⟨W.heap.size, 0, none⟩) 1 1) [x] :=
  .inr ⟨_, 0, 1, rfl, fun i hi => by
    match i, hi with
    | 0, _ => exact new_cell W [.string (bst x)] 9 0 _ rfl⟩

theorem aw_lines : linesL [97, 9] = [[97, 92, 116, 36]] := by decide
theorem aw_lines2 : linesL [97, 9, 98, 92] = [[97, 92, 116, 98, 92, 92, 36]] := by decide
theorem aw_read : readR [[97, 92, 116, 36]] = ([97, 9], 0) := by rw [← aw_lines, read_lines]
theorem aw_esc : escB 200 = [92, 51, 49, 48] := by decide

set_option maxRecDepth 100000 in
set_option maxHeartbeats 2000000 in
theorem awake_any (w : World) (hg : Glob w) : Calls Tryd.prog 10 #[] w fun e w' => e = .returned (.bool true) ∧ Below w.heap.size w w' := by
  have hA0 := (Below.refl w.heap.size w).alloc (Nat.le_refl _) (.cells #[.string ⟨#[97, 92, 116, 36]⟩] 9)
  have hr := read_any _ _ _ (row_one w [97, 92, 116, 36]) (by decide) (by decide) (hg.stay hA0)
  rw [aw_read, show bst [97, 92, 116, 36] = ⟨#[97, 92, 116, 36]⟩ from rfl, show bst ([97, 9], 0).1 = ⟨#[97, 9]⟩ from rfl] at hr
  have HR := hideT hr
  have he := fun w => escape_any 200 w
  rw [aw_esc, show bst [92, 51, 49, 48] = ⟨#[92, 51, 49, 48]⟩ from rfl, show (((200 : UInt8).toNat : Nat) : Int) = 200 from rfl] at he
  have HE := hideT he
  have hl := fun w => lines_any ⟨#[97, 9, 98, 92]⟩ (by decide) w
  rw [show (⟨#[97, 9, 98, 92]⟩ : ByteArray).data.toList = [97, 9, 98, 92] from rfl, aw_lines2] at hl
  have HL := hideT hl
  have H0 := hideT hA0
  clear hr he hl hA0
  go_enter Tryd.func10, Tryd.ntmps10
  go_wp2_with fail
  refine HR.out.mono ?_
  rintro e w1 ⟨rfl, hb1⟩
  have H1 := hideT (H0.out.trans (hb1.mono H0.out.size))
  clear hb1
  go_wp2_with fail
  refine (HE.out _).mono ?_
  rintro e w2 ⟨rfl, hb2⟩
  have H2 := hideT (H1.out.trans (hb2.mono H1.out.size))
  clear hb2
  go_wp2_with fail
  refine (HL.out _).mono ?_
  rintro e w3 ⟨v3, rfl, hO3, hb3⟩
  obtain ⟨a3, c3, rfl⟩ := owns_shape hO3
  have hA3 := (Below.refl w3.heap.size w3).alloc (Nat.le_refl _) (.cells #[.string ⟨#[97, 92, 116, 98, 92, 92, 36]⟩] 9)
  have hs := same_any _ _ _ _ _ ((Row.of_owns hO3).stay hA3 (Nat.le_refl _)) (row_one w3 [97, 92, 116, 98, 92, 92, 36]) (by decide) (by decide)
  rw [decide_eq_true rfl] at hs
  have HS := hideT hs
  have H3 := hideT (And.intro (H2.out.trans (hb3.mono H2.out.size)) hA3)
  clear hs hA3 hO3 hb3
  go_wp2_with fail
  refine HS.out.mono ?_
  rintro e w4 ⟨rfl, hb4⟩
  have H4 := hideT (H3.out.1.trans ((H3.out.2.trans (hb4.mono H3.out.2.size)).mono H3.out.1.size))
  clear hb4
  go_wp2
  go_ret
  exact ⟨rfl, H4.out⟩

set_option maxRecDepth 100000 in
set_option maxHeartbeats 2000000 in
theorem lines_walk (s : ByteArray) (b : Int) (hs : s.size ≤ 1048576) (hb : 0 ≤ b ∧ b ≤ 255) (w : World) (hg : Glob w) : Calls Tryd.prog 3 #[.string s, .int .u8 b] w fun e w' => e = .returned (.bool true) ∧ Below w.heap.size w w' := by
  obtain ⟨c, rfl⟩ : ∃ c : UInt8, b = (c.toNat : Nat) := ⟨UInt8.ofNat b.toNat, by rw [UInt8.toNat_ofNat', Nat.mod_eq_of_lt (by omega)]; omega⟩
  have hll := lines_len s.data.toList
  have hsz : s.data.toList.length = s.size := rfl
  have HA := hideT (all_any s (by omega) (-1) w)
  have HE := hideT (escape_any c)
  have HD := hideT (docEscape_any c)
  have HL := hideT (fun w => lines_any s (by omega) w)
  have HM := hideT (fun w => docLines_any s (by omega) w)
  have hS := fun a b w1 (h1 : Row w1 a (linesL s.data.toList)) (h2 : Row w1 b (linesL s.data.toList)) => same_any a b _ _ w1 h1 h2 (by omega) (by omega)
  simp only [decide_true] at hS
  have HS := hideT hS
  have HG := hideT hg
  clear hS hg hb hs hsz hll
  generalize linesL s.data.toList = R at *
  generalize bst (escB c) = ec at *
  go_enter Tryd.func3, Tryd.ntmps3
  go_wp2_with fail
  refine HA.out.mono ?_
  rintro e w1 ⟨v1, pre, rfl, hO1, hpre, hb1⟩
  obtain rfl : pre = R := by
    rcases hpre with ⟨h, -⟩ | ⟨-, h⟩
    · exact h
    · omega
  obtain ⟨a1, c1, rfl⟩ := owns_shape hO1
  have H1 := hideT (And.intro (Row.of_owns hO1) hb1)
  clear hO1 hb1 hpre
  go_wp2_with fail
  refine (awake_any _ (HG.out.stay H1.out.2)).mono ?_
  rintro e w2 ⟨rfl, hb2⟩
  have H2 := hideT (And.intro (H1.out.1.stay hb2 (Nat.le_refl _)) (H1.out.2.trans (hb2.mono H1.out.2.size)))
  clear hb2
  go_wp2_with fail
  refine (HE.out _).mono ?_
  rintro e w3 ⟨rfl, hb3⟩
  have H3 := hideT (And.intro (H2.out.1.stay hb3 (Nat.le_refl _)) (H2.out.2.trans (hb3.mono H2.out.2.size)))
  clear hb3
  go_wp2_with fail
  refine (HD.out _).mono ?_
  rintro e w4 ⟨rfl, hb4⟩
  have H4 := hideT (And.intro (H3.out.1.stay hb4 (Nat.le_refl _)) (H3.out.2.trans (hb4.mono H3.out.2.size)))
  clear hb4
  go_wp2_with fail
  refine (HL.out _).mono ?_
  rintro e w5 ⟨v5, rfl, hO5, hb5⟩
  obtain ⟨a5, c5, rfl⟩ := owns_shape hO5
  have H5 := hideT (And.intro (H4.out.1.stay hb5 (Nat.le_refl _)) (And.intro (Row.of_owns hO5) (H4.out.2.trans (hb5.mono H4.out.2.size))))
  clear hO5 hb5
  go_wp2_with fail
  refine (HM.out _).mono ?_
  rintro e w6 ⟨v6, rfl, hO6, hb6⟩
  obtain ⟨a6, c6, rfl⟩ := owns_shape hO6
  have H6 := hideT (And.intro (H5.out.1.stay hb6 (Nat.le_refl _)) (And.intro (H5.out.2.2.trans (hb6.mono H5.out.2.2.size)) (HS.out _ _ w6 (H5.out.2.1.stay hb6 (Nat.le_refl _)) (Row.of_owns hO6))))
  clear hO6 hb6
  go_wp2_with fail
  refine H6.out.2.2.mono ?_
  rintro e w7 ⟨rfl, hb7⟩
  have H7 := hideT (And.intro (H6.out.1.stay hb7 (Nat.le_refl _)) (H6.out.2.1.trans (hb7.mono H6.out.2.1.size)))
  clear hb7
  go_wp2_with fail
  refine (HM.out _).mono ?_
  rintro e w8 ⟨v8, rfl, hO8, hb8⟩
  obtain ⟨a8, c8, rfl⟩ := owns_shape hO8
  have H8 := hideT (And.intro (H7.out.2.trans (hb8.mono H7.out.2.size)) (HS.out _ _ w8 (H7.out.1.stay hb8 (Nat.le_refl _)) (Row.of_owns hO8)))
  clear hO8 hb8
  go_wp2_with fail
  refine H8.out.2.mono ?_
  rintro e w9 ⟨rfl, hb9⟩
  have H9 := hideT (H8.out.1.trans (hb9.mono H8.out.1.size))
  clear hb9
  go_wp2
  go_ret
  exact ⟨rfl, H9.out⟩

end Go.Proofs.YtiegmgcdfafhiaaDoor
