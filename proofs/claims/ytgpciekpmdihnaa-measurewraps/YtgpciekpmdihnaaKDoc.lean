/- Walks: the document's Span and Class, at every argument. -/
import Derived.Test.YtgpciekpmdihnaaKDet
namespace Go.Proofs.Ytgpciekpmdihnaa
open Go.RowKit
set_option maxRecDepth 100000 in
set_option maxHeartbeats 1000000 in
theorem docSpanD (lo hi : Int) (h0 : 0 ≤ lo) (h1 : lo ≤ hi) (h2 : hi < 256) (w : World) :
    Calls Try.prog 77 #[.int .u8 lo, .int .u8 hi] w fun e w' => e = .returned (.tuple #[.agg #[.int .u64 (wd (spanP lo.toNat hi.toNat) 0 : Nat), .int .u64 (wd (spanP lo.toNat hi.toNat) 1 : Nat), .int .u64 (wd (spanP lo.toNat hi.toNat) 2 : Nat), .int .u64 (wd (spanP lo.toNat hi.toNat) 3 : Nat)], .int .i64 0]) ∧ Below w.heap.size w w' := by
  have hnl : ¬ hi < lo := by omega
  have hspec : ∀ q : Nat → Bool, Is q (fun n => decide (lo ≤ (n : Int) ∧ (n : Int) ≤ hi)) → Is q (spanP lo.toNat hi.toNat) := fun q hq n hn => by
    rw [hq n hn]; unfold spanP; rw [Bool.eq_iff_iff]; simp only [decide_eq_true_eq]; omega
  have HS : Hid _ := hspec
  clear hspec
  go_enter Try.func77, Try.ntmps77
  go_wp2_with fail
  go_loopw [7] (fun i wr => ∃ (k : Nat) (t : Nat → Bool), k ≤ 256 ∧ i = .int .i64 k ∧ Is t (upTo k (fun n => decide (lo ≤ (n : Int) ∧ (n : Int) ≤ hi))) ∧ (∃ q, Holds4 wr w.heap.size q) ∧ Holds4 wr (w.heap.size + 1) t ∧ Below w.heap.size w wr) (fun i _ => (256 - intOf i).toNat)
  case atStart =>
    have e := holds4_zero (w.alloc (.cells #[.int .u64 0, .int .u64 0, .int .u64 0, .int .u64 0] 24)) 24
    rw [World.size_alloc] at e
    exact ⟨0, fun _ => false, by omega, rfl, upTo_zero _, ⟨_, (holds4_zero w 24).alloc _⟩, e, ((Below.refl _ _).alloc (Nat.le_refl _) _).alloc (by simp) _⟩
  case round =>
    obtain ⟨k, t, hk1, rfl, ht, ⟨q, hr⟩, hs, hB⟩ := hrel
    have hsz := hs.lt
    by_cases hlt : k < 256
    · by_cases hlo : lo ≤ (k : Int)
      · by_cases hhi : (k : Int) ≤ hi
        · obtain ⟨⟨c0, c1, c2, c3⟩, f0, f1, f2, f3⟩ := id hs
          go_wp2_with fail
          refine (refWithE t k (by omega) (by omega) _).mono ?_
          rintro e w2 ⟨t1, rfl, ht1, hb2⟩
          clear c0 c1 c2 c3 f0 f1 f2 f3
          have hs3 := hs.below hb2 hs.lt
          have hr2 := hr.below hb2 hr.lt
          have hB2 := hB.trans (hb2.mono hB.size)
          obtain ⟨⟨c0, c1, c2, c3⟩, f0, f1, f2, f3⟩ := id hs3
          go_wp2
          go_roundw
          case rel =>
            exact ⟨k + 1, t1, by omega, by go_num, upTo_yes ht ht1 (by simp; omega), ⟨_, hr2.other t1 (by omega)⟩, hs3.put t1, below_put4 hB2 (by omega) t1⟩
          case measure => simp [intOf]; omega
        · go_wp2
          go_roundw
          case rel => exact ⟨k + 1, t, by omega, by go_num, upTo_no ht (by simp; omega), ⟨_, hr⟩, hs, hB⟩
          case measure => simp [intOf]; omega
      · go_wp2
        go_roundw
        case rel => exact ⟨k + 1, t, by omega, by go_num, upTo_no ht (by simp; omega), ⟨_, hr⟩, hs, hB⟩
        case measure => simp [intOf]; omega
    · obtain ⟨⟨c0, c1, c2, c3⟩, f0, f1, f2, f3⟩ := hs
      obtain ⟨⟨d0, d1, d2, d3⟩, g0, g1, g2, g3⟩ := hr
      go_wp2
      obtain ⟨e0, e1, e2, e3⟩ := wd_Is (HS.out _ (upTo_full ht (by omega)))
      exact bodyPost_ret (v := .tuple #[.agg #[.int .u64 (wd t 0 : Nat), .int .u64 (wd t 1 : Nat), .int .u64 (wd t 2 : Nat), .int .u64 (wd t 3 : Nat)], .int .i64 0]) (by simp [results, Try.results77, go_sem, *]) rfl ⟨by rw [e0, e1, e2, e3], below_put4 hB (by omega) _⟩
set_option maxHeartbeats 400000 in
theorem text_upper (w : World) : Calls Try.prog 88 #[.string ⟨#[117, 112, 112, 101, 114]⟩] w fun e w' => e = .returned (.string ⟨#[65, 66, 67, 68, 69, 70, 71, 72, 73, 74, 75, 76, 77, 78, 79, 80, 81, 82, 83, 84, 85, 86, 87, 88, 89, 90]⟩) ∧ w' = w := by
  go_enter Try.func88, Try.ntmps88
  go_wp2
  go_ret
  exact ⟨rfl, rfl⟩
theorem cardT_upper : card (ofP ⟨#[65, 66, 67, 68, 69, 70, 71, 72, 73, 74, 75, 76, 77, 78, 79, 80, 81, 82, 83, 84, 85, 86, 87, 88, 89, 90]⟩) = 26 := by decide +kernel
set_option maxHeartbeats 400000 in
theorem text_lower (w : World) : Calls Try.prog 88 #[.string ⟨#[108, 111, 119, 101, 114]⟩] w fun e w' => e = .returned (.string ⟨#[97, 98, 99, 100, 101, 102, 103, 104, 105, 106, 107, 108, 109, 110, 111, 112, 113, 114, 115, 116, 117, 118, 119, 120, 121, 122]⟩) ∧ w' = w := by
  go_enter Try.func88, Try.ntmps88
  go_wp2
  go_ret
  exact ⟨rfl, rfl⟩
theorem cardT_lower : card (ofP ⟨#[97, 98, 99, 100, 101, 102, 103, 104, 105, 106, 107, 108, 109, 110, 111, 112, 113, 114, 115, 116, 117, 118, 119, 120, 121, 122]⟩) = 26 := by decide +kernel
set_option maxHeartbeats 400000 in
theorem text_digit (w : World) : Calls Try.prog 88 #[.string ⟨#[100, 105, 103, 105, 116]⟩] w fun e w' => e = .returned (.string ⟨#[48, 49, 50, 51, 52, 53, 54, 55, 56, 57]⟩) ∧ w' = w := by
  go_enter Try.func88, Try.ntmps88
  go_wp2
  go_ret
  exact ⟨rfl, rfl⟩
theorem cardT_digit : card (ofP ⟨#[48, 49, 50, 51, 52, 53, 54, 55, 56, 57]⟩) = 10 := by decide +kernel
set_option maxHeartbeats 400000 in
theorem text_alpha (w : World) : Calls Try.prog 88 #[.string ⟨#[97, 108, 112, 104, 97]⟩] w fun e w' => e = .returned (.string ⟨#[65, 66, 67, 68, 69, 70, 71, 72, 73, 74, 75, 76, 77, 78, 79, 80, 81, 82, 83, 84, 85, 86, 87, 88, 89, 90, 97, 98, 99, 100, 101, 102, 103, 104, 105, 106, 107, 108, 109, 110, 111, 112, 113, 114, 115, 116, 117, 118, 119, 120, 121, 122]⟩) ∧ w' = w := by
  go_enter Try.func88, Try.ntmps88
  go_wp2
  go_ret
  exact ⟨rfl, rfl⟩
theorem cardT_alpha : card (ofP ⟨#[65, 66, 67, 68, 69, 70, 71, 72, 73, 74, 75, 76, 77, 78, 79, 80, 81, 82, 83, 84, 85, 86, 87, 88, 89, 90, 97, 98, 99, 100, 101, 102, 103, 104, 105, 106, 107, 108, 109, 110, 111, 112, 113, 114, 115, 116, 117, 118, 119, 120, 121, 122]⟩) = 52 := by decide +kernel
set_option maxHeartbeats 400000 in
theorem text_alnum (w : World) : Calls Try.prog 88 #[.string ⟨#[97, 108, 110, 117, 109]⟩] w fun e w' => e = .returned (.string ⟨#[65, 66, 67, 68, 69, 70, 71, 72, 73, 74, 75, 76, 77, 78, 79, 80, 81, 82, 83, 84, 85, 86, 87, 88, 89, 90, 97, 98, 99, 100, 101, 102, 103, 104, 105, 106, 107, 108, 109, 110, 111, 112, 113, 114, 115, 116, 117, 118, 119, 120, 121, 122, 48, 49, 50, 51, 52, 53, 54, 55, 56, 57]⟩) ∧ w' = w := by
  go_enter Try.func88, Try.ntmps88
  go_wp2
  go_ret
  exact ⟨rfl, rfl⟩
theorem cardT_alnum : card (ofP ⟨#[65, 66, 67, 68, 69, 70, 71, 72, 73, 74, 75, 76, 77, 78, 79, 80, 81, 82, 83, 84, 85, 86, 87, 88, 89, 90, 97, 98, 99, 100, 101, 102, 103, 104, 105, 106, 107, 108, 109, 110, 111, 112, 113, 114, 115, 116, 117, 118, 119, 120, 121, 122, 48, 49, 50, 51, 52, 53, 54, 55, 56, 57]⟩) = 62 := by decide +kernel
set_option maxHeartbeats 400000 in
theorem text_xdigit (w : World) : Calls Try.prog 88 #[.string ⟨#[120, 100, 105, 103, 105, 116]⟩] w fun e w' => e = .returned (.string ⟨#[48, 49, 50, 51, 52, 53, 54, 55, 56, 57, 65, 66, 67, 68, 69, 70, 97, 98, 99, 100, 101, 102]⟩) ∧ w' = w := by
  go_enter Try.func88, Try.ntmps88
  go_wp2
  go_ret
  exact ⟨rfl, rfl⟩
theorem cardT_xdigit : card (ofP ⟨#[48, 49, 50, 51, 52, 53, 54, 55, 56, 57, 65, 66, 67, 68, 69, 70, 97, 98, 99, 100, 101, 102]⟩) = 22 := by decide +kernel
set_option maxHeartbeats 400000 in
theorem text_blank (w : World) : Calls Try.prog 88 #[.string ⟨#[98, 108, 97, 110, 107]⟩] w fun e w' => e = .returned (.string ⟨#[32, 9]⟩) ∧ w' = w := by
  go_enter Try.func88, Try.ntmps88
  go_wp2
  go_ret
  exact ⟨rfl, rfl⟩
theorem cardT_blank : card (ofP ⟨#[32, 9]⟩) = 2 := by decide +kernel
set_option maxHeartbeats 400000 in
theorem text_space (w : World) : Calls Try.prog 88 #[.string ⟨#[115, 112, 97, 99, 101]⟩] w fun e w' => e = .returned (.string ⟨#[32, 9, 10, 11, 12, 13]⟩) ∧ w' = w := by
  go_enter Try.func88, Try.ntmps88
  go_wp2
  go_ret
  exact ⟨rfl, rfl⟩
theorem cardT_space : card (ofP ⟨#[32, 9, 10, 11, 12, 13]⟩) = 6 := by decide +kernel
set_option maxHeartbeats 400000 in
theorem text_graph (w : World) : Calls Try.prog 88 #[.string ⟨#[103, 114, 97, 112, 104]⟩] w fun e w' => e = .returned (.string ⟨#[33, 34, 35, 36, 37, 38, 39, 40, 41, 42, 43, 44, 45, 46, 47, 58, 59, 60, 61, 62, 63, 64, 91, 92, 93, 94, 95, 96, 123, 124, 125, 126, 65, 66, 67, 68, 69, 70, 71, 72, 73, 74, 75, 76, 77, 78, 79, 80, 81, 82, 83, 84, 85, 86, 87, 88, 89, 90, 97, 98, 99, 100, 101, 102, 103, 104, 105, 106, 107, 108, 109, 110, 111, 112, 113, 114, 115, 116, 117, 118, 119, 120, 121, 122, 48, 49, 50, 51, 52, 53, 54, 55, 56, 57]⟩) ∧ w' = w := by
  go_enter Try.func88, Try.ntmps88
  go_wp2
  go_ret
  exact ⟨rfl, rfl⟩
theorem cardT_graph : card (ofP ⟨#[33, 34, 35, 36, 37, 38, 39, 40, 41, 42, 43, 44, 45, 46, 47, 58, 59, 60, 61, 62, 63, 64, 91, 92, 93, 94, 95, 96, 123, 124, 125, 126, 65, 66, 67, 68, 69, 70, 71, 72, 73, 74, 75, 76, 77, 78, 79, 80, 81, 82, 83, 84, 85, 86, 87, 88, 89, 90, 97, 98, 99, 100, 101, 102, 103, 104, 105, 106, 107, 108, 109, 110, 111, 112, 113, 114, 115, 116, 117, 118, 119, 120, 121, 122, 48, 49, 50, 51, 52, 53, 54, 55, 56, 57]⟩) = 94 := by decide +kernel
set_option maxHeartbeats 400000 in
theorem text_print (w : World) : Calls Try.prog 88 #[.string ⟨#[112, 114, 105, 110, 116]⟩] w fun e w' => e = .returned (.string ⟨#[33, 34, 35, 36, 37, 38, 39, 40, 41, 42, 43, 44, 45, 46, 47, 58, 59, 60, 61, 62, 63, 64, 91, 92, 93, 94, 95, 96, 123, 124, 125, 126, 65, 66, 67, 68, 69, 70, 71, 72, 73, 74, 75, 76, 77, 78, 79, 80, 81, 82, 83, 84, 85, 86, 87, 88, 89, 90, 97, 98, 99, 100, 101, 102, 103, 104, 105, 106, 107, 108, 109, 110, 111, 112, 113, 114, 115, 116, 117, 118, 119, 120, 121, 122, 48, 49, 50, 51, 52, 53, 54, 55, 56, 57, 32]⟩) ∧ w' = w := by
  go_enter Try.func88, Try.ntmps88
  go_wp2
  go_ret
  exact ⟨rfl, rfl⟩
theorem cardT_print : card (ofP ⟨#[33, 34, 35, 36, 37, 38, 39, 40, 41, 42, 43, 44, 45, 46, 47, 58, 59, 60, 61, 62, 63, 64, 91, 92, 93, 94, 95, 96, 123, 124, 125, 126, 65, 66, 67, 68, 69, 70, 71, 72, 73, 74, 75, 76, 77, 78, 79, 80, 81, 82, 83, 84, 85, 86, 87, 88, 89, 90, 97, 98, 99, 100, 101, 102, 103, 104, 105, 106, 107, 108, 109, 110, 111, 112, 113, 114, 115, 116, 117, 118, 119, 120, 121, 122, 48, 49, 50, 51, 52, 53, 54, 55, 56, 57, 32]⟩) = 95 := by decide +kernel
set_option maxHeartbeats 400000 in
theorem text_punct (w : World) : Calls Try.prog 88 #[.string ⟨#[112, 117, 110, 99, 116]⟩] w fun e w' => e = .returned (.string ⟨#[33, 34, 35, 36, 37, 38, 39, 40, 41, 42, 43, 44, 45, 46, 47, 58, 59, 60, 61, 62, 63, 64, 91, 92, 93, 94, 95, 96, 123, 124, 125, 126]⟩) ∧ w' = w := by
  go_enter Try.func88, Try.ntmps88
  go_wp2
  go_ret
  exact ⟨rfl, rfl⟩
theorem cardT_punct : card (ofP ⟨#[33, 34, 35, 36, 37, 38, 39, 40, 41, 42, 43, 44, 45, 46, 47, 58, 59, 60, 61, 62, 63, 64, 91, 92, 93, 94, 95, 96, 123, 124, 125, 126]⟩) = 32 := by decide +kernel
set_option maxHeartbeats 400000 in
theorem text_other (s : ByteArray) (n0 : (s.toList == [117, 112, 112, 101, 114]) = false) (n1 : (s.toList == [108, 111, 119, 101, 114]) = false) (n2 : (s.toList == [100, 105, 103, 105, 116]) = false) (n3 : (s.toList == [97, 108, 112, 104, 97]) = false) (n4 : (s.toList == [97, 108, 110, 117, 109]) = false) (n5 : (s.toList == [120, 100, 105, 103, 105, 116]) = false) (n6 : (s.toList == [98, 108, 97, 110, 107]) = false) (n7 : (s.toList == [115, 112, 97, 99, 101]) = false) (n8 : (s.toList == [103, 114, 97, 112, 104]) = false) (n9 : (s.toList == [112, 114, 105, 110, 116]) = false) (n10 : (s.toList == [112, 117, 110, 99, 116]) = false) (w : World) : Calls Try.prog 88 #[.string s] w fun e w' => e = .returned (.string ⟨#[]⟩) ∧ w' = w := by
  go_enter Try.func88, Try.ntmps88
  go_wp2
  go_ret
  exact ⟨rfl, rfl⟩
theorem cardT_other : card (ofP ⟨#[]⟩) = 0 := by decide +kernel
set_option maxRecDepth 100000 in
set_option maxHeartbeats 1000000 in
theorem docClass_upper  (w : World) :
    Calls Try.prog 83 #[.string ⟨#[117, 112, 112, 101, 114]⟩] w fun e w' => e = .returned (.tuple #[.agg #[.int .u64 (wd (ofP ⟨#[65, 66, 67, 68, 69, 70, 71, 72, 73, 74, 75, 76, 77, 78, 79, 80, 81, 82, 83, 84, 85, 86, 87, 88, 89, 90]⟩) 0 : Nat), .int .u64 (wd (ofP ⟨#[65, 66, 67, 68, 69, 70, 71, 72, 73, 74, 75, 76, 77, 78, 79, 80, 81, 82, 83, 84, 85, 86, 87, 88, 89, 90]⟩) 1 : Nat), .int .u64 (wd (ofP ⟨#[65, 66, 67, 68, 69, 70, 71, 72, 73, 74, 75, 76, 77, 78, 79, 80, 81, 82, 83, 84, 85, 86, 87, 88, 89, 90]⟩) 2 : Nat), .int .u64 (wd (ofP ⟨#[65, 66, 67, 68, 69, 70, 71, 72, 73, 74, 75, 76, 77, 78, 79, 80, 81, 82, 83, 84, 85, 86, 87, 88, 89, 90]⟩) 3 : Nat)], .int .i64 0]) ∧ Below w.heap.size w w' := by
  go_enter Try.func83, Try.ntmps83
  go_wp2_with fail
  refine (text_upper _).mono ?_
  rintro e w0 ⟨rfl, rfl⟩
  go_wp2_with fail
  refine (refOfD _ (by decide) _).mono ?_
  rintro e w1 ⟨rfl, hb1⟩
  have hr := (holds4_zero w 24).below hb1 (by simp)
  have hB : Below w.heap.size w w1 := ((Below.refl _ _).alloc (Nat.le_refl _) _).trans (hb1.mono (by simp))
  clear hb1
  have hc := fun w => refCountD (ofP ⟨#[65, 66, 67, 68, 69, 70, 71, 72, 73, 74, 75, 76, 77, 78, 79, 80, 81, 82, 83, 84, 85, 86, 87, 88, 89, 90]⟩) w
  rw [cardT_upper] at hc
  have HC : Hid _ := hc
  clear hc
  go_wp2_with fail
  have hv := holds4_new w1 (ofP ⟨#[65, 66, 67, 68, 69, 70, 71, 72, 73, 74, 75, 76, 77, 78, 79, 80, 81, 82, 83, 84, 85, 86, 87, 88, 89, 90]⟩) 24
  replace hr := hr.alloc (.cells #[.int .u64 (wd (ofP ⟨#[65, 66, 67, 68, 69, 70, 71, 72, 73, 74, 75, 76, 77, 78, 79, 80, 81, 82, 83, 84, 85, 86, 87, 88, 89, 90]⟩) 0 : Nat), .int .u64 (wd (ofP ⟨#[65, 66, 67, 68, 69, 70, 71, 72, 73, 74, 75, 76, 77, 78, 79, 80, 81, 82, 83, 84, 85, 86, 87, 88, 89, 90]⟩) 1 : Nat), .int .u64 (wd (ofP ⟨#[65, 66, 67, 68, 69, 70, 71, 72, 73, 74, 75, 76, 77, 78, 79, 80, 81, 82, 83, 84, 85, 86, 87, 88, 89, 90]⟩) 2 : Nat), .int .u64 (wd (ofP ⟨#[65, 66, 67, 68, 69, 70, 71, 72, 73, 74, 75, 76, 77, 78, 79, 80, 81, 82, 83, 84, 85, 86, 87, 88, 89, 90]⟩) 3 : Nat)] 24)
  replace hB := hB.alloc hB.size (.cells #[.int .u64 (wd (ofP ⟨#[65, 66, 67, 68, 69, 70, 71, 72, 73, 74, 75, 76, 77, 78, 79, 80, 81, 82, 83, 84, 85, 86, 87, 88, 89, 90]⟩) 0 : Nat), .int .u64 (wd (ofP ⟨#[65, 66, 67, 68, 69, 70, 71, 72, 73, 74, 75, 76, 77, 78, 79, 80, 81, 82, 83, 84, 85, 86, 87, 88, 89, 90]⟩) 1 : Nat), .int .u64 (wd (ofP ⟨#[65, 66, 67, 68, 69, 70, 71, 72, 73, 74, 75, 76, 77, 78, 79, 80, 81, 82, 83, 84, 85, 86, 87, 88, 89, 90]⟩) 2 : Nat), .int .u64 (wd (ofP ⟨#[65, 66, 67, 68, 69, 70, 71, 72, 73, 74, 75, 76, 77, 78, 79, 80, 81, 82, 83, 84, 85, 86, 87, 88, 89, 90]⟩) 3 : Nat)] 24)
  refine (HC.out _).mono ?_
  rintro e w2 ⟨rfl, hb2⟩
  replace hr := hr.below hb2 hr.lt
  replace hv := hv.below hb2 hv.lt
  replace hB := hB.trans (hb2.mono hB.size)
  clear hb2
  obtain ⟨⟨c0, c1, c2, c3⟩, -⟩ := id hv
  obtain ⟨⟨d0, d1, d2, d3⟩, g0, g1, g2, g3⟩ := id hr
  go_wp2
  exact bodyPost_ret (v := .tuple #[.agg #[.int .u64 (wd (ofP ⟨#[65, 66, 67, 68, 69, 70, 71, 72, 73, 74, 75, 76, 77, 78, 79, 80, 81, 82, 83, 84, 85, 86, 87, 88, 89, 90]⟩) 0 : Nat), .int .u64 (wd (ofP ⟨#[65, 66, 67, 68, 69, 70, 71, 72, 73, 74, 75, 76, 77, 78, 79, 80, 81, 82, 83, 84, 85, 86, 87, 88, 89, 90]⟩) 1 : Nat), .int .u64 (wd (ofP ⟨#[65, 66, 67, 68, 69, 70, 71, 72, 73, 74, 75, 76, 77, 78, 79, 80, 81, 82, 83, 84, 85, 86, 87, 88, 89, 90]⟩) 2 : Nat), .int .u64 (wd (ofP ⟨#[65, 66, 67, 68, 69, 70, 71, 72, 73, 74, 75, 76, 77, 78, 79, 80, 81, 82, 83, 84, 85, 86, 87, 88, 89, 90]⟩) 3 : Nat)], .int .i64 0]) (by simp [results, Try.results83, go_sem, *]) rfl ⟨rfl, below_put4 hB (by omega) _⟩
set_option maxRecDepth 100000 in
set_option maxHeartbeats 1000000 in
theorem docClass_lower  (w : World) :
    Calls Try.prog 83 #[.string ⟨#[108, 111, 119, 101, 114]⟩] w fun e w' => e = .returned (.tuple #[.agg #[.int .u64 (wd (ofP ⟨#[97, 98, 99, 100, 101, 102, 103, 104, 105, 106, 107, 108, 109, 110, 111, 112, 113, 114, 115, 116, 117, 118, 119, 120, 121, 122]⟩) 0 : Nat), .int .u64 (wd (ofP ⟨#[97, 98, 99, 100, 101, 102, 103, 104, 105, 106, 107, 108, 109, 110, 111, 112, 113, 114, 115, 116, 117, 118, 119, 120, 121, 122]⟩) 1 : Nat), .int .u64 (wd (ofP ⟨#[97, 98, 99, 100, 101, 102, 103, 104, 105, 106, 107, 108, 109, 110, 111, 112, 113, 114, 115, 116, 117, 118, 119, 120, 121, 122]⟩) 2 : Nat), .int .u64 (wd (ofP ⟨#[97, 98, 99, 100, 101, 102, 103, 104, 105, 106, 107, 108, 109, 110, 111, 112, 113, 114, 115, 116, 117, 118, 119, 120, 121, 122]⟩) 3 : Nat)], .int .i64 0]) ∧ Below w.heap.size w w' := by
  go_enter Try.func83, Try.ntmps83
  go_wp2_with fail
  refine (text_lower _).mono ?_
  rintro e w0 ⟨rfl, rfl⟩
  go_wp2_with fail
  refine (refOfD _ (by decide) _).mono ?_
  rintro e w1 ⟨rfl, hb1⟩
  have hr := (holds4_zero w 24).below hb1 (by simp)
  have hB : Below w.heap.size w w1 := ((Below.refl _ _).alloc (Nat.le_refl _) _).trans (hb1.mono (by simp))
  clear hb1
  have hc := fun w => refCountD (ofP ⟨#[97, 98, 99, 100, 101, 102, 103, 104, 105, 106, 107, 108, 109, 110, 111, 112, 113, 114, 115, 116, 117, 118, 119, 120, 121, 122]⟩) w
  rw [cardT_lower] at hc
  have HC : Hid _ := hc
  clear hc
  go_wp2_with fail
  have hv := holds4_new w1 (ofP ⟨#[97, 98, 99, 100, 101, 102, 103, 104, 105, 106, 107, 108, 109, 110, 111, 112, 113, 114, 115, 116, 117, 118, 119, 120, 121, 122]⟩) 24
  replace hr := hr.alloc (.cells #[.int .u64 (wd (ofP ⟨#[97, 98, 99, 100, 101, 102, 103, 104, 105, 106, 107, 108, 109, 110, 111, 112, 113, 114, 115, 116, 117, 118, 119, 120, 121, 122]⟩) 0 : Nat), .int .u64 (wd (ofP ⟨#[97, 98, 99, 100, 101, 102, 103, 104, 105, 106, 107, 108, 109, 110, 111, 112, 113, 114, 115, 116, 117, 118, 119, 120, 121, 122]⟩) 1 : Nat), .int .u64 (wd (ofP ⟨#[97, 98, 99, 100, 101, 102, 103, 104, 105, 106, 107, 108, 109, 110, 111, 112, 113, 114, 115, 116, 117, 118, 119, 120, 121, 122]⟩) 2 : Nat), .int .u64 (wd (ofP ⟨#[97, 98, 99, 100, 101, 102, 103, 104, 105, 106, 107, 108, 109, 110, 111, 112, 113, 114, 115, 116, 117, 118, 119, 120, 121, 122]⟩) 3 : Nat)] 24)
  replace hB := hB.alloc hB.size (.cells #[.int .u64 (wd (ofP ⟨#[97, 98, 99, 100, 101, 102, 103, 104, 105, 106, 107, 108, 109, 110, 111, 112, 113, 114, 115, 116, 117, 118, 119, 120, 121, 122]⟩) 0 : Nat), .int .u64 (wd (ofP ⟨#[97, 98, 99, 100, 101, 102, 103, 104, 105, 106, 107, 108, 109, 110, 111, 112, 113, 114, 115, 116, 117, 118, 119, 120, 121, 122]⟩) 1 : Nat), .int .u64 (wd (ofP ⟨#[97, 98, 99, 100, 101, 102, 103, 104, 105, 106, 107, 108, 109, 110, 111, 112, 113, 114, 115, 116, 117, 118, 119, 120, 121, 122]⟩) 2 : Nat), .int .u64 (wd (ofP ⟨#[97, 98, 99, 100, 101, 102, 103, 104, 105, 106, 107, 108, 109, 110, 111, 112, 113, 114, 115, 116, 117, 118, 119, 120, 121, 122]⟩) 3 : Nat)] 24)
  refine (HC.out _).mono ?_
  rintro e w2 ⟨rfl, hb2⟩
  replace hr := hr.below hb2 hr.lt
  replace hv := hv.below hb2 hv.lt
  replace hB := hB.trans (hb2.mono hB.size)
  clear hb2
  obtain ⟨⟨c0, c1, c2, c3⟩, -⟩ := id hv
  obtain ⟨⟨d0, d1, d2, d3⟩, g0, g1, g2, g3⟩ := id hr
  go_wp2
  exact bodyPost_ret (v := .tuple #[.agg #[.int .u64 (wd (ofP ⟨#[97, 98, 99, 100, 101, 102, 103, 104, 105, 106, 107, 108, 109, 110, 111, 112, 113, 114, 115, 116, 117, 118, 119, 120, 121, 122]⟩) 0 : Nat), .int .u64 (wd (ofP ⟨#[97, 98, 99, 100, 101, 102, 103, 104, 105, 106, 107, 108, 109, 110, 111, 112, 113, 114, 115, 116, 117, 118, 119, 120, 121, 122]⟩) 1 : Nat), .int .u64 (wd (ofP ⟨#[97, 98, 99, 100, 101, 102, 103, 104, 105, 106, 107, 108, 109, 110, 111, 112, 113, 114, 115, 116, 117, 118, 119, 120, 121, 122]⟩) 2 : Nat), .int .u64 (wd (ofP ⟨#[97, 98, 99, 100, 101, 102, 103, 104, 105, 106, 107, 108, 109, 110, 111, 112, 113, 114, 115, 116, 117, 118, 119, 120, 121, 122]⟩) 3 : Nat)], .int .i64 0]) (by simp [results, Try.results83, go_sem, *]) rfl ⟨rfl, below_put4 hB (by omega) _⟩
set_option maxRecDepth 100000 in
set_option maxHeartbeats 1000000 in
theorem docClass_digit  (w : World) :
    Calls Try.prog 83 #[.string ⟨#[100, 105, 103, 105, 116]⟩] w fun e w' => e = .returned (.tuple #[.agg #[.int .u64 (wd (ofP ⟨#[48, 49, 50, 51, 52, 53, 54, 55, 56, 57]⟩) 0 : Nat), .int .u64 (wd (ofP ⟨#[48, 49, 50, 51, 52, 53, 54, 55, 56, 57]⟩) 1 : Nat), .int .u64 (wd (ofP ⟨#[48, 49, 50, 51, 52, 53, 54, 55, 56, 57]⟩) 2 : Nat), .int .u64 (wd (ofP ⟨#[48, 49, 50, 51, 52, 53, 54, 55, 56, 57]⟩) 3 : Nat)], .int .i64 0]) ∧ Below w.heap.size w w' := by
  go_enter Try.func83, Try.ntmps83
  go_wp2_with fail
  refine (text_digit _).mono ?_
  rintro e w0 ⟨rfl, rfl⟩
  go_wp2_with fail
  refine (refOfD _ (by decide) _).mono ?_
  rintro e w1 ⟨rfl, hb1⟩
  have hr := (holds4_zero w 24).below hb1 (by simp)
  have hB : Below w.heap.size w w1 := ((Below.refl _ _).alloc (Nat.le_refl _) _).trans (hb1.mono (by simp))
  clear hb1
  have hc := fun w => refCountD (ofP ⟨#[48, 49, 50, 51, 52, 53, 54, 55, 56, 57]⟩) w
  rw [cardT_digit] at hc
  have HC : Hid _ := hc
  clear hc
  go_wp2_with fail
  have hv := holds4_new w1 (ofP ⟨#[48, 49, 50, 51, 52, 53, 54, 55, 56, 57]⟩) 24
  replace hr := hr.alloc (.cells #[.int .u64 (wd (ofP ⟨#[48, 49, 50, 51, 52, 53, 54, 55, 56, 57]⟩) 0 : Nat), .int .u64 (wd (ofP ⟨#[48, 49, 50, 51, 52, 53, 54, 55, 56, 57]⟩) 1 : Nat), .int .u64 (wd (ofP ⟨#[48, 49, 50, 51, 52, 53, 54, 55, 56, 57]⟩) 2 : Nat), .int .u64 (wd (ofP ⟨#[48, 49, 50, 51, 52, 53, 54, 55, 56, 57]⟩) 3 : Nat)] 24)
  replace hB := hB.alloc hB.size (.cells #[.int .u64 (wd (ofP ⟨#[48, 49, 50, 51, 52, 53, 54, 55, 56, 57]⟩) 0 : Nat), .int .u64 (wd (ofP ⟨#[48, 49, 50, 51, 52, 53, 54, 55, 56, 57]⟩) 1 : Nat), .int .u64 (wd (ofP ⟨#[48, 49, 50, 51, 52, 53, 54, 55, 56, 57]⟩) 2 : Nat), .int .u64 (wd (ofP ⟨#[48, 49, 50, 51, 52, 53, 54, 55, 56, 57]⟩) 3 : Nat)] 24)
  refine (HC.out _).mono ?_
  rintro e w2 ⟨rfl, hb2⟩
  replace hr := hr.below hb2 hr.lt
  replace hv := hv.below hb2 hv.lt
  replace hB := hB.trans (hb2.mono hB.size)
  clear hb2
  obtain ⟨⟨c0, c1, c2, c3⟩, -⟩ := id hv
  obtain ⟨⟨d0, d1, d2, d3⟩, g0, g1, g2, g3⟩ := id hr
  go_wp2
  exact bodyPost_ret (v := .tuple #[.agg #[.int .u64 (wd (ofP ⟨#[48, 49, 50, 51, 52, 53, 54, 55, 56, 57]⟩) 0 : Nat), .int .u64 (wd (ofP ⟨#[48, 49, 50, 51, 52, 53, 54, 55, 56, 57]⟩) 1 : Nat), .int .u64 (wd (ofP ⟨#[48, 49, 50, 51, 52, 53, 54, 55, 56, 57]⟩) 2 : Nat), .int .u64 (wd (ofP ⟨#[48, 49, 50, 51, 52, 53, 54, 55, 56, 57]⟩) 3 : Nat)], .int .i64 0]) (by simp [results, Try.results83, go_sem, *]) rfl ⟨rfl, below_put4 hB (by omega) _⟩
set_option maxRecDepth 100000 in
set_option maxHeartbeats 1000000 in
theorem docClass_alpha  (w : World) :
    Calls Try.prog 83 #[.string ⟨#[97, 108, 112, 104, 97]⟩] w fun e w' => e = .returned (.tuple #[.agg #[.int .u64 (wd (ofP ⟨#[65, 66, 67, 68, 69, 70, 71, 72, 73, 74, 75, 76, 77, 78, 79, 80, 81, 82, 83, 84, 85, 86, 87, 88, 89, 90, 97, 98, 99, 100, 101, 102, 103, 104, 105, 106, 107, 108, 109, 110, 111, 112, 113, 114, 115, 116, 117, 118, 119, 120, 121, 122]⟩) 0 : Nat), .int .u64 (wd (ofP ⟨#[65, 66, 67, 68, 69, 70, 71, 72, 73, 74, 75, 76, 77, 78, 79, 80, 81, 82, 83, 84, 85, 86, 87, 88, 89, 90, 97, 98, 99, 100, 101, 102, 103, 104, 105, 106, 107, 108, 109, 110, 111, 112, 113, 114, 115, 116, 117, 118, 119, 120, 121, 122]⟩) 1 : Nat), .int .u64 (wd (ofP ⟨#[65, 66, 67, 68, 69, 70, 71, 72, 73, 74, 75, 76, 77, 78, 79, 80, 81, 82, 83, 84, 85, 86, 87, 88, 89, 90, 97, 98, 99, 100, 101, 102, 103, 104, 105, 106, 107, 108, 109, 110, 111, 112, 113, 114, 115, 116, 117, 118, 119, 120, 121, 122]⟩) 2 : Nat), .int .u64 (wd (ofP ⟨#[65, 66, 67, 68, 69, 70, 71, 72, 73, 74, 75, 76, 77, 78, 79, 80, 81, 82, 83, 84, 85, 86, 87, 88, 89, 90, 97, 98, 99, 100, 101, 102, 103, 104, 105, 106, 107, 108, 109, 110, 111, 112, 113, 114, 115, 116, 117, 118, 119, 120, 121, 122]⟩) 3 : Nat)], .int .i64 0]) ∧ Below w.heap.size w w' := by
  go_enter Try.func83, Try.ntmps83
  go_wp2_with fail
  refine (text_alpha _).mono ?_
  rintro e w0 ⟨rfl, rfl⟩
  go_wp2_with fail
  refine (refOfD _ (by decide) _).mono ?_
  rintro e w1 ⟨rfl, hb1⟩
  have hr := (holds4_zero w 24).below hb1 (by simp)
  have hB : Below w.heap.size w w1 := ((Below.refl _ _).alloc (Nat.le_refl _) _).trans (hb1.mono (by simp))
  clear hb1
  have hc := fun w => refCountD (ofP ⟨#[65, 66, 67, 68, 69, 70, 71, 72, 73, 74, 75, 76, 77, 78, 79, 80, 81, 82, 83, 84, 85, 86, 87, 88, 89, 90, 97, 98, 99, 100, 101, 102, 103, 104, 105, 106, 107, 108, 109, 110, 111, 112, 113, 114, 115, 116, 117, 118, 119, 120, 121, 122]⟩) w
  rw [cardT_alpha] at hc
  have HC : Hid _ := hc
  clear hc
  go_wp2_with fail
  have hv := holds4_new w1 (ofP ⟨#[65, 66, 67, 68, 69, 70, 71, 72, 73, 74, 75, 76, 77, 78, 79, 80, 81, 82, 83, 84, 85, 86, 87, 88, 89, 90, 97, 98, 99, 100, 101, 102, 103, 104, 105, 106, 107, 108, 109, 110, 111, 112, 113, 114, 115, 116, 117, 118, 119, 120, 121, 122]⟩) 24
  replace hr := hr.alloc (.cells #[.int .u64 (wd (ofP ⟨#[65, 66, 67, 68, 69, 70, 71, 72, 73, 74, 75, 76, 77, 78, 79, 80, 81, 82, 83, 84, 85, 86, 87, 88, 89, 90, 97, 98, 99, 100, 101, 102, 103, 104, 105, 106, 107, 108, 109, 110, 111, 112, 113, 114, 115, 116, 117, 118, 119, 120, 121, 122]⟩) 0 : Nat), .int .u64 (wd (ofP ⟨#[65, 66, 67, 68, 69, 70, 71, 72, 73, 74, 75, 76, 77, 78, 79, 80, 81, 82, 83, 84, 85, 86, 87, 88, 89, 90, 97, 98, 99, 100, 101, 102, 103, 104, 105, 106, 107, 108, 109, 110, 111, 112, 113, 114, 115, 116, 117, 118, 119, 120, 121, 122]⟩) 1 : Nat), .int .u64 (wd (ofP ⟨#[65, 66, 67, 68, 69, 70, 71, 72, 73, 74, 75, 76, 77, 78, 79, 80, 81, 82, 83, 84, 85, 86, 87, 88, 89, 90, 97, 98, 99, 100, 101, 102, 103, 104, 105, 106, 107, 108, 109, 110, 111, 112, 113, 114, 115, 116, 117, 118, 119, 120, 121, 122]⟩) 2 : Nat), .int .u64 (wd (ofP ⟨#[65, 66, 67, 68, 69, 70, 71, 72, 73, 74, 75, 76, 77, 78, 79, 80, 81, 82, 83, 84, 85, 86, 87, 88, 89, 90, 97, 98, 99, 100, 101, 102, 103, 104, 105, 106, 107, 108, 109, 110, 111, 112, 113, 114, 115, 116, 117, 118, 119, 120, 121, 122]⟩) 3 : Nat)] 24)
  replace hB := hB.alloc hB.size (.cells #[.int .u64 (wd (ofP ⟨#[65, 66, 67, 68, 69, 70, 71, 72, 73, 74, 75, 76, 77, 78, 79, 80, 81, 82, 83, 84, 85, 86, 87, 88, 89, 90, 97, 98, 99, 100, 101, 102, 103, 104, 105, 106, 107, 108, 109, 110, 111, 112, 113, 114, 115, 116, 117, 118, 119, 120, 121, 122]⟩) 0 : Nat), .int .u64 (wd (ofP ⟨#[65, 66, 67, 68, 69, 70, 71, 72, 73, 74, 75, 76, 77, 78, 79, 80, 81, 82, 83, 84, 85, 86, 87, 88, 89, 90, 97, 98, 99, 100, 101, 102, 103, 104, 105, 106, 107, 108, 109, 110, 111, 112, 113, 114, 115, 116, 117, 118, 119, 120, 121, 122]⟩) 1 : Nat), .int .u64 (wd (ofP ⟨#[65, 66, 67, 68, 69, 70, 71, 72, 73, 74, 75, 76, 77, 78, 79, 80, 81, 82, 83, 84, 85, 86, 87, 88, 89, 90, 97, 98, 99, 100, 101, 102, 103, 104, 105, 106, 107, 108, 109, 110, 111, 112, 113, 114, 115, 116, 117, 118, 119, 120, 121, 122]⟩) 2 : Nat), .int .u64 (wd (ofP ⟨#[65, 66, 67, 68, 69, 70, 71, 72, 73, 74, 75, 76, 77, 78, 79, 80, 81, 82, 83, 84, 85, 86, 87, 88, 89, 90, 97, 98, 99, 100, 101, 102, 103, 104, 105, 106, 107, 108, 109, 110, 111, 112, 113, 114, 115, 116, 117, 118, 119, 120, 121, 122]⟩) 3 : Nat)] 24)
  refine (HC.out _).mono ?_
  rintro e w2 ⟨rfl, hb2⟩
  replace hr := hr.below hb2 hr.lt
  replace hv := hv.below hb2 hv.lt
  replace hB := hB.trans (hb2.mono hB.size)
  clear hb2
  obtain ⟨⟨c0, c1, c2, c3⟩, -⟩ := id hv
  obtain ⟨⟨d0, d1, d2, d3⟩, g0, g1, g2, g3⟩ := id hr
  go_wp2
  exact bodyPost_ret (v := .tuple #[.agg #[.int .u64 (wd (ofP ⟨#[65, 66, 67, 68, 69, 70, 71, 72, 73, 74, 75, 76, 77, 78, 79, 80, 81, 82, 83, 84, 85, 86, 87, 88, 89, 90, 97, 98, 99, 100, 101, 102, 103, 104, 105, 106, 107, 108, 109, 110, 111, 112, 113, 114, 115, 116, 117, 118, 119, 120, 121, 122]⟩) 0 : Nat), .int .u64 (wd (ofP ⟨#[65, 66, 67, 68, 69, 70, 71, 72, 73, 74, 75, 76, 77, 78, 79, 80, 81, 82, 83, 84, 85, 86, 87, 88, 89, 90, 97, 98, 99, 100, 101, 102, 103, 104, 105, 106, 107, 108, 109, 110, 111, 112, 113, 114, 115, 116, 117, 118, 119, 120, 121, 122]⟩) 1 : Nat), .int .u64 (wd (ofP ⟨#[65, 66, 67, 68, 69, 70, 71, 72, 73, 74, 75, 76, 77, 78, 79, 80, 81, 82, 83, 84, 85, 86, 87, 88, 89, 90, 97, 98, 99, 100, 101, 102, 103, 104, 105, 106, 107, 108, 109, 110, 111, 112, 113, 114, 115, 116, 117, 118, 119, 120, 121, 122]⟩) 2 : Nat), .int .u64 (wd (ofP ⟨#[65, 66, 67, 68, 69, 70, 71, 72, 73, 74, 75, 76, 77, 78, 79, 80, 81, 82, 83, 84, 85, 86, 87, 88, 89, 90, 97, 98, 99, 100, 101, 102, 103, 104, 105, 106, 107, 108, 109, 110, 111, 112, 113, 114, 115, 116, 117, 118, 119, 120, 121, 122]⟩) 3 : Nat)], .int .i64 0]) (by simp [results, Try.results83, go_sem, *]) rfl ⟨rfl, below_put4 hB (by omega) _⟩
set_option maxRecDepth 100000 in
set_option maxHeartbeats 1000000 in
theorem docClass_alnum  (w : World) :
    Calls Try.prog 83 #[.string ⟨#[97, 108, 110, 117, 109]⟩] w fun e w' => e = .returned (.tuple #[.agg #[.int .u64 (wd (ofP ⟨#[65, 66, 67, 68, 69, 70, 71, 72, 73, 74, 75, 76, 77, 78, 79, 80, 81, 82, 83, 84, 85, 86, 87, 88, 89, 90, 97, 98, 99, 100, 101, 102, 103, 104, 105, 106, 107, 108, 109, 110, 111, 112, 113, 114, 115, 116, 117, 118, 119, 120, 121, 122, 48, 49, 50, 51, 52, 53, 54, 55, 56, 57]⟩) 0 : Nat), .int .u64 (wd (ofP ⟨#[65, 66, 67, 68, 69, 70, 71, 72, 73, 74, 75, 76, 77, 78, 79, 80, 81, 82, 83, 84, 85, 86, 87, 88, 89, 90, 97, 98, 99, 100, 101, 102, 103, 104, 105, 106, 107, 108, 109, 110, 111, 112, 113, 114, 115, 116, 117, 118, 119, 120, 121, 122, 48, 49, 50, 51, 52, 53, 54, 55, 56, 57]⟩) 1 : Nat), .int .u64 (wd (ofP ⟨#[65, 66, 67, 68, 69, 70, 71, 72, 73, 74, 75, 76, 77, 78, 79, 80, 81, 82, 83, 84, 85, 86, 87, 88, 89, 90, 97, 98, 99, 100, 101, 102, 103, 104, 105, 106, 107, 108, 109, 110, 111, 112, 113, 114, 115, 116, 117, 118, 119, 120, 121, 122, 48, 49, 50, 51, 52, 53, 54, 55, 56, 57]⟩) 2 : Nat), .int .u64 (wd (ofP ⟨#[65, 66, 67, 68, 69, 70, 71, 72, 73, 74, 75, 76, 77, 78, 79, 80, 81, 82, 83, 84, 85, 86, 87, 88, 89, 90, 97, 98, 99, 100, 101, 102, 103, 104, 105, 106, 107, 108, 109, 110, 111, 112, 113, 114, 115, 116, 117, 118, 119, 120, 121, 122, 48, 49, 50, 51, 52, 53, 54, 55, 56, 57]⟩) 3 : Nat)], .int .i64 0]) ∧ Below w.heap.size w w' := by
  go_enter Try.func83, Try.ntmps83
  go_wp2_with fail
  refine (text_alnum _).mono ?_
  rintro e w0 ⟨rfl, rfl⟩
  go_wp2_with fail
  refine (refOfD _ (by decide) _).mono ?_
  rintro e w1 ⟨rfl, hb1⟩
  have hr := (holds4_zero w 24).below hb1 (by simp)
  have hB : Below w.heap.size w w1 := ((Below.refl _ _).alloc (Nat.le_refl _) _).trans (hb1.mono (by simp))
  clear hb1
  have hc := fun w => refCountD (ofP ⟨#[65, 66, 67, 68, 69, 70, 71, 72, 73, 74, 75, 76, 77, 78, 79, 80, 81, 82, 83, 84, 85, 86, 87, 88, 89, 90, 97, 98, 99, 100, 101, 102, 103, 104, 105, 106, 107, 108, 109, 110, 111, 112, 113, 114, 115, 116, 117, 118, 119, 120, 121, 122, 48, 49, 50, 51, 52, 53, 54, 55, 56, 57]⟩) w
  rw [cardT_alnum] at hc
  have HC : Hid _ := hc
  clear hc
  go_wp2_with fail
  have hv := holds4_new w1 (ofP ⟨#[65, 66, 67, 68, 69, 70, 71, 72, 73, 74, 75, 76, 77, 78, 79, 80, 81, 82, 83, 84, 85, 86, 87, 88, 89, 90, 97, 98, 99, 100, 101, 102, 103, 104, 105, 106, 107, 108, 109, 110, 111, 112, 113, 114, 115, 116, 117, 118, 119, 120, 121, 122, 48, 49, 50, 51, 52, 53, 54, 55, 56, 57]⟩) 24
  replace hr := hr.alloc (.cells #[.int .u64 (wd (ofP ⟨#[65, 66, 67, 68, 69, 70, 71, 72, 73, 74, 75, 76, 77, 78, 79, 80, 81, 82, 83, 84, 85, 86, 87, 88, 89, 90, 97, 98, 99, 100, 101, 102, 103, 104, 105, 106, 107, 108, 109, 110, 111, 112, 113, 114, 115, 116, 117, 118, 119, 120, 121, 122, 48, 49, 50, 51, 52, 53, 54, 55, 56, 57]⟩) 0 : Nat), .int .u64 (wd (ofP ⟨#[65, 66, 67, 68, 69, 70, 71, 72, 73, 74, 75, 76, 77, 78, 79, 80, 81, 82, 83, 84, 85, 86, 87, 88, 89, 90, 97, 98, 99, 100, 101, 102, 103, 104, 105, 106, 107, 108, 109, 110, 111, 112, 113, 114, 115, 116, 117, 118, 119, 120, 121, 122, 48, 49, 50, 51, 52, 53, 54, 55, 56, 57]⟩) 1 : Nat), .int .u64 (wd (ofP ⟨#[65, 66, 67, 68, 69, 70, 71, 72, 73, 74, 75, 76, 77, 78, 79, 80, 81, 82, 83, 84, 85, 86, 87, 88, 89, 90, 97, 98, 99, 100, 101, 102, 103, 104, 105, 106, 107, 108, 109, 110, 111, 112, 113, 114, 115, 116, 117, 118, 119, 120, 121, 122, 48, 49, 50, 51, 52, 53, 54, 55, 56, 57]⟩) 2 : Nat), .int .u64 (wd (ofP ⟨#[65, 66, 67, 68, 69, 70, 71, 72, 73, 74, 75, 76, 77, 78, 79, 80, 81, 82, 83, 84, 85, 86, 87, 88, 89, 90, 97, 98, 99, 100, 101, 102, 103, 104, 105, 106, 107, 108, 109, 110, 111, 112, 113, 114, 115, 116, 117, 118, 119, 120, 121, 122, 48, 49, 50, 51, 52, 53, 54, 55, 56, 57]⟩) 3 : Nat)] 24)
  replace hB := hB.alloc hB.size (.cells #[.int .u64 (wd (ofP ⟨#[65, 66, 67, 68, 69, 70, 71, 72, 73, 74, 75, 76, 77, 78, 79, 80, 81, 82, 83, 84, 85, 86, 87, 88, 89, 90, 97, 98, 99, 100, 101, 102, 103, 104, 105, 106, 107, 108, 109, 110, 111, 112, 113, 114, 115, 116, 117, 118, 119, 120, 121, 122, 48, 49, 50, 51, 52, 53, 54, 55, 56, 57]⟩) 0 : Nat), .int .u64 (wd (ofP ⟨#[65, 66, 67, 68, 69, 70, 71, 72, 73, 74, 75, 76, 77, 78, 79, 80, 81, 82, 83, 84, 85, 86, 87, 88, 89, 90, 97, 98, 99, 100, 101, 102, 103, 104, 105, 106, 107, 108, 109, 110, 111, 112, 113, 114, 115, 116, 117, 118, 119, 120, 121, 122, 48, 49, 50, 51, 52, 53, 54, 55, 56, 57]⟩) 1 : Nat), .int .u64 (wd (ofP ⟨#[65, 66, 67, 68, 69, 70, 71, 72, 73, 74, 75, 76, 77, 78, 79, 80, 81, 82, 83, 84, 85, 86, 87, 88, 89, 90, 97, 98, 99, 100, 101, 102, 103, 104, 105, 106, 107, 108, 109, 110, 111, 112, 113, 114, 115, 116, 117, 118, 119, 120, 121, 122, 48, 49, 50, 51, 52, 53, 54, 55, 56, 57]⟩) 2 : Nat), .int .u64 (wd (ofP ⟨#[65, 66, 67, 68, 69, 70, 71, 72, 73, 74, 75, 76, 77, 78, 79, 80, 81, 82, 83, 84, 85, 86, 87, 88, 89, 90, 97, 98, 99, 100, 101, 102, 103, 104, 105, 106, 107, 108, 109, 110, 111, 112, 113, 114, 115, 116, 117, 118, 119, 120, 121, 122, 48, 49, 50, 51, 52, 53, 54, 55, 56, 57]⟩) 3 : Nat)] 24)
  refine (HC.out _).mono ?_
  rintro e w2 ⟨rfl, hb2⟩
  replace hr := hr.below hb2 hr.lt
  replace hv := hv.below hb2 hv.lt
  replace hB := hB.trans (hb2.mono hB.size)
  clear hb2
  obtain ⟨⟨c0, c1, c2, c3⟩, -⟩ := id hv
  obtain ⟨⟨d0, d1, d2, d3⟩, g0, g1, g2, g3⟩ := id hr
  go_wp2
  exact bodyPost_ret (v := .tuple #[.agg #[.int .u64 (wd (ofP ⟨#[65, 66, 67, 68, 69, 70, 71, 72, 73, 74, 75, 76, 77, 78, 79, 80, 81, 82, 83, 84, 85, 86, 87, 88, 89, 90, 97, 98, 99, 100, 101, 102, 103, 104, 105, 106, 107, 108, 109, 110, 111, 112, 113, 114, 115, 116, 117, 118, 119, 120, 121, 122, 48, 49, 50, 51, 52, 53, 54, 55, 56, 57]⟩) 0 : Nat), .int .u64 (wd (ofP ⟨#[65, 66, 67, 68, 69, 70, 71, 72, 73, 74, 75, 76, 77, 78, 79, 80, 81, 82, 83, 84, 85, 86, 87, 88, 89, 90, 97, 98, 99, 100, 101, 102, 103, 104, 105, 106, 107, 108, 109, 110, 111, 112, 113, 114, 115, 116, 117, 118, 119, 120, 121, 122, 48, 49, 50, 51, 52, 53, 54, 55, 56, 57]⟩) 1 : Nat), .int .u64 (wd (ofP ⟨#[65, 66, 67, 68, 69, 70, 71, 72, 73, 74, 75, 76, 77, 78, 79, 80, 81, 82, 83, 84, 85, 86, 87, 88, 89, 90, 97, 98, 99, 100, 101, 102, 103, 104, 105, 106, 107, 108, 109, 110, 111, 112, 113, 114, 115, 116, 117, 118, 119, 120, 121, 122, 48, 49, 50, 51, 52, 53, 54, 55, 56, 57]⟩) 2 : Nat), .int .u64 (wd (ofP ⟨#[65, 66, 67, 68, 69, 70, 71, 72, 73, 74, 75, 76, 77, 78, 79, 80, 81, 82, 83, 84, 85, 86, 87, 88, 89, 90, 97, 98, 99, 100, 101, 102, 103, 104, 105, 106, 107, 108, 109, 110, 111, 112, 113, 114, 115, 116, 117, 118, 119, 120, 121, 122, 48, 49, 50, 51, 52, 53, 54, 55, 56, 57]⟩) 3 : Nat)], .int .i64 0]) (by simp [results, Try.results83, go_sem, *]) rfl ⟨rfl, below_put4 hB (by omega) _⟩
set_option maxRecDepth 100000 in
set_option maxHeartbeats 1000000 in
theorem docClass_xdigit  (w : World) :
    Calls Try.prog 83 #[.string ⟨#[120, 100, 105, 103, 105, 116]⟩] w fun e w' => e = .returned (.tuple #[.agg #[.int .u64 (wd (ofP ⟨#[48, 49, 50, 51, 52, 53, 54, 55, 56, 57, 65, 66, 67, 68, 69, 70, 97, 98, 99, 100, 101, 102]⟩) 0 : Nat), .int .u64 (wd (ofP ⟨#[48, 49, 50, 51, 52, 53, 54, 55, 56, 57, 65, 66, 67, 68, 69, 70, 97, 98, 99, 100, 101, 102]⟩) 1 : Nat), .int .u64 (wd (ofP ⟨#[48, 49, 50, 51, 52, 53, 54, 55, 56, 57, 65, 66, 67, 68, 69, 70, 97, 98, 99, 100, 101, 102]⟩) 2 : Nat), .int .u64 (wd (ofP ⟨#[48, 49, 50, 51, 52, 53, 54, 55, 56, 57, 65, 66, 67, 68, 69, 70, 97, 98, 99, 100, 101, 102]⟩) 3 : Nat)], .int .i64 0]) ∧ Below w.heap.size w w' := by
  go_enter Try.func83, Try.ntmps83
  go_wp2_with fail
  refine (text_xdigit _).mono ?_
  rintro e w0 ⟨rfl, rfl⟩
  go_wp2_with fail
  refine (refOfD _ (by decide) _).mono ?_
  rintro e w1 ⟨rfl, hb1⟩
  have hr := (holds4_zero w 24).below hb1 (by simp)
  have hB : Below w.heap.size w w1 := ((Below.refl _ _).alloc (Nat.le_refl _) _).trans (hb1.mono (by simp))
  clear hb1
  have hc := fun w => refCountD (ofP ⟨#[48, 49, 50, 51, 52, 53, 54, 55, 56, 57, 65, 66, 67, 68, 69, 70, 97, 98, 99, 100, 101, 102]⟩) w
  rw [cardT_xdigit] at hc
  have HC : Hid _ := hc
  clear hc
  go_wp2_with fail
  have hv := holds4_new w1 (ofP ⟨#[48, 49, 50, 51, 52, 53, 54, 55, 56, 57, 65, 66, 67, 68, 69, 70, 97, 98, 99, 100, 101, 102]⟩) 24
  replace hr := hr.alloc (.cells #[.int .u64 (wd (ofP ⟨#[48, 49, 50, 51, 52, 53, 54, 55, 56, 57, 65, 66, 67, 68, 69, 70, 97, 98, 99, 100, 101, 102]⟩) 0 : Nat), .int .u64 (wd (ofP ⟨#[48, 49, 50, 51, 52, 53, 54, 55, 56, 57, 65, 66, 67, 68, 69, 70, 97, 98, 99, 100, 101, 102]⟩) 1 : Nat), .int .u64 (wd (ofP ⟨#[48, 49, 50, 51, 52, 53, 54, 55, 56, 57, 65, 66, 67, 68, 69, 70, 97, 98, 99, 100, 101, 102]⟩) 2 : Nat), .int .u64 (wd (ofP ⟨#[48, 49, 50, 51, 52, 53, 54, 55, 56, 57, 65, 66, 67, 68, 69, 70, 97, 98, 99, 100, 101, 102]⟩) 3 : Nat)] 24)
  replace hB := hB.alloc hB.size (.cells #[.int .u64 (wd (ofP ⟨#[48, 49, 50, 51, 52, 53, 54, 55, 56, 57, 65, 66, 67, 68, 69, 70, 97, 98, 99, 100, 101, 102]⟩) 0 : Nat), .int .u64 (wd (ofP ⟨#[48, 49, 50, 51, 52, 53, 54, 55, 56, 57, 65, 66, 67, 68, 69, 70, 97, 98, 99, 100, 101, 102]⟩) 1 : Nat), .int .u64 (wd (ofP ⟨#[48, 49, 50, 51, 52, 53, 54, 55, 56, 57, 65, 66, 67, 68, 69, 70, 97, 98, 99, 100, 101, 102]⟩) 2 : Nat), .int .u64 (wd (ofP ⟨#[48, 49, 50, 51, 52, 53, 54, 55, 56, 57, 65, 66, 67, 68, 69, 70, 97, 98, 99, 100, 101, 102]⟩) 3 : Nat)] 24)
  refine (HC.out _).mono ?_
  rintro e w2 ⟨rfl, hb2⟩
  replace hr := hr.below hb2 hr.lt
  replace hv := hv.below hb2 hv.lt
  replace hB := hB.trans (hb2.mono hB.size)
  clear hb2
  obtain ⟨⟨c0, c1, c2, c3⟩, -⟩ := id hv
  obtain ⟨⟨d0, d1, d2, d3⟩, g0, g1, g2, g3⟩ := id hr
  go_wp2
  exact bodyPost_ret (v := .tuple #[.agg #[.int .u64 (wd (ofP ⟨#[48, 49, 50, 51, 52, 53, 54, 55, 56, 57, 65, 66, 67, 68, 69, 70, 97, 98, 99, 100, 101, 102]⟩) 0 : Nat), .int .u64 (wd (ofP ⟨#[48, 49, 50, 51, 52, 53, 54, 55, 56, 57, 65, 66, 67, 68, 69, 70, 97, 98, 99, 100, 101, 102]⟩) 1 : Nat), .int .u64 (wd (ofP ⟨#[48, 49, 50, 51, 52, 53, 54, 55, 56, 57, 65, 66, 67, 68, 69, 70, 97, 98, 99, 100, 101, 102]⟩) 2 : Nat), .int .u64 (wd (ofP ⟨#[48, 49, 50, 51, 52, 53, 54, 55, 56, 57, 65, 66, 67, 68, 69, 70, 97, 98, 99, 100, 101, 102]⟩) 3 : Nat)], .int .i64 0]) (by simp [results, Try.results83, go_sem, *]) rfl ⟨rfl, below_put4 hB (by omega) _⟩
set_option maxRecDepth 100000 in
set_option maxHeartbeats 1000000 in
theorem docClass_blank  (w : World) :
    Calls Try.prog 83 #[.string ⟨#[98, 108, 97, 110, 107]⟩] w fun e w' => e = .returned (.tuple #[.agg #[.int .u64 (wd (ofP ⟨#[32, 9]⟩) 0 : Nat), .int .u64 (wd (ofP ⟨#[32, 9]⟩) 1 : Nat), .int .u64 (wd (ofP ⟨#[32, 9]⟩) 2 : Nat), .int .u64 (wd (ofP ⟨#[32, 9]⟩) 3 : Nat)], .int .i64 0]) ∧ Below w.heap.size w w' := by
  go_enter Try.func83, Try.ntmps83
  go_wp2_with fail
  refine (text_blank _).mono ?_
  rintro e w0 ⟨rfl, rfl⟩
  go_wp2_with fail
  refine (refOfD _ (by decide) _).mono ?_
  rintro e w1 ⟨rfl, hb1⟩
  have hr := (holds4_zero w 24).below hb1 (by simp)
  have hB : Below w.heap.size w w1 := ((Below.refl _ _).alloc (Nat.le_refl _) _).trans (hb1.mono (by simp))
  clear hb1
  have hc := fun w => refCountD (ofP ⟨#[32, 9]⟩) w
  rw [cardT_blank] at hc
  have HC : Hid _ := hc
  clear hc
  go_wp2_with fail
  have hv := holds4_new w1 (ofP ⟨#[32, 9]⟩) 24
  replace hr := hr.alloc (.cells #[.int .u64 (wd (ofP ⟨#[32, 9]⟩) 0 : Nat), .int .u64 (wd (ofP ⟨#[32, 9]⟩) 1 : Nat), .int .u64 (wd (ofP ⟨#[32, 9]⟩) 2 : Nat), .int .u64 (wd (ofP ⟨#[32, 9]⟩) 3 : Nat)] 24)
  replace hB := hB.alloc hB.size (.cells #[.int .u64 (wd (ofP ⟨#[32, 9]⟩) 0 : Nat), .int .u64 (wd (ofP ⟨#[32, 9]⟩) 1 : Nat), .int .u64 (wd (ofP ⟨#[32, 9]⟩) 2 : Nat), .int .u64 (wd (ofP ⟨#[32, 9]⟩) 3 : Nat)] 24)
  refine (HC.out _).mono ?_
  rintro e w2 ⟨rfl, hb2⟩
  replace hr := hr.below hb2 hr.lt
  replace hv := hv.below hb2 hv.lt
  replace hB := hB.trans (hb2.mono hB.size)
  clear hb2
  obtain ⟨⟨c0, c1, c2, c3⟩, -⟩ := id hv
  obtain ⟨⟨d0, d1, d2, d3⟩, g0, g1, g2, g3⟩ := id hr
  go_wp2
  exact bodyPost_ret (v := .tuple #[.agg #[.int .u64 (wd (ofP ⟨#[32, 9]⟩) 0 : Nat), .int .u64 (wd (ofP ⟨#[32, 9]⟩) 1 : Nat), .int .u64 (wd (ofP ⟨#[32, 9]⟩) 2 : Nat), .int .u64 (wd (ofP ⟨#[32, 9]⟩) 3 : Nat)], .int .i64 0]) (by simp [results, Try.results83, go_sem, *]) rfl ⟨rfl, below_put4 hB (by omega) _⟩
set_option maxRecDepth 100000 in
set_option maxHeartbeats 1000000 in
theorem docClass_space  (w : World) :
    Calls Try.prog 83 #[.string ⟨#[115, 112, 97, 99, 101]⟩] w fun e w' => e = .returned (.tuple #[.agg #[.int .u64 (wd (ofP ⟨#[32, 9, 10, 11, 12, 13]⟩) 0 : Nat), .int .u64 (wd (ofP ⟨#[32, 9, 10, 11, 12, 13]⟩) 1 : Nat), .int .u64 (wd (ofP ⟨#[32, 9, 10, 11, 12, 13]⟩) 2 : Nat), .int .u64 (wd (ofP ⟨#[32, 9, 10, 11, 12, 13]⟩) 3 : Nat)], .int .i64 0]) ∧ Below w.heap.size w w' := by
  go_enter Try.func83, Try.ntmps83
  go_wp2_with fail
  refine (text_space _).mono ?_
  rintro e w0 ⟨rfl, rfl⟩
  go_wp2_with fail
  refine (refOfD _ (by decide) _).mono ?_
  rintro e w1 ⟨rfl, hb1⟩
  have hr := (holds4_zero w 24).below hb1 (by simp)
  have hB : Below w.heap.size w w1 := ((Below.refl _ _).alloc (Nat.le_refl _) _).trans (hb1.mono (by simp))
  clear hb1
  have hc := fun w => refCountD (ofP ⟨#[32, 9, 10, 11, 12, 13]⟩) w
  rw [cardT_space] at hc
  have HC : Hid _ := hc
  clear hc
  go_wp2_with fail
  have hv := holds4_new w1 (ofP ⟨#[32, 9, 10, 11, 12, 13]⟩) 24
  replace hr := hr.alloc (.cells #[.int .u64 (wd (ofP ⟨#[32, 9, 10, 11, 12, 13]⟩) 0 : Nat), .int .u64 (wd (ofP ⟨#[32, 9, 10, 11, 12, 13]⟩) 1 : Nat), .int .u64 (wd (ofP ⟨#[32, 9, 10, 11, 12, 13]⟩) 2 : Nat), .int .u64 (wd (ofP ⟨#[32, 9, 10, 11, 12, 13]⟩) 3 : Nat)] 24)
  replace hB := hB.alloc hB.size (.cells #[.int .u64 (wd (ofP ⟨#[32, 9, 10, 11, 12, 13]⟩) 0 : Nat), .int .u64 (wd (ofP ⟨#[32, 9, 10, 11, 12, 13]⟩) 1 : Nat), .int .u64 (wd (ofP ⟨#[32, 9, 10, 11, 12, 13]⟩) 2 : Nat), .int .u64 (wd (ofP ⟨#[32, 9, 10, 11, 12, 13]⟩) 3 : Nat)] 24)
  refine (HC.out _).mono ?_
  rintro e w2 ⟨rfl, hb2⟩
  replace hr := hr.below hb2 hr.lt
  replace hv := hv.below hb2 hv.lt
  replace hB := hB.trans (hb2.mono hB.size)
  clear hb2
  obtain ⟨⟨c0, c1, c2, c3⟩, -⟩ := id hv
  obtain ⟨⟨d0, d1, d2, d3⟩, g0, g1, g2, g3⟩ := id hr
  go_wp2
  exact bodyPost_ret (v := .tuple #[.agg #[.int .u64 (wd (ofP ⟨#[32, 9, 10, 11, 12, 13]⟩) 0 : Nat), .int .u64 (wd (ofP ⟨#[32, 9, 10, 11, 12, 13]⟩) 1 : Nat), .int .u64 (wd (ofP ⟨#[32, 9, 10, 11, 12, 13]⟩) 2 : Nat), .int .u64 (wd (ofP ⟨#[32, 9, 10, 11, 12, 13]⟩) 3 : Nat)], .int .i64 0]) (by simp [results, Try.results83, go_sem, *]) rfl ⟨rfl, below_put4 hB (by omega) _⟩
set_option maxRecDepth 100000 in
set_option maxHeartbeats 1000000 in
theorem docClass_graph  (w : World) :
    Calls Try.prog 83 #[.string ⟨#[103, 114, 97, 112, 104]⟩] w fun e w' => e = .returned (.tuple #[.agg #[.int .u64 (wd (ofP ⟨#[33, 34, 35, 36, 37, 38, 39, 40, 41, 42, 43, 44, 45, 46, 47, 58, 59, 60, 61, 62, 63, 64, 91, 92, 93, 94, 95, 96, 123, 124, 125, 126, 65, 66, 67, 68, 69, 70, 71, 72, 73, 74, 75, 76, 77, 78, 79, 80, 81, 82, 83, 84, 85, 86, 87, 88, 89, 90, 97, 98, 99, 100, 101, 102, 103, 104, 105, 106, 107, 108, 109, 110, 111, 112, 113, 114, 115, 116, 117, 118, 119, 120, 121, 122, 48, 49, 50, 51, 52, 53, 54, 55, 56, 57]⟩) 0 : Nat), .int .u64 (wd (ofP ⟨#[33, 34, 35, 36, 37, 38, 39, 40, 41, 42, 43, 44, 45, 46, 47, 58, 59, 60, 61, 62, 63, 64, 91, 92, 93, 94, 95, 96, 123, 124, 125, 126, 65, 66, 67, 68, 69, 70, 71, 72, 73, 74, 75, 76, 77, 78, 79, 80, 81, 82, 83, 84, 85, 86, 87, 88, 89, 90, 97, 98, 99, 100, 101, 102, 103, 104, 105, 106, 107, 108, 109, 110, 111, 112, 113, 114, 115, 116, 117, 118, 119, 120, 121, 122, 48, 49, 50, 51, 52, 53, 54, 55, 56, 57]⟩) 1 : Nat), .int .u64 (wd (ofP ⟨#[33, 34, 35, 36, 37, 38, 39, 40, 41, 42, 43, 44, 45, 46, 47, 58, 59, 60, 61, 62, 63, 64, 91, 92, 93, 94, 95, 96, 123, 124, 125, 126, 65, 66, 67, 68, 69, 70, 71, 72, 73, 74, 75, 76, 77, 78, 79, 80, 81, 82, 83, 84, 85, 86, 87, 88, 89, 90, 97, 98, 99, 100, 101, 102, 103, 104, 105, 106, 107, 108, 109, 110, 111, 112, 113, 114, 115, 116, 117, 118, 119, 120, 121, 122, 48, 49, 50, 51, 52, 53, 54, 55, 56, 57]⟩) 2 : Nat), .int .u64 (wd (ofP ⟨#[33, 34, 35, 36, 37, 38, 39, 40, 41, 42, 43, 44, 45, 46, 47, 58, 59, 60, 61, 62, 63, 64, 91, 92, 93, 94, 95, 96, 123, 124, 125, 126, 65, 66, 67, 68, 69, 70, 71, 72, 73, 74, 75, 76, 77, 78, 79, 80, 81, 82, 83, 84, 85, 86, 87, 88, 89, 90, 97, 98, 99, 100, 101, 102, 103, 104, 105, 106, 107, 108, 109, 110, 111, 112, 113, 114, 115, 116, 117, 118, 119, 120, 121, 122, 48, 49, 50, 51, 52, 53, 54, 55, 56, 57]⟩) 3 : Nat)], .int .i64 0]) ∧ Below w.heap.size w w' := by
  go_enter Try.func83, Try.ntmps83
  go_wp2_with fail
  refine (text_graph _).mono ?_
  rintro e w0 ⟨rfl, rfl⟩
  go_wp2_with fail
  refine (refOfD _ (by decide) _).mono ?_
  rintro e w1 ⟨rfl, hb1⟩
  have hr := (holds4_zero w 24).below hb1 (by simp)
  have hB : Below w.heap.size w w1 := ((Below.refl _ _).alloc (Nat.le_refl _) _).trans (hb1.mono (by simp))
  clear hb1
  have hc := fun w => refCountD (ofP ⟨#[33, 34, 35, 36, 37, 38, 39, 40, 41, 42, 43, 44, 45, 46, 47, 58, 59, 60, 61, 62, 63, 64, 91, 92, 93, 94, 95, 96, 123, 124, 125, 126, 65, 66, 67, 68, 69, 70, 71, 72, 73, 74, 75, 76, 77, 78, 79, 80, 81, 82, 83, 84, 85, 86, 87, 88, 89, 90, 97, 98, 99, 100, 101, 102, 103, 104, 105, 106, 107, 108, 109, 110, 111, 112, 113, 114, 115, 116, 117, 118, 119, 120, 121, 122, 48, 49, 50, 51, 52, 53, 54, 55, 56, 57]⟩) w
  rw [cardT_graph] at hc
  have HC : Hid _ := hc
  clear hc
  go_wp2_with fail
  have hv := holds4_new w1 (ofP ⟨#[33, 34, 35, 36, 37, 38, 39, 40, 41, 42, 43, 44, 45, 46, 47, 58, 59, 60, 61, 62, 63, 64, 91, 92, 93, 94, 95, 96, 123, 124, 125, 126, 65, 66, 67, 68, 69, 70, 71, 72, 73, 74, 75, 76, 77, 78, 79, 80, 81, 82, 83, 84, 85, 86, 87, 88, 89, 90, 97, 98, 99, 100, 101, 102, 103, 104, 105, 106, 107, 108, 109, 110, 111, 112, 113, 114, 115, 116, 117, 118, 119, 120, 121, 122, 48, 49, 50, 51, 52, 53, 54, 55, 56, 57]⟩) 24
  replace hr := hr.alloc (.cells #[.int .u64 (wd (ofP ⟨#[33, 34, 35, 36, 37, 38, 39, 40, 41, 42, 43, 44, 45, 46, 47, 58, 59, 60, 61, 62, 63, 64, 91, 92, 93, 94, 95, 96, 123, 124, 125, 126, 65, 66, 67, 68, 69, 70, 71, 72, 73, 74, 75, 76, 77, 78, 79, 80, 81, 82, 83, 84, 85, 86, 87, 88, 89, 90, 97, 98, 99, 100, 101, 102, 103, 104, 105, 106, 107, 108, 109, 110, 111, 112, 113, 114, 115, 116, 117, 118, 119, 120, 121, 122, 48, 49, 50, 51, 52, 53, 54, 55, 56, 57]⟩) 0 : Nat), .int .u64 (wd (ofP ⟨#[33, 34, 35, 36, 37, 38, 39, 40, 41, 42, 43, 44, 45, 46, 47, 58, 59, 60, 61, 62, 63, 64, 91, 92, 93, 94, 95, 96, 123, 124, 125, 126, 65, 66, 67, 68, 69, 70, 71, 72, 73, 74, 75, 76, 77, 78, 79, 80, 81, 82, 83, 84, 85, 86, 87, 88, 89, 90, 97, 98, 99, 100, 101, 102, 103, 104, 105, 106, 107, 108, 109, 110, 111, 112, 113, 114, 115, 116, 117, 118, 119, 120, 121, 122, 48, 49, 50, 51, 52, 53, 54, 55, 56, 57]⟩) 1 : Nat), .int .u64 (wd (ofP ⟨#[33, 34, 35, 36, 37, 38, 39, 40, 41, 42, 43, 44, 45, 46, 47, 58, 59, 60, 61, 62, 63, 64, 91, 92, 93, 94, 95, 96, 123, 124, 125, 126, 65, 66, 67, 68, 69, 70, 71, 72, 73, 74, 75, 76, 77, 78, 79, 80, 81, 82, 83, 84, 85, 86, 87, 88, 89, 90, 97, 98, 99, 100, 101, 102, 103, 104, 105, 106, 107, 108, 109, 110, 111, 112, 113, 114, 115, 116, 117, 118, 119, 120, 121, 122, 48, 49, 50, 51, 52, 53, 54, 55, 56, 57]⟩) 2 : Nat), .int .u64 (wd (ofP ⟨#[33, 34, 35, 36, 37, 38, 39, 40, 41, 42, 43, 44, 45, 46, 47, 58, 59, 60, 61, 62, 63, 64, 91, 92, 93, 94, 95, 96, 123, 124, 125, 126, 65, 66, 67, 68, 69, 70, 71, 72, 73, 74, 75, 76, 77, 78, 79, 80, 81, 82, 83, 84, 85, 86, 87, 88, 89, 90, 97, 98, 99, 100, 101, 102, 103, 104, 105, 106, 107, 108, 109, 110, 111, 112, 113, 114, 115, 116, 117, 118, 119, 120, 121, 122, 48, 49, 50, 51, 52, 53, 54, 55, 56, 57]⟩) 3 : Nat)] 24)
  replace hB := hB.alloc hB.size (.cells #[.int .u64 (wd (ofP ⟨#[33, 34, 35, 36, 37, 38, 39, 40, 41, 42, 43, 44, 45, 46, 47, 58, 59, 60, 61, 62, 63, 64, 91, 92, 93, 94, 95, 96, 123, 124, 125, 126, 65, 66, 67, 68, 69, 70, 71, 72, 73, 74, 75, 76, 77, 78, 79, 80, 81, 82, 83, 84, 85, 86, 87, 88, 89, 90, 97, 98, 99, 100, 101, 102, 103, 104, 105, 106, 107, 108, 109, 110, 111, 112, 113, 114, 115, 116, 117, 118, 119, 120, 121, 122, 48, 49, 50, 51, 52, 53, 54, 55, 56, 57]⟩) 0 : Nat), .int .u64 (wd (ofP ⟨#[33, 34, 35, 36, 37, 38, 39, 40, 41, 42, 43, 44, 45, 46, 47, 58, 59, 60, 61, 62, 63, 64, 91, 92, 93, 94, 95, 96, 123, 124, 125, 126, 65, 66, 67, 68, 69, 70, 71, 72, 73, 74, 75, 76, 77, 78, 79, 80, 81, 82, 83, 84, 85, 86, 87, 88, 89, 90, 97, 98, 99, 100, 101, 102, 103, 104, 105, 106, 107, 108, 109, 110, 111, 112, 113, 114, 115, 116, 117, 118, 119, 120, 121, 122, 48, 49, 50, 51, 52, 53, 54, 55, 56, 57]⟩) 1 : Nat), .int .u64 (wd (ofP ⟨#[33, 34, 35, 36, 37, 38, 39, 40, 41, 42, 43, 44, 45, 46, 47, 58, 59, 60, 61, 62, 63, 64, 91, 92, 93, 94, 95, 96, 123, 124, 125, 126, 65, 66, 67, 68, 69, 70, 71, 72, 73, 74, 75, 76, 77, 78, 79, 80, 81, 82, 83, 84, 85, 86, 87, 88, 89, 90, 97, 98, 99, 100, 101, 102, 103, 104, 105, 106, 107, 108, 109, 110, 111, 112, 113, 114, 115, 116, 117, 118, 119, 120, 121, 122, 48, 49, 50, 51, 52, 53, 54, 55, 56, 57]⟩) 2 : Nat), .int .u64 (wd (ofP ⟨#[33, 34, 35, 36, 37, 38, 39, 40, 41, 42, 43, 44, 45, 46, 47, 58, 59, 60, 61, 62, 63, 64, 91, 92, 93, 94, 95, 96, 123, 124, 125, 126, 65, 66, 67, 68, 69, 70, 71, 72, 73, 74, 75, 76, 77, 78, 79, 80, 81, 82, 83, 84, 85, 86, 87, 88, 89, 90, 97, 98, 99, 100, 101, 102, 103, 104, 105, 106, 107, 108, 109, 110, 111, 112, 113, 114, 115, 116, 117, 118, 119, 120, 121, 122, 48, 49, 50, 51, 52, 53, 54, 55, 56, 57]⟩) 3 : Nat)] 24)
  refine (HC.out _).mono ?_
  rintro e w2 ⟨rfl, hb2⟩
  replace hr := hr.below hb2 hr.lt
  replace hv := hv.below hb2 hv.lt
  replace hB := hB.trans (hb2.mono hB.size)
  clear hb2
  obtain ⟨⟨c0, c1, c2, c3⟩, -⟩ := id hv
  obtain ⟨⟨d0, d1, d2, d3⟩, g0, g1, g2, g3⟩ := id hr
  go_wp2
  exact bodyPost_ret (v := .tuple #[.agg #[.int .u64 (wd (ofP ⟨#[33, 34, 35, 36, 37, 38, 39, 40, 41, 42, 43, 44, 45, 46, 47, 58, 59, 60, 61, 62, 63, 64, 91, 92, 93, 94, 95, 96, 123, 124, 125, 126, 65, 66, 67, 68, 69, 70, 71, 72, 73, 74, 75, 76, 77, 78, 79, 80, 81, 82, 83, 84, 85, 86, 87, 88, 89, 90, 97, 98, 99, 100, 101, 102, 103, 104, 105, 106, 107, 108, 109, 110, 111, 112, 113, 114, 115, 116, 117, 118, 119, 120, 121, 122, 48, 49, 50, 51, 52, 53, 54, 55, 56, 57]⟩) 0 : Nat), .int .u64 (wd (ofP ⟨#[33, 34, 35, 36, 37, 38, 39, 40, 41, 42, 43, 44, 45, 46, 47, 58, 59, 60, 61, 62, 63, 64, 91, 92, 93, 94, 95, 96, 123, 124, 125, 126, 65, 66, 67, 68, 69, 70, 71, 72, 73, 74, 75, 76, 77, 78, 79, 80, 81, 82, 83, 84, 85, 86, 87, 88, 89, 90, 97, 98, 99, 100, 101, 102, 103, 104, 105, 106, 107, 108, 109, 110, 111, 112, 113, 114, 115, 116, 117, 118, 119, 120, 121, 122, 48, 49, 50, 51, 52, 53, 54, 55, 56, 57]⟩) 1 : Nat), .int .u64 (wd (ofP ⟨#[33, 34, 35, 36, 37, 38, 39, 40, 41, 42, 43, 44, 45, 46, 47, 58, 59, 60, 61, 62, 63, 64, 91, 92, 93, 94, 95, 96, 123, 124, 125, 126, 65, 66, 67, 68, 69, 70, 71, 72, 73, 74, 75, 76, 77, 78, 79, 80, 81, 82, 83, 84, 85, 86, 87, 88, 89, 90, 97, 98, 99, 100, 101, 102, 103, 104, 105, 106, 107, 108, 109, 110, 111, 112, 113, 114, 115, 116, 117, 118, 119, 120, 121, 122, 48, 49, 50, 51, 52, 53, 54, 55, 56, 57]⟩) 2 : Nat), .int .u64 (wd (ofP ⟨#[33, 34, 35, 36, 37, 38, 39, 40, 41, 42, 43, 44, 45, 46, 47, 58, 59, 60, 61, 62, 63, 64, 91, 92, 93, 94, 95, 96, 123, 124, 125, 126, 65, 66, 67, 68, 69, 70, 71, 72, 73, 74, 75, 76, 77, 78, 79, 80, 81, 82, 83, 84, 85, 86, 87, 88, 89, 90, 97, 98, 99, 100, 101, 102, 103, 104, 105, 106, 107, 108, 109, 110, 111, 112, 113, 114, 115, 116, 117, 118, 119, 120, 121, 122, 48, 49, 50, 51, 52, 53, 54, 55, 56, 57]⟩) 3 : Nat)], .int .i64 0]) (by simp [results, Try.results83, go_sem, *]) rfl ⟨rfl, below_put4 hB (by omega) _⟩
set_option maxRecDepth 100000 in
set_option maxHeartbeats 1000000 in
theorem docClass_print  (w : World) :
    Calls Try.prog 83 #[.string ⟨#[112, 114, 105, 110, 116]⟩] w fun e w' => e = .returned (.tuple #[.agg #[.int .u64 (wd (ofP ⟨#[33, 34, 35, 36, 37, 38, 39, 40, 41, 42, 43, 44, 45, 46, 47, 58, 59, 60, 61, 62, 63, 64, 91, 92, 93, 94, 95, 96, 123, 124, 125, 126, 65, 66, 67, 68, 69, 70, 71, 72, 73, 74, 75, 76, 77, 78, 79, 80, 81, 82, 83, 84, 85, 86, 87, 88, 89, 90, 97, 98, 99, 100, 101, 102, 103, 104, 105, 106, 107, 108, 109, 110, 111, 112, 113, 114, 115, 116, 117, 118, 119, 120, 121, 122, 48, 49, 50, 51, 52, 53, 54, 55, 56, 57, 32]⟩) 0 : Nat), .int .u64 (wd (ofP ⟨#[33, 34, 35, 36, 37, 38, 39, 40, 41, 42, 43, 44, 45, 46, 47, 58, 59, 60, 61, 62, 63, 64, 91, 92, 93, 94, 95, 96, 123, 124, 125, 126, 65, 66, 67, 68, 69, 70, 71, 72, 73, 74, 75, 76, 77, 78, 79, 80, 81, 82, 83, 84, 85, 86, 87, 88, 89, 90, 97, 98, 99, 100, 101, 102, 103, 104, 105, 106, 107, 108, 109, 110, 111, 112, 113, 114, 115, 116, 117, 118, 119, 120, 121, 122, 48, 49, 50, 51, 52, 53, 54, 55, 56, 57, 32]⟩) 1 : Nat), .int .u64 (wd (ofP ⟨#[33, 34, 35, 36, 37, 38, 39, 40, 41, 42, 43, 44, 45, 46, 47, 58, 59, 60, 61, 62, 63, 64, 91, 92, 93, 94, 95, 96, 123, 124, 125, 126, 65, 66, 67, 68, 69, 70, 71, 72, 73, 74, 75, 76, 77, 78, 79, 80, 81, 82, 83, 84, 85, 86, 87, 88, 89, 90, 97, 98, 99, 100, 101, 102, 103, 104, 105, 106, 107, 108, 109, 110, 111, 112, 113, 114, 115, 116, 117, 118, 119, 120, 121, 122, 48, 49, 50, 51, 52, 53, 54, 55, 56, 57, 32]⟩) 2 : Nat), .int .u64 (wd (ofP ⟨#[33, 34, 35, 36, 37, 38, 39, 40, 41, 42, 43, 44, 45, 46, 47, 58, 59, 60, 61, 62, 63, 64, 91, 92, 93, 94, 95, 96, 123, 124, 125, 126, 65, 66, 67, 68, 69, 70, 71, 72, 73, 74, 75, 76, 77, 78, 79, 80, 81, 82, 83, 84, 85, 86, 87, 88, 89, 90, 97, 98, 99, 100, 101, 102, 103, 104, 105, 106, 107, 108, 109, 110, 111, 112, 113, 114, 115, 116, 117, 118, 119, 120, 121, 122, 48, 49, 50, 51, 52, 53, 54, 55, 56, 57, 32]⟩) 3 : Nat)], .int .i64 0]) ∧ Below w.heap.size w w' := by
  go_enter Try.func83, Try.ntmps83
  go_wp2_with fail
  refine (text_print _).mono ?_
  rintro e w0 ⟨rfl, rfl⟩
  go_wp2_with fail
  refine (refOfD _ (by decide) _).mono ?_
  rintro e w1 ⟨rfl, hb1⟩
  have hr := (holds4_zero w 24).below hb1 (by simp)
  have hB : Below w.heap.size w w1 := ((Below.refl _ _).alloc (Nat.le_refl _) _).trans (hb1.mono (by simp))
  clear hb1
  have hc := fun w => refCountD (ofP ⟨#[33, 34, 35, 36, 37, 38, 39, 40, 41, 42, 43, 44, 45, 46, 47, 58, 59, 60, 61, 62, 63, 64, 91, 92, 93, 94, 95, 96, 123, 124, 125, 126, 65, 66, 67, 68, 69, 70, 71, 72, 73, 74, 75, 76, 77, 78, 79, 80, 81, 82, 83, 84, 85, 86, 87, 88, 89, 90, 97, 98, 99, 100, 101, 102, 103, 104, 105, 106, 107, 108, 109, 110, 111, 112, 113, 114, 115, 116, 117, 118, 119, 120, 121, 122, 48, 49, 50, 51, 52, 53, 54, 55, 56, 57, 32]⟩) w
  rw [cardT_print] at hc
  have HC : Hid _ := hc
  clear hc
  go_wp2_with fail
  have hv := holds4_new w1 (ofP ⟨#[33, 34, 35, 36, 37, 38, 39, 40, 41, 42, 43, 44, 45, 46, 47, 58, 59, 60, 61, 62, 63, 64, 91, 92, 93, 94, 95, 96, 123, 124, 125, 126, 65, 66, 67, 68, 69, 70, 71, 72, 73, 74, 75, 76, 77, 78, 79, 80, 81, 82, 83, 84, 85, 86, 87, 88, 89, 90, 97, 98, 99, 100, 101, 102, 103, 104, 105, 106, 107, 108, 109, 110, 111, 112, 113, 114, 115, 116, 117, 118, 119, 120, 121, 122, 48, 49, 50, 51, 52, 53, 54, 55, 56, 57, 32]⟩) 24
  replace hr := hr.alloc (.cells #[.int .u64 (wd (ofP ⟨#[33, 34, 35, 36, 37, 38, 39, 40, 41, 42, 43, 44, 45, 46, 47, 58, 59, 60, 61, 62, 63, 64, 91, 92, 93, 94, 95, 96, 123, 124, 125, 126, 65, 66, 67, 68, 69, 70, 71, 72, 73, 74, 75, 76, 77, 78, 79, 80, 81, 82, 83, 84, 85, 86, 87, 88, 89, 90, 97, 98, 99, 100, 101, 102, 103, 104, 105, 106, 107, 108, 109, 110, 111, 112, 113, 114, 115, 116, 117, 118, 119, 120, 121, 122, 48, 49, 50, 51, 52, 53, 54, 55, 56, 57, 32]⟩) 0 : Nat), .int .u64 (wd (ofP ⟨#[33, 34, 35, 36, 37, 38, 39, 40, 41, 42, 43, 44, 45, 46, 47, 58, 59, 60, 61, 62, 63, 64, 91, 92, 93, 94, 95, 96, 123, 124, 125, 126, 65, 66, 67, 68, 69, 70, 71, 72, 73, 74, 75, 76, 77, 78, 79, 80, 81, 82, 83, 84, 85, 86, 87, 88, 89, 90, 97, 98, 99, 100, 101, 102, 103, 104, 105, 106, 107, 108, 109, 110, 111, 112, 113, 114, 115, 116, 117, 118, 119, 120, 121, 122, 48, 49, 50, 51, 52, 53, 54, 55, 56, 57, 32]⟩) 1 : Nat), .int .u64 (wd (ofP ⟨#[33, 34, 35, 36, 37, 38, 39, 40, 41, 42, 43, 44, 45, 46, 47, 58, 59, 60, 61, 62, 63, 64, 91, 92, 93, 94, 95, 96, 123, 124, 125, 126, 65, 66, 67, 68, 69, 70, 71, 72, 73, 74, 75, 76, 77, 78, 79, 80, 81, 82, 83, 84, 85, 86, 87, 88, 89, 90, 97, 98, 99, 100, 101, 102, 103, 104, 105, 106, 107, 108, 109, 110, 111, 112, 113, 114, 115, 116, 117, 118, 119, 120, 121, 122, 48, 49, 50, 51, 52, 53, 54, 55, 56, 57, 32]⟩) 2 : Nat), .int .u64 (wd (ofP ⟨#[33, 34, 35, 36, 37, 38, 39, 40, 41, 42, 43, 44, 45, 46, 47, 58, 59, 60, 61, 62, 63, 64, 91, 92, 93, 94, 95, 96, 123, 124, 125, 126, 65, 66, 67, 68, 69, 70, 71, 72, 73, 74, 75, 76, 77, 78, 79, 80, 81, 82, 83, 84, 85, 86, 87, 88, 89, 90, 97, 98, 99, 100, 101, 102, 103, 104, 105, 106, 107, 108, 109, 110, 111, 112, 113, 114, 115, 116, 117, 118, 119, 120, 121, 122, 48, 49, 50, 51, 52, 53, 54, 55, 56, 57, 32]⟩) 3 : Nat)] 24)
  replace hB := hB.alloc hB.size (.cells #[.int .u64 (wd (ofP ⟨#[33, 34, 35, 36, 37, 38, 39, 40, 41, 42, 43, 44, 45, 46, 47, 58, 59, 60, 61, 62, 63, 64, 91, 92, 93, 94, 95, 96, 123, 124, 125, 126, 65, 66, 67, 68, 69, 70, 71, 72, 73, 74, 75, 76, 77, 78, 79, 80, 81, 82, 83, 84, 85, 86, 87, 88, 89, 90, 97, 98, 99, 100, 101, 102, 103, 104, 105, 106, 107, 108, 109, 110, 111, 112, 113, 114, 115, 116, 117, 118, 119, 120, 121, 122, 48, 49, 50, 51, 52, 53, 54, 55, 56, 57, 32]⟩) 0 : Nat), .int .u64 (wd (ofP ⟨#[33, 34, 35, 36, 37, 38, 39, 40, 41, 42, 43, 44, 45, 46, 47, 58, 59, 60, 61, 62, 63, 64, 91, 92, 93, 94, 95, 96, 123, 124, 125, 126, 65, 66, 67, 68, 69, 70, 71, 72, 73, 74, 75, 76, 77, 78, 79, 80, 81, 82, 83, 84, 85, 86, 87, 88, 89, 90, 97, 98, 99, 100, 101, 102, 103, 104, 105, 106, 107, 108, 109, 110, 111, 112, 113, 114, 115, 116, 117, 118, 119, 120, 121, 122, 48, 49, 50, 51, 52, 53, 54, 55, 56, 57, 32]⟩) 1 : Nat), .int .u64 (wd (ofP ⟨#[33, 34, 35, 36, 37, 38, 39, 40, 41, 42, 43, 44, 45, 46, 47, 58, 59, 60, 61, 62, 63, 64, 91, 92, 93, 94, 95, 96, 123, 124, 125, 126, 65, 66, 67, 68, 69, 70, 71, 72, 73, 74, 75, 76, 77, 78, 79, 80, 81, 82, 83, 84, 85, 86, 87, 88, 89, 90, 97, 98, 99, 100, 101, 102, 103, 104, 105, 106, 107, 108, 109, 110, 111, 112, 113, 114, 115, 116, 117, 118, 119, 120, 121, 122, 48, 49, 50, 51, 52, 53, 54, 55, 56, 57, 32]⟩) 2 : Nat), .int .u64 (wd (ofP ⟨#[33, 34, 35, 36, 37, 38, 39, 40, 41, 42, 43, 44, 45, 46, 47, 58, 59, 60, 61, 62, 63, 64, 91, 92, 93, 94, 95, 96, 123, 124, 125, 126, 65, 66, 67, 68, 69, 70, 71, 72, 73, 74, 75, 76, 77, 78, 79, 80, 81, 82, 83, 84, 85, 86, 87, 88, 89, 90, 97, 98, 99, 100, 101, 102, 103, 104, 105, 106, 107, 108, 109, 110, 111, 112, 113, 114, 115, 116, 117, 118, 119, 120, 121, 122, 48, 49, 50, 51, 52, 53, 54, 55, 56, 57, 32]⟩) 3 : Nat)] 24)
  refine (HC.out _).mono ?_
  rintro e w2 ⟨rfl, hb2⟩
  replace hr := hr.below hb2 hr.lt
  replace hv := hv.below hb2 hv.lt
  replace hB := hB.trans (hb2.mono hB.size)
  clear hb2
  obtain ⟨⟨c0, c1, c2, c3⟩, -⟩ := id hv
  obtain ⟨⟨d0, d1, d2, d3⟩, g0, g1, g2, g3⟩ := id hr
  go_wp2
  exact bodyPost_ret (v := .tuple #[.agg #[.int .u64 (wd (ofP ⟨#[33, 34, 35, 36, 37, 38, 39, 40, 41, 42, 43, 44, 45, 46, 47, 58, 59, 60, 61, 62, 63, 64, 91, 92, 93, 94, 95, 96, 123, 124, 125, 126, 65, 66, 67, 68, 69, 70, 71, 72, 73, 74, 75, 76, 77, 78, 79, 80, 81, 82, 83, 84, 85, 86, 87, 88, 89, 90, 97, 98, 99, 100, 101, 102, 103, 104, 105, 106, 107, 108, 109, 110, 111, 112, 113, 114, 115, 116, 117, 118, 119, 120, 121, 122, 48, 49, 50, 51, 52, 53, 54, 55, 56, 57, 32]⟩) 0 : Nat), .int .u64 (wd (ofP ⟨#[33, 34, 35, 36, 37, 38, 39, 40, 41, 42, 43, 44, 45, 46, 47, 58, 59, 60, 61, 62, 63, 64, 91, 92, 93, 94, 95, 96, 123, 124, 125, 126, 65, 66, 67, 68, 69, 70, 71, 72, 73, 74, 75, 76, 77, 78, 79, 80, 81, 82, 83, 84, 85, 86, 87, 88, 89, 90, 97, 98, 99, 100, 101, 102, 103, 104, 105, 106, 107, 108, 109, 110, 111, 112, 113, 114, 115, 116, 117, 118, 119, 120, 121, 122, 48, 49, 50, 51, 52, 53, 54, 55, 56, 57, 32]⟩) 1 : Nat), .int .u64 (wd (ofP ⟨#[33, 34, 35, 36, 37, 38, 39, 40, 41, 42, 43, 44, 45, 46, 47, 58, 59, 60, 61, 62, 63, 64, 91, 92, 93, 94, 95, 96, 123, 124, 125, 126, 65, 66, 67, 68, 69, 70, 71, 72, 73, 74, 75, 76, 77, 78, 79, 80, 81, 82, 83, 84, 85, 86, 87, 88, 89, 90, 97, 98, 99, 100, 101, 102, 103, 104, 105, 106, 107, 108, 109, 110, 111, 112, 113, 114, 115, 116, 117, 118, 119, 120, 121, 122, 48, 49, 50, 51, 52, 53, 54, 55, 56, 57, 32]⟩) 2 : Nat), .int .u64 (wd (ofP ⟨#[33, 34, 35, 36, 37, 38, 39, 40, 41, 42, 43, 44, 45, 46, 47, 58, 59, 60, 61, 62, 63, 64, 91, 92, 93, 94, 95, 96, 123, 124, 125, 126, 65, 66, 67, 68, 69, 70, 71, 72, 73, 74, 75, 76, 77, 78, 79, 80, 81, 82, 83, 84, 85, 86, 87, 88, 89, 90, 97, 98, 99, 100, 101, 102, 103, 104, 105, 106, 107, 108, 109, 110, 111, 112, 113, 114, 115, 116, 117, 118, 119, 120, 121, 122, 48, 49, 50, 51, 52, 53, 54, 55, 56, 57, 32]⟩) 3 : Nat)], .int .i64 0]) (by simp [results, Try.results83, go_sem, *]) rfl ⟨rfl, below_put4 hB (by omega) _⟩
set_option maxRecDepth 100000 in
set_option maxHeartbeats 1000000 in
theorem docClass_punct  (w : World) :
    Calls Try.prog 83 #[.string ⟨#[112, 117, 110, 99, 116]⟩] w fun e w' => e = .returned (.tuple #[.agg #[.int .u64 (wd (ofP ⟨#[33, 34, 35, 36, 37, 38, 39, 40, 41, 42, 43, 44, 45, 46, 47, 58, 59, 60, 61, 62, 63, 64, 91, 92, 93, 94, 95, 96, 123, 124, 125, 126]⟩) 0 : Nat), .int .u64 (wd (ofP ⟨#[33, 34, 35, 36, 37, 38, 39, 40, 41, 42, 43, 44, 45, 46, 47, 58, 59, 60, 61, 62, 63, 64, 91, 92, 93, 94, 95, 96, 123, 124, 125, 126]⟩) 1 : Nat), .int .u64 (wd (ofP ⟨#[33, 34, 35, 36, 37, 38, 39, 40, 41, 42, 43, 44, 45, 46, 47, 58, 59, 60, 61, 62, 63, 64, 91, 92, 93, 94, 95, 96, 123, 124, 125, 126]⟩) 2 : Nat), .int .u64 (wd (ofP ⟨#[33, 34, 35, 36, 37, 38, 39, 40, 41, 42, 43, 44, 45, 46, 47, 58, 59, 60, 61, 62, 63, 64, 91, 92, 93, 94, 95, 96, 123, 124, 125, 126]⟩) 3 : Nat)], .int .i64 0]) ∧ Below w.heap.size w w' := by
  go_enter Try.func83, Try.ntmps83
  go_wp2_with fail
  refine (text_punct _).mono ?_
  rintro e w0 ⟨rfl, rfl⟩
  go_wp2_with fail
  refine (refOfD _ (by decide) _).mono ?_
  rintro e w1 ⟨rfl, hb1⟩
  have hr := (holds4_zero w 24).below hb1 (by simp)
  have hB : Below w.heap.size w w1 := ((Below.refl _ _).alloc (Nat.le_refl _) _).trans (hb1.mono (by simp))
  clear hb1
  have hc := fun w => refCountD (ofP ⟨#[33, 34, 35, 36, 37, 38, 39, 40, 41, 42, 43, 44, 45, 46, 47, 58, 59, 60, 61, 62, 63, 64, 91, 92, 93, 94, 95, 96, 123, 124, 125, 126]⟩) w
  rw [cardT_punct] at hc
  have HC : Hid _ := hc
  clear hc
  go_wp2_with fail
  have hv := holds4_new w1 (ofP ⟨#[33, 34, 35, 36, 37, 38, 39, 40, 41, 42, 43, 44, 45, 46, 47, 58, 59, 60, 61, 62, 63, 64, 91, 92, 93, 94, 95, 96, 123, 124, 125, 126]⟩) 24
  replace hr := hr.alloc (.cells #[.int .u64 (wd (ofP ⟨#[33, 34, 35, 36, 37, 38, 39, 40, 41, 42, 43, 44, 45, 46, 47, 58, 59, 60, 61, 62, 63, 64, 91, 92, 93, 94, 95, 96, 123, 124, 125, 126]⟩) 0 : Nat), .int .u64 (wd (ofP ⟨#[33, 34, 35, 36, 37, 38, 39, 40, 41, 42, 43, 44, 45, 46, 47, 58, 59, 60, 61, 62, 63, 64, 91, 92, 93, 94, 95, 96, 123, 124, 125, 126]⟩) 1 : Nat), .int .u64 (wd (ofP ⟨#[33, 34, 35, 36, 37, 38, 39, 40, 41, 42, 43, 44, 45, 46, 47, 58, 59, 60, 61, 62, 63, 64, 91, 92, 93, 94, 95, 96, 123, 124, 125, 126]⟩) 2 : Nat), .int .u64 (wd (ofP ⟨#[33, 34, 35, 36, 37, 38, 39, 40, 41, 42, 43, 44, 45, 46, 47, 58, 59, 60, 61, 62, 63, 64, 91, 92, 93, 94, 95, 96, 123, 124, 125, 126]⟩) 3 : Nat)] 24)
  replace hB := hB.alloc hB.size (.cells #[.int .u64 (wd (ofP ⟨#[33, 34, 35, 36, 37, 38, 39, 40, 41, 42, 43, 44, 45, 46, 47, 58, 59, 60, 61, 62, 63, 64, 91, 92, 93, 94, 95, 96, 123, 124, 125, 126]⟩) 0 : Nat), .int .u64 (wd (ofP ⟨#[33, 34, 35, 36, 37, 38, 39, 40, 41, 42, 43, 44, 45, 46, 47, 58, 59, 60, 61, 62, 63, 64, 91, 92, 93, 94, 95, 96, 123, 124, 125, 126]⟩) 1 : Nat), .int .u64 (wd (ofP ⟨#[33, 34, 35, 36, 37, 38, 39, 40, 41, 42, 43, 44, 45, 46, 47, 58, 59, 60, 61, 62, 63, 64, 91, 92, 93, 94, 95, 96, 123, 124, 125, 126]⟩) 2 : Nat), .int .u64 (wd (ofP ⟨#[33, 34, 35, 36, 37, 38, 39, 40, 41, 42, 43, 44, 45, 46, 47, 58, 59, 60, 61, 62, 63, 64, 91, 92, 93, 94, 95, 96, 123, 124, 125, 126]⟩) 3 : Nat)] 24)
  refine (HC.out _).mono ?_
  rintro e w2 ⟨rfl, hb2⟩
  replace hr := hr.below hb2 hr.lt
  replace hv := hv.below hb2 hv.lt
  replace hB := hB.trans (hb2.mono hB.size)
  clear hb2
  obtain ⟨⟨c0, c1, c2, c3⟩, -⟩ := id hv
  obtain ⟨⟨d0, d1, d2, d3⟩, g0, g1, g2, g3⟩ := id hr
  go_wp2
  exact bodyPost_ret (v := .tuple #[.agg #[.int .u64 (wd (ofP ⟨#[33, 34, 35, 36, 37, 38, 39, 40, 41, 42, 43, 44, 45, 46, 47, 58, 59, 60, 61, 62, 63, 64, 91, 92, 93, 94, 95, 96, 123, 124, 125, 126]⟩) 0 : Nat), .int .u64 (wd (ofP ⟨#[33, 34, 35, 36, 37, 38, 39, 40, 41, 42, 43, 44, 45, 46, 47, 58, 59, 60, 61, 62, 63, 64, 91, 92, 93, 94, 95, 96, 123, 124, 125, 126]⟩) 1 : Nat), .int .u64 (wd (ofP ⟨#[33, 34, 35, 36, 37, 38, 39, 40, 41, 42, 43, 44, 45, 46, 47, 58, 59, 60, 61, 62, 63, 64, 91, 92, 93, 94, 95, 96, 123, 124, 125, 126]⟩) 2 : Nat), .int .u64 (wd (ofP ⟨#[33, 34, 35, 36, 37, 38, 39, 40, 41, 42, 43, 44, 45, 46, 47, 58, 59, 60, 61, 62, 63, 64, 91, 92, 93, 94, 95, 96, 123, 124, 125, 126]⟩) 3 : Nat)], .int .i64 0]) (by simp [results, Try.results83, go_sem, *]) rfl ⟨rfl, below_put4 hB (by omega) _⟩
set_option maxRecDepth 100000 in
set_option maxHeartbeats 1000000 in
theorem docClass_other (s : ByteArray) (n0 : (s.toList == [117, 112, 112, 101, 114]) = false) (n1 : (s.toList == [108, 111, 119, 101, 114]) = false) (n2 : (s.toList == [100, 105, 103, 105, 116]) = false) (n3 : (s.toList == [97, 108, 112, 104, 97]) = false) (n4 : (s.toList == [97, 108, 110, 117, 109]) = false) (n5 : (s.toList == [120, 100, 105, 103, 105, 116]) = false) (n6 : (s.toList == [98, 108, 97, 110, 107]) = false) (n7 : (s.toList == [115, 112, 97, 99, 101]) = false) (n8 : (s.toList == [103, 114, 97, 112, 104]) = false) (n9 : (s.toList == [112, 114, 105, 110, 116]) = false) (n10 : (s.toList == [112, 117, 110, 99, 116]) = false) (n11 : (s.toList == [99, 110, 116, 114, 108]) = false) (w : World) :
    Calls Try.prog 83 #[.string s] w fun e w' => e = .returned (.tuple #[.agg #[.int .u64 (wd (ofP ⟨#[]⟩) 0 : Nat), .int .u64 (wd (ofP ⟨#[]⟩) 1 : Nat), .int .u64 (wd (ofP ⟨#[]⟩) 2 : Nat), .int .u64 (wd (ofP ⟨#[]⟩) 3 : Nat)], .int .i64 8]) ∧ Below w.heap.size w w' := by
  go_enter Try.func83, Try.ntmps83
  go_wp2_with fail
  refine (text_other s n0 n1 n2 n3 n4 n5 n6 n7 n8 n9 n10 _).mono ?_
  rintro e w0 ⟨rfl, rfl⟩
  go_wp2_with fail
  refine (refOfD _ (by decide) _).mono ?_
  rintro e w1 ⟨rfl, hb1⟩
  have hr := (holds4_zero w 24).below hb1 (by simp)
  have hB : Below w.heap.size w w1 := ((Below.refl _ _).alloc (Nat.le_refl _) _).trans (hb1.mono (by simp))
  clear hb1
  have hc := fun w => refCountD (ofP ⟨#[]⟩) w
  rw [cardT_other] at hc
  have HC : Hid _ := hc
  clear hc
  go_wp2_with fail
  have hv := holds4_new w1 (ofP ⟨#[]⟩) 24
  replace hr := hr.alloc (.cells #[.int .u64 (wd (ofP ⟨#[]⟩) 0 : Nat), .int .u64 (wd (ofP ⟨#[]⟩) 1 : Nat), .int .u64 (wd (ofP ⟨#[]⟩) 2 : Nat), .int .u64 (wd (ofP ⟨#[]⟩) 3 : Nat)] 24)
  replace hB := hB.alloc hB.size (.cells #[.int .u64 (wd (ofP ⟨#[]⟩) 0 : Nat), .int .u64 (wd (ofP ⟨#[]⟩) 1 : Nat), .int .u64 (wd (ofP ⟨#[]⟩) 2 : Nat), .int .u64 (wd (ofP ⟨#[]⟩) 3 : Nat)] 24)
  refine (HC.out _).mono ?_
  rintro e w2 ⟨rfl, hb2⟩
  replace hr := hr.below hb2 hr.lt
  replace hv := hv.below hb2 hv.lt
  replace hB := hB.trans (hb2.mono hB.size)
  clear hb2
  obtain ⟨⟨c0, c1, c2, c3⟩, -⟩ := id hv
  obtain ⟨⟨d0, d1, d2, d3⟩, g0, g1, g2, g3⟩ := id hr
  go_wp2
  exact bodyPost_ret (v := .tuple #[.agg #[.int .u64 (wd (ofP ⟨#[]⟩) 0 : Nat), .int .u64 (wd (ofP ⟨#[]⟩) 1 : Nat), .int .u64 (wd (ofP ⟨#[]⟩) 2 : Nat), .int .u64 (wd (ofP ⟨#[]⟩) 3 : Nat)], .int .i64 8]) (by simp [results, Try.results83, go_sem, *]) rfl ⟨rfl, below_put4 hB (by omega) _⟩
set_option maxHeartbeats 1000000 in
theorem docClass_cntrl (w : World) :
    Calls Try.prog 83 #[.string ⟨#[99, 110, 116, 114, 108]⟩] w fun e w' => e = .returned (.tuple #[.agg #[.int .u64 (wd (ins (spanP 0 31) 127) 0 : Nat), .int .u64 (wd (ins (spanP 0 31) 127) 1 : Nat), .int .u64 (wd (ins (spanP 0 31) 127) 2 : Nat), .int .u64 (wd (ins (spanP 0 31) 127) 3 : Nat)], .int .i64 0]) ∧ Below w.heap.size w w' := by
  go_enter Try.func83, Try.ntmps83
  go_wp2_with fail
  refine (docSpanD 0 31 (by omega) (by omega) (by omega) _).mono ?_
  rintro e w1 ⟨rfl, hb1⟩
  have hr := (holds4_zero w 24).below hb1 (by simp)
  have hB : Below w.heap.size w w1 := ((Below.refl _ _).alloc (Nat.le_refl _) _).trans (hb1.mono (by simp))
  clear hb1
  go_wp2_with fail
  replace hr := hr.alloc (.cells #[.int .u64 (wd (spanP 0 31) 0 : Nat), .int .u64 (wd (spanP 0 31) 1 : Nat), .int .u64 (wd (spanP 0 31) 2 : Nat), .int .u64 (wd (spanP 0 31) 3 : Nat)] 24)
  replace hB := hB.alloc hB.size (.cells #[.int .u64 (wd (spanP 0 31) 0 : Nat), .int .u64 (wd (spanP 0 31) 1 : Nat), .int .u64 (wd (spanP 0 31) 2 : Nat), .int .u64 (wd (spanP 0 31) 3 : Nat)] 24)
  refine (refWith_any (spanP 0 31) 127 (by omega) (by omega) _).mono ?_
  rintro e w2 ⟨rfl, hb2⟩
  replace hr := hr.below hb2 hr.lt
  replace hB := hB.trans (hb2.mono hB.size)
  clear hb2
  obtain ⟨⟨d0, d1, d2, d3⟩, g0, g1, g2, g3⟩ := id hr
  go_wp2
  exact bodyPost_ret (v := .tuple #[.agg #[.int .u64 (wd (ins (spanP 0 31) 127) 0 : Nat), .int .u64 (wd (ins (spanP 0 31) 127) 1 : Nat), .int .u64 (wd (ins (spanP 0 31) 127) 2 : Nat), .int .u64 (wd (ins (spanP 0 31) 127) 3 : Nat)], .int .i64 0]) (by simp [results, Try.results83, go_sem, *]) rfl ⟨rfl, below_put4 hB (by omega) _⟩
end Go.Proofs.Ytgpciekpmdihnaa
