/- bre: quoted: a text in which each byte stands for itself. -/
import Derived.Test.YtooanbbnjiogaaaKQc
namespace Go.Proofs.Ytooanbbnjiogaaa
open Go.RowKit

/-- A text's bytes. -/
def bytesN (s : ByteArray) : List Nat := s.data.toList.map UInt8.toNat
theorem bytesN_len (s : ByteArray) : (bytesN s).length = s.size := by simp [bytesN]
theorem bytesN_lt (s : ByteArray) : ∀ b ∈ bytesN s, b < 256 := by
  intro b hb
  simp only [bytesN, List.mem_map] at hb
  obtain ⟨x, _, rfl⟩ := hb
  exact x.toNat_lt
theorem bytesN_at (s : ByteArray) (k : Nat) (hk : k < s.size) : (bytesN s).take (k + 1) = (bytesN s).take k ++ [s[k].toNat] := by
  have h : k < (bytesN s).length := by rw [bytesN_len]; exact hk
  rw [List.take_succ_eq_append_getElem h]
  congr 1
  simp [bytesN]
  rfl
theorem quoteL_snoc (l : List Nat) (b : Nat) : quoteL (l ++ [b]) = quoteL l ++ quoteB b := by simp [quoteL]

theorem byteVals_app (a b : List Nat) : byteVals (a ++ b) = byteVals a ++ byteVals b := by simp [byteVals]

set_option maxRecDepth 100000 in
set_option maxHeartbeats 4000000 in
theorem quoted_any (s : ByteArray) (hs : s.size ≤ 256) (w : World) : Calls Try.prog 15 #[.string s] w fun e w' => e = .returned (.string (bstr (quoteL (bytesN s)))) ∧ Below w.heap.size w w' := by
  obtain ⟨i0, hi, hz0, hz1, hz2⟩ := info_parts info5
  go_enter Try.func15, Try.ntmps15
  go_wp2_with fail
  go_loopw [3, 4] (fun v i wr => ∃ k : Nat, k ≤ s.size ∧ i = .int .i64 k ∧ wr.ownsRow w.heap.size 5 1 v (quoteL ((bytesN s).take k)).length (byteVals (quoteL ((bytesN s).take k))) ∧ Below w.heap.size w wr) (fun _ i _ => (s.size - intOf i).toNat)
  case atStart => exact ⟨0, by omega, rfl, World.ownsRow_nil _ _ _ _, Below.refl _ _⟩
  case round =>
    obtain ⟨k, hk1, rfl, hown, hB⟩ := hrel
    have hsz := hB.size
    by_cases hlt : k < s.size
    · have hle := quoteL_len ((bytesN s).take k)
      have hle2 : ((bytesN s).take k).length ≤ 256 := by rw [List.length_take, bytesN_len]; omega
      have hms : quoteL ((bytesN s).take (k + 1)) = quoteL ((bytesN s).take k) ++ quoteB s[k].toNat := by rw [bytesN_at s k hlt, quoteL_snoc]
      have hbl := s[k].toNat_lt
      have k1 : (0 : Int) ≤ (k : Int) := by omega
      have k2 : (k : Int) < (s.size : Int) := by omega
      have k3 : IntKind.i64.wrap ((k : Int) + 1) = (k : Int) + 1 := by rw [IntKind.wrap_i64]; omega
      have hLen : Hid ((quoteL ((bytesN s).take k)).length ≤ 512) := hideT (by omega)
      clear hle hle2
      obtain ⟨b, hb⟩ : ∃ b : Int, (s[k].toNat : Int) = b := ⟨_, rfl⟩
      obtain ⟨n, hn⟩ : ∃ n : Nat, s[k].toNat = n := ⟨_, rfl⟩
      have hbn : b = (n : Int) := by rw [← hb, hn]
      rw [hn] at hms hbl
      by_cases hp : plainB n = true
      · have hq : quoteB n = [n] := by unfold quoteB; rw [if_pos hp]
        rw [hq] at hms
        have HM := hideT hms
        simp only [plainB, Bool.or_eq_true, Bool.and_eq_true, decide_eq_true_eq, beq_iff_eq] at hp
        clear hms hq
        rw [hbn] at hb
        subst hbn
        rcases (show (48 ≤ (n : Int) ∧ (n : Int) ≤ 57) ∨ (97 ≤ (n : Int) ∧ (n : Int) ≤ 122) ∨ (65 ≤ (n : Int) ∧ (n : Int) ≤ 90) ∨ n = 40 ∨ n = 41 ∨ n = 123 ∨ n = 125 by omega) with ⟨h1, h2⟩ | ⟨h1, h2⟩ | ⟨h1, h2⟩ | rfl | rfl | rfl | rfl
        · clear hp
          go_wp2_with (first | (at_builtin; refine wpList_append_own _ rfl _ _ 66 rfl w.heap.size 5 i0 (.int .u8 0) 1 1 Try.underlying66 hi hz0 hz1 hz2 rfl (by decide) _ _ _ rfl (hown.alloc _) ⟨wr.heap.size, 0, none⟩ 1 1 [.int .u8 (n : Int)] rfl rfl (cell_one_new _ _ _) (by intro u hu; simp at hu; subst hu; rfl) (by have := hLen.out; unfold maxLen; omega) (by have := hLen.out; omega) (by simp; omega) ?_; intro v2 w2 hown2 hgrow _))
          have hB2 := (hB.alloc (by omega) _).grown hgrow (by simp; omega) (owns_block hown)
          have hown3 := hown2
          clear hgrow hown hB hown2
          go_wp2
          go_roundw
          case rel => exact ⟨k + 1, by omega, by go_num, by rw [HM.out, List.length_append, byteVals_app]; exact hown3, hB2⟩
          case measure => simp [intOf]; omega
        · clear hp
          go_wp2_with (first | (at_builtin; refine wpList_append_own _ rfl _ _ 66 rfl w.heap.size 5 i0 (.int .u8 0) 1 1 Try.underlying66 hi hz0 hz1 hz2 rfl (by decide) _ _ _ rfl (hown.alloc _) ⟨wr.heap.size, 0, none⟩ 1 1 [.int .u8 (n : Int)] rfl rfl (cell_one_new _ _ _) (by intro u hu; simp at hu; subst hu; rfl) (by have := hLen.out; unfold maxLen; omega) (by have := hLen.out; omega) (by simp; omega) ?_; intro v2 w2 hown2 hgrow _))
          have hB2 := (hB.alloc (by omega) _).grown hgrow (by simp; omega) (owns_block hown)
          have hown3 := hown2
          clear hgrow hown hB hown2
          go_wp2
          go_roundw
          case rel => exact ⟨k + 1, by omega, by go_num, by rw [HM.out, List.length_append, byteVals_app]; exact hown3, hB2⟩
          case measure => simp [intOf]; omega
        · clear hp
          go_wp2_with (first | (at_builtin; refine wpList_append_own _ rfl _ _ 66 rfl w.heap.size 5 i0 (.int .u8 0) 1 1 Try.underlying66 hi hz0 hz1 hz2 rfl (by decide) _ _ _ rfl (hown.alloc _) ⟨wr.heap.size, 0, none⟩ 1 1 [.int .u8 (n : Int)] rfl rfl (cell_one_new _ _ _) (by intro u hu; simp at hu; subst hu; rfl) (by have := hLen.out; unfold maxLen; omega) (by have := hLen.out; omega) (by simp; omega) ?_; intro v2 w2 hown2 hgrow _))
          have hB2 := (hB.alloc (by omega) _).grown hgrow (by simp; omega) (owns_block hown)
          have hown3 := hown2
          clear hgrow hown hB hown2
          go_wp2
          go_roundw
          case rel => exact ⟨k + 1, by omega, by go_num, by rw [HM.out, List.length_append, byteVals_app]; exact hown3, hB2⟩
          case measure => simp [intOf]; omega
        · clear hp
          go_wp2_with (first | (at_builtin; refine wpList_append_own _ rfl _ _ 66 rfl w.heap.size 5 i0 (.int .u8 0) 1 1 Try.underlying66 hi hz0 hz1 hz2 rfl (by decide) _ _ _ rfl (hown.alloc _) ⟨wr.heap.size, 0, none⟩ 1 1 [.int .u8 40] rfl rfl (cell_one_new _ _ _) (by intro u hu; simp at hu; subst hu; rfl) (by have := hLen.out; unfold maxLen; omega) (by have := hLen.out; omega) (by simp; omega) ?_; intro v2 w2 hown2 hgrow _))
          have hB2 := (hB.alloc (by omega) _).grown hgrow (by simp; omega) (owns_block hown)
          have hown3 := hown2
          clear hgrow hown hB hown2
          go_wp2
          go_roundw
          case rel => exact ⟨k + 1, by omega, by go_num, by rw [HM.out, List.length_append, byteVals_app]; exact hown3, hB2⟩
          case measure => simp [intOf]; omega
        · clear hp
          go_wp2_with (first | (at_builtin; refine wpList_append_own _ rfl _ _ 66 rfl w.heap.size 5 i0 (.int .u8 0) 1 1 Try.underlying66 hi hz0 hz1 hz2 rfl (by decide) _ _ _ rfl (hown.alloc _) ⟨wr.heap.size, 0, none⟩ 1 1 [.int .u8 41] rfl rfl (cell_one_new _ _ _) (by intro u hu; simp at hu; subst hu; rfl) (by have := hLen.out; unfold maxLen; omega) (by have := hLen.out; omega) (by simp; omega) ?_; intro v2 w2 hown2 hgrow _))
          have hB2 := (hB.alloc (by omega) _).grown hgrow (by simp; omega) (owns_block hown)
          have hown3 := hown2
          clear hgrow hown hB hown2
          go_wp2
          go_roundw
          case rel => exact ⟨k + 1, by omega, by go_num, by rw [HM.out, List.length_append, byteVals_app]; exact hown3, hB2⟩
          case measure => simp [intOf]; omega
        · clear hp
          go_wp2_with (first | (at_builtin; refine wpList_append_own _ rfl _ _ 66 rfl w.heap.size 5 i0 (.int .u8 0) 1 1 Try.underlying66 hi hz0 hz1 hz2 rfl (by decide) _ _ _ rfl (hown.alloc _) ⟨wr.heap.size, 0, none⟩ 1 1 [.int .u8 123] rfl rfl (cell_one_new _ _ _) (by intro u hu; simp at hu; subst hu; rfl) (by have := hLen.out; unfold maxLen; omega) (by have := hLen.out; omega) (by simp; omega) ?_; intro v2 w2 hown2 hgrow _))
          have hB2 := (hB.alloc (by omega) _).grown hgrow (by simp; omega) (owns_block hown)
          have hown3 := hown2
          clear hgrow hown hB hown2
          go_wp2
          go_roundw
          case rel => exact ⟨k + 1, by omega, by go_num, by rw [HM.out, List.length_append, byteVals_app]; exact hown3, hB2⟩
          case measure => simp [intOf]; omega
        · clear hp
          go_wp2_with (first | (at_builtin; refine wpList_append_own _ rfl _ _ 66 rfl w.heap.size 5 i0 (.int .u8 0) 1 1 Try.underlying66 hi hz0 hz1 hz2 rfl (by decide) _ _ _ rfl (hown.alloc _) ⟨wr.heap.size, 0, none⟩ 1 1 [.int .u8 125] rfl rfl (cell_one_new _ _ _) (by intro u hu; simp at hu; subst hu; rfl) (by have := hLen.out; unfold maxLen; omega) (by have := hLen.out; omega) (by simp; omega) ?_; intro v2 w2 hown2 hgrow _))
          have hB2 := (hB.alloc (by omega) _).grown hgrow (by simp; omega) (owns_block hown)
          have hown3 := hown2
          clear hgrow hown hB hown2
          go_wp2
          go_roundw
          case rel => exact ⟨k + 1, by omega, by go_num, by rw [HM.out, List.length_append, byteVals_app]; exact hown3, hB2⟩
          case measure => simp [intOf]; omega
      · have hq : quoteB n = [92, n] := by unfold quoteB; rw [if_neg hp]
        rw [hq] at hms
        have HM := hideT hms
        simp only [plainB, Bool.or_eq_true, Bool.and_eq_true, decide_eq_true_eq, beq_iff_eq] at hp
        clear hms hq
        rw [hbn] at hb
        subst hbn
        rcases (show (n : Int) ≤ 39 ∨ ((42 : Int) ≤ (n : Int) ∧ (n : Int) ≤ 47) ∨ ((58 : Int) ≤ (n : Int) ∧ (n : Int) ≤ 64) ∨ ((91 : Int) ≤ (n : Int) ∧ (n : Int) ≤ 96) ∨ n = 124 ∨ (126 : Int) ≤ (n : Int) by omega) with h1 | ⟨h1, h2⟩ | ⟨h1, h2⟩ | ⟨h1, h2⟩ | rfl | h1
        · clear hp
          have q1 : (((n : Int)) != 40) = true := by rw [bne_iff_ne]; omega
          have q2 : (((n : Int)) != 41) = true := by rw [bne_iff_ne]; omega
          have q3 : (((n : Int)) != 123) = true := by rw [bne_iff_ne]; omega
          have q4 : (((n : Int)) != 125) = true := by rw [bne_iff_ne]; omega
          have r1 : (((48 : Int)) ≤ (n : Int)) = False := eq_false (by omega)
          have r2 : ((n : Int) ≤ (57 : Int)) = True := eq_true (by omega)
          have r3 : (((97 : Int)) ≤ (n : Int)) = False := eq_false (by omega)
          have r4 : ((n : Int) ≤ (122 : Int)) = True := eq_true (by omega)
          have r5 : (((65 : Int)) ≤ (n : Int)) = False := eq_false (by omega)
          have r6 : ((n : Int) ≤ (90 : Int)) = True := eq_true (by omega)
          go_wp2_with (first | (at_builtin; refine wpList_append_own _ rfl _ _ 66 rfl w.heap.size 5 i0 (.int .u8 0) 1 1 Try.underlying66 hi hz0 hz1 hz2 rfl (by decide) _ _ _ rfl (hown.alloc _) ⟨wr.heap.size, 0, none⟩ 1 1 [.int .u8 92] rfl rfl (cell_one_new _ _ _) (by intro u hu; simp at hu; subst hu; rfl) (by have := hLen.out; unfold maxLen; omega) (by have := hLen.out; omega) (by simp; omega) ?_; intro v2 w2 hown2 hgrow _; have hB2 := (hB.alloc (by omega) _).grown hgrow (by simp; omega) (owns_block hown); have hsz2 := hB2.size; clear hgrow hown hB) | (at_builtin; refine wpList_append_own _ rfl _ _ 66 rfl w.heap.size 5 i0 (.int .u8 0) 1 1 Try.underlying66 hi hz0 hz1 hz2 rfl (by decide) _ _ _ rfl (hown2.alloc _) ⟨w2.heap.size, 0, none⟩ 1 1 [.int .u8 (n : Int)] rfl rfl (cell_one_new _ _ _) (by intro u hu; simp at hu; subst hu; rfl) (by have := hLen.out; unfold maxLen; omega) (by have := hLen.out; omega) (by simp; omega) ?_; intro v3 w3 hown3 hgrow3 _))
          have hB3 := (hB2.alloc (by omega) _).grown hgrow3 (by simp; omega) (owns_block hown2)
          clear hgrow3 hown2 hB2
          go_wp2
          go_roundw
          case rel => exact ⟨k + 1, by omega, by go_num, by rw [HM.out, List.length_append, byteVals_app]; rw [List.append_assoc] at hown3; exact hown3, hB3⟩
          case measure => simp [intOf]; omega
        · clear hp
          have q1 : (((n : Int)) != 40) = true := by rw [bne_iff_ne]; omega
          have q2 : (((n : Int)) != 41) = true := by rw [bne_iff_ne]; omega
          have q3 : (((n : Int)) != 123) = true := by rw [bne_iff_ne]; omega
          have q4 : (((n : Int)) != 125) = true := by rw [bne_iff_ne]; omega
          have r1 : (((48 : Int)) ≤ (n : Int)) = False := eq_false (by omega)
          have r2 : ((n : Int) ≤ (57 : Int)) = True := eq_true (by omega)
          have r3 : (((97 : Int)) ≤ (n : Int)) = False := eq_false (by omega)
          have r4 : ((n : Int) ≤ (122 : Int)) = True := eq_true (by omega)
          have r5 : (((65 : Int)) ≤ (n : Int)) = False := eq_false (by omega)
          have r6 : ((n : Int) ≤ (90 : Int)) = True := eq_true (by omega)
          go_wp2_with (first | (at_builtin; refine wpList_append_own _ rfl _ _ 66 rfl w.heap.size 5 i0 (.int .u8 0) 1 1 Try.underlying66 hi hz0 hz1 hz2 rfl (by decide) _ _ _ rfl (hown.alloc _) ⟨wr.heap.size, 0, none⟩ 1 1 [.int .u8 92] rfl rfl (cell_one_new _ _ _) (by intro u hu; simp at hu; subst hu; rfl) (by have := hLen.out; unfold maxLen; omega) (by have := hLen.out; omega) (by simp; omega) ?_; intro v2 w2 hown2 hgrow _; have hB2 := (hB.alloc (by omega) _).grown hgrow (by simp; omega) (owns_block hown); have hsz2 := hB2.size; clear hgrow hown hB) | (at_builtin; refine wpList_append_own _ rfl _ _ 66 rfl w.heap.size 5 i0 (.int .u8 0) 1 1 Try.underlying66 hi hz0 hz1 hz2 rfl (by decide) _ _ _ rfl (hown2.alloc _) ⟨w2.heap.size, 0, none⟩ 1 1 [.int .u8 (n : Int)] rfl rfl (cell_one_new _ _ _) (by intro u hu; simp at hu; subst hu; rfl) (by have := hLen.out; unfold maxLen; omega) (by have := hLen.out; omega) (by simp; omega) ?_; intro v3 w3 hown3 hgrow3 _))
          have hB3 := (hB2.alloc (by omega) _).grown hgrow3 (by simp; omega) (owns_block hown2)
          clear hgrow3 hown2 hB2
          go_wp2
          go_roundw
          case rel => exact ⟨k + 1, by omega, by go_num, by rw [HM.out, List.length_append, byteVals_app]; rw [List.append_assoc] at hown3; exact hown3, hB3⟩
          case measure => simp [intOf]; omega
        · clear hp
          have q1 : (((n : Int)) != 40) = true := by rw [bne_iff_ne]; omega
          have q2 : (((n : Int)) != 41) = true := by rw [bne_iff_ne]; omega
          have q3 : (((n : Int)) != 123) = true := by rw [bne_iff_ne]; omega
          have q4 : (((n : Int)) != 125) = true := by rw [bne_iff_ne]; omega
          have r1 : (((48 : Int)) ≤ (n : Int)) = True := eq_true (by omega)
          have r2 : ((n : Int) ≤ (57 : Int)) = False := eq_false (by omega)
          have r3 : (((97 : Int)) ≤ (n : Int)) = False := eq_false (by omega)
          have r4 : ((n : Int) ≤ (122 : Int)) = True := eq_true (by omega)
          have r5 : (((65 : Int)) ≤ (n : Int)) = False := eq_false (by omega)
          have r6 : ((n : Int) ≤ (90 : Int)) = True := eq_true (by omega)
          go_wp2_with (first | (at_builtin; refine wpList_append_own _ rfl _ _ 66 rfl w.heap.size 5 i0 (.int .u8 0) 1 1 Try.underlying66 hi hz0 hz1 hz2 rfl (by decide) _ _ _ rfl (hown.alloc _) ⟨wr.heap.size, 0, none⟩ 1 1 [.int .u8 92] rfl rfl (cell_one_new _ _ _) (by intro u hu; simp at hu; subst hu; rfl) (by have := hLen.out; unfold maxLen; omega) (by have := hLen.out; omega) (by simp; omega) ?_; intro v2 w2 hown2 hgrow _; have hB2 := (hB.alloc (by omega) _).grown hgrow (by simp; omega) (owns_block hown); have hsz2 := hB2.size; clear hgrow hown hB) | (at_builtin; refine wpList_append_own _ rfl _ _ 66 rfl w.heap.size 5 i0 (.int .u8 0) 1 1 Try.underlying66 hi hz0 hz1 hz2 rfl (by decide) _ _ _ rfl (hown2.alloc _) ⟨w2.heap.size, 0, none⟩ 1 1 [.int .u8 (n : Int)] rfl rfl (cell_one_new _ _ _) (by intro u hu; simp at hu; subst hu; rfl) (by have := hLen.out; unfold maxLen; omega) (by have := hLen.out; omega) (by simp; omega) ?_; intro v3 w3 hown3 hgrow3 _))
          have hB3 := (hB2.alloc (by omega) _).grown hgrow3 (by simp; omega) (owns_block hown2)
          clear hgrow3 hown2 hB2
          go_wp2
          go_roundw
          case rel => exact ⟨k + 1, by omega, by go_num, by rw [HM.out, List.length_append, byteVals_app]; rw [List.append_assoc] at hown3; exact hown3, hB3⟩
          case measure => simp [intOf]; omega
        · clear hp
          have q1 : (((n : Int)) != 40) = true := by rw [bne_iff_ne]; omega
          have q2 : (((n : Int)) != 41) = true := by rw [bne_iff_ne]; omega
          have q3 : (((n : Int)) != 123) = true := by rw [bne_iff_ne]; omega
          have q4 : (((n : Int)) != 125) = true := by rw [bne_iff_ne]; omega
          have r1 : (((48 : Int)) ≤ (n : Int)) = True := eq_true (by omega)
          have r2 : ((n : Int) ≤ (57 : Int)) = False := eq_false (by omega)
          have r3 : (((97 : Int)) ≤ (n : Int)) = False := eq_false (by omega)
          have r4 : ((n : Int) ≤ (122 : Int)) = True := eq_true (by omega)
          have r5 : (((65 : Int)) ≤ (n : Int)) = True := eq_true (by omega)
          have r6 : ((n : Int) ≤ (90 : Int)) = False := eq_false (by omega)
          go_wp2_with (first | (at_builtin; refine wpList_append_own _ rfl _ _ 66 rfl w.heap.size 5 i0 (.int .u8 0) 1 1 Try.underlying66 hi hz0 hz1 hz2 rfl (by decide) _ _ _ rfl (hown.alloc _) ⟨wr.heap.size, 0, none⟩ 1 1 [.int .u8 92] rfl rfl (cell_one_new _ _ _) (by intro u hu; simp at hu; subst hu; rfl) (by have := hLen.out; unfold maxLen; omega) (by have := hLen.out; omega) (by simp; omega) ?_; intro v2 w2 hown2 hgrow _; have hB2 := (hB.alloc (by omega) _).grown hgrow (by simp; omega) (owns_block hown); have hsz2 := hB2.size; clear hgrow hown hB) | (at_builtin; refine wpList_append_own _ rfl _ _ 66 rfl w.heap.size 5 i0 (.int .u8 0) 1 1 Try.underlying66 hi hz0 hz1 hz2 rfl (by decide) _ _ _ rfl (hown2.alloc _) ⟨w2.heap.size, 0, none⟩ 1 1 [.int .u8 (n : Int)] rfl rfl (cell_one_new _ _ _) (by intro u hu; simp at hu; subst hu; rfl) (by have := hLen.out; unfold maxLen; omega) (by have := hLen.out; omega) (by simp; omega) ?_; intro v3 w3 hown3 hgrow3 _))
          have hB3 := (hB2.alloc (by omega) _).grown hgrow3 (by simp; omega) (owns_block hown2)
          clear hgrow3 hown2 hB2
          go_wp2
          go_roundw
          case rel => exact ⟨k + 1, by omega, by go_num, by rw [HM.out, List.length_append, byteVals_app]; rw [List.append_assoc] at hown3; exact hown3, hB3⟩
          case measure => simp [intOf]; omega
        · clear hp
          have q1 : ((124 : Int) != 40) = true := by rw [bne_iff_ne]; omega
          have q2 : ((124 : Int) != 41) = true := by rw [bne_iff_ne]; omega
          have q3 : ((124 : Int) != 123) = true := by rw [bne_iff_ne]; omega
          have q4 : ((124 : Int) != 125) = true := by rw [bne_iff_ne]; omega
          go_wp2_with (first | (at_builtin; refine wpList_append_own _ rfl _ _ 66 rfl w.heap.size 5 i0 (.int .u8 0) 1 1 Try.underlying66 hi hz0 hz1 hz2 rfl (by decide) _ _ _ rfl (hown.alloc _) ⟨wr.heap.size, 0, none⟩ 1 1 [.int .u8 92] rfl rfl (cell_one_new _ _ _) (by intro u hu; simp at hu; subst hu; rfl) (by have := hLen.out; unfold maxLen; omega) (by have := hLen.out; omega) (by simp; omega) ?_; intro v2 w2 hown2 hgrow _; have hB2 := (hB.alloc (by omega) _).grown hgrow (by simp; omega) (owns_block hown); have hsz2 := hB2.size; clear hgrow hown hB) | (at_builtin; refine wpList_append_own _ rfl _ _ 66 rfl w.heap.size 5 i0 (.int .u8 0) 1 1 Try.underlying66 hi hz0 hz1 hz2 rfl (by decide) _ _ _ rfl (hown2.alloc _) ⟨w2.heap.size, 0, none⟩ 1 1 [.int .u8 124] rfl rfl (cell_one_new _ _ _) (by intro u hu; simp at hu; subst hu; rfl) (by have := hLen.out; unfold maxLen; omega) (by have := hLen.out; omega) (by simp; omega) ?_; intro v3 w3 hown3 hgrow3 _))
          have hB3 := (hB2.alloc (by omega) _).grown hgrow3 (by simp; omega) (owns_block hown2)
          clear hgrow3 hown2 hB2
          go_wp2
          go_roundw
          case rel => exact ⟨k + 1, by omega, by go_num, by rw [HM.out, List.length_append, byteVals_app]; rw [List.append_assoc] at hown3; exact hown3, hB3⟩
          case measure => simp [intOf]; omega
        · clear hp
          have q1 : (((n : Int)) != 40) = true := by rw [bne_iff_ne]; omega
          have q2 : (((n : Int)) != 41) = true := by rw [bne_iff_ne]; omega
          have q3 : (((n : Int)) != 123) = true := by rw [bne_iff_ne]; omega
          have q4 : (((n : Int)) != 125) = true := by rw [bne_iff_ne]; omega
          have r1 : (((48 : Int)) ≤ (n : Int)) = True := eq_true (by omega)
          have r2 : ((n : Int) ≤ (57 : Int)) = False := eq_false (by omega)
          have r3 : (((97 : Int)) ≤ (n : Int)) = True := eq_true (by omega)
          have r4 : ((n : Int) ≤ (122 : Int)) = False := eq_false (by omega)
          have r5 : (((65 : Int)) ≤ (n : Int)) = True := eq_true (by omega)
          have r6 : ((n : Int) ≤ (90 : Int)) = False := eq_false (by omega)
          go_wp2_with (first | (at_builtin; refine wpList_append_own _ rfl _ _ 66 rfl w.heap.size 5 i0 (.int .u8 0) 1 1 Try.underlying66 hi hz0 hz1 hz2 rfl (by decide) _ _ _ rfl (hown.alloc _) ⟨wr.heap.size, 0, none⟩ 1 1 [.int .u8 92] rfl rfl (cell_one_new _ _ _) (by intro u hu; simp at hu; subst hu; rfl) (by have := hLen.out; unfold maxLen; omega) (by have := hLen.out; omega) (by simp; omega) ?_; intro v2 w2 hown2 hgrow _; have hB2 := (hB.alloc (by omega) _).grown hgrow (by simp; omega) (owns_block hown); have hsz2 := hB2.size; clear hgrow hown hB) | (at_builtin; refine wpList_append_own _ rfl _ _ 66 rfl w.heap.size 5 i0 (.int .u8 0) 1 1 Try.underlying66 hi hz0 hz1 hz2 rfl (by decide) _ _ _ rfl (hown2.alloc _) ⟨w2.heap.size, 0, none⟩ 1 1 [.int .u8 (n : Int)] rfl rfl (cell_one_new _ _ _) (by intro u hu; simp at hu; subst hu; rfl) (by have := hLen.out; unfold maxLen; omega) (by have := hLen.out; omega) (by simp; omega) ?_; intro v3 w3 hown3 hgrow3 _))
          have hB3 := (hB2.alloc (by omega) _).grown hgrow3 (by simp; omega) (owns_block hown2)
          clear hgrow3 hown2 hB2
          go_wp2
          go_roundw
          case rel => exact ⟨k + 1, by omega, by go_num, by rw [HM.out, List.length_append, byteVals_app]; rw [List.append_assoc] at hown3; exact hown3, hB3⟩
          case measure => simp [intOf]; omega
    · obtain rfl : k = s.size := by omega
      have htk : (bytesN s).take s.size = bytesN s := List.take_of_length_le (by rw [bytesN_len]; exact Nat.le_refl _)
      rw [htk] at hown
      have hconv := conv_owned hown
      have hk : ¬ (s.size : Int) < (s.size : Int) := by omega
      go_wp2
      go_ret
      exact ⟨rfl, hB⟩
end Go.Proofs.Ytooanbbnjiogaaa
