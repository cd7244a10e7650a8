/- scan: the walk of ScanLines. -/
import Derived.Test.YtcfbmdelgfkfeaaDoorSk
import Derived.Test.YtcfbmdelgfkfeaaDoorPo
namespace Go.Proofs.YtcfbmdelgfkfeaaDoor
open Go.RowKit
open scanP

theorem wrap_in (x : Int) (h1 : -9223372036854775808 ≤ x) (h2 : x ≤ 9223372036854775807) : wrap64 x = x := by
  unfold wrap64
  omega
theorem blk_rep (n : Nat) (r : List UInt8) (hr : ∀ b, r.head? = some b → b ≠ 32 ∧ b ≠ 9) : blkN (List.replicate n 32 ++ r) = n := by
  induction n with
  | zero =>
    cases r with
    | nil => rfl
    | cons b q =>
      have := hr b rfl
      simp [blkN, this]
  | succ n ih => simp [List.replicate_succ, blkN, ih]
theorem text_put (n : Nat) (l r : List UInt8) : textR (List.replicate n 32 ++ (92 :: 10 :: (putL l ++ 10 :: r))) 0 = (l ++ [10], n + 2 + (putL l).length + 1, 0) := by
  have hb : blanksN (List.replicate n 32 ++ (92 :: 10 :: (putL l ++ 10 :: r))) 0 = n := by
    unfold blanksN
    rw [List.drop_zero, blk_rep n _ (by intro b h; cases h; decide), Nat.zero_add]
  unfold textR
  simp only [hb]
  rw [List.drop_left' (by simp)]
  simp only [and_self, if_true]
  rw [if_neg (by simp), tx_put]
  simp
theorem put_snoc (l : List UInt8) (b : UInt8) : putL (l ++ [b]) = putL l ++ (if b = 10 ∨ b = 92 then [92, b] else [b]) := by simp [putL]
theorem put_le (l : List UInt8) : (putL l).length ≤ 2 * l.length := by
  induction l with
  | nil => simp [putL]
  | cons b r ih =>
    have e : putL (b :: r) = (if b = 10 ∨ b = 92 then [92, b] else [b]) ++ putL r := by simp [putL]
    rw [e, List.length_append, List.length_cons]
    split <;> simp <;> omega

theorem front_snoc (k : Nat) : bst (List.replicate k 32) ++ ⟨#[32]⟩ = bst (List.replicate (k + 1) 32) := by
  rw [show (⟨#[32]⟩ : ByteArray) = bst [32] from rfl, bst_app, List.replicate_succ']
theorem ins_zero (n : Nat) : insN n 0 = 0 := by simp [insN]
theorem lift {P : Program} {f : FuncId} {args : Array Value} {w : World} {v : Value} (h : Calls P f args w fun e w' => e = .returned v ∧ w' = w) : Calls P f args w fun e w' => e = .returned v ∧ Below w.heap.size w w' := h.mono (fun _ _ h => ⟨h.1, by rw [h.2]; exact Below.refl _ _⟩)

set_option maxRecDepth 100000 in
set_option maxHeartbeats 4000000 in
theorem lines_walk (s tl : ByteArray) (n : Nat) (hn : n ≤ 255) (hs : s.size + tl.size ≤ 1048576) (w : World) : Calls Tryd.prog 4 #[.string s, .string tl, .int .u8 (n : Nat)] w fun e w' => e = .returned (.bool true) ∧ Below w.heap.size w w' := by
  have AW := hideT awake_any
  obtain ⟨m, hm⟩ : ∃ m, m = n % 4 := ⟨_, rfl⟩
  have hm4 : m < 4 := by omega
  have e0 : (n : Int) % 4 = (m : Int) := by omega
  have H0 := hideT e0
  clear hm e0
  go_enter Tryd.func4, Tryd.ntmps4
  go_wp2_with fail
  refine (AW.out _).mono ?_
  rintro e w1 ⟨rfl, hb1⟩
  have B1 := hideT hb1
  clear hb1
  go_wp2_with fail
  go_loopw [7, 23] (fun fv v wr => ∃ k : Nat, k ≤ m ∧ fv = .string (bst (List.replicate k 32)) ∧ v = .int .u8 k ∧ wr = w1) (fun _ v _ => m - (intOf v).toNat)
  case atStart => exact ⟨0, by omega, rfl, rfl, rfl⟩
  case round =>
    obtain ⟨k, hk, rfl, rfl, rfl⟩ := hrel
    by_cases hlt : k < m
    · have i1 : (k : Int) < (n : Int) % 4 := by have := H0.out; omega
      have i3 : IntKind.u8.wrap ((k : Int) + 1) = (k : Int) + 1 := by rw [IntKind.wrap_u8]; omega
      have hz : (bst (List.replicate k 32)).size = k := by rw [bst_size]; simp
      have q1 : (9223372036854775807 < (bst (List.replicate k 32)).size + 1) = False := by rw [eq_iff_iff, iff_false, hz]; omega
      have hap := front_snoc k
      clear hz
      generalize hF : bst (List.replicate (k + 1) 32) = fs2 at *
      have HF := hideT hF
      clear hF
      generalize bst (List.replicate k 32) = fs at *
      go_wp2
      exact ⟨⟨k + 1, by omega, by rw [HF.out], by go_num, by simp⟩, by simp [intOf]; omega⟩
    · obtain rfl : k = m := by omega
      have i1 : ((k : Int) < (n : Int) % 4) = False := by rw [eq_iff_iff, iff_false]; have := H0.out; omega
      go_wp2_with fail
      clear i1
      go_loopw [8, 9] (fun pv v wr2 => ∃ j : Nat, j ≤ s.size ∧ pv = .string (bst (putL (s.data.toList.take j))) ∧ v = .int .i64 j ∧ wr2 = wr) (fun _ v _ => s.size - (intOf v).toNat)
      case atStart => exact ⟨0, by omega, rfl, rfl, rfl⟩
      case round =>
        obtain ⟨j, hj, rfl, rfl, rfl⟩ := hrel
        by_cases hlt : j < s.size
        · have i1 : (j : Int) < (s.size : Int) := by omega
          have i2 : (0 : Int) ≤ (j : Int) := by omega
          have i3 : (j : Int) + 1 ≤ (s.size : Int) := by omega
          have i4 : (j : Int) ≤ (j : Int) + 1 := by omega
          have hx := ext_one s j hlt
          by_cases h10 : s[j]'hlt = 10
          · have c1 := beq_val (z := 10) rfl h10
            have hap : bst (putL (s.data.toList.take j)) ++ ⟨#[92]⟩ = bst (putL (s.data.toList.take j) ++ [92]) := by rw [show (⟨#[92]⟩ : ByteArray) = bst [92] from rfl, bst_app]
            have hap2 : bst (putL (s.data.toList.take j) ++ [92]) ++ bst [s[j]'hlt] = bst (putL (s.data.toList.take (j + 1))) := by
              rw [bst_app, take_snocB s j hlt, put_snoc, if_pos (.inl h10), List.append_assoc]
              rfl
            have z1 : (bst (putL (s.data.toList.take j))).size ≤ 2097152 := by rw [bst_size]; have := put_le (s.data.toList.take j); rw [List.length_take] at this; have hsz : s.data.toList.length = s.size := rfl; omega
            have z2 : (bst (putL (s.data.toList.take j) ++ [92])).size ≤ 2097153 := by rw [bst_size] at z1 ⊢; rw [List.length_append]; simp; omega
            have z3 : (bst [s[j]'hlt]).size = 1 := by rw [bst_size]; rfl
            have q1 : (9223372036854775807 < (bst (putL (s.data.toList.take j))).size + 1) = False := by rw [eq_iff_iff, iff_false]; omega
            have q2 : (9223372036854775807 < (bst (putL (s.data.toList.take j) ++ [92])).size + (bst [s[j]'hlt]).size) = False := by rw [eq_iff_iff, iff_false]; omega
            clear z1 z2 z3 h10
            generalize hF : bst (putL (s.data.toList.take (j + 1))) = f3 at *
            have HF := hideT hF
            clear hF
            generalize bst (putL (s.data.toList.take j) ++ [92]) = f2 at *
            generalize bst (putL (s.data.toList.take j)) = f1 at *
            generalize bst [s[j]'hlt] = g1 at *
            go_wp2
            exact ⟨⟨j + 1, by omega, by rw [HF.out], by go_num, by simp⟩, by simp [intOf]; omega⟩
          · have c1 := bne_val (z := 10) rfl h10
            by_cases h92 : s[j]'hlt = 92
            · have c2 := beq_val (z := 92) rfl h92
              have hap : bst (putL (s.data.toList.take j)) ++ ⟨#[92]⟩ = bst (putL (s.data.toList.take j) ++ [92]) := by rw [show (⟨#[92]⟩ : ByteArray) = bst [92] from rfl, bst_app]
              have hap2 : bst (putL (s.data.toList.take j) ++ [92]) ++ bst [s[j]'hlt] = bst (putL (s.data.toList.take (j + 1))) := by
                rw [bst_app, take_snocB s j hlt, put_snoc, if_pos (.inr h92), List.append_assoc]
                rfl
              have z1 : (bst (putL (s.data.toList.take j))).size ≤ 2097152 := by rw [bst_size]; have := put_le (s.data.toList.take j); rw [List.length_take] at this; have hsz : s.data.toList.length = s.size := rfl; omega
              have z2 : (bst (putL (s.data.toList.take j) ++ [92])).size ≤ 2097153 := by rw [bst_size] at z1 ⊢; rw [List.length_append]; simp; omega
              have z3 : (bst [s[j]'hlt]).size = 1 := by rw [bst_size]; rfl
              have q1 : (9223372036854775807 < (bst (putL (s.data.toList.take j))).size + 1) = False := by rw [eq_iff_iff, iff_false]; omega
              have q2 : (9223372036854775807 < (bst (putL (s.data.toList.take j) ++ [92])).size + (bst [s[j]'hlt]).size) = False := by rw [eq_iff_iff, iff_false]; omega
              clear z1 z2 z3 h10 h92
              generalize hF : bst (putL (s.data.toList.take (j + 1))) = f3 at *
              have HF := hideT hF
              clear hF
              generalize bst (putL (s.data.toList.take j) ++ [92]) = f2 at *
              generalize bst (putL (s.data.toList.take j)) = f1 at *
              generalize bst [s[j]'hlt] = g1 at *
              go_wp2
              exact ⟨⟨j + 1, by omega, by rw [HF.out], by go_num, by simp⟩, by simp [intOf]; omega⟩
            · have c2 := bne_val (z := 92) rfl h92
              have hap2 : bst (putL (s.data.toList.take j)) ++ bst [s[j]'hlt] = bst (putL (s.data.toList.take (j + 1))) := by
                rw [bst_app, take_snocB s j hlt, put_snoc, if_neg (by rintro (h | h); exact h10 h; exact h92 h)]
              have z1 : (bst (putL (s.data.toList.take j))).size ≤ 2097152 := by rw [bst_size]; have := put_le (s.data.toList.take j); rw [List.length_take] at this; have hsz : s.data.toList.length = s.size := rfl; omega
              have z3 : (bst [s[j]'hlt]).size = 1 := by rw [bst_size]; rfl
              have q2 : (9223372036854775807 < (bst (putL (s.data.toList.take j))).size + (bst [s[j]'hlt]).size) = False := by rw [eq_iff_iff, iff_false]; omega
              clear z1 z3 h10 h92
              generalize hF : bst (putL (s.data.toList.take (j + 1))) = f3 at *
              have HF := hideT hF
              clear hF
              generalize bst (putL (s.data.toList.take j)) = f1 at *
              generalize bst [s[j]'hlt] = g1 at *
              go_wp2
              exact ⟨⟨j + 1, by omega, by rw [HF.out], by go_num, by simp⟩, by simp [intOf]; omega⟩
        · obtain rfl : j = s.size := by omega
          have i1 : ((s.size : Int) < (s.size : Int)) = False := by rw [eq_iff_iff, iff_false]; omega
          rw [List.take_of_length_le (show s.data.toList.length ≤ s.size from Nat.le_refl _)]
          have hsz : s.data.toList.length = s.size := rfl
          have htz : tl.data.toList.length = tl.size := rfl
          have hpl := put_le s.data.toList
          obtain ⟨A1, hA1⟩ : ∃ A, A = bst (List.replicate k 32) := ⟨_, rfl⟩
          obtain ⟨A2, hA2⟩ : ∃ A, A = bst (List.replicate k 32 ++ [92, 10]) := ⟨_, rfl⟩
          obtain ⟨PU, hPU⟩ : ∃ A, A = bst (putL s.data.toList) := ⟨_, rfl⟩
          obtain ⟨A3, hA3⟩ : ∃ A, A = bst (List.replicate k 32 ++ [92, 10] ++ putL s.data.toList) := ⟨_, rfl⟩
          obtain ⟨A4, hA4⟩ : ∃ A, A = bst (List.replicate k 32 ++ [92, 10] ++ putL s.data.toList ++ [10]) := ⟨_, rfl⟩
          obtain ⟨A5, hA5⟩ : ∃ A, A = bst (List.replicate k 32 ++ [92, 10] ++ putL s.data.toList ++ [10] ++ tl.data.toList) := ⟨_, rfl⟩
          obtain ⟨ST, hST⟩ : ∃ A, A = bst (s.data.toList ++ [10]) := ⟨_, rfl⟩
          have t1 : A1 ++ ⟨#[92, 10]⟩ = A2 := by rw [hA1, hA2, show (⟨#[92, 10]⟩ : ByteArray) = bst [92, 10] from rfl, bst_app]
          have t2 : A2 ++ PU = A3 := by rw [hA2, hPU, hA3, bst_app]
          have t3 : A3 ++ ⟨#[10]⟩ = A4 := by rw [hA3, hA4, show (⟨#[10]⟩ : ByteArray) = bst [10] from rfl, bst_app]
          have t4 : A4 ++ tl = A5 := by
            have h := bst_app (List.replicate k 32 ++ [92, 10] ++ putL s.data.toList ++ [10]) tl.data.toList
            rw [bst_data] at h
            rw [hA4, hA5, h]
          have t5 : s ++ ⟨#[10]⟩ = ST := by
            have h := bst_app s.data.toList [10]
            rw [bst_data] at h
            rw [hST, ← h]
            rfl
          have z1 : A1.size = k := by rw [hA1, bst_size]; simp
          have z2 : A2.size = k + 2 := by rw [hA2, bst_size]; simp
          have zp : PU.size = (putL s.data.toList).length := by rw [hPU, bst_size]
          have z3 : A3.size = k + 2 + (putL s.data.toList).length := by rw [hA3, bst_size]; simp; omega
          have z4 : A4.size = k + 2 + (putL s.data.toList).length + 1 := by rw [hA4, bst_size]; simp; omega
          have z5 : A5.size = k + 2 + (putL s.data.toList).length + 1 + tl.size := by rw [hA5, bst_size, List.length_append, htz]; simp; omega
          have q1 : (9223372036854775807 < A1.size + 2) = False := by rw [eq_iff_iff, iff_false]; omega
          have q2 : (9223372036854775807 < A2.size + PU.size) = False := by rw [eq_iff_iff, iff_false]; omega
          have q3 : (9223372036854775807 < A3.size + 1) = False := by rw [eq_iff_iff, iff_false]; omega
          have q4 : (9223372036854775807 < A4.size + tl.size) = False := by rw [eq_iff_iff, iff_false]; omega
          have q5 : (9223372036854775807 < s.size + 1) = False := by rw [eq_iff_iff, iff_false]; omega
          have hT : textR A5.data.toList (insN A5.size 0) = (s.data.toList ++ [10], A4.size, 0) := by
            rw [ins_zero, hA5, bst_list, z4]
            have h := text_put k s.data.toList tl.data.toList
            rw [show List.replicate k 32 ++ [92, 10] ++ putL s.data.toList ++ [10] ++ tl.data.toList = List.replicate k 32 ++ (92 :: 10 :: (putL s.data.toList ++ 10 :: tl.data.toList)) by simp]
            exact h
          have T1 := fun w => prg.text_doc A5 0 (by omega) w
          rw [hT] at T1
          simp only [← hST] at T1
          have n1 : (A5.size : Int) - (tl.size : Int) = (A4.size : Int) := by omega
          have n2 : wrap64 (A4.size : Int) = (A4.size : Int) := wrap_in _ (by omega) (by omega)
          have HT1 := hideT T1
          rw [← hA1, ← hPU]
          clear T1 hT hA1 hA2 hA3 hA4 hA5 hPU hST z1 z2 zp z3 z4 z5 hpl hsz
          obtain ⟨f0, hf0⟩ : ∃ f, f = blanksN tl.data.toList 0 := ⟨_, rfl⟩
          have hf1 := blanks_le tl.data.toList 0 (by omega)
          have L1 := fun w => prg.line_doc tl 0 (by omega) w
          have L2 := fun w => lift (prg.blanks_doc tl 0 (by omega) w)
          have L3 := fun w => prg.word_doc tl 0 (by omega) w
          rw [ins_zero] at L1 L2 L3
          unfold lineR at L1
          unfold wordR at L3
          simp only at L1 L3
          rw [← hf0] at L1 L2 L3 hf1
          have g1 := ln_le (tl.data.toList.drop f0)
          have g2 := wd_le (tl.data.toList.drop f0)
          have g3 := rt_le (wdN (tl.data.toList.drop f0)) (tl.data.toList.drop f0)
          have g4 := ln_at (tl.data.toList.drop f0)
          have x1 := ext_bst tl f0 (lnN (tl.data.toList.drop f0))
          have x2 := ext_bst tl f0 (rtN (wdN (tl.data.toList.drop f0)) (tl.data.toList.drop f0))
          rw [List.length_drop, htz] at g1 g4
          have x3 : (bst ((tl.data.toList.drop f0).take (rtN (wdN (tl.data.toList.drop f0)) (tl.data.toList.drop f0)))).size = rtN (wdN (tl.data.toList.drop f0)) (tl.data.toList.drop f0) := by
            rw [bst_size, List.length_take, List.length_drop, htz]
            omega
          rw [List.getElem?_drop] at g4
          generalize rtN (wdN (tl.data.toList.drop f0)) (tl.data.toList.drop f0) = R at *
          generalize wdN (tl.data.toList.drop f0) = W at *
          generalize lnN (tl.data.toList.drop f0) = L at *
          generalize bst ((tl.data.toList.drop f0).take L) = ls at *
          generalize bst ((tl.data.toList.drop f0).take R) = ws at *
          rw [htz] at hf1
          have HL1 := hideT L1
          have HL2 := hideT L2
          have HL3 := hideT L3
          have HG4 := hideT g4
          clear L1 L2 L3 hf0 g4
          go_wp2_with fail
          refine (HT1.out _).mono ?_
          rintro e w2 ⟨rfl, hb2⟩
          have B2 := hideT (B1.out.trans (hb2.mono B1.out.size))
          clear hb2 HT1
          go_wp2_with fail
          refine (HL1.out _).mono ?_
          rintro e w3 ⟨rfl, hb3⟩
          have B3 := hideT (B2.out.trans (hb3.mono B2.out.size))
          clear hb3 HL1 n1 n2 t1 t2 t3 t4 t5 q1 q2 q3 q4 q5
          go_wp2_with fail
          refine (HL2.out _).mono ?_
          rintro e w4 ⟨rfl, hb4⟩
          have B4 := hideT (B3.out.trans (hb4.mono B3.out.size))
          clear hb4 HL2
          have y0 : ((f0 : Int) < 0) = False := by rw [eq_iff_iff, iff_false]; omega
          have y1 : ((f0 : Int) + (L : Int) < (f0 : Int)) = False := by rw [eq_iff_iff, iff_false]; omega
          have y2 : ((tl.size : Int) < (f0 : Int) + (L : Int)) = False := by rw [eq_iff_iff, iff_false]; omega
          have y3 : (f0 : Int) ≤ (f0 : Int) + (L : Int) := by omega
          have y4 : (f0 : Int) + (L : Int) ≤ (tl.size : Int) := by omega
          have y5 : (0 : Int) ≤ (f0 : Int) := by omega
          have y6 : (0 : Int) ≤ (f0 : Int) + (L : Int) := by omega
          have y7 : (f0 : Int) ≤ (tl.size : Int) := by omega
          by_cases hel : f0 + L < tl.size
          · have y8 : (f0 : Int) + (L : Int) < (tl.size : Int) := by omega
            have y9 : (((tl[f0 + L]'hel).toNat : Int) != 10) = false := by
              have h := HG4.out (by omega)
              rw [List.getElem?_eq_getElem (show f0 + L < tl.data.toList.length from hel)] at h
              exact eq_val (z := 10) rfl (Option.some.inj h)
            go_wp2_with fail
            refine (HL3.out _).mono ?_
            rintro e w5 ⟨rfl, hb5⟩
            have B5 := hideT (B4.out.trans (hb5.mono B4.out.size))
            clear hb5 HL3
            have u1 : (f0 : Int) + (W : Int) ≤ (f0 : Int) + (L : Int) := by omega
            have u2 : (R : Int) ≤ (f0 : Int) + (W : Int) - (f0 : Int) := by omega
            have u3 : (f0 : Int) ≤ (f0 : Int) + (R : Int) := by omega
            have u4 : (f0 : Int) + (R : Int) ≤ (tl.size : Int) := by omega
            go_wp2
            go_ret
            exact ⟨rfl, B5.out⟩
          · have y8 : ((f0 : Int) + (L : Int) < (tl.size : Int)) = False := by rw [eq_iff_iff, iff_false]; omega
            go_wp2_with fail
            refine (HL3.out _).mono ?_
            rintro e w5 ⟨rfl, hb5⟩
            have B5 := hideT (B4.out.trans (hb5.mono B4.out.size))
            clear hb5 HL3
            have u1 : (f0 : Int) + (W : Int) ≤ (f0 : Int) + (L : Int) := by omega
            have u2 : (R : Int) ≤ (f0 : Int) + (W : Int) - (f0 : Int) := by omega
            have u3 : (f0 : Int) ≤ (f0 : Int) + (R : Int) := by omega
            have u4 : (f0 : Int) + (R : Int) ≤ (tl.size : Int) := by omega
            go_wp2
            go_ret
            exact ⟨rfl, B5.out⟩

end Go.Proofs.YtcfbmdelgfkfeaaDoor
