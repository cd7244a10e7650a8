/- scan, the program's: strings.Clone, strings.TrimRight; upTo, Line, Word. -/
import Derived.Test.YtcfbmdelgfkfeaaDoorPn
import Derived.Shelf.Strconv.Clone
import Derived.Shelf.Strings.SlTrimAscii
namespace Go.Proofs.YtcfbmdelgfkfeaaDoor
open Go.RowKit Go.Shelf
open scanP
namespace prg

def lays316_ren : Go.Shelf.Ren := ⟨fun | 316 => 34 | n => n, fun | 37 => 38 | 127 => 54 | n => n, fun | n => n⟩
theorem lays316 : Go.Proofs.LaysM.n316 Tryd.prog lays316_ren := {
  mixed := by kernel_rfl
  f316 := Tryd.func34.trans (congrArg some (by kernel_rfl))
  t0 := Tryd.underlying0
  a0 := Tryd.isAgg0
  z0 := Tryd.sizeOf0
  v0 := Tryd.zeroValue0
  t3 := Tryd.underlying3
  a3 := Tryd.isAgg3
  z3 := Tryd.sizeOf3
  v3 := Tryd.zeroValue3
  t4 := Tryd.underlying4
  a4 := Tryd.isAgg4
  z4 := Tryd.sizeOf4
  v4 := Tryd.zeroValue4
  t9 := Tryd.underlying9
  a9 := Tryd.isAgg9
  z9 := Tryd.sizeOf9
  v9 := Tryd.zeroValue9
  t37 := Tryd.underlying38
  a37 := Tryd.isAgg38
  z37 := Tryd.sizeOf38
  v37 := Tryd.zeroValue38
  t127 := Tryd.underlying54
  a127 := Tryd.isAgg54
  z127 := Tryd.sizeOf54
  v127 := Tryd.zeroValue54
  t5 := Tryd.underlying5
  a5 := Tryd.isAgg5
  z5 := Tryd.sizeOf5
  v5 := Tryd.zeroValue5
  i0 := by kernel_rfl
  i3 := by kernel_rfl
  i4 := by kernel_rfl
  i5 := by kernel_rfl
  i9 := by kernel_rfl
  i37 := by kernel_rfl
  i127 := by kernel_rfl }

theorem clone_any (s : ByteArray) (w : World) (hs : s.size ≤ 140737488355000) : Calls Tryd.prog 24 #[.string s] w fun e w' => e = .returned (.string s) ∧ Below w.heap.size w w' := by
  have H := hideT (fun w => Any.stringslite_Clone lays316 s w (by omega))
  go_enter Tryd.func24, Tryd.ntmps24
  go_wp2_with fail
  refine (H.out _).mono ?_
  rintro e w1 ⟨rfl, hb⟩
  have B := hideT hb
  clear hb
  go_wp2
  go_ret
  exact ⟨rfl, B.out⟩

/-- A text without blanks at its end. -/
theorem trim_take : ∀ (n : Nat) (l : List UInt8), n ≤ l.length → Lib.trimRightS (l.take n) [32, 9] = l.take (rtN n l)
  | 0, l, _ => by simp [Lib.trimRightS, rtN]
  | n + 1, l, h => by
    have hl : n < l.length := by omega
    have e1 : l.take (n + 1) = l.take n ++ [l[n]] := List.take_succ_eq_append_getElem hl
    have e2 : l[n]? = some l[n] := List.getElem?_eq_getElem hl
    unfold rtN
    rw [e2]
    by_cases hb : l[n] = 32 ∨ l[n] = 9
    · rw [if_pos (hb.imp (fun h => by rw [h]) (fun h => by rw [h])), ← trim_take n l (by omega), e1]
      unfold Lib.trimRightS
      rw [List.reverse_append, List.reverse_singleton, List.singleton_append, List.dropWhile_cons, if_pos (by rcases hb with h | h <;> rw [h] <;> rfl)]
    · rw [if_neg (by rintro (h | h); exact hb (.inl (Option.some.inj h)); exact hb (.inr (Option.some.inj h))), e1]
      unfold Lib.trimRightS
      have hc : ([32, 9] : List UInt8).contains l[n] = false := by
        simp only [List.contains_cons, List.contains_nil, Bool.or_false, Bool.or_eq_false_iff, beq_eq_false_iff_ne]
        exact ⟨fun h => hb (.inl h), fun h => hb (.inr h)⟩
      rw [List.reverse_append, List.reverse_singleton, List.singleton_append, List.dropWhile_cons, if_neg (by rw [hc]; simp), List.reverse_cons, List.reverse_reverse]

theorem trim_any (s : ByteArray) (w : World) (hs : s.size ≤ 140737488355000) : Calls Tryd.prog 16 #[.string s, .string ⟨#[32, 9]⟩] w fun e w' => e = .returned (.string (bst (Lib.trimRightS s.data.toList [32, 9]))) ∧ Below w.heap.size w w' :=
  Any.strings_TrimRight_laid Tryd.lays162 (by kernel_rfl) s ⟨#[32, 9]⟩ w (by omega) (by decide) (ascii_of_all (by decide))

def upN (E : List UInt8) : List UInt8 → Nat
  | [] => 0
  | b :: r => if E.contains b then 0 else upN E r + 1
theorem up_step {E l : List UInt8} {k : Nat} (h : k < l.length) : upN E (l.drop k) = if E.contains l[k] then 0 else upN E (l.drop (k + 1)) + 1 := by
  rw [List.drop_eq_getElem_cons h]; rfl
theorem up_end {E l : List UInt8} {k : Nat} (h : l.length ≤ k) : upN E (l.drop k) = 0 := by rw [List.drop_of_length_le h]; rfl
theorem up_le (E : List UInt8) : ∀ l : List UInt8, upN E l ≤ l.length
  | [] => Nat.le_refl _
  | b :: r => by
    have h := up_le E r
    unfold upN
    split
    · omega
    · rw [List.length_cons]; omega
theorem up_ln : ∀ l : List UInt8, upN [10] l = lnN l
  | [] => rfl
  | b :: r => by
    unfold upN lnN
    rw [up_ln r]
    by_cases h : b = 10
    · rw [if_pos h, if_pos (by rw [h]; rfl)]
    · rw [if_neg h, if_neg (by simp [h])]
theorem up_wd : ∀ l : List UInt8, upN [10, 59] l = wdN l
  | [] => rfl
  | b :: r => by
    unfold upN wdN
    rw [up_wd r]
    by_cases h : b = 10 ∨ b = 59
    · rw [if_pos h, if_pos (by rcases h with h | h <;> rw [h] <;> rfl)]
    · rw [if_neg h, if_neg (by simp only [List.contains_cons, List.contains_nil, Bool.or_false, Bool.or_eq_true, beq_iff_eq]; exact h)]

set_option maxRecDepth 100000 in
set_option maxHeartbeats 1000000 in
theorem upTo_any (s E : ByteArray) (i : Int) (hs : s.size ≤ 140737488355000) (w : World) : Calls Tryd.prog 14 #[.string s, .int .i64 i, .string E] w fun e w' => e = .returned (.tuple #[.string (bst ((s.data.toList.drop (blanksN s.data.toList (insN s.size i))).take (upN E.data.toList (s.data.toList.drop (blanksN s.data.toList (insN s.size i)))))), .int .i64 ((blanksN s.data.toList (insN s.size i) + upN E.data.toList (s.data.toList.drop (blanksN s.data.toList (insN s.size i))) : Nat) : Int)]) ∧ Below w.heap.size w w' := by
  have hsz : s.data.toList.length = s.size := rfl
  have HI := hideT (blanks_doc s i hs)
  have hf0 := blanks_le s.data.toList (insN s.size i) (ins_le s.size i)
  rw [hsz] at hf0
  generalize blanksN s.data.toList (insN s.size i) = f0 at *
  obtain ⟨U, hU⟩ : ∃ U, U = upN E.data.toList (s.data.toList.drop f0) := ⟨_, rfl⟩
  have hUl : f0 + U ≤ s.size := by
    have h := up_le E.data.toList (s.data.toList.drop f0)
    rw [← hU, List.length_drop, hsz] at h
    omega
  rw [← hU]
  have HU := hideT hU
  clear hU
  have HB := hideT (fun (c : UInt8) w => (Tryd.strings_IndexByte E (c.toNat : Nat) w).mono fun e w' h => (show e = .returned (.int .i64 (Lib.indexByte E.data.toList c)) ∧ w' = w from ⟨by rw [h.1, Int.toNat_natCast]; simp, h.2⟩))
  have HC := hideT (fun w => clone_any (bst ((s.data.toList.drop f0).take U)) w (by rw [bst_size, List.length_take]; omega))
  have HX := hideT (ext_bst s f0 U)
  generalize bst ((s.data.toList.drop f0).take U) = st at *
  have b0 : (0 : Int) ≤ (f0 : Int) := by omega
  go_enter Tryd.func14, Tryd.ntmps14
  go_wp2_with fail
  refine (HI.out _).mono ?_
  rintro e w1 ⟨rfl, rfl⟩
  go_wp2_with fail
  go_loopw [9] (fun v wr => ∃ k : Nat, k ≤ U ∧ v = .int .i64 ((f0 : Int) + (k : Int)) ∧ Hid (k + upN E.data.toList (s.data.toList.drop (f0 + k)) = U) ∧ wr = w1) (fun v _ => f0 + U - (intOf v).toNat)
  case atStart => exact ⟨0, by omega, by simp, hideT (by rw [HU.out]; simp), rfl⟩
  case round =>
    obtain ⟨k, hk, rfl, HE, rfl⟩ := hrel
    by_cases hlt : f0 + k < s.size
    · have i1 : (f0 : Int) + (k : Int) < (s.size : Int) := by omega
      have i2 : (0 : Int) ≤ (f0 : Int) + (k : Int) := by omega
      have hst := up_step (E := E.data.toList) (l := s.data.toList) (k := f0 + k) hlt
      rw [dat_at s (f0 + k) hlt] at hst
      have HS := hideT hst
      clear hst
      cases hc : E.data.toList.contains (s[f0 + k]'hlt) with
      | false =>
        have HR := hideT (show k + 1 + upN E.data.toList (s.data.toList.drop (f0 + (k + 1))) = U by
          have h := HE.out
          rw [HS.out, hc] at h
          simp only [Bool.false_eq_true, if_false] at h
          rw [← Nat.add_assoc f0 k 1]
          omega)
        have q := idx_neg _ _ hc
        have hk2 : k + 1 ≤ U := by have := HR.out; omega
        clear hc HS HE
        go_wp2_with fail
        refine (HB.out _ _).mono ?_
        rintro e w2 ⟨rfl, rfl⟩
        go_wp2
        exact ⟨⟨k + 1, hk2, by congr 1, HR, by simp⟩, by simp [intOf]; omega⟩
      | true =>
        have hkU : k = U := by
          have h := HE.out
          rw [HS.out, hc] at h
          simpa using h
        have q := idx_pos _ _ hc
        clear hc HS HE
        subst hkU
        go_wp2_with fail
        refine (HB.out _ _).mono ?_
        rintro e w2 ⟨rfl, rfl⟩
        have hx := HX.out
        have s1 : (f0 : Int) ≤ (f0 : Int) + (k : Int) := by omega
        have s2 : (f0 : Int) + (k : Int) ≤ (s.size : Int) := by omega
        go_wp2_with fail
        refine (HC.out _).mono ?_
        rintro e w3 ⟨rfl, hb⟩
        have B := hideT hb
        clear hb
        go_wp2
        go_ret2
        exact ⟨by rw [Int.natCast_add]; rfl, B.out⟩
    · have hkU : k = U := by omega
      have i1 : ((f0 : Int) + (k : Int) < (s.size : Int)) = False := by rw [eq_iff_iff, iff_false]; omega
      subst hkU
      have hx := HX.out
      have s1 : (f0 : Int) ≤ (f0 : Int) + (k : Int) := by omega
      have s2 : (f0 : Int) + (k : Int) ≤ (s.size : Int) := by omega
      go_wp2_with fail
      refine (HC.out _).mono ?_
      rintro e w3 ⟨rfl, hb⟩
      have B := hideT hb
      clear hb
      go_wp2
      go_ret2
      exact ⟨by rw [Int.natCast_add]; rfl, B.out⟩

set_option maxRecDepth 100000 in
set_option maxHeartbeats 1000000 in
theorem line_doc (s : ByteArray) (i : Int) (hs : s.size ≤ 140737488355000) (w : World) : Calls Tryd.prog 5 #[.string s, .int .i64 i] w fun e w' => e = .returned (.tuple #[.string (bst (lineR s.data.toList (insN s.size i)).1), .int .i64 ((lineR s.data.toList (insN s.size i)).2 : Nat)]) ∧ Below w.heap.size w w' := by
  have h := fun w => upTo_any s ⟨#[10]⟩ i hs w
  simp only [up_ln] at h
  have H := hideT h
  clear h
  unfold lineR
  simp only
  generalize bst ((s.data.toList.drop (blanksN s.data.toList (insN s.size i))).take (lnN (s.data.toList.drop (blanksN s.data.toList (insN s.size i))))) = st at *
  generalize blanksN s.data.toList (insN s.size i) + lnN (s.data.toList.drop (blanksN s.data.toList (insN s.size i))) = z at *
  go_enter Tryd.func5, Tryd.ntmps5
  go_wp2_with fail
  refine (H.out _).mono ?_
  rintro e w1 ⟨rfl, hb⟩
  have B := hideT hb
  clear hb
  go_wp2
  go_ret2
  exact ⟨rfl, B.out⟩

set_option maxRecDepth 100000 in
set_option maxHeartbeats 1000000 in
theorem word_doc (s : ByteArray) (i : Int) (hs : s.size ≤ 140737488355000) (w : World) : Calls Tryd.prog 7 #[.string s, .int .i64 i] w fun e w' => e = .returned (.tuple #[.string (bst (wordR s.data.toList (insN s.size i)).1), .int .i64 ((wordR s.data.toList (insN s.size i)).2 : Nat)]) ∧ Below w.heap.size w w' := by
  have hsz : s.data.toList.length = s.size := rfl
  have h := fun w => upTo_any s ⟨#[10, 59]⟩ i hs w
  simp only [up_wd] at h
  have H := hideT h
  clear h
  unfold wordR
  simp only
  generalize blanksN s.data.toList (insN s.size i) = f0 at *
  have hwl : wdN (s.data.toList.drop f0) ≤ (s.data.toList.drop f0).length := Nat.le_trans (wd_le _) (ln_le _)
  have ht := fun w => trim_any (bst ((s.data.toList.drop f0).take (wdN (s.data.toList.drop f0)))) w (by rw [bst_size, List.length_take, List.length_drop, hsz]; omega)
  simp only [bst_list, trim_take _ _ hwl] at ht
  have HT := hideT ht
  clear ht hwl
  generalize bst ((s.data.toList.drop f0).take (wdN (s.data.toList.drop f0))) = st at *
  generalize bst ((s.data.toList.drop f0).take (rtN (wdN (s.data.toList.drop f0)) (s.data.toList.drop f0))) = st2 at *
  generalize f0 + wdN (s.data.toList.drop f0) = z at *
  go_enter Tryd.func7, Tryd.ntmps7
  go_wp2_with fail
  refine (H.out _).mono ?_
  rintro e w1 ⟨rfl, hb⟩
  have B := hideT hb
  clear hb
  go_wp2_with fail
  refine (HT.out _).mono ?_
  rintro e w2 ⟨rfl, hb2⟩
  have B2 := hideT (B.out.trans (hb2.mono B.out.size))
  clear hb2
  go_wp2
  go_ret2
  exact ⟨rfl, B2.out⟩

end prg
end Go.Proofs.YtcfbmdelgfkfeaaDoor
