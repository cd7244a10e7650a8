/- scan, the program's: within, isBlank, isDigit. -/
import Derived.Test.YtjfkhlmoppbbgaaGreatDoorKSa
import Derived.Test.YtjfkhlmoppbbgaaGreatDoorKShelf
import Derived.Lib.IndexAny
import Derived.Shelf.Strconv.Clone
import Derived.Shelf.Strings.SlTrimAscii
namespace Go.Proofs.YtjfkhlmoppbbgaaGreatDoor
open Go.RowKit
open scanP
namespace prg

set_option maxRecDepth 100000 in
set_option maxHeartbeats 1000000 in
theorem within_any (s : ByteArray) (i : Int) (hs : s.size ≤ 140737488355000) (w : World) : Calls Tryz.prog 81 #[.string s, .int .i64 i] w fun e w' => e = .returned (.int .i64 (insN s.size i : Nat)) ∧ w' = w := by
  go_enter Tryz.func81, Tryz.ntmps81
  go_wp2
  all_goals (go_ret; exact ⟨congrArg (fun z : Int => Ending.returned (.int .i64 z)) (by unfold insN; omega), rfl⟩)

theorem isBlank_any (c : UInt8) (w : World) : Calls Tryz.prog 82 #[.int .u8 (c.toNat : Nat)] w fun e w' => e = .returned (.bool (decide (c = 32 ∨ c = 9))) ∧ w' = w := by
  by_cases h1 : c = 32
  · have c1 := beq_val (z := 32) rfl h1
    rw [decide_eq_true (show c = 32 ∨ c = 9 from .inl h1)]
    clear h1
    go_enter Tryz.func82, Tryz.ntmps82
    go_wp2
    go_ret
    exact ⟨rfl, rfl⟩
  · have c1 := bne_val (z := 32) rfl h1
    by_cases h2 : c = 9
    · have c2 := beq_val (z := 9) rfl h2
      rw [decide_eq_true (show c = 32 ∨ c = 9 from .inr h2)]
      clear h1 h2
      go_enter Tryz.func82, Tryz.ntmps82
      go_wp2
      go_ret
      exact ⟨rfl, rfl⟩
    · have c2 := bne_val (z := 9) rfl h2
      rw [decide_eq_false (show ¬ (c = 32 ∨ c = 9) from fun h => h.elim h1 h2)]
      clear h1 h2
      go_enter Tryz.func82, Tryz.ntmps82
      go_wp2
      go_ret
      exact ⟨rfl, rfl⟩

set_option maxRecDepth 100000 in
set_option maxHeartbeats 1000000 in
theorem blanks_doc (s : ByteArray) (i : Int) (hs : s.size ≤ 140737488355000) (w : World) : Calls Tryz.prog 60 #[.string s, .int .i64 i] w fun e w' => e = .returned (.int .i64 (blanksN s.data.toList (insN s.size i) : Nat)) ∧ w' = w := by
  have HI := hideT (within_any s i hs)
  have HB := hideT isBlank_any
  have hk0 := ins_le s.size i
  generalize insN s.size i = k0 at *
  go_enter Tryz.func60, Tryz.ntmps60
  go_wp2_with fail
  refine (HI.out _).mono ?_
  rintro e w1 ⟨rfl, rfl⟩
  go_wp2_with fail
  go_loopw [1] (fun v wr => ∃ k : Nat, k ≤ s.size ∧ v = .int .i64 k ∧ Hid (k + blkN (s.data.toList.drop k) = blanksN s.data.toList k0) ∧ wr = w1) (fun v _ => s.size - (intOf v).toNat)
  case atStart => exact ⟨k0, hk0, rfl, hideT rfl, rfl⟩
  case round =>
    obtain ⟨k, hk, rfl, HE, rfl⟩ := hrel
    by_cases hlt : k < s.size
    · have i1 : (k : Int) < (s.size : Int) := by omega
      have i2 : (0 : Int) ≤ (k : Int) := by omega
      have hst := blk_step (l := s.data.toList) (k := k) hlt
      rw [dat_at s k hlt] at hst
      have HS := hideT hst
      clear hst
      by_cases hc : s[k]'hlt = 32 ∨ s[k]'hlt = 9
      · have HR := hideT (show k + 1 + blkN (s.data.toList.drop (k + 1)) = blanksN s.data.toList k0 by
          have h := HE.out
          rw [HS.out, if_pos hc] at h
          omega)
        have HC := hideT (decide_eq_true hc)
        clear hc
        go_wp2_with fail
        refine (HB.out _ _).mono ?_
        rintro e w2 ⟨rfl, rfl⟩
        rw [HC.out]
        go_wp2
        exact ⟨⟨k + 1, by omega, by go_num, HR, by simp⟩, by simp [intOf]; omega⟩
      · have HR := hideT (show k = blanksN s.data.toList k0 by
          have h := HE.out
          rw [HS.out, if_neg hc] at h
          omega)
        have HC := hideT (decide_eq_false hc)
        clear hc
        go_wp2_with fail
        refine (HB.out _ _).mono ?_
        rintro e w2 ⟨rfl, rfl⟩
        rw [HC.out]
        go_wp2
        go_ret
        exact ⟨congrArg (fun n : Nat => Ending.returned (.int .i64 (n : Int))) HR.out, rfl⟩
    · have i1 : ((k : Int) < (s.size : Int)) = False := by rw [eq_iff_iff, iff_false]; omega
      have HR := hideT (show k = blanksN s.data.toList k0 by
        have h := HE.out
        rw [blk_end (by show s.size ≤ k; omega)] at h
        omega)
      go_wp2
      go_ret
      exact ⟨congrArg (fun n : Nat => Ending.returned (.int .i64 (n : Int))) HR.out, rfl⟩

end prg
end Go.Proofs.YtjfkhlmoppbbgaaGreatDoor

/- scan, the program's: Name. -/
namespace Go.Proofs.YtjfkhlmoppbbgaaGreatDoor
open Go.RowKit
open scanP
namespace prg

theorem idx_neg (l : List UInt8) (c : UInt8) (h : l.contains c = false) : Lib.indexByte l c < 0 := by
  rw [Lib.contains_iff_indexByte, decide_eq_false_iff_not] at h
  omega
theorem idx_pos (l : List UInt8) (c : UInt8) (h : l.contains c = true) : 0 ≤ Lib.indexByte l c := by
  rw [Lib.contains_iff_indexByte, decide_eq_true_iff] at h
  exact h
theorem all_two (l : List UInt8) : (l.all fun b => decide (b ≠ 10) && decide (b ≠ 0)) = (!l.contains 10 && !l.contains 0) := by
  induction l with
  | nil => rfl
  | cons b r ih =>
    rw [List.all_cons, ih, List.contains_cons, List.contains_cons]
    by_cases h1 : b = 10
    · simp [h1]
    · by_cases h2 : b = 0
      · simp [h2]
      · have h3 : ((10 : UInt8) == b) = false := by rw [beq_eq_false_iff_ne]; exact fun h => h1 h.symm
        have h4 : ((0 : UInt8) == b) = false := by rw [beq_eq_false_iff_ne]; exact fun h => h2 h.symm
        simp [h1, h2, h3, h4]

set_option maxRecDepth 100000 in
set_option maxHeartbeats 1000000 in
theorem name_doc (s : ByteArray) (w : World) : Calls Tryz.prog 86 #[.string s] w fun e w' => e = .returned (.bool (nameB s.data.toList)) ∧ w' = w := by
  have hsz : s.data.toList.length = s.size := rfl
  by_cases h1 : s.size < 1
  · have e : nameB s.data.toList = false := by unfold nameB; rw [hsz, decide_eq_false (by omega)]; rfl
    have x0 : s.toList = [] := by rw [ByteArray.toList_eq]; exact List.eq_nil_of_length_eq_zero (by omega)
    have x1 : s.toList.isEmpty = true := by rw [x0]; rfl
    rw [e]
    clear e
    go_enter Tryz.func86, Tryz.ntmps86
    go_wp2
    go_ret
    exact ⟨rfl, rfl⟩
  · have x0 : (s.toList = []) = False := by
      rw [eq_iff_iff, iff_false, ByteArray.toList_eq]
      intro h
      have e := congrArg List.length h
      rw [hsz] at e
      have : s.size = 0 := e
      omega
    have x1 : s.toList.isEmpty = false := by
      rw [List.isEmpty_eq_false_iff]
      exact fun h => (x0 ▸ h : False)
    by_cases h2 : 64 < s.size
    · have e : nameB s.data.toList = false := by unfold nameB; rw [hsz, decide_eq_false (show ¬ s.size ≤ 64 by omega)]; simp
      have x2 : (64 : Int) < (s.size : Int) := by omega
      rw [e]
      clear e
      go_enter Tryz.func86, Tryz.ntmps86
      go_wp2
      go_ret
      exact ⟨rfl, rfl⟩
    · have x2 : ((64 : Int) < (s.size : Int)) = False := by rw [eq_iff_iff, iff_false]; omega
      have e : nameB s.data.toList = (!s.data.toList.contains 10 && !s.data.toList.contains 0) := by
        unfold nameB
        rw [hsz, decide_eq_true (by omega), decide_eq_true (by omega), all_two]
        rfl
      have E := hideT e
      clear e
      generalize nameB s.data.toList = nb at *
      have H := hideT (Tryz.strings_IndexByte s)
      have P := hideT (idx_pos s.data.toList)
      have N := hideT (idx_neg s.data.toList)
      go_enter Tryz.func86, Tryz.ntmps86
      go_wp2_with fail
      refine (H.out _ _).mono ?_
      rintro e w1 ⟨rfl, rfl⟩
      cases h10 : s.data.toList.contains 10 with
      | true =>
        have E2 := hideT (show nb = false by rw [E.out, h10]; rfl)
        have q := P.out 10 h10
        clear h10 E
        go_wp2_with fail
        go_ret
        exact ⟨by rw [E2.out]; rfl, rfl⟩
      | false =>
        have E2 := hideT (show nb = !s.data.toList.contains 0 by rw [E.out, h10]; rfl)
        have q := N.out 10 h10
        clear h10 E
        go_wp2_with fail
        refine (H.out _ _).mono ?_
        rintro e w2 ⟨rfl, rfl⟩
        cases h0 : s.data.toList.contains 0 with
        | true =>
          have E3 := hideT (show nb = false by rw [E2.out, h0]; rfl)
          have q2 := P.out 0 h0
          clear h0 E2
          go_wp2_with fail
          go_ret
          exact ⟨by rw [E3.out]; exact congrArg (fun b => Ending.returned (Value.bool b)) (decide_eq_false (by omega)), rfl⟩
        | false =>
          have E3 := hideT (show nb = true by rw [E2.out, h0]; rfl)
          have q2 := N.out 0 h0
          clear h0 E2
          go_wp2_with fail
          go_ret
          exact ⟨by rw [E3.out]; rfl, rfl⟩

end prg
end Go.Proofs.YtjfkhlmoppbbgaaGreatDoor

/- scan, the program's: Number. -/
namespace Go.Proofs.YtjfkhlmoppbbgaaGreatDoor
open Go.RowKit
open scanP
namespace prg

theorem dg_stop : ∀ (l : List UInt8) (h : dgN l < l.length), isDg (l[dgN l]'h) = false
  | [], h => by simp [dgN] at h
  | b :: r, h => by
    by_cases hb : isDg b = true
    · have e : dgN (b :: r) = dgN r + 1 := by rw [dgN, if_pos hb]
      have h2 : dgN r < r.length := by rw [e, List.length_cons] at h; omega
      have := dg_stop r h2
      simp only [e, List.getElem_cons_succ]
      exact this
    · have e : dgN (b :: r) = 0 := by rw [dgN, if_neg hb]
      simp only [e, List.getElem_cons_zero]
      simpa using hb

theorem isDigit_any (c : UInt8) (w : World) : Calls Tryz.prog 122 #[.int .u8 (c.toNat : Nat)] w fun e w' => e = .returned (.bool (isDg c)) ∧ w' = w := by
  by_cases h1 : 48 ≤ c.toNat
  · have c1 : (48 : Int) ≤ (c.toNat : Int) := by omega
    by_cases h2 : c.toNat ≤ 57
    · have c2 : (c.toNat : Int) ≤ 57 := by omega
      have e : isDg c = true := by unfold isDg; simp [h1, h2]
      rw [e]
      go_enter Tryz.func122, Tryz.ntmps122
      go_wp2
      go_ret
      exact ⟨rfl, rfl⟩
    · have c2 : ((c.toNat : Int) ≤ 57) = False := by rw [eq_iff_iff, iff_false]; omega
      have e : isDg c = false := by unfold isDg; simp [h2]
      rw [e]
      go_enter Tryz.func122, Tryz.ntmps122
      go_wp2
      go_ret
      exact ⟨rfl, rfl⟩
  · have c1 : ((48 : Int) ≤ (c.toNat : Int)) = False := by rw [eq_iff_iff, iff_false]; omega
    have e : isDg c = false := by unfold isDg; simp [h1]
    rw [e]
    go_enter Tryz.func122, Tryz.ntmps122
    go_wp2
    go_ret
    exact ⟨rfl, rfl⟩

set_option maxRecDepth 100000 in
set_option maxHeartbeats 2000000 in
theorem number_doc (s : ByteArray) (i : Int) (hs : s.size ≤ 140737488355000) (w : World) : Calls Tryz.prog 104 #[.string s, .int .i64 i] w fun e w' => e = .returned (.tuple #[.int .i64 ((numR s.data.toList (insN s.size i)).1 : Nat), .int .i64 ((numR s.data.toList (insN s.size i)).2.1 : Nat), .int .i64 ((numR s.data.toList (insN s.size i)).2.2 : Nat)]) ∧ w' = w := by
  have HI := hideT (within_any s i hs)
  have HB := hideT isDigit_any
  have hk0 := ins_le s.size i
  generalize insN s.size i = k0 at *
  obtain ⟨D, hD⟩ : ∃ D, D = dgN (s.data.toList.drop k0) := ⟨_, rfl⟩
  have hDs : k0 + D ≤ s.size := by
    have h := dg_le (s.data.toList.drop k0)
    rw [← hD, List.length_drop] at h
    have : s.data.toList.length = s.size := rfl
    omega
  have HD := hideT hD
  clear hD
  have HLT := hideT (dgV_lt (s.data.toList.drop k0) D (by rw [HD.out]; exact Nat.le_refl _))
  have HDG := hideT (fun j (h : j < D) => dg_at (s.data.toList.drop k0) j (by rw [← HD.out]; exact h))
  have HST := hideT (show ∀ h : k0 + D < s.size, isDg (s[k0 + D]'h) = false from fun h => by
    have hsz : s.data.toList.length = s.size := rfl
    have hl : dgN (s.data.toList.drop k0) < (s.data.toList.drop k0).length := by rw [← HD.out, List.length_drop]; omega
    have := dg_stop _ hl
    rw [List.getElem_drop] at this
    have e2 : s.data.toList[k0 + dgN (s.data.toList.drop k0)]'(by rw [← HD.out]; exact h) = s[k0 + D]'h := by
      simp only [← HD.out]; rfl
    rw [← e2]; exact this)
  go_enter Tryz.func104, Tryz.ntmps104
  go_wp2_with fail
  refine (HI.out _).mono ?_
  rintro e w1 ⟨rfl, rfl⟩
  go_wp2_with fail
  go_loopw [8, 9] (fun n v wr => ∃ j : Nat, j ≤ D ∧ j ≤ 9 ∧ n = .int .i64 ((dgV ((s.data.toList.drop k0).take j) : Nat) : Int) ∧ v = .int .i64 ((k0 : Int) + (j : Int)) ∧ wr = w1) (fun _ v _ => k0 + D - (intOf v).toNat)
  case atStart => exact ⟨0, by omega, by omega, rfl, by simp, rfl⟩
  case round =>
    obtain ⟨j, hj, hj9, rfl, rfl, rfl⟩ := hrel
    clear HI
    by_cases hjl : j < D
    · obtain ⟨c, hc1, hc2⟩ := HDG.out j hjl
      have hml : k0 + j < s.size := by omega
      have hcc : c = s[k0 + j]'hml := by
        rw [List.getElem?_drop, List.getElem?_eq_getElem (show k0 + j < s.data.toList.length from hml)] at hc1
        exact (Option.some.inj hc1).symm
      have hsn : dgV ((s.data.toList.drop k0).take (j + 1)) = 10 * dgV ((s.data.toList.drop k0).take j) + ((s[k0 + j]'hml).toNat - 48) := by
        obtain ⟨hl, e⟩ := List.getElem?_eq_some_iff.1 hc1
        rw [List.take_succ_eq_append_getElem hl, dgV_snoc, e, hcc]
      have hlt := HLT.out j hj
      have hp := pow_nine j (by omega)
      have HQ := hideT (hcc ▸ hc2)
      unfold isDg at hc2
      rw [Bool.and_eq_true, decide_eq_true_iff, decide_eq_true_iff, hcc] at hc2
      have HSN := hideT hsn
      have HC := hideT hc2
      generalize dgV ((s.data.toList.drop k0).take j) = n at *
      have b1 : (n : Int) ≤ 1000000000 := by omega
      have b2 : (0 : Int) ≤ (n : Int) := by omega
      have g1 : (k0 : Int) + (j : Int) < (s.size : Int) := by omega
      have g3 : (0 : Int) ≤ (k0 : Int) + (j : Int) := by omega
      clear hsn hlt hp hc1 hc2 hcc
      go_wp2_with fail
      refine (HB.out _ _).mono ?_
      rintro e w2 ⟨rfl, rfl⟩
      rw [HQ.out]
      by_cases h9 : j = 9
      · have t9 : ((k0 : Int) + (j : Int) - (k0 : Int) == 9) = true := by rw [beq_iff_eq]; omega
        have HN := hideT (show numR s.data.toList k0 = (0, 0, 1) by unfold numR; simp only; rw [← HD.out, if_neg (by omega), if_pos (by omega)])
        clear h9
        go_wp2
        go_ret3
        exact ⟨by rw [HN.out]; rfl, rfl⟩
      · have t9 : ((k0 : Int) + (j : Int) - (k0 : Int) == 9) = false := by rw [beq_eq_false_iff_ne]; omega
        have hc := HC.out
        have q1 : (48 : Int) ≤ ((s[k0 + j]'hml).toNat : Int) := by omega
        have q2 : ((s[k0 + j]'hml).toNat : Int) ≤ 57 := by omega
        go_wp2_with fail
        exact ⟨⟨j + 1, by omega, by omega, by rw [HSN.out]; congr 1; omega, by congr 1, trivial⟩, by simp [intOf]; omega⟩
    · obtain rfl : j = D := by omega
      have HR := 0
      by_cases hml : k0 + j < s.size
      · have g1 : (k0 : Int) + (j : Int) < (s.size : Int) := by omega
        have g3 : (0 : Int) ≤ (k0 : Int) + (j : Int) := by omega
        have HQ := hideT (HST.out hml)
        go_wp2_with fail
        refine (HB.out _ _).mono ?_
        rintro e w2 ⟨rfl, rfl⟩
        rw [HQ.out]
        by_cases hD0 : j = 0
        · have t1 : ((k0 : Int) + (j : Int) == (k0 : Int)) = true := by rw [beq_iff_eq]; omega
          have e : numR s.data.toList k0 = (0, 0, 5) := by unfold numR; simp only; rw [if_pos (HD.out ▸ hD0)]
          have HN := hideT e
          clear e hD0
          go_wp2
          go_ret3
          exact ⟨by rw [HN.out]; rfl, rfl⟩
        · have t1 : ((k0 : Int) + (j : Int) == (k0 : Int)) = false := by rw [beq_eq_false_iff_ne]; omega
          have e : numR s.data.toList k0 = (dgV ((s.data.toList.drop k0).take j), k0 + j, 0) := by unfold numR; simp only; rw [← HD.out, if_neg hD0, if_neg (by omega)]
          have HN := hideT e
          clear e hD0
          go_wp2
          go_ret3
          exact ⟨by rw [HN.out]; show _ = Ending.returned (.tuple #[_, .int .i64 ((k0 + j : Nat) : Int), _]); rw [Int.natCast_add]; rfl, rfl⟩
      · have g1 : ((k0 : Int) + (j : Int) < (s.size : Int)) = False := by rw [eq_iff_iff, iff_false]; omega
        by_cases hD0 : j = 0
        · have t1 : ((k0 : Int) + (j : Int) == (k0 : Int)) = true := by rw [beq_iff_eq]; omega
          have e : numR s.data.toList k0 = (0, 0, 5) := by unfold numR; simp only; rw [if_pos (HD.out ▸ hD0)]
          have HN := hideT e
          clear e hD0
          go_wp2
          go_ret3
          exact ⟨by rw [HN.out]; rfl, rfl⟩
        · have t1 : ((k0 : Int) + (j : Int) == (k0 : Int)) = false := by rw [beq_eq_false_iff_ne]; omega
          have e : numR s.data.toList k0 = (dgV ((s.data.toList.drop k0).take j), k0 + j, 0) := by unfold numR; simp only; rw [← HD.out, if_neg hD0, if_neg (by omega)]
          have HN := hideT e
          clear e hD0
          go_wp2
          go_ret3
          exact ⟨by rw [HN.out]; show _ = Ending.returned (.tuple #[_, .int .i64 ((k0 + j : Nat) : Int), _]); rw [Int.natCast_add]; rfl, rfl⟩

end prg
end Go.Proofs.YtjfkhlmoppbbgaaGreatDoor

/- scan, the program's: strings.Clone, strings.TrimRight; upTo, Line, Word. -/
namespace Go.Proofs.YtjfkhlmoppbbgaaGreatDoor
open Go.RowKit Go.Shelf
open scanP
namespace prg

def lays316_ren : Go.Shelf.Ren := ⟨fun | 316 => 103 | n => n, fun | 37 => 35 | 127 => 181 | n => n, fun | n => n⟩
theorem lays316 : Go.Proofs.LaysM.n316 Tryz.prog lays316_ren := {
  mixed := by kernel_rfl
  f316 := Tryz.func103.trans (congrArg some (by kernel_rfl))
  t0 := Tryz.underlying0
  a0 := Tryz.isAgg0
  z0 := Tryz.sizeOf0
  v0 := Tryz.zeroValue0
  t3 := Tryz.underlying3
  a3 := Tryz.isAgg3
  z3 := Tryz.sizeOf3
  v3 := Tryz.zeroValue3
  t4 := Tryz.underlying4
  a4 := Tryz.isAgg4
  z4 := Tryz.sizeOf4
  v4 := Tryz.zeroValue4
  t9 := Tryz.underlying9
  a9 := Tryz.isAgg9
  z9 := Tryz.sizeOf9
  v9 := Tryz.zeroValue9
  t37 := Tryz.underlying35
  a37 := Tryz.isAgg35
  z37 := Tryz.sizeOf35
  v37 := Tryz.zeroValue35
  t127 := Tryz.underlying181
  a127 := Tryz.isAgg181
  z127 := Tryz.sizeOf181
  v127 := Tryz.zeroValue181
  t5 := Tryz.underlying5
  a5 := Tryz.isAgg5
  z5 := Tryz.sizeOf5
  v5 := Tryz.zeroValue5
  i0 := by kernel_rfl
  i3 := by kernel_rfl
  i4 := by kernel_rfl
  i5 := by kernel_rfl
  i9 := by kernel_rfl
  i37 := by kernel_rfl
  i127 := by kernel_rfl }

theorem clone_any (s : ByteArray) (w : World) (hs : s.size ≤ 140737488355000) : Calls Tryz.prog 78 #[.string s] w fun e w' => e = .returned (.string s) ∧ Below w.heap.size w w' := by
  have H := hideT (fun w => Any.stringslite_Clone lays316 s w (by omega))
  go_enter Tryz.func78, Tryz.ntmps78
  go_wp2_with fail
  refine (H.out _).mono ?_
  rintro e w1 ⟨rfl, hb⟩
  have B := hideT hb
  clear hb
  go_wp2
  go_ret
  exact ⟨rfl, B.out⟩

/-- A text without blanks at its end. -/
theorem trim_take : ∀ (n : Nat) (l : List UInt8), n ≤ l.length → Lib.trimRightS (l.take n) [32, 9] = l.take (rtN n l)
  | 0, l, _ => by simp [Lib.trimRightS, rtN]
  | n + 1, l, h => by
    have hl : n < l.length := by omega
    have e1 : l.take (n + 1) = l.take n ++ [l[n]] := List.take_succ_eq_append_getElem hl
    have e2 : l[n]? = some l[n] := List.getElem?_eq_getElem hl
    unfold rtN
    rw [e2]
    by_cases hb : l[n] = 32 ∨ l[n] = 9
    · rw [if_pos (hb.imp (fun h => by rw [h]) (fun h => by rw [h])), ← trim_take n l (by omega), e1]
      unfold Lib.trimRightS
      rw [List.reverse_append, List.reverse_singleton, List.singleton_append, List.dropWhile_cons, if_pos (by rcases hb with h | h <;> rw [h] <;> rfl)]
    · rw [if_neg (by rintro (h | h); exact hb (.inl (Option.some.inj h)); exact hb (.inr (Option.some.inj h))), e1]
      unfold Lib.trimRightS
      have hc : ([32, 9] : List UInt8).contains l[n] = false := by
        simp only [List.contains_cons, List.contains_nil, Bool.or_false, Bool.or_eq_false_iff, beq_eq_false_iff_ne]
        exact ⟨fun h => hb (.inl h), fun h => hb (.inr h)⟩
      rw [List.reverse_append, List.reverse_singleton, List.singleton_append, List.dropWhile_cons, if_neg (by rw [hc]; simp), List.reverse_cons, List.reverse_reverse]

theorem trim_any (s : ByteArray) (w : World) (hs : s.size ≤ 140737488355000) : Calls Tryz.prog 108 #[.string s, .string ⟨#[32, 9]⟩] w fun e w' => e = .returned (.string (bst (Lib.trimRightS s.data.toList [32, 9]))) ∧ Below w.heap.size w w' :=
  Any.strings_TrimRight_laid Tryz.lays162 (by kernel_rfl) s ⟨#[32, 9]⟩ w (by omega) (by decide) (ascii_of_all (by decide))

def upN (E : List UInt8) : List UInt8 → Nat
  | [] => 0
  | b :: r => if E.contains b then 0 else upN E r + 1
theorem up_step {E l : List UInt8} {k : Nat} (h : k < l.length) : upN E (l.drop k) = if E.contains l[k] then 0 else upN E (l.drop (k + 1)) + 1 := by
  rw [List.drop_eq_getElem_cons h]; rfl
theorem up_le (E : List UInt8) : ∀ l : List UInt8, upN E l ≤ l.length
  | [] => Nat.le_refl _
  | b :: r => by
    have h := up_le E r
    unfold upN
    split
    · omega
    · rw [List.length_cons]; omega
theorem up_ln : ∀ l : List UInt8, upN [10] l = lnN l
  | [] => rfl
  | b :: r => by
    unfold upN lnN
    rw [up_ln r]
    by_cases h : b = 10
    · rw [if_pos h, if_pos (by rw [h]; rfl)]
    · rw [if_neg h, if_neg (by simp [h])]
theorem up_wd : ∀ l : List UInt8, upN [10, 59] l = wdN l
  | [] => rfl
  | b :: r => by
    unfold upN wdN
    rw [up_wd r]
    by_cases h : b = 10 ∨ b = 59
    · rw [if_pos h, if_pos (by rcases h with h | h <;> rw [h] <;> rfl)]
    · rw [if_neg h, if_neg (by simp only [List.contains_cons, List.contains_nil, Bool.or_false, Bool.or_eq_true, beq_iff_eq]; exact h)]

set_option maxRecDepth 100000 in
set_option maxHeartbeats 1000000 in
theorem upTo_any (s E : ByteArray) (i : Int) (hs : s.size ≤ 140737488355000) (w : World) : Calls Tryz.prog 58 #[.string s, .int .i64 i, .string E] w fun e w' => e = .returned (.tuple #[.string (bst ((s.data.toList.drop (blanksN s.data.toList (insN s.size i))).take (upN E.data.toList (s.data.toList.drop (blanksN s.data.toList (insN s.size i)))))), .int .i64 ((blanksN s.data.toList (insN s.size i) + upN E.data.toList (s.data.toList.drop (blanksN s.data.toList (insN s.size i))) : Nat) : Int)]) ∧ Below w.heap.size w w' := by
  have hsz : s.data.toList.length = s.size := rfl
  have HI := hideT (blanks_doc s i hs)
  have hf0 := blanks_le s.data.toList (insN s.size i) (ins_le s.size i)
  rw [hsz] at hf0
  generalize blanksN s.data.toList (insN s.size i) = f0 at *
  obtain ⟨U, hU⟩ : ∃ U, U = upN E.data.toList (s.data.toList.drop f0) := ⟨_, rfl⟩
  have hUl : f0 + U ≤ s.size := by
    have h := up_le E.data.toList (s.data.toList.drop f0)
    rw [← hU, List.length_drop, hsz] at h
    omega
  rw [← hU]
  have HU := hideT hU
  clear hU
  have HB := hideT (fun (c : UInt8) w => (Tryz.strings_IndexByte E (c.toNat : Nat) w).mono fun e w' h => (show e = .returned (.int .i64 (Lib.indexByte E.data.toList c)) ∧ w' = w from ⟨by rw [h.1, Int.toNat_natCast]; simp, h.2⟩))
  have HC := hideT (fun w => clone_any (bst ((s.data.toList.drop f0).take U)) w (by rw [bst_size, List.length_take]; omega))
  have HX := hideT (ext_bst s f0 U)
  generalize bst ((s.data.toList.drop f0).take U) = st at *
  have b0 : (0 : Int) ≤ (f0 : Int) := by omega
  go_enter Tryz.func58, Tryz.ntmps58
  go_wp2_with fail
  refine (HI.out _).mono ?_
  rintro e w1 ⟨rfl, rfl⟩
  go_wp2_with fail
  go_loopw [9] (fun v wr => ∃ k : Nat, k ≤ U ∧ v = .int .i64 ((f0 : Int) + (k : Int)) ∧ Hid (k + upN E.data.toList (s.data.toList.drop (f0 + k)) = U) ∧ wr = w1) (fun v _ => f0 + U - (intOf v).toNat)
  case atStart => exact ⟨0, by omega, by simp, hideT (by rw [HU.out]; simp), rfl⟩
  case round =>
    obtain ⟨k, hk, rfl, HE, rfl⟩ := hrel
    by_cases hlt : f0 + k < s.size
    · have i1 : (f0 : Int) + (k : Int) < (s.size : Int) := by omega
      have i2 : (0 : Int) ≤ (f0 : Int) + (k : Int) := by omega
      have hst := up_step (E := E.data.toList) (l := s.data.toList) (k := f0 + k) hlt
      rw [dat_at s (f0 + k) hlt] at hst
      have HS := hideT hst
      clear hst
      cases hc : E.data.toList.contains (s[f0 + k]'hlt) with
      | false =>
        have HR := hideT (show k + 1 + upN E.data.toList (s.data.toList.drop (f0 + (k + 1))) = U by
          have h := HE.out
          rw [HS.out, hc] at h
          simp only [Bool.false_eq_true, if_false] at h
          rw [← Nat.add_assoc f0 k 1]
          omega)
        have q := idx_neg _ _ hc
        have hk2 : k + 1 ≤ U := by have := HR.out; omega
        clear hc HS HE
        go_wp2_with fail
        refine (HB.out _ _).mono ?_
        rintro e w2 ⟨rfl, rfl⟩
        go_wp2
        exact ⟨⟨k + 1, hk2, by congr 1, HR, by simp⟩, by simp [intOf]; omega⟩
      | true =>
        have hkU : k = U := by
          have h := HE.out
          rw [HS.out, hc] at h
          simpa using h
        have q := idx_pos _ _ hc
        clear hc HS HE
        subst hkU
        go_wp2_with fail
        refine (HB.out _ _).mono ?_
        rintro e w2 ⟨rfl, rfl⟩
        have hx := HX.out
        have s1 : (f0 : Int) ≤ (f0 : Int) + (k : Int) := by omega
        have s2 : (f0 : Int) + (k : Int) ≤ (s.size : Int) := by omega
        go_wp2_with fail
        refine (HC.out _).mono ?_
        rintro e w3 ⟨rfl, hb⟩
        have B := hideT hb
        clear hb
        go_wp2
        go_ret2
        exact ⟨by rw [Int.natCast_add]; rfl, B.out⟩
    · have hkU : k = U := by omega
      have i1 : ((f0 : Int) + (k : Int) < (s.size : Int)) = False := by rw [eq_iff_iff, iff_false]; omega
      subst hkU
      have hx := HX.out
      have s1 : (f0 : Int) ≤ (f0 : Int) + (k : Int) := by omega
      have s2 : (f0 : Int) + (k : Int) ≤ (s.size : Int) := by omega
      go_wp2_with fail
      refine (HC.out _).mono ?_
      rintro e w3 ⟨rfl, hb⟩
      have B := hideT hb
      clear hb
      go_wp2
      go_ret2
      exact ⟨by rw [Int.natCast_add]; rfl, B.out⟩

set_option maxRecDepth 100000 in
set_option maxHeartbeats 1000000 in
theorem line_doc (s : ByteArray) (i : Int) (hs : s.size ≤ 140737488355000) (w : World) : Calls Tryz.prog 42 #[.string s, .int .i64 i] w fun e w' => e = .returned (.tuple #[.string (bst (lineR s.data.toList (insN s.size i)).1), .int .i64 ((lineR s.data.toList (insN s.size i)).2 : Nat)]) ∧ Below w.heap.size w w' := by
  have h := fun w => upTo_any s ⟨#[10]⟩ i hs w
  simp only [up_ln] at h
  have H := hideT h
  clear h
  unfold lineR
  simp only
  generalize bst ((s.data.toList.drop (blanksN s.data.toList (insN s.size i))).take (lnN (s.data.toList.drop (blanksN s.data.toList (insN s.size i))))) = st at *
  generalize blanksN s.data.toList (insN s.size i) + lnN (s.data.toList.drop (blanksN s.data.toList (insN s.size i))) = z at *
  go_enter Tryz.func42, Tryz.ntmps42
  go_wp2_with fail
  refine (H.out _).mono ?_
  rintro e w1 ⟨rfl, hb⟩
  have B := hideT hb
  clear hb
  go_wp2
  go_ret2
  exact ⟨rfl, B.out⟩

set_option maxRecDepth 100000 in
set_option maxHeartbeats 1000000 in
theorem word_doc (s : ByteArray) (i : Int) (hs : s.size ≤ 140737488355000) (w : World) : Calls Tryz.prog 85 #[.string s, .int .i64 i] w fun e w' => e = .returned (.tuple #[.string (bst (wordR s.data.toList (insN s.size i)).1), .int .i64 ((wordR s.data.toList (insN s.size i)).2 : Nat)]) ∧ Below w.heap.size w w' := by
  have hsz : s.data.toList.length = s.size := rfl
  have h := fun w => upTo_any s ⟨#[10, 59]⟩ i hs w
  simp only [up_wd] at h
  have H := hideT h
  clear h
  unfold wordR
  simp only
  generalize blanksN s.data.toList (insN s.size i) = f0 at *
  have hwl : wdN (s.data.toList.drop f0) ≤ (s.data.toList.drop f0).length := Nat.le_trans (wd_le _) (ln_le _)
  have ht := fun w => trim_any (bst ((s.data.toList.drop f0).take (wdN (s.data.toList.drop f0)))) w (by rw [bst_size, List.length_take, List.length_drop, hsz]; omega)
  simp only [bst_list, trim_take _ _ hwl] at ht
  have HT := hideT ht
  clear ht hwl
  generalize bst ((s.data.toList.drop f0).take (wdN (s.data.toList.drop f0))) = st at *
  generalize bst ((s.data.toList.drop f0).take (rtN (wdN (s.data.toList.drop f0)) (s.data.toList.drop f0))) = st2 at *
  generalize f0 + wdN (s.data.toList.drop f0) = z at *
  go_enter Tryz.func85, Tryz.ntmps85
  go_wp2_with fail
  refine (H.out _).mono ?_
  rintro e w1 ⟨rfl, hb⟩
  have B := hideT hb
  clear hb
  go_wp2_with fail
  refine (HT.out _).mono ?_
  rintro e w2 ⟨rfl, hb2⟩
  have B2 := hideT (B.out.trans (hb2.mono B.out.size))
  clear hb2
  go_wp2
  go_ret2
  exact ⟨rfl, B2.out⟩

end prg
end Go.Proofs.YtjfkhlmoppbbgaaGreatDoor
