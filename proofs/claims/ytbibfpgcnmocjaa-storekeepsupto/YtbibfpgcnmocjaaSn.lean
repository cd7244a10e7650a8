/- store: can it be a name? The program's and the document's. -/
import Derived.Test.YtbibfpgcnmocjaaSb
import Derived.Lib.IndexAny
import Derived.Lib.Bytealg
namespace Go.Proofs.Ytbibfpgcnmocjaa
open Go.RowKit

def nameB (l : List UInt8) : Bool := decide (1 ≤ l.length) && decide (l.length ≤ 64) && l.all fun b => decide (b ≠ 10) && decide (b ≠ 0)
theorem dat_at (s : ByteArray) (k : Nat) (h : k < s.size) : s.data.toList[k]'h = s[k]'h := rfl
theorem all_from {l : List UInt8} {p : UInt8 → Bool} {k : Nat} (h : k < l.length) : (l.drop k).all p = (p (l[k]'h) && (l.drop (k + 1)).all p) := by
  rw [List.drop_eq_getElem_cons h, List.all_cons]
set_option maxRecDepth 100000 in
set_option maxHeartbeats 1000000 in
theorem index_any (s : ByteArray) (c : Int) (w : World) : Calls Try.prog 39 #[.string s, .int .u8 c] w fun e w' => e = .returned (.int .i64 (Lib.indexByte s.data.toList c.toNat.toUInt8)) ∧ w' = w := by
  have h : (callFunc 48 #[.string s, .int .u8 c]).run Try.prog w = .ok (.value (.int .i64 (Lib.indexByte s.data.toList c.toNat.toUInt8))) w := by
    rw [run_callFunc_extern Try.func48 (by kernel_rfl) (by kernel_rfl) (by kernel_rfl) (e := Extern.BytealgIndexByte.indexByte) (by kernel_rfl), Lib.run_indexByteString]
    rfl
  go_enter Try.func39, Try.ntmps39
  go_wp2
  go_ret
  exact ⟨rfl, rfl⟩

theorem idx_neg (l : List UInt8) (c : UInt8) (h : l.contains c = false) : Lib.indexByte l c < 0 := by
  rw [Lib.contains_iff_indexByte, decide_eq_false_iff_not] at h
  omega
theorem idx_pos (l : List UInt8) (c : UInt8) (h : l.contains c = true) : 0 ≤ Lib.indexByte l c := by
  rw [Lib.contains_iff_indexByte, decide_eq_true_iff] at h
  exact h
theorem all_two (l : List UInt8) : (l.all fun b => decide (b ≠ 10) && decide (b ≠ 0)) = (!l.contains 10 && !l.contains 0) := by
  induction l with
  | nil => rfl
  | cons b r ih =>
    rw [List.all_cons, ih, List.contains_cons, List.contains_cons]
    by_cases h1 : b = 10
    · simp [h1]
    · by_cases h2 : b = 0
      · simp [h2]
      · have h3 : ((10 : UInt8) == b) = false := by rw [beq_eq_false_iff_ne]; exact fun h => h1 h.symm
        have h4 : ((0 : UInt8) == b) = false := by rw [beq_eq_false_iff_ne]; exact fun h => h2 h.symm
        simp [h1, h2, h3, h4]

set_option maxRecDepth 100000 in
set_option maxHeartbeats 1000000 in
theorem name_any (s : ByteArray) (w : World) : Calls Try.prog 30 #[.string s] w fun e w' => e = .returned (.bool (nameB s.data.toList)) ∧ w' = w := by
  have hsz : s.data.toList.length = s.size := rfl
  by_cases h1 : s.size < 1
  · have e : nameB s.data.toList = false := by unfold nameB; rw [hsz, decide_eq_false (by omega)]; rfl
    have x0 : s.toList = [] := by rw [ByteArray.toList_eq]; exact List.eq_nil_of_length_eq_zero (by omega)
    have x1 : s.toList.isEmpty = true := by rw [x0]; rfl
    rw [e]
    clear e
    go_enter Try.func30, Try.ntmps30
    go_wp2
    go_ret
    exact ⟨rfl, rfl⟩
  · have x0 : (s.toList = []) = False := by
      rw [eq_iff_iff, iff_false, ByteArray.toList_eq]
      intro h
      have e := congrArg List.length h
      rw [hsz] at e
      have : s.size = 0 := e
      omega
    have x1 : s.toList.isEmpty = false := by
      rw [List.isEmpty_eq_false_iff]
      exact fun h => (x0 ▸ h : False)
    by_cases h2 : 64 < s.size
    · have e : nameB s.data.toList = false := by unfold nameB; rw [hsz, decide_eq_false (show ¬ s.size ≤ 64 by omega)]; simp
      have x2 : (64 : Int) < (s.size : Int) := by omega
      rw [e]
      clear e
      go_enter Try.func30, Try.ntmps30
      go_wp2
      go_ret
      exact ⟨rfl, rfl⟩
    · have x2 : ((64 : Int) < (s.size : Int)) = False := by rw [eq_iff_iff, iff_false]; omega
      have e : nameB s.data.toList = (!s.data.toList.contains 10 && !s.data.toList.contains 0) := by
        unfold nameB
        rw [hsz, decide_eq_true (by omega), decide_eq_true (by omega), all_two]
        rfl
      have E := hideT e
      clear e
      generalize nameB s.data.toList = nb at *
      have H := hideT (fun c => index_any s c)
      have P := hideT (idx_pos s.data.toList)
      have N := hideT (idx_neg s.data.toList)
      go_enter Try.func30, Try.ntmps30
      go_wp2_with fail
      refine (H.out _ _).mono ?_
      rintro e w1 ⟨rfl, rfl⟩
      cases h10 : s.data.toList.contains 10 with
      | true =>
        have E2 := hideT (show nb = false by rw [E.out, h10]; rfl)
        have q := P.out 10 h10
        clear h10 E
        go_wp2_with fail
        go_ret
        exact ⟨by rw [E2.out]; rfl, rfl⟩
      | false =>
        have E2 := hideT (show nb = !s.data.toList.contains 0 by rw [E.out, h10]; rfl)
        have q := N.out 10 h10
        clear h10 E
        go_wp2_with fail
        refine (H.out _ _).mono ?_
        rintro e w2 ⟨rfl, rfl⟩
        cases h0 : s.data.toList.contains 0 with
        | true =>
          have E3 := hideT (show nb = false by rw [E2.out, h0]; rfl)
          have q2 := P.out 0 h0
          clear h0 E2
          go_wp2_with fail
          go_ret
          exact ⟨by rw [E3.out]; exact congrArg (fun b => Ending.returned (Value.bool b)) (decide_eq_false (by omega)), rfl⟩
        | false =>
          have E3 := hideT (show nb = true by rw [E2.out, h0]; rfl)
          have q2 := N.out 0 h0
          clear h0 E2
          go_wp2_with fail
          go_ret
          exact ⟨by rw [E3.out]; rfl, rfl⟩


set_option maxRecDepth 100000 in
set_option maxHeartbeats 1000000 in
theorem docName_any (s : ByteArray) (w : World) : Calls Try.prog 35 #[.string s] w fun e w' => e = .returned (.bool (nameB s.data.toList)) ∧ w' = w := by
  have hsz : s.data.toList.length = s.size := rfl
  by_cases h1 : s.size < 1
  · have e : nameB s.data.toList = false := by unfold nameB; rw [hsz, decide_eq_false (by omega)]; rfl
    have x1 : (s.size : Int) < 1 := by omega
    rw [e]
    clear e
    go_enter Try.func35, Try.ntmps35
    go_wp2
    go_ret
    exact ⟨rfl, rfl⟩
  · have x1 : ((s.size : Int) < 1) = False := by rw [eq_iff_iff, iff_false]; omega
    by_cases h2 : 64 < s.size
    · have e : nameB s.data.toList = false := by unfold nameB; rw [hsz, decide_eq_false (show ¬ s.size ≤ 64 by omega)]; simp
      have x2 : (64 : Int) < (s.size : Int) := by omega
      rw [e]
      clear e
      go_enter Try.func35, Try.ntmps35
      go_wp2
      go_ret
      exact ⟨rfl, rfl⟩
    · have x2 : ((64 : Int) < (s.size : Int)) = False := by rw [eq_iff_iff, iff_false]; omega
      have e : nameB s.data.toList = s.data.toList.all fun b => decide (b ≠ 10) && decide (b ≠ 0) := by
        unfold nameB
        rw [hsz, decide_eq_true (by omega), decide_eq_true (by omega)]
        rfl
      rw [e]
      clear e
      go_enter Try.func35, Try.ntmps35
      go_wp2_with fail
      go_loopw [3] (fun v wr => ∃ k : Nat, k ≤ s.size ∧ v = .int .i64 k ∧ Hid ((s.data.toList.drop k).all (fun b => decide (b ≠ 10) && decide (b ≠ 0)) = s.data.toList.all fun b => decide (b ≠ 10) && decide (b ≠ 0)) ∧ wr = w) (fun v _ => s.size - (intOf v).toNat)
      case atStart => exact ⟨0, by omega, rfl, hideT rfl, rfl⟩
      case round =>
        obtain ⟨k, hk, rfl, HE, rfl⟩ := hrel
        by_cases hlt : k < s.size
        · have i1 : (k : Int) < (s.size : Int) := by omega
          have i2 : (0 : Int) ≤ (k : Int) := by omega
          have hst := all_from (l := s.data.toList) (p := fun b => decide (b ≠ 10) && decide (b ≠ 0)) (k := k) hlt
          rw [dat_at s k hlt] at hst
          have HS := hideT hst
          clear hst
          by_cases h32 : s[k]'hlt = 10
          · have c1 : (((s[k]'hlt).toNat : Int) == 10) = true := by rw [h32]; rfl
            have HR := hideT (show (s.data.toList.all fun b => decide (b ≠ 10) && decide (b ≠ 0)) = false by
              rw [← HE.out, HS.out, h32]
              simp)
            clear h32
            go_wp2
            go_ret
            exact ⟨congrArg (fun n : Bool => Ending.returned (.bool n)) HR.out.symm, rfl⟩
          · have c1 : (((s[k]'hlt).toNat : Int) == 10) = false := by
              rw [beq_eq_false_iff_ne]
              intro h
              exact h32 (UInt8.toNat_inj.1 (by have h' : ((s[k]'hlt).toNat : Int) = 10 := h; show _ = 10; omega))
            by_cases h9 : s[k]'hlt = 0
            · have c2 : (((s[k]'hlt).toNat : Int) == 0) = true := by rw [h9]; rfl
              have HR := hideT (show (s.data.toList.all fun b => decide (b ≠ 10) && decide (b ≠ 0)) = false by
                rw [← HE.out, HS.out, h9]
                simp)
              clear h32 h9
              go_wp2
              go_ret
              exact ⟨congrArg (fun n : Bool => Ending.returned (.bool n)) HR.out.symm, rfl⟩
            · have c2 : (((s[k]'hlt).toNat : Int) == 0) = false := by
                rw [beq_eq_false_iff_ne]
                intro h
                exact h9 (UInt8.toNat_inj.1 (by have h' : ((s[k]'hlt).toNat : Int) = 0 := h; show _ = 0; omega))
              have HR := hideT (show (s.data.toList.drop (k + 1)).all (fun b => decide (b ≠ 10) && decide (b ≠ 0)) = s.data.toList.all fun b => decide (b ≠ 10) && decide (b ≠ 0) by
                rw [← HE.out, HS.out]
                simp [h32, h9])
              clear h32 h9
              go_wp2
              exact ⟨⟨k + 1, by omega, by go_num, HR, by simp⟩, by simp [intOf]; omega⟩
        · have i1 : ((k : Int) < (s.size : Int)) = False := by rw [eq_iff_iff, iff_false]; omega
          have HR := hideT (show (s.data.toList.all fun b => decide (b ≠ 10) && decide (b ≠ 0)) = true by
            rw [← HE.out, List.drop_of_length_le (by show s.size ≤ k; omega)]
            rfl)
          go_wp2
          go_ret
          exact ⟨congrArg (fun n : Bool => Ending.returned (.bool n)) HR.out.symm, rfl⟩

end Go.Proofs.Ytbibfpgcnmocjaa
