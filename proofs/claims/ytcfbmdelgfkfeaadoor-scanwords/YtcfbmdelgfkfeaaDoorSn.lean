/- scan: the document's Name. -/
import Derived.Test.YtcfbmdelgfkfeaaDoorSc
namespace Go.Proofs.YtcfbmdelgfkfeaaDoor
open Go.RowKit
open scanP

set_option maxRecDepth 100000 in
set_option maxHeartbeats 1000000 in
theorem name_doc (s : ByteArray) (w : World) : Calls Tryd.prog 11 #[.string s] w fun e w' => e = .returned (.bool (nameB s.data.toList)) ∧ w' = w := by
  have hsz : s.data.toList.length = s.size := rfl
  by_cases h1 : s.size < 1
  · have e : nameB s.data.toList = false := by unfold nameB; rw [hsz, decide_eq_false (by omega)]; rfl
    have x1 : (s.size : Int) < 1 := by omega
    rw [e]
    clear e
    go_enter Tryd.func11, Tryd.ntmps11
    go_wp2
    go_ret
    exact ⟨rfl, rfl⟩
  · have x1 : ((s.size : Int) < 1) = False := by rw [eq_iff_iff, iff_false]; omega
    by_cases h2 : 64 < s.size
    · have e : nameB s.data.toList = false := by unfold nameB; rw [hsz, decide_eq_false (show ¬ s.size ≤ 64 by omega)]; simp
      have x2 : (64 : Int) < (s.size : Int) := by omega
      rw [e]
      clear e
      go_enter Tryd.func11, Tryd.ntmps11
      go_wp2
      go_ret
      exact ⟨rfl, rfl⟩
    · have x2 : ((64 : Int) < (s.size : Int)) = False := by rw [eq_iff_iff, iff_false]; omega
      have e : nameB s.data.toList = s.data.toList.all fun b => decide (b ≠ 10) && decide (b ≠ 0) := by
        unfold nameB
        rw [hsz, decide_eq_true (by omega), decide_eq_true (by omega)]
        rfl
      rw [e]
      clear e
      go_enter Tryd.func11, Tryd.ntmps11
      go_wp2_with fail
      go_loopw [3] (fun v wr => ∃ k : Nat, k ≤ s.size ∧ v = .int .i64 k ∧ Hid ((s.data.toList.drop k).all (fun b => decide (b ≠ 10) && decide (b ≠ 0)) = s.data.toList.all fun b => decide (b ≠ 10) && decide (b ≠ 0)) ∧ wr = w) (fun v _ => s.size - (intOf v).toNat)
      case atStart => exact ⟨0, by omega, rfl, hideT rfl, rfl⟩
      case round =>
        obtain ⟨k, hk, rfl, HE, rfl⟩ := hrel
        by_cases hlt : k < s.size
        · have i1 : (k : Int) < (s.size : Int) := by omega
          have i2 : (0 : Int) ≤ (k : Int) := by omega
          have hst := all_from (l := s.data.toList) (p := fun b => decide (b ≠ 10) && decide (b ≠ 0)) (k := k) hlt
          rw [dat_at s k hlt] at hst
          have HS := hideT hst
          clear hst
          by_cases h32 : s[k]'hlt = 10
          · have c1 : (((s[k]'hlt).toNat : Int) == 10) = true := by rw [h32]; rfl
            have HR := hideT (show (s.data.toList.all fun b => decide (b ≠ 10) && decide (b ≠ 0)) = false by
              rw [← HE.out, HS.out, h32]
              simp)
            clear h32
            go_wp2
            go_ret
            exact ⟨congrArg (fun n : Bool => Ending.returned (.bool n)) HR.out.symm, rfl⟩
          · have c1 : (((s[k]'hlt).toNat : Int) == 10) = false := by
              rw [beq_eq_false_iff_ne]
              intro h
              exact h32 (UInt8.toNat_inj.1 (by have h' : ((s[k]'hlt).toNat : Int) = 10 := h; show _ = 10; omega))
            by_cases h9 : s[k]'hlt = 0
            · have c2 : (((s[k]'hlt).toNat : Int) == 0) = true := by rw [h9]; rfl
              have HR := hideT (show (s.data.toList.all fun b => decide (b ≠ 10) && decide (b ≠ 0)) = false by
                rw [← HE.out, HS.out, h9]
                simp)
              clear h32 h9
              go_wp2
              go_ret
              exact ⟨congrArg (fun n : Bool => Ending.returned (.bool n)) HR.out.symm, rfl⟩
            · have c2 : (((s[k]'hlt).toNat : Int) == 0) = false := by
                rw [beq_eq_false_iff_ne]
                intro h
                exact h9 (UInt8.toNat_inj.1 (by have h' : ((s[k]'hlt).toNat : Int) = 0 := h; show _ = 0; omega))
              have HR := hideT (show (s.data.toList.drop (k + 1)).all (fun b => decide (b ≠ 10) && decide (b ≠ 0)) = s.data.toList.all fun b => decide (b ≠ 10) && decide (b ≠ 0) by
                rw [← HE.out, HS.out]
                simp [h32, h9])
              clear h32 h9
              go_wp2
              exact ⟨⟨k + 1, by omega, by go_num, HR, by simp⟩, by simp [intOf]; omega⟩
        · have i1 : ((k : Int) < (s.size : Int)) = False := by rw [eq_iff_iff, iff_false]; omega
          have HR := hideT (show (s.data.toList.all fun b => decide (b ≠ 10) && decide (b ≠ 0)) = true by
            rw [← HE.out, List.drop_of_length_le (by show s.size ≤ k; omega)]
            rfl)
          go_wp2
          go_ret
          exact ⟨congrArg (fun n : Bool => Ending.returned (.bool n)) HR.out.symm, rfl⟩

end Go.Proofs.YtcfbmdelgfkfeaaDoor
