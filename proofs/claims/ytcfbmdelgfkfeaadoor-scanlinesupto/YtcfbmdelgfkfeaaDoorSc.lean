/- scan: the document's Blanks, Name. -/
import Derived.Test.YtcfbmdelgfkfeaaDoorSb
namespace Go.Proofs.YtcfbmdelgfkfeaaDoor
open Go.RowKit
open scanP

set_option maxRecDepth 100000 in
set_option maxHeartbeats 1000000 in
theorem blanks_doc (s : ByteArray) (i : Int) (hs : s.size ≤ 140737488355000) (w : World) : Calls Tryd.prog 15 #[.string s, .int .i64 i] w fun e w' => e = .returned (.int .i64 (blanksN s.data.toList (insN s.size i) : Nat)) ∧ w' = w := by
  have HI := hideT (inside_doc s i hs)
  have hk0 := ins_le s.size i
  generalize insN s.size i = k0 at *
  go_enter Tryd.func15, Tryd.ntmps15
  go_wp2_with fail
  refine (HI.out _).mono ?_
  rintro e w1 ⟨rfl, rfl⟩
  go_wp2_with fail
  go_loopw [5] (fun v wr => ∃ k : Nat, k ≤ s.size ∧ v = .int .i64 k ∧ Hid (k + blkN (s.data.toList.drop k) = blanksN s.data.toList k0) ∧ wr = w1) (fun v _ => s.size - (intOf v).toNat)
  case atStart => exact ⟨k0, hk0, rfl, hideT rfl, rfl⟩
  case round =>
    obtain ⟨k, hk, rfl, HE, rfl⟩ := hrel
    by_cases hlt : k < s.size
    · have i1 : (k : Int) < (s.size : Int) := by omega
      have i2 : (0 : Int) ≤ (k : Int) := by omega
      have hst := blk_step (l := s.data.toList) (k := k) hlt
      rw [dat_at s k hlt] at hst
      have HS := hideT hst
      clear hst
      by_cases h32 : s[k]'hlt = 32
      · have c1 : (((s[k]'hlt).toNat : Int) != 32) = false := by rw [h32]; rfl
        have HR := hideT (show k + 1 + blkN (s.data.toList.drop (k + 1)) = blanksN s.data.toList k0 by
          have h := HE.out
          rw [HS.out, if_pos (.inl h32)] at h
          omega)
        clear h32
        go_wp2
        exact ⟨⟨k + 1, by omega, by go_num, HR, by simp⟩, by simp [intOf]; omega⟩
      · have c1 : (((s[k]'hlt).toNat : Int) != 32) = true := by
          rw [bne_iff_ne]
          intro h
          exact h32 (UInt8.toNat_inj.1 (by have h' : ((s[k]'hlt).toNat : Int) = 32 := h; show _ = 32; omega))
        by_cases h9 : s[k]'hlt = 9
        · have c2 : (((s[k]'hlt).toNat : Int) != 9) = false := by rw [h9]; rfl
          have HR := hideT (show k + 1 + blkN (s.data.toList.drop (k + 1)) = blanksN s.data.toList k0 by
            have h := HE.out
            rw [HS.out, if_pos (.inr h9)] at h
            omega)
          clear h32 h9
          go_wp2
          exact ⟨⟨k + 1, by omega, by go_num, HR, by simp⟩, by simp [intOf]; omega⟩
        · have c2 : (((s[k]'hlt).toNat : Int) != 9) = true := by
            rw [bne_iff_ne]
            intro h
            exact h9 (UInt8.toNat_inj.1 (by have h' : ((s[k]'hlt).toNat : Int) = 9 := h; show _ = 9; omega))
          have HR := hideT (show k = blanksN s.data.toList k0 by
            have h := HE.out
            rw [HS.out, if_neg (by rintro (h | h); exact h32 h; exact h9 h)] at h
            omega)
          clear h32 h9
          go_wp2
          go_ret
          exact ⟨congrArg (fun n : Nat => Ending.returned (.int .i64 (n : Int))) HR.out, rfl⟩
    · have i1 : ((k : Int) < (s.size : Int)) = False := by rw [eq_iff_iff, iff_false]; omega
      have HR := hideT (show s.size = blanksN s.data.toList k0 by
        have h := HE.out
        rw [blk_end (by show s.size ≤ k; omega)] at h
        omega)
      go_wp2
      go_ret
      exact ⟨congrArg (fun n : Nat => Ending.returned (.int .i64 (n : Int))) HR.out, rfl⟩

theorem all_from {l : List UInt8} {p : UInt8 → Bool} {k : Nat} (h : k < l.length) : (l.drop k).all p = (p l[k] && (l.drop (k + 1)).all p) := by
  rw [List.drop_eq_getElem_cons h]; rfl

end Go.Proofs.YtcfbmdelgfkfeaaDoor
