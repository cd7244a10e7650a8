/- bre: shaped: what its walks want. -/
import Derived.Test.YtiedliahmjiadaaKQf
import Derived.Deep.RegionWith
import Derived.Deep.Cut
set_option maxRecDepth 100000
set_option maxHeartbeats 400000
namespace Go.Proofs.Ytiedliahmjiadaa
open Go.RowKit
end Go.Proofs.Ytiedliahmjiadaa
namespace Go.Proofs.Ytiedliahmjiadaa
open Go.RowKit
def AllPos (P : Ps) (n : Nat) : Prop := ∀ l, l ∈ P.outer ++ [P.top] → l.pos ≤ n
theorem allPos_of {P Q : Ps} {n : Nat} (ho : Q.outer = P.outer) (ht : Q.top.pos = P.top.pos) (h : AllPos P n) : AllPos Q n := by
 intro l hl
 rw [ho] at hl
 rcases List.mem_append.1 hl with hl | hl
 ·exact h l (List.mem_append_left _ hl)
 ·rw [List.mem_singleton.1 hl, ht]; exact h P.top (by simp)
theorem grown_snd (P : Ps) : P.grown.2 = P := by
 unfold Ps.grown
 first | rfl | (split <;> rfl)
theorem pos_take {P : Ps} {n : Nat} (h : AllPos P n) (t : Tk) (hf : t.fr ≤ n) : AllPos (P.take t).2 n := by
 unfold Ps.take
 split
 ·exact h
 ·rw [grown_snd]; exact allPos_of (P := P) rfl rfl h
 ·rw [grown_snd]; exact allPos_of (P := P) rfl rfl h
 ·rw [grown_snd]; exact allPos_of (P := P) rfl rfl h
 ·split
  ·exact h
  ·intro l hl
   have hl' : l ∈ (P.outer ++ [P.top]) ++ [⟨t.fr, P.groups + 1, P.size, []⟩] := hl
   rcases List.mem_append.1 hl' with hl | hl
   ·exact h l hl
   ·rw [List.mem_singleton.1 hl]; exact hf
 ·split
  ·exact h
  ·rename_i l0 hl0
   have hne : P.outer = P.outer.dropLast ++ [l0] := by
    obtain ⟨ys, hys⟩ := List.getLast?_eq_some_iff.1 hl0
    rw [hys, List.dropLast_concat]
   have h0 : l0.pos ≤ n := h l0 (List.mem_append_left _ (by rw [hne]; simp))
   intro l hl
   rcases List.mem_append.1 hl with hl | hl
   ·have hl' : l ∈ P.outer.dropLast := hl
    exact h l (List.mem_append_left _ (List.dropLast_subset _ hl'))
   ·rw [List.mem_singleton.1 hl]; exact h0
 ·split
  ·rw [grown_snd]; exact allPos_of (P := P) rfl rfl h
  ·exact h
 ·split
  ·exact h
  ·rw [grown_snd]; exact allPos_of (P := P) rfl rfl h
theorem run_place (s : ByteArray) : ∀ (f i k : Nat) (P : Ps), AllPos P s.size → (∀ e p, runT s f i k P = .error (e, p) → e ≠ 0 ∧ p ≤ s.size) ∧ (∀ Q, runT s f i k P = .ok Q → AllPos Q s.size)
 | 0, i, k, P, h => ⟨(fun e p hr => by rw [runT] at hr; cases hr), (fun Q hr => by rw [runT] at hr; cases hr; exact h)⟩
 | f + 1, i, k, P, h => by
  rw [runT]
  by_cases hlt : i < s.size
  ·rw [if_pos hlt]
   by_cases h0 : (P.take (tokenT s i k)).1 = 0
   ·rw [if_pos h0]
    exact run_place s f _ _ _ (pos_take h _ (by rw [(tokAt_token s i k hlt).fr]; omega))
   ·rw [if_neg h0]
    exact ⟨(fun e p hr => by cases hr; exact ⟨h0, by omega⟩), (fun Q hr => by cases hr)⟩
  ·rw [if_neg hlt]
   exact ⟨(fun e p hr => by cases hr), (fun Q hr => by cases hr; exact h)⟩
theorem parse_place (s : ByteArray) (e : Int) (p : Nat) (h : parseT s = .error (e, p)) : e ≠ 0 ∧ p ≤ s.size := by
 have hst : AllPos Ps.start s.size := fun l hl => by
  have hl' : l = ⟨0, 0, 0, []⟩ := by simpa [Ps.start] using hl
  rw [hl']; exact Nat.zero_le _
 have hr := run_place s (s.size + 1) 0 4 Ps.start hst
 unfold parseT at h
 split at h
 ·cases h; exact ⟨by decide, Nat.zero_le _⟩
 ·split at h
  ·rename_i x hx
   cases h
   exact hr.1 _ _ hx
  ·rename_i Q hx
   split at h
   ·cases h
   ·cases h
    exact ⟨by decide, hr.2 _ hx _ (by simp)⟩
theorem parse_over (s : ByteArray) (hl : 512 < s.size) (w : World) :
  Calls Try.prog 13 #[.string s] w fun e w' => e = .returned (.tuple #[.agg #[.int .i64 0, .int .u64 0, .int .u64 0, .int .u64 0, .int .u64 0, .int .i64 0, .int .i64 0, .int .i64 0, .slice none 0 0], .agg #[.int .i64 2, .int .i64 0]]) ∧ Below w.heap.size w w' := by
 have k1 : (512 : Int) < (s.size : Int) := by omega
 go_enter Try.func13, Try.ntmps13
 go_wp2
 exact bodyPost_ret (v := .tuple #[.agg #[.int .i64 0, .int .u64 0, .int .u64 0, .int .u64 0, .int .u64 0, .int .i64 0, .int .i64 0, .int .i64 0, .slice none 0 0], .agg #[.int .i64 2, .int .i64 0]]) (by simp [results, Try.results13, go_sem]) rfl ⟨rfl, ((Below.refl _ _).alloc (Nat.le_refl _) _).alloc (by simp) _⟩
theorem parse_fault (s : ByteArray) (er : Int) (p : Nat) (ht : parseT s = .error (er, p)) (w : World) (hg : Glob w) :
  Calls Try.prog 13 #[.string s] w fun e w' => e = .returned (.tuple #[.agg #[.int .i64 0, .int .u64 0, .int .u64 0, .int .u64 0, .int .u64 0, .int .i64 0, .int .i64 0, .int .i64 0, .slice none 0 0], .agg #[.int .i64 er, .int .i64 (p : Nat)]]) ∧ Below w.heap.size w w' := by
 by_cases h : s.size ≤ 512
 ·exact parse_err s (by omega) er p ht w hg
 ·unfold parseT at ht
  rw [if_pos (by omega)] at ht
  cases ht
  exact parse_over s (by omega) w
end Go.Proofs.Ytiedliahmjiadaa
