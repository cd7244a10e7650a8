/- bracket.Text at every set. -/
import Derived.Test.YtolkbemclkgmmaaTextC
import Derived.Test.YtolkbemclkgmmaaFour
namespace Go.Proofs.Ytolkbemclkgmmaa
open Go.RowKit

theorem mem_none {p : Nat → Bool} (h : eqB p noneP = true) : mem p 256 = [] := by
  rw [eqB_iff] at h
  unfold mem
  rw [List.filter_eq_nil_iff]
  intro a ha
  rw [h a (List.mem_range.1 ha)]
  simp [noneP]

theorem mem_some {p : Nat → Bool} (h : eqB p noneP = false) : mem p 256 ≠ [] := by
  intro h'
  have : eqB p noneP = true := by
    rw [eqB_iff]
    intro n hn
    unfold mem at h'
    rw [List.filter_eq_nil_iff] at h'
    have := h' n (List.mem_range.2 hn)
    simpa [noneP] using this
  rw [h] at this
  cases this

theorem mem_bytes (p : Nat → Bool) (k : Nat) : ∀ x ∈ mem p k, x < k := by
  intro x hx
  exact List.mem_range.1 (List.mem_filter.1 hx).1

set_option maxRecDepth 100000 in
set_option maxHeartbeats 1000000 in
theorem text_none (p : Nat → Bool) (hp : eqB p noneP = true) (w : World) :
    Calls Try.prog 12 #[.agg #[.int .u64 (wd p 0 : Nat), .int .u64 (wd p 1 : Nat), .int .u64 (wd p 2 : Nat), .int .u64 (wd p 3 : Nat)]] w fun e w' => e = .returned (.string (bstr [91, 94, 0, 45, 255, 93])) ∧ Below w.heap.size w w' := by
  have z0 : wd noneP 0 = 0 := wd_none 0
  have z1 : wd noneP 1 = 0 := wd_none 1
  have z2 : wd noneP 2 = 0 := wd_none 2
  have z3 : wd noneP 3 = 0 := wd_none 3
  have heq := fun W => run_eql_set p noneP W
  rw [hp] at heq
  simp only [z0, z1, z2, z3, Int.ofNat_zero] at heq
  go_enter Try.func12, Try.ntmps12
  go_wp2
  go_ret
  exact ⟨rfl, (Below.refl _ _).alloc (Nat.le_refl _) _⟩

theorem text_any (p : Nat → Bool) (w : World) :
    Calls Try.prog 12 #[.agg #[.int .u64 (wd p 0 : Nat), .int .u64 (wd p 1 : Nat), .int .u64 (wd p 2 : Nat), .int .u64 (wd p 3 : Nat)]] w fun e w' => e = .returned (.string (bstr (textL (mem p 256)))) ∧ Below w.heap.size w w' := by
  cases hp : eqB p noneP
  · have h := text_some index4_call p hp w
    rw [codeSt_eq _ (mem_bytes p 256) (mem_sorted p 256)] at h
    rw [textL, if_neg (mem_some hp)]
    exact h
  · rw [textL, if_pos (mem_none hp)]
    exact text_none p hp w
end Go.Proofs.Ytolkbemclkgmmaa
