/- bre: shaped: what its walks want. -/
import Derived.Test.YtgpciekpmdihnaaKQf
import Derived.Deep.RegionWith
namespace Go.Proofs.Ytgpciekpmdihnaa
open Go.RowKit

/-- Ten bools. -/
abbrev boolsA (c : Nat → Bool) : Array Value := #[.bool (c 0), .bool (c 1), .bool (c 2), .bool (c 3), .bool (c 4), .bool (c 5), .bool (c 6), .bool (c 7), .bool (c 8), .bool (c 9)]

/-- What shaped answers. -/
abbrev shA (s : Sh) : Ending := .returned (.tuple #[.int .i64 (s.1 : Nat), .agg (boolsA s.2), .bool true])

theorem eql_zero (w : World) : (binOp .eql 24 (.agg #[.int .u64 0, .int .u64 0, .int .u64 0, .int .u64 0]) (.agg #[.int .u64 0, .int .u64 0, .int .u64 0, .int .u64 0])).run Try.prog w = .ok (.bool true) w := by
  rw [run_eql_words]; rfl

/-- Ten bools written. -/
abbrev put10 (W : World) (b : Nat) (c : Nat → Bool) : World := ((((((((((W.setCell ⟨b, 0, none⟩ (.bool (c 0))).setCell ⟨b, 1, none⟩ (.bool (c 1))).setCell ⟨b, 2, none⟩ (.bool (c 2))).setCell ⟨b, 3, none⟩ (.bool (c 3))).setCell ⟨b, 4, none⟩ (.bool (c 4))).setCell ⟨b, 5, none⟩ (.bool (c 5))).setCell ⟨b, 6, none⟩ (.bool (c 6))).setCell ⟨b, 7, none⟩ (.bool (c 7))).setCell ⟨b, 8, none⟩ (.bool (c 8))).setCell ⟨b, 9, none⟩ (.bool (c 9)))
theorem put10_at {W : World} {b : Nat} {c0 : Nat → Bool} (c : Nat → Bool) (h : W.heap[b]? = some (.cells (boolsA c0) 52 (0, 0))) : (put10 W b c).heap[b]? = some (.cells (boolsA c) 52 (0, 0)) := by
  have h0 := put_same W b 0 (.bool (c 0)) h
  have h1 := put_same _ b 1 (.bool (c 1)) h0
  have h2 := put_same _ b 2 (.bool (c 2)) h1
  have h3 := put_same _ b 3 (.bool (c 3)) h2
  have h4 := put_same _ b 4 (.bool (c 4)) h3
  have h5 := put_same _ b 5 (.bool (c 5)) h4
  have h6 := put_same _ b 6 (.bool (c 6)) h5
  have h7 := put_same _ b 7 (.bool (c 7)) h6
  have h8 := put_same _ b 8 (.bool (c 8)) h7
  have h9 := put_same _ b 9 (.bool (c 9)) h8
  exact h9.trans (by simp)
theorem put10_far (W : World) {b : Nat} (c : Nat → Bool) {j : Nat} (h : j ≠ b) : (put10 W b c).heap[j]? = W.heap[j]? := by
  exact (put_far _ b 9 _ h).trans ((put_far _ b 8 _ h).trans ((put_far _ b 7 _ h).trans ((put_far _ b 6 _ h).trans ((put_far _ b 5 _ h).trans ((put_far _ b 4 _ h).trans ((put_far _ b 3 _ h).trans ((put_far _ b 2 _ h).trans ((put_far _ b 1 _ h).trans (put_far _ b 0 _ h)))))))))
theorem put10_below {B : Nat} {a W : World} (h : Below B a W) {b : Nat} (hb : B ≤ b) (c : Nat → Bool) : Below B a (put10 W b c) :=
  ((((((((((h.setCell (p := ⟨b, 0, none⟩) hb _).setCell (p := ⟨b, 1, none⟩) hb _).setCell (p := ⟨b, 2, none⟩) hb _).setCell (p := ⟨b, 3, none⟩) hb _).setCell (p := ⟨b, 4, none⟩) hb _).setCell (p := ⟨b, 5, none⟩) hb _).setCell (p := ⟨b, 6, none⟩) hb _).setCell (p := ⟨b, 7, none⟩) hb _).setCell (p := ⟨b, 8, none⟩) hb _).setCell (p := ⟨b, 9, none⟩) hb _)

theorem drew_heap (V : World) : V.drew.heap = V.heap := rfl
theorem put10_drew {W : World} {b : Nat} {c0 : Nat → Bool} (c : Nat → Bool) (h : W.heap[b]? = some (.cells (boolsA c0) 52 (0, 0))) : (put10 W b c).drew.heap[b]? = some (.cells (boolsA c) 52 (0, 0)) := by
  rw [drew_heap]; exact put10_at c h
theorem put10c {W : World} {b : Nat} (h : W.heap[b]? = some (.cells #[.bool false, .bool false, .bool false, .bool false, .bool false, .bool false, .bool false, .bool false, .bool false, .bool false] 52 (0, 0))) : W.heap[b]? = some (.cells (boolsA fun _ => false) 52 (0, 0)) := h

/-- One of ten bools set. -/
theorem bools_shut (s : Sh) (g : Nat) (hg : g ≤ 9) : (boolsA s.2).setIfInBounds g (.bool true) = boolsA (s.shut g).2 := by
  have : g = 0 ∨ g = 1 ∨ g = 2 ∨ g = 3 ∨ g = 4 ∨ g = 5 ∨ g = 6 ∨ g = 7 ∨ g = 8 ∨ g = 9 := by omega
  rcases this with rfl | rfl | rfl | rfl | rfl | rfl | rfl | rfl | rfl | rfl <;> simp [Sh.shut]
theorem bools_get (c : Nat → Bool) (g : Nat) (hg : g ≤ 9) : (boolsA c)[g]? = some (.bool (c g)) := by
  have : g = 0 ∨ g = 1 ∨ g = 2 ∨ g = 3 ∨ g = 4 ∨ g = 5 ∨ g = 6 ∨ g = 7 ∨ g = 8 ∨ g = 9 := by omega
  rcases this with rfl | rfl | rfl | rfl | rfl | rfl | rfl | rfl | rfl | rfl <;> rfl
end Go.Proofs.Ytgpciekpmdihnaa
