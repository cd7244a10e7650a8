/- ytab in plain mathematics: what Piece, New and Apply answer. -/
import Derived.Test.YtgcjjfidcadlgaaUk
namespace Go.Proofs.Ytgcjjfidcadlgaa
open Go.RowKit

/-- A letter or a digit. -/
def alnB (c : UInt8) : Prop := (97 ≤ c.toNat ∧ c.toNat ≤ 122) ∨ (65 ≤ c.toNat ∧ c.toNat ≤ 90) ∨ (48 ≤ c.toNat ∧ c.toNat ≤ 57)
theorem alnB_dec (c : UInt8) : alnB c ∨ ¬ alnB c := Classical.em _

/-- The reader of a piece: what is meant, or the fault and its place. -/
def pcR : List UInt8 → Nat → List UInt8 → List UInt8 × Nat × Nat
  | [], _, acc => (acc, 0, 0)
  | b :: r, k, acc =>
    if b.toNat ≠ 92 then pcR r (k + 1) (acc ++ [b])
    else match r with
      | [] => ([], 6, k)
      | c :: q => if c.toNat = 110 then pcR q (k + 2) (acc ++ [10])
        else if (97 ≤ c.toNat ∧ c.toNat ≤ 122) ∨ (65 ≤ c.toNat ∧ c.toNat ≤ 90) ∨ (48 ≤ c.toNat ∧ c.toNat ≤ 57) then ([], 12, k)
        else pcR q (k + 2) (acc ++ [c])
  termination_by l => l.length
def pieceR (l : List UInt8) : List UInt8 × Nat × Nat := pcR l 0 []

theorem pc_nil (k : Nat) (acc : List UInt8) : pcR [] k acc = (acc, 0, 0) := by unfold pcR; rfl
theorem pc_pl (b : UInt8) (r : List UInt8) (k : Nat) (acc : List UInt8) (h : b.toNat ≠ 92) : pcR (b :: r) k acc = pcR r (k + 1) (acc ++ [b]) := by
  rw [pcR.eq_def]
  dsimp only
  rw [if_pos h]
theorem pc_end (b : UInt8) (k : Nat) (acc : List UInt8) (h : b.toNat = 92) : pcR [b] k acc = ([], 6, k) := by
  rw [pcR, if_neg (by omega)]
theorem pc_n (b c : UInt8) (q : List UInt8) (k : Nat) (acc : List UInt8) (h : b.toNat = 92) (h2 : c.toNat = 110) : pcR (b :: c :: q) k acc = pcR q (k + 2) (acc ++ [10]) := by
  rw [pcR, if_neg (by omega), if_pos h2]
theorem pc_bad (b c : UInt8) (q : List UInt8) (k : Nat) (acc : List UInt8) (h : b.toNat = 92) (h2 : c.toNat ≠ 110) (h3 : alnB c) : pcR (b :: c :: q) k acc = ([], 12, k) := by
  rw [pcR, if_neg (by omega), if_neg h2, if_pos (by unfold alnB at h3; exact h3)]
theorem pc_esc (b c : UInt8) (q : List UInt8) (k : Nat) (acc : List UInt8) (h : b.toNat = 92) (h2 : c.toNat ≠ 110) (h3 : ¬ alnB c) : pcR (b :: c :: q) k acc = pcR q (k + 2) (acc ++ [c]) := by
  rw [pcR, if_neg (by omega), if_neg h2, if_neg (by unfold alnB at h3; exact h3)]

end Go.Proofs.Ytgcjjfidcadlgaa
