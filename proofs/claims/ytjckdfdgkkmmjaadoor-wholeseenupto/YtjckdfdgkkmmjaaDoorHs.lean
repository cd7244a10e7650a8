/- listing: the walk of ListingBack. -/
import Derived.Test.YtjckdfdgkkmmjaaDoorHl
namespace Go.Proofs.YtjckdfdgkkmmjaaDoor
open Go.RowKit

theorem tot_le {l : List (List UInt8)} {n : Nat} (h : ∀ x ∈ l, x.length ≤ n) : totL l ≤ n * l.length := by
  induction l with
  | nil => simp [totL]
  | cons x r ih =>
    have h1 := ih (fun y hy => h y (by simp [hy]))
    have h2 := h x (by simp)
    have h3 : totL (x :: r) = x.length + totL r := by simp [totL]
    rw [h3, List.length_cons, Nat.mul_succ]
    omega
theorem lines_tot (t : List UInt8) : totL (linesL t) ≤ 70 * (t.length + 1) := by
  have h1 := tot_le (l := linesL t) (n := 70) (fun x hx => by
    obtain ⟨i, hi, e⟩ := List.mem_iff_getElem.1 hx
    exact (lines_ok t i x (by rw [List.getElem?_eq_getElem hi, e])).1)
  have h2 := lines_len t
  have h3 := Nat.mul_le_mul_left 70 h2
  omega
theorem bst_at (l : List UInt8) (k : Nat) (h2 : k < (bst l).size) : (bst l)[k]'h2 = l[k]'(by rw [bst_size] at h2; exact h2) := rfl

end Go.Proofs.YtjckdfdgkkmmjaaDoor
