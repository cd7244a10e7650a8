/- template: how many spans an argument holds. -/
import Derived.Test.YtbncokfpkkmoiaaTo
namespace Go.Proofs.Ytbncokfpkkmoiaa

theorem bulkS_all {H : Type} (l : List (Int × Int)) : l.length ≤ Rows.uptoBulkAll (l.map (spD (H := H))) := by
  induction l with
  | nil => simp
  | cons q r ih =>
    simp only [List.map_cons, Rows.uptoBulkAll, spD, Rows.uptoBulk, List.length_cons]
    omega
theorem bulkS_le {H : Type} {l : List (Int × Int)} {d : DataW H} (h : (l = [] ∧ d = .nil) ∨ ∃ r, d = .slice (l.map spD) r) : l.length ≤ Rows.uptoBulk d := by
  rcases h with ⟨rfl, rfl⟩ | ⟨r, rfl⟩
  · simp
  · have := bulkS_all (H := H) l
    simp only [Rows.uptoBulk]
    omega

end Go.Proofs.Ytbncokfpkkmoiaa
