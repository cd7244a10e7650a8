/- listing: Same; the document's Lines. -/
import Derived.Test.YtjckdfdgkkmmjaaDoorHf
namespace Go.Proofs.YtjckdfdgkkmmjaaDoor
open Go.RowKit

/-- The slice v reads as the texts l. -/
def Row (W : World) (v : Value) (l : List (List UInt8)) : Prop :=
  (l = [] ∧ ∃ p c, v = .slice p 0 c) ∨ (∃ g off c, v = .slice (some ⟨g, off, none⟩) l.length c ∧ ∀ i (h : i < l.length), W.cell? ⟨g, off + i, none⟩ = some (.string (bst l[i])))

theorem Row.shape {W : World} {v : Value} {l : List (List UInt8)} (h : Row W v l) : ∃ p c, v = .slice p l.length c := by
  rcases h with ⟨rfl, p, c, rfl⟩ | ⟨g, off, c, rfl, -⟩
  · exact ⟨p, c, rfl⟩
  · exact ⟨_, c, rfl⟩

theorem Row.below {W W' : World} {v : Value} {l : List (List UInt8)} (h : Row W v l) {B : Nat} (hb : Below B W W') (hv : ∀ k, v.ownBlock = some k → k < B) : Row W' v l := by
  rcases h with ⟨rfl, p, c, rfl⟩ | ⟨g, off, c, rfl, hc⟩
  · exact .inl ⟨rfl, p, c, rfl⟩
  · refine .inr ⟨g, off, c, rfl, fun i hi => ?_⟩
    rw [← hc i hi]
    exact hb.cell (p := ⟨g, off + i, none⟩) (hv g rfl)

theorem Row.of_owns {W : World} {base : Nat} {v : Value} {l : List (List UInt8)} (h : W.ownsRow base 9 1 v l.length (stV l)) : Row W v l := by
  rcases h.2 with ⟨rfl, h0⟩ | ⟨g, cap, cur, rfl, hg, hh, hrest⟩
  · exact .inl ⟨List.eq_nil_of_length_eq_zero h0, none, 0, rfl⟩
  · refine .inr ⟨g, 0, cap, rfl, fun i hi => ?_⟩
    have h2 := h.cells (g := g) rfl i (.string (bst l[i])) (by simp [stV, List.getElem?_eq_getElem hi])
    have hplain : (⟨g, 0, none⟩ : Addr).add i = ⟨g, 0 + i, none⟩ := by unfold Addr.add; split <;> simp_all
    rwa [hplain] at h2

theorem bst_toList (l : List UInt8) : (bst l).toList = l := by rw [Lib.toList_data]; rfl

/-- What a slice reads as stays, where nothing old is changed. -/
theorem Row.stay {W W' : World} {v : Value} {l : List (List UInt8)} (h : Row W v l) {B : Nat} (hb : Below B W W') (hB : W.heap.size ≤ B) : Row W' v l := by
  rcases h with ⟨rfl, p, c, rfl⟩ | ⟨g, off, c, rfl, hc⟩
  · exact .inl ⟨rfl, p, c, rfl⟩
  · refine .inr ⟨g, off, c, rfl, fun i hi => ?_⟩
    have h1 := hc i hi
    rw [← h1]
    exact hb.cell (p := ⟨g, off + i, none⟩) (Nat.lt_of_lt_of_le (cell_lt h1) hB)

end Go.Proofs.YtjckdfdgkkmmjaaDoor
