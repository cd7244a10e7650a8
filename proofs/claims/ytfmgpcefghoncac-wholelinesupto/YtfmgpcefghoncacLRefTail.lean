/- Walks: the document's Tail: the last n lines, at every text of at most 2^30 bytes and every n. -/
import Derived.Test.YtfmgpcefghoncacLSame
namespace Go.Proofs.Ytfmgpcefghoncac
open Go.RowKit

/-- The last n of the texts. -/
def tailL (L : List (List UInt8)) (n : Int) : List (List UInt8) := if 0 < n then L.drop (L.length - n.toNat) else []

theorem owns_mono {W : World} {base base' : Nat} {e : TypeId} {size : Nat} {v : Value} {n : Nat} {xs : List Value} (h : W.ownsRow base e size v n xs) (hb : base' ≤ base) : W.ownsRow base' e size v n xs := by
  obtain ⟨hl, h⟩ := h
  refine ⟨hl, ?_⟩
  rcases h with h | ⟨g, cap, cur, hv, hg, rest⟩
  · exact .inl h
  · exact .inr ⟨g, cap, cur, hv, by omega, rest⟩

theorem pick_yes (L : List (List UInt8)) (a k : Nat) (hk : k < L.length) (ha : a ≤ k) : (L.take (k + 1)).drop a = (L.take k).drop a ++ [L[k]] := by
  rw [List.take_succ_eq_append_getElem hk, List.drop_append_of_le_length (by simp; omega)]
theorem pick_no (L : List (List UInt8)) (a k : Nat) (ha : k < a) : (L.take (k + 1)).drop a = [] ∧ (L.take k).drop a = [] := by
  constructor <;> (rw [List.drop_eq_nil_iff]; simp; omega)

end Go.Proofs.Ytfmgpcefghoncac
