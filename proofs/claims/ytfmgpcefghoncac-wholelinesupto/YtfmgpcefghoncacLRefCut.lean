/- Walks: the document's Cut: the lines of a text, in a new list, at every text of at most 2^30 bytes. -/
import Derived.Test.YtfmgpcefghoncacRows
import Derived.WalkKit
import Derived.WalkSpells
import Derived.WalkLawsBesides
import Derived.Test.YtfmgpcefghoncacLPlain
namespace Go.Proofs.Ytfmgpcefghoncac
open Go.RowKit

theorem owns_below {w w' : World} {base : Nat} {e : TypeId} {size : Nat} {v : Value} {n : Nat} {xs : List Value} (h : w.ownsRow base e size v n xs) (hb : Below w.heap.size w w') : w'.ownsRow base e size v n xs := by
  obtain ⟨hl, h⟩ := h
  refine ⟨hl, ?_⟩
  rcases h with h | ⟨g, cap, cur, hv, hg, hh, rest⟩
  · exact .inl h
  · have hlt : g < w.heap.size := (Array.getElem?_eq_some_iff.1 hh).1
    exact .inr ⟨g, cap, cur, hv, hg, (hb.block g hlt).trans hh, rest⟩

theorem owns_block {w : World} {base : Nat} {e : TypeId} {size : Nat} {v : Value} {n : Nat} {xs : List Value} (h : w.ownsRow base e size v n xs) : ∀ k, v.ownBlock = some k → base ≤ k := by
  rcases h.2 with ⟨rfl, -⟩ | ⟨g, cap, cur, rfl, hg, -⟩
  · intro k hk; cases hk
  · intro k hk; cases hk; exact hg

theorem info9 : (Try.prog.info? 9).map (fun i => (i.zero, i.size, i.bytes)) = some (some (.string ⟨#[]⟩), 1, 16) := by kernel_rfl

theorem byte_ten (s : ByteArray) (k : Nat) (h : k < s.size) (hq : ((s[k].toNat : Int) == 10) = true) : s.data.toList[k]'(by simpa using h) = 10 := by
  have h1 : s[k].toNat = 10 := by rw [beq_iff_eq] at hq; omega
  have h2 : s[k] = 10 := UInt8.toNat_inj.1 h1
  have h3 : s.data[k]'h = 10 := h2
  rw [Array.getElem_toList]
  exact h3

theorem byte_not (s : ByteArray) (k : Nat) (h : k < s.size) (hq : ((s[k].toNat : Int) == 10) = false) : s.data.toList[k]'(by simpa using h) ≠ 10 := by
  intro h2
  rw [Array.getElem_toList] at h2
  have h3 : s[k] = 10 := h2
  rw [h3] at hq
  revert hq
  decide

end Go.Proofs.Ytfmgpcefghoncac
