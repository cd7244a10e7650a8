/- Walks: the document's Members and Count: the bytes of a set, rising, in a new list. -/
import Derived.Test.YtolkbemclkgmmabCount
namespace Go.Proofs.Ytolkbemclkgmmab
open Go.RowKit

/-- The members below k, rising. -/
def mem (p : Nat → Bool) (k : Nat) : List Nat := (List.range k).filter p

/-- Bytes as Go holds them. -/
def byteVals (l : List Nat) : List Value := l.map fun n => Value.int .u8 (n : Nat)

theorem mem_succ (p : Nat → Bool) (k : Nat) : mem p (k + 1) = if p k then mem p k ++ [k] else mem p k := by
  unfold mem
  rw [List.range_succ, List.filter_append]
  by_cases h : p k = true <;> simp [h]

theorem mem_le (p : Nat → Bool) (k : Nat) : (mem p k).length ≤ k := by
  have := List.length_filter_le p (List.range k)
  simpa [mem] using this

theorem byteVals_snoc (l : List Nat) (k : Nat) : byteVals (l ++ [k]) = byteVals l ++ [.int .u8 (k : Nat)] := by simp [byteVals]

theorem owns_below {w w' : World} {base : Nat} {e : TypeId} {size : Nat} {v : Value} {n : Nat} {xs : List Value} (h : w.ownsRow base e size v n xs) (hb : Below w.heap.size w w') : w'.ownsRow base e size v n xs := by
  obtain ⟨hl, h⟩ := h
  refine ⟨hl, ?_⟩
  rcases h with h | ⟨g, cap, cur, hv, hg, hh, rest⟩
  · exact .inl h
  · have hlt : g < w.heap.size := (Array.getElem?_eq_some_iff.1 hh).1
    exact .inr ⟨g, cap, cur, hv, hg, (hb.block g hlt).trans hh, rest⟩

theorem owns_block {w : World} {base : Nat} {e : TypeId} {size : Nat} {v : Value} {n : Nat} {xs : List Value} (h : w.ownsRow base e size v n xs) : ∀ k, v.ownBlock = some k → base ≤ k := by
  rcases h.2 with ⟨rfl, -⟩ | ⟨g, cap, cur, rfl, hg, -⟩
  · intro k hk; cases hk
  · intro k hk; cases hk; exact hg

theorem info5 : (Try.prog.info? 5).map (fun i => (i.zero, i.size, i.bytes)) = some (some (.int .u8 0), 1, 1) := by kernel_rfl

end Go.Proofs.Ytolkbemclkgmmab
