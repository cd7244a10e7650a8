/- The document's ranged: an item with the range that it may begin. -/
import Derived.Test.YtemgfbidfdhanaaDoorKEntry
namespace Go.Proofs.YtemgfbidfdhanaaDoor
open Go.RowKit

/-- What ranged answers: an item at fault is handed on whole. -/
noncomputable def rgS (s : ByteArray) (i : Nat) : It :=
  if (itemS s i).e ≠ 0 then itemS s i
  else if joinsB s (itemS s i).next = false then itemS s i
  else if (itemS s i).next + 1 = s.size then .err 6
  else if (itemS s i).bound = false then .err 7
  else if (itemS s ((itemS s i).next + 1)).e ≠ 0 then itemS s ((itemS s i).next + 1)
  else if (itemS s ((itemS s i).next + 1)).bound = false then .err 7
  else if (itemS s ((itemS s i).next + 1)).b < (itemS s i).b then .err 7
  else if joinsB s (itemS s ((itemS s i).next + 1)).next = true then .err 7
  else ⟨0, spanP (itemS s i).b.toNat (itemS s ((itemS s i).next + 1)).b.toNat, 0, false, (itemS s ((itemS s i).next + 1)).next⟩

theorem rgS_entry (s : ByteArray) (i : Nat) : (rgS s i).e = (entryS s i).e ∧ ((entryS s i).e = 0 → (rgS s i).q = (entryS s i).q ∧ (rgS s i).next = (entryS s i).next) := by
  unfold rgS entryS rangeS
  by_cases h1 : (itemS s i).e = 0
  · simp only [ne_eq, h1, not_true_eq_false, if_false]
    by_cases h2 : joinsB s (itemS s i).next = true
    · simp only [h2, Bool.true_eq_false, if_false, if_true]
      by_cases h3 : (itemS s i).next + 1 = s.size
      · simp [h3, It.err]
      · simp only [h3, if_false]
        by_cases h4 : (itemS s i).bound = false
        · simp [h4, It.err]
        · simp only [h4]
          by_cases h5 : (itemS s ((itemS s i).next + 1)).e = 0
          · simp only [h5, not_true_eq_false, if_false]
            by_cases h6 : (itemS s ((itemS s i).next + 1)).bound = false
            · simp [h6, It.err]
            · by_cases h7 : (itemS s ((itemS s i).next + 1)).b < (itemS s i).b
              · simp [h6, h7, It.err]
              · by_cases h8 : joinsB s (itemS s ((itemS s i).next + 1)).next = true
                · simp [h6, h7, h8, It.err]
                · simp [h6, h7, h8]
          · simp [h5, It.err]
    · simp [h2, h1]
  · simp [h1, It.err]

end Go.Proofs.YtemgfbidfdhanaaDoor
