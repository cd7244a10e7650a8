/- The document's Parse at a [, without a ^ behind it. -/
import Derived.Test.YtemgfbidfdhanaaDoorKRanged
import Derived.Test.YtemgfbidfdhanaaDoorKParseP
namespace Go.Proofs.YtemgfbidfdhanaaDoor
open Go.RowKit

theorem entryS_end (s : ByteArray) (i : Nat) (h : s.size ≤ i) : entryS s i = .err 6 := by
  have e : itemS s i = .err 6 := by rw [itemS, if_neg (by omega)]
  rw [entryS, e, if_pos (by simp [It.err])]
  rfl

end Go.Proofs.YtemgfbidfdhanaaDoor

/- The document's Parse at a [, with a ^ behind it. -/
namespace Go.Proofs.YtemgfbidfdhanaaDoor
open Go.RowKit

end Go.Proofs.YtemgfbidfdhanaaDoor
