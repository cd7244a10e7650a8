/- The document's item: a byte that stands for itself. -/
import Derived.Test.YtemgfbidfdhanaaDoorKRdItem
namespace Go.Proofs.YtemgfbidfdhanaaDoor
open Go.RowKit

theorem below8 {B : Nat} {a w : World} (h : Below B a w) {b : Nat} (hb : B ≤ b) (v0 v1 v2 v3 v4 v5 v6 v7 : Value) : Below B a ((((((((w.setCell ⟨b, 0, none⟩ v0).setCell ⟨b, 1, none⟩ v1).setCell ⟨b, 2, none⟩ v2).setCell ⟨b, 3, none⟩ v3).setCell ⟨b, 4, none⟩ v4).setCell ⟨b, 5, none⟩ v5).setCell ⟨b, 6, none⟩ v6).setCell ⟨b, 7, none⟩ v7) :=
  ((((((((h.setCell (p := ⟨b, 0, none⟩) hb _).setCell (p := ⟨b, 1, none⟩) hb _).setCell (p := ⟨b, 2, none⟩) hb _).setCell (p := ⟨b, 3, none⟩) hb _).setCell (p := ⟨b, 4, none⟩) hb _).setCell (p := ⟨b, 5, none⟩) hb _).setCell (p := ⟨b, 6, none⟩) hb _).setCell (p := ⟨b, 7, none⟩) hb _)

end Go.Proofs.YtemgfbidfdhanaaDoor

/- The document's item: marked by colon. -/
namespace Go.Proofs.YtemgfbidfdhanaaDoor
open Go.RowKit

end Go.Proofs.YtemgfbidfdhanaaDoor

/- The document's item: marked by equal. -/
namespace Go.Proofs.YtemgfbidfdhanaaDoor
open Go.RowKit

end Go.Proofs.YtemgfbidfdhanaaDoor

/- The document's item: marked by dot. -/
namespace Go.Proofs.YtemgfbidfdhanaaDoor
open Go.RowKit

end Go.Proofs.YtemgfbidfdhanaaDoor
