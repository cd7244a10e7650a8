/- The document's ranged: an item with the range that it may begin. -/
import Derived.Test.YtiedliahmjiadaaKEntry
namespace Go.Proofs.Ytiedliahmjiadaa
open Go.RowKit
end Go.Proofs.Ytiedliahmjiadaa
