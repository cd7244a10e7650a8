/- The document's ranged: an item with the range that it may begin. -/
import Derived.Test.YtgpciekpmdihnaaKEntry
namespace Go.Proofs.Ytgpciekpmdihnaa
open Go.RowKit
end Go.Proofs.Ytgpciekpmdihnaa
