/- The document's Parse at a [, with a ^ behind it. -/
import Derived.Test.YtgpciekpmdihnaaKRanged
import Derived.Test.YtgpciekpmdihnaaKDocP
namespace Go.Proofs.Ytgpciekpmdihnaa
open Go.RowKit
end Go.Proofs.Ytgpciekpmdihnaa
