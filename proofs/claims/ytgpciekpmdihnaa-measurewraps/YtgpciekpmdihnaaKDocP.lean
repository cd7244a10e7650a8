/- The document's Parse at a [, without a ^ behind it. -/
import Derived.Test.YtgpciekpmdihnaaKRanged
import Derived.Test.YtgpciekpmdihnaaKParseP
namespace Go.Proofs.Ytgpciekpmdihnaa
open Go.RowKit
end Go.Proofs.Ytgpciekpmdihnaa
