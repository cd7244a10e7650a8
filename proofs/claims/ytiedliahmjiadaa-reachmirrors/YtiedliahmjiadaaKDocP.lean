/- The document's Parse at a [, without a ^ behind it. -/
import Derived.Test.YtiedliahmjiadaaKRanged
import Derived.Test.YtiedliahmjiadaaKParseP
namespace Go.Proofs.Ytiedliahmjiadaa
open Go.RowKit
end Go.Proofs.Ytiedliahmjiadaa
namespace Go.Proofs.Ytiedliahmjiadaa
open Go.RowKit
end Go.Proofs.Ytiedliahmjiadaa
