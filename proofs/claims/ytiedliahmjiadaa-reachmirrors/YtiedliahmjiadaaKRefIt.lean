/- The document's item: a byte that stands for itself. -/
import Derived.Test.YtiedliahmjiadaaKRdItem
namespace Go.Proofs.Ytiedliahmjiadaa
open Go.RowKit
end Go.Proofs.Ytiedliahmjiadaa
namespace Go.Proofs.Ytiedliahmjiadaa
open Go.RowKit
end Go.Proofs.Ytiedliahmjiadaa
namespace Go.Proofs.Ytiedliahmjiadaa
open Go.RowKit
end Go.Proofs.Ytiedliahmjiadaa
namespace Go.Proofs.Ytiedliahmjiadaa
open Go.RowKit
end Go.Proofs.Ytiedliahmjiadaa
