/- The document's item: a byte that stands for itself. -/
import Derived.Test.YtgpciekpmdihnaaKRdItem
namespace Go.Proofs.Ytgpciekpmdihnaa
open Go.RowKit
end Go.Proofs.Ytgpciekpmdihnaa
/- The document's item: marked by colon. -/
namespace Go.Proofs.Ytgpciekpmdihnaa
open Go.RowKit
end Go.Proofs.Ytgpciekpmdihnaa
/- The document's item: marked by equal. -/
namespace Go.Proofs.Ytgpciekpmdihnaa
open Go.RowKit
end Go.Proofs.Ytgpciekpmdihnaa
/- The document's item: marked by dot. -/
namespace Go.Proofs.Ytgpciekpmdihnaa
open Go.RowKit
end Go.Proofs.Ytgpciekpmdihnaa
