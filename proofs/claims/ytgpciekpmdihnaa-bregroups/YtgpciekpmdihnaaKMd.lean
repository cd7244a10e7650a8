/- measure: together. -/
import Derived.Test.YtgpciekpmdihnaaKPa
import Derived.Test.YtgpciekpmdihnaaKQf
import Derived.Test.YtgpciekpmdihnaaKMc
import Derived.Deep.Cut
import Derived.Handy
namespace Go.Proofs.Ytgpciekpmdihnaa
open Go.RowKit
end Go.Proofs.Ytgpciekpmdihnaa
/- measure: ofTree, for any tree whose numbers fit. -/
namespace Go.Proofs.Ytgpciekpmdihnaa
open Go.RowKit
end Go.Proofs.Ytgpciekpmdihnaa
/- measure: what is known of a tree, and how the numbers lie to one another. -/
namespace Go.Proofs.Ytgpciekpmdihnaa
open Go.RowKit
end Go.Proofs.Ytgpciekpmdihnaa
