/- The document's Parse at a [, without a ^ behind it. -/
import Derived.Test.YtaapmphdnholaaaDoorKRanged
import Derived.Test.YtaapmphdnholaaaDoorKParseP
namespace Go.Proofs.YtaapmphdnholaaaDoor
open Go.RowKit

end Go.Proofs.YtaapmphdnholaaaDoor

/- The document's Parse at a [, with a ^ behind it. -/
namespace Go.Proofs.YtaapmphdnholaaaDoor
open Go.RowKit

end Go.Proofs.YtaapmphdnholaaaDoor
