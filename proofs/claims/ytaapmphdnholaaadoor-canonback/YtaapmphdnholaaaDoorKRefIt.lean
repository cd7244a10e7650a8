/- The document's item: a byte that stands for itself. -/
import Derived.Test.YtaapmphdnholaaaDoorKRdItem
namespace Go.Proofs.YtaapmphdnholaaaDoor
open Go.RowKit

end Go.Proofs.YtaapmphdnholaaaDoor

/- The document's item: marked by colon. -/
namespace Go.Proofs.YtaapmphdnholaaaDoor
open Go.RowKit

end Go.Proofs.YtaapmphdnholaaaDoor

/- The document's item: marked by equal. -/
namespace Go.Proofs.YtaapmphdnholaaaDoor
open Go.RowKit

end Go.Proofs.YtaapmphdnholaaaDoor

/- The document's item: marked by dot. -/
namespace Go.Proofs.YtaapmphdnholaaaDoor
open Go.RowKit

end Go.Proofs.YtaapmphdnholaaaDoor
