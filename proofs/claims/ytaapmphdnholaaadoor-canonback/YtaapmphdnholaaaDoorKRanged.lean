/- The document's ranged: an item with the range that it may begin. -/
import Derived.Test.YtaapmphdnholaaaDoorKEntry
namespace Go.Proofs.YtaapmphdnholaaaDoor
open Go.RowKit

end Go.Proofs.YtaapmphdnholaaaDoor
