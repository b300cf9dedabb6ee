/- The walk of Root. -/
import Derived.Test.YtjnnodbejnmkmaaDoorW8
import Derived.Deep.RegionWith
import Derived.Deep.RegionHeld3
namespace Go.Proofs.YtjnnodbejnmkmaaDoor
open Go.RowKit

end Go.Proofs.YtjnnodbejnmkmaaDoor
