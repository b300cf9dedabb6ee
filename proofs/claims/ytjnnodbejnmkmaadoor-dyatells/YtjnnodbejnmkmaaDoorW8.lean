/- Walks: guess, firstLimb, nextLimb, Root. -/
import Derived.Test.YtjnnodbejnmkmaaDoorW7
namespace Go.Proofs.YtjnnodbejnmkmaaDoor
open Go.RowKit

end Go.Proofs.YtjnnodbejnmkmaaDoor
