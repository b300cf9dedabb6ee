/- The frame of a row's proof: arguments that came in are opened; they read behind the call as before it. -/
import Derived.Test.YtncopdgonbgaaaaDoorRows
import Derived.Test.YtncopdgonbgaaaaDoorMem
import Derived.ProofKit
import Derived.OpenShut
import Derived.ChangeOld
namespace Go.Proofs.YtncopdgonbgaaaaDoor
open Go.ChangeShapes Go.WideShapes Go.ChangeAt Go.RowKit

theorem own : ownKnob Tryd.prog.godebug = none := by kernel_rfl
theorem laidOut : laidOutB Tryd.prog = true := by kernel_rfl

end Go.Proofs.YtncopdgonbgaaaaDoor
