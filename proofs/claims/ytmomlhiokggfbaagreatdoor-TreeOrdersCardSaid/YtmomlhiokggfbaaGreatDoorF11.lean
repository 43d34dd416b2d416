/-
 BitsCount.
-/
import Derived.Test.YtmomlhiokggfbaaGreatDoorF07
namespace Go.Proofs.YtmomlhiokggfbaaGreatDoor
open Go.RowKit
set_option linter.unusedVariables false
set_option maxRecDepth 20000
set_option maxHeartbeats 12800000

end Go.Proofs.YtmomlhiokggfbaaGreatDoor
