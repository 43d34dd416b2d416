/-
 BitsWith0.
-/
import Derived.Test.YtmomlhiokggfbaaGreatDoorE06
import Derived.BigRegion
namespace Go.Proofs.YtmomlhiokggfbaaGreatDoor
open Go.RowKit
set_option maxRecDepth 20000
set_option maxHeartbeats 12800000

end Go.Proofs.YtmomlhiokggfbaaGreatDoor
