/- Parts. -/
import Derived.Test.YtmomlhiokggfbaaGreatDoorH07
import Derived.BigRegion
namespace Go.Proofs.YtmomlhiokggfbaaGreatDoor
open Go.RowKit
set_option linter.unusedVariables false
set_option maxRecDepth 20000

end Go.Proofs.YtmomlhiokggfbaaGreatDoor
