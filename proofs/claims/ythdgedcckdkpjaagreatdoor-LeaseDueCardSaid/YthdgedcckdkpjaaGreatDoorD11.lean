import Derived.Test.YthdgedcckdkpjaaGreatDoorD07
namespace Go.Proofs.YthdgedcckdkpjaaGreatDoor
open Go.RowKit
set_option maxRecDepth 20000
set_option maxHeartbeats 12800000
set_option linter.unusedVariables false
set_option linter.unusedSimpArgs false

