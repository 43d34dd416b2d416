import Derived.Test.YtknikcihgijmlaaGreatDoorM07
import Derived.BigRegion
namespace Go.Proofs.YtknikcihgijmlaaGreatDoor
open Go.RowKit
set_option maxRecDepth 20000
set_option maxHeartbeats 12800000
set_option linter.unusedVariables false
set_option linter.unusedSimpArgs false

