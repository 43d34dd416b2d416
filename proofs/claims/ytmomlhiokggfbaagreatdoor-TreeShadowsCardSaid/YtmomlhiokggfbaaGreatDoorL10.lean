/-
 BitsCount.
-/
import Derived.Test.YtmomlhiokggfbaaGreatDoorL06
namespace Go.Proofs.YtmomlhiokggfbaaGreatDoor
open Go.RowKit
set_option maxRecDepth 20000
set_option maxHeartbeats 12800000
set_option linter.unusedVariables false
set_option linter.unusedSimpArgs false
def pc : Nat → Nat → Nat
 | 0, _ => 0
 | k + 1, x => x % 2 + pc k (x / 2)
end Go.Proofs.YtmomlhiokggfbaaGreatDoor
