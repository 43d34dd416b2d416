/-
 SumFacts.
-/
import Derived.Test.YthcejfnngkmojaaGreatDoorPzSum
namespace Go.Proofs.YthcejfnngkmojaaGreatDoor
open Go.RowKit
set_option maxRecDepth 20000
set_option maxHeartbeats 12800000
set_option linter.unusedVariables false
set_option linter.unusedSimpArgs false
def pG (s:ByteArray):ByteArray:=Str (S.sum s.data.toList)
theorem EI (s:ByteArray) (w:World) (hz:s.size≤140737488355328) :
  Calls Tryz.prog 130 #[.string s] w fun e w' => e=.returned (.string (pG s))∧Below w.heap.size w w' := ZC s w hz
theorem uI (s:S.St):(S.digest s).length=32:=by unfold S.digest; rw [tR]; rfl
theorem mA (s:ByteArray):(pG s).size=32:=by
 unfold pG S.sum; rw [aK,uI]
end Go.Proofs.YthcejfnngkmojaaGreatDoor
