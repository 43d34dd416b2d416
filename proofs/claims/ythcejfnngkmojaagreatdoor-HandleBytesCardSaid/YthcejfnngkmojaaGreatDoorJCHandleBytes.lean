/-
  What the card of HandleBytes asks of the program's text, part by part.
-/
import Derived.SevenTiedAt
import Derived.ProofKit
import Derived.OpenShut
import Derived.ChangeOld
import Derived.SizedLaws
import Derived.JoinedOf
import Derived.Test.YthcejfnngkmojaaGreatDoorRows
import Derived.Test.YthcejfnngkmojaaGreatDoorChecked
namespace Go.Proofs.YthcejfnngkmojaaGreatDoor
theorem handleBytes_jg1 : true = Tryz.prog.looks [] := by kernel_rfl
theorem handleBytes_jg2 : false = Rows.handleBytesRow.goesBy Tryz.prog := by kernel_rfl
theorem handleBytes_jg3 : Tryz.prog.mainIs = some (true, ("4a207a8b1d034e30a8c18b9bf0772badbd50871ce6a7ff5f5beadc46febf488b" : String).toList) := by kernel_rfl
end Go.Proofs.YthcejfnngkmojaaGreatDoor
