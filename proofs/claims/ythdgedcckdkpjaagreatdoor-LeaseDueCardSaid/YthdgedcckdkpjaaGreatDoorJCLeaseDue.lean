/-
  What the card of LeaseDue asks of the program's text,part by part.
-/
import Derived.SevenTiedAt
import Derived.ProofKit
import Derived.OpenShut
import Derived.ChangeOld
import Derived.SizedLaws
import Derived.JoinedOf
import Derived.Test.YthdgedcckdkpjaaGreatDoorRows
import Derived.Test.YthdgedcckdkpjaaGreatDoorChecked
namespace Go.Proofs.YthdgedcckdkpjaaGreatDoor
theorem leaseDue_jg1:true=Tryz.prog.looks []:=by kernel_rfl
theorem leaseDue_jg2:false=Rows.leaseDueRow.goesBy Tryz.prog:=by kernel_rfl
theorem leaseDue_jg3:Tryz.prog.mainIs=some (true,("79adb7d43ddba8f3209ef01b7f4129fb3983a12d27b76e3291b94204393a8968":String).toList):=by kernel_rfl
end Go.Proofs.YthdgedcckdkpjaaGreatDoor
