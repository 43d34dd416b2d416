/-
  What the frame of LeaseDue asks of the program's text,part by part.
-/
import Derived.ProofKit
import Derived.OpenShut
import Derived.ChangeOld
import Derived.SizedLaws
import Derived.JoinedOf
import Derived.Test.YthdgedcckdkpjaaGreatDoorRows
import Derived.Test.YthdgedcckdkpjaaGreatDoorChecked
namespace Go.Proofs.YthdgedcckdkpjaaGreatDoor
theorem leaseDue_jf1:(Rows.leaseDueRow.inPlace==Tryz.prog.inPlace 6)=true:=by kernel_rfl
theorem leaseDue_jf2:(Rows.leaseDueRow.unfollowed==Tryz.prog.unfollowed 6)=true:=by kernel_rfl
theorem leaseDue_jf3:(Rows.leaseDueRow.recurses==Tryz.prog.recurses 6)=true:=by kernel_rfl
theorem leaseDue_jf4:(Rows.leaseDueRow.named==Tryz.prog.varsNamed 6)=true:=by kernel_rfl
theorem leaseDue_jf5:laidOutB Tryz.prog=true:=by kernel_rfl
theorem leaseDue_jf6:mapsRowed Tryz.prog=true:=by kernel_rfl
end Go.Proofs.YthdgedcckdkpjaaGreatDoor
