/-
  What the frame of LeaseForgets asks of the program's text,part by part.
-/
import Derived.ProofKit
import Derived.OpenShut
import Derived.ChangeOld
import Derived.SizedLaws
import Derived.JoinedOf
import Derived.Test.YthdgedcckdkpjaaGreatDoorRows
import Derived.Test.YthdgedcckdkpjaaGreatDoorChecked
namespace Go.Proofs.YthdgedcckdkpjaaGreatDoor
theorem leaseForgets_jf1:(Rows.leaseForgetsRow.inPlace==Tryz.prog.inPlace 5)=true:=by kernel_rfl
theorem leaseForgets_jf2:(Rows.leaseForgetsRow.unfollowed==Tryz.prog.unfollowed 5)=true:=by kernel_rfl
theorem leaseForgets_jf3:(Rows.leaseForgetsRow.recurses==Tryz.prog.recurses 5)=true:=by kernel_rfl
theorem leaseForgets_jf4:(Rows.leaseForgetsRow.named==Tryz.prog.varsNamed 5)=true:=by kernel_rfl
theorem leaseForgets_jf5:laidOutB Tryz.prog=true:=by kernel_rfl
theorem leaseForgets_jf6:mapsRowed Tryz.prog=true:=by kernel_rfl
end Go.Proofs.YthdgedcckdkpjaaGreatDoor
