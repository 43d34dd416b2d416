/-
  What the frame of LeaseEnds asks of the program's text,part by part.
-/
import Derived.ProofKit
import Derived.OpenShut
import Derived.ChangeOld
import Derived.SizedLaws
import Derived.JoinedOf
import Derived.Test.YthdgedcckdkpjaaGreatDoorRows
import Derived.Test.YthdgedcckdkpjaaGreatDoorChecked
namespace Go.Proofs.YthdgedcckdkpjaaGreatDoor
theorem leaseEnds_jf1:(Rows.leaseEndsRow.inPlace==Tryz.prog.inPlace 3)=true:=by kernel_rfl
theorem leaseEnds_jf2:(Rows.leaseEndsRow.unfollowed==Tryz.prog.unfollowed 3)=true:=by kernel_rfl
theorem leaseEnds_jf3:(Rows.leaseEndsRow.recurses==Tryz.prog.recurses 3)=true:=by kernel_rfl
theorem leaseEnds_jf4:(Rows.leaseEndsRow.named==Tryz.prog.varsNamed 3)=true:=by kernel_rfl
theorem leaseEnds_jf5:laidOutB Tryz.prog=true:=by kernel_rfl
theorem leaseEnds_jf6:mapsRowed Tryz.prog=true:=by kernel_rfl
end Go.Proofs.YthdgedcckdkpjaaGreatDoor
