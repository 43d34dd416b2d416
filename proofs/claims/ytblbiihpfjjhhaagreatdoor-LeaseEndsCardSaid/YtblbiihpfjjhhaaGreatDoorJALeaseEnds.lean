import Derived.ProofKit
import Derived.OpenShut
import Derived.ChangeOld
import Derived.SizedLaws
import Derived.JoinedOf
import Derived.Test.YtblbiihpfjjhhaaGreatDoorRows
import Derived.Test.YtblbiihpfjjhhaaGreatDoorChecked
namespace Go.Proofs.YtblbiihpfjjhhaaGreatDoor
theorem leaseEnds_jf1:(Rows.leaseEndsRow.inPlace==Tryz.prog.inPlace 12)=true:=by kernel_rfl
theorem leaseEnds_jf2:(Rows.leaseEndsRow.unfollowed==Tryz.prog.unfollowed 12)=true:=by kernel_rfl
theorem leaseEnds_jf3:(Rows.leaseEndsRow.recurses==Tryz.prog.recurses 12)=true:=by kernel_rfl
theorem leaseEnds_jf4:(Rows.leaseEndsRow.named==Tryz.prog.varsNamed 12)=true:=by kernel_rfl
theorem leaseEnds_jf5:laidOutB Tryz.prog=true:=by kernel_rfl
theorem leaseEnds_jf6:mapsRowed Tryz.prog=true:=by kernel_rfl
end Go.Proofs.YtblbiihpfjjhhaaGreatDoor
