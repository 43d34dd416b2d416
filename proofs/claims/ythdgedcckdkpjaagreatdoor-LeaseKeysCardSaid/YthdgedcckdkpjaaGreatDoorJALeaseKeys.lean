/-
  What the frame of LeaseKeys asks of the program's text,part by part.
-/
import Derived.ProofKit
import Derived.OpenShut
import Derived.ChangeOld
import Derived.SizedLaws
import Derived.JoinedOf
import Derived.Test.YthdgedcckdkpjaaGreatDoorRows
import Derived.Test.YthdgedcckdkpjaaGreatDoorChecked
namespace Go.Proofs.YthdgedcckdkpjaaGreatDoor
theorem leaseKeys_jf1:(Rows.leaseKeysRow.inPlace==Tryz.prog.inPlace 4)=true:=by kernel_rfl
theorem leaseKeys_jf2:(Rows.leaseKeysRow.unfollowed==Tryz.prog.unfollowed 4)=true:=by kernel_rfl
theorem leaseKeys_jf3:(Rows.leaseKeysRow.recurses==Tryz.prog.recurses 4)=true:=by kernel_rfl
theorem leaseKeys_jf4:(Rows.leaseKeysRow.named==Tryz.prog.varsNamed 4)=true:=by kernel_rfl
theorem leaseKeys_jf5:laidOutB Tryz.prog=true:=by kernel_rfl
theorem leaseKeys_jf6:mapsRowed Tryz.prog=true:=by kernel_rfl
end Go.Proofs.YthdgedcckdkpjaaGreatDoor
