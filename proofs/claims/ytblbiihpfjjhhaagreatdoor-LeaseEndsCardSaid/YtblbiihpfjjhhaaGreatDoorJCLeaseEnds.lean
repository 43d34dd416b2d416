import Derived.SevenTiedAt
import Derived.ProofKit
import Derived.OpenShut
import Derived.ChangeOld
import Derived.SizedLaws
import Derived.JoinedOf
import Derived.Test.YtblbiihpfjjhhaaGreatDoorRows
import Derived.Test.YtblbiihpfjjhhaaGreatDoorChecked
namespace Go.Proofs.YtblbiihpfjjhhaaGreatDoor
theorem leaseEnds_jg1:true=Tryz.prog.looks []:=by kernel_rfl
theorem leaseEnds_jg2:false=Rows.leaseEndsRow.goesBy Tryz.prog:=by kernel_rfl
theorem leaseEnds_jg3:Tryz.prog.mainIs=some (true,("1215036dd0717c89e7fb90b68a9151822fb45e1be5ee308e688ec8fe34edce4e":String).toList):=by kernel_rfl
end Go.Proofs.YtblbiihpfjjhhaaGreatDoor
