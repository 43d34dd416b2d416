/-
  What the frame of CaptNames asks of the program's text, part by part.
-/
import Derived.ProofKit
import Derived.OpenShut
import Derived.ChangeOld
import Derived.SizedLaws
import Derived.JoinedOf
import Derived.Test.YtblbiihpfjjhhaaGreatDoorRows
import Derived.Test.YtblbiihpfjjhhaaGreatDoorChecked
namespace Go.Proofs.YtblbiihpfjjhhaaGreatDoor
theorem captNames_jf1 : (Rows.captNamesRow.inPlace == Tryz.prog.inPlace 4) = true := by kernel_rfl
theorem captNames_jf2 : (Rows.captNamesRow.unfollowed == Tryz.prog.unfollowed 4) = true := by kernel_rfl
theorem captNames_jf3 : (Rows.captNamesRow.recurses == Tryz.prog.recurses 4) = true := by kernel_rfl
theorem captNames_jf4 : (Rows.captNamesRow.named == Tryz.prog.varsNamed 4) = true := by kernel_rfl
theorem captNames_jf5 : laidOutB Tryz.prog = true := by kernel_rfl
theorem captNames_jf6 : mapsRowed Tryz.prog = true := by kernel_rfl
end Go.Proofs.YtblbiihpfjjhhaaGreatDoor
