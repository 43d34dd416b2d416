/-
  What the frame of CaptDeep asks of the program's text, part by part.
-/
import Derived.ProofKit
import Derived.OpenShut
import Derived.ChangeOld
import Derived.SizedLaws
import Derived.JoinedOf
import Derived.Test.YtblbiihpfjjhhaaGreatDoorRows
import Derived.Test.YtblbiihpfjjhhaaGreatDoorChecked
namespace Go.Proofs.YtblbiihpfjjhhaaGreatDoor
theorem captDeep_jf1 : (Rows.captDeepRow.inPlace == Tryz.prog.inPlace 5) = true := by kernel_rfl
theorem captDeep_jf2 : (Rows.captDeepRow.unfollowed == Tryz.prog.unfollowed 5) = true := by kernel_rfl
theorem captDeep_jf3 : (Rows.captDeepRow.recurses == Tryz.prog.recurses 5) = true := by kernel_rfl
theorem captDeep_jf4 : (Rows.captDeepRow.named == Tryz.prog.varsNamed 5) = true := by kernel_rfl
theorem captDeep_jf5 : laidOutB Tryz.prog = true := by kernel_rfl
theorem captDeep_jf6 : mapsRowed Tryz.prog = true := by kernel_rfl
end Go.Proofs.YtblbiihpfjjhhaaGreatDoor
