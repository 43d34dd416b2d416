/-
  What the frame of HandleDraws asks of the program's text, part by part.
-/
import Derived.ProofKit
import Derived.OpenShut
import Derived.ChangeOld
import Derived.SizedLaws
import Derived.JoinedOf
import Derived.Test.YthcejfnngkmojaaGreatDoorRows
import Derived.Test.YthcejfnngkmojaaGreatDoorChecked
namespace Go.Proofs.YthcejfnngkmojaaGreatDoor
theorem handleDraws_jf1 : (Rows.handleDrawsRow.inPlace == Tryz.prog.inPlace 11) = true := by kernel_rfl
theorem handleDraws_jf2 : (Rows.handleDrawsRow.unfollowed == Tryz.prog.unfollowed 11) = true := by kernel_rfl
theorem handleDraws_jf3 : (Rows.handleDrawsRow.recurses == Tryz.prog.recurses 11) = true := by kernel_rfl
theorem handleDraws_jf4 : (Rows.handleDrawsRow.named == Tryz.prog.varsNamed 11) = true := by kernel_rfl
theorem handleDraws_jf5 : laidOutB Tryz.prog = true := by kernel_rfl
theorem handleDraws_jf6 : mapsRowed Tryz.prog = true := by kernel_rfl
end Go.Proofs.YthcejfnngkmojaaGreatDoor
