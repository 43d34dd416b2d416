/-
  What the frame of HandleBack asks of the program's text, part by part.
-/
import Derived.ProofKit
import Derived.OpenShut
import Derived.ChangeOld
import Derived.SizedLaws
import Derived.JoinedOf
import Derived.Test.YthcejfnngkmojaaGreatDoorRows
import Derived.Test.YthcejfnngkmojaaGreatDoorChecked
namespace Go.Proofs.YthcejfnngkmojaaGreatDoor
theorem handleBack_jf1 : (Rows.handleBackRow.inPlace == Tryz.prog.inPlace 9) = true := by kernel_rfl
theorem handleBack_jf2 : (Rows.handleBackRow.unfollowed == Tryz.prog.unfollowed 9) = true := by kernel_rfl
theorem handleBack_jf3 : (Rows.handleBackRow.recurses == Tryz.prog.recurses 9) = true := by kernel_rfl
theorem handleBack_jf4 : (Rows.handleBackRow.named == Tryz.prog.varsNamed 9) = true := by kernel_rfl
theorem handleBack_jf5 : laidOutB Tryz.prog = true := by kernel_rfl
theorem handleBack_jf6 : mapsRowed Tryz.prog = true := by kernel_rfl
end Go.Proofs.YthcejfnngkmojaaGreatDoor
