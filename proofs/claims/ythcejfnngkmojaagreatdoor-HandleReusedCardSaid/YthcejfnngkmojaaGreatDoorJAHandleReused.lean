/-
  What the frame of HandleReused asks of the program's text, part by part.
-/
import Derived.ProofKit
import Derived.OpenShut
import Derived.ChangeOld
import Derived.SizedLaws
import Derived.JoinedOf
import Derived.Test.YthcejfnngkmojaaGreatDoorRows
import Derived.Test.YthcejfnngkmojaaGreatDoorChecked
namespace Go.Proofs.YthcejfnngkmojaaGreatDoor
theorem handleReused_jf1 : (Rows.handleReusedRow.inPlace == Tryz.prog.inPlace 12) = true := by kernel_rfl
theorem handleReused_jf2 : (Rows.handleReusedRow.unfollowed == Tryz.prog.unfollowed 12) = true := by kernel_rfl
theorem handleReused_jf3 : (Rows.handleReusedRow.recurses == Tryz.prog.recurses 12) = true := by kernel_rfl
theorem handleReused_jf4 : (Rows.handleReusedRow.named == Tryz.prog.varsNamed 12) = true := by kernel_rfl
theorem handleReused_jf5 : laidOutB Tryz.prog = true := by kernel_rfl
theorem handleReused_jf6 : mapsRowed Tryz.prog = true := by kernel_rfl
end Go.Proofs.YthcejfnngkmojaaGreatDoor
