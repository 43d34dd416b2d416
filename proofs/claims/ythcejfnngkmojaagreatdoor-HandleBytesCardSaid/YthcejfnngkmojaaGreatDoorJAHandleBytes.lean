/-
  What the frame of HandleBytes asks of the program's text, part by part.
-/
import Derived.ProofKit
import Derived.OpenShut
import Derived.ChangeOld
import Derived.SizedLaws
import Derived.JoinedOf
import Derived.Test.YthcejfnngkmojaaGreatDoorRows
import Derived.Test.YthcejfnngkmojaaGreatDoorChecked
namespace Go.Proofs.YthcejfnngkmojaaGreatDoor
theorem handleBytes_jf1 : (Rows.handleBytesRow.inPlace == Tryz.prog.inPlace 8) = true := by kernel_rfl
theorem handleBytes_jf2 : (Rows.handleBytesRow.unfollowed == Tryz.prog.unfollowed 8) = true := by kernel_rfl
theorem handleBytes_jf3 : (Rows.handleBytesRow.recurses == Tryz.prog.recurses 8) = true := by kernel_rfl
theorem handleBytes_jf4 : (Rows.handleBytesRow.named == Tryz.prog.varsNamed 8) = true := by kernel_rfl
theorem handleBytes_jf5 : laidOutB Tryz.prog = true := by kernel_rfl
theorem handleBytes_jf6 : mapsRowed Tryz.prog = true := by kernel_rfl
end Go.Proofs.YthcejfnngkmojaaGreatDoor
