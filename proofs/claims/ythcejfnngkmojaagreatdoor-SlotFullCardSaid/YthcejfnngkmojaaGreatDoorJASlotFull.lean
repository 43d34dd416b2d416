/-
  What the frame of SlotFull asks of the program's text, part by part.
-/
import Derived.ProofKit
import Derived.OpenShut
import Derived.ChangeOld
import Derived.SizedLaws
import Derived.JoinedOf
import Derived.Test.YthcejfnngkmojaaGreatDoorRows
import Derived.Test.YthcejfnngkmojaaGreatDoorChecked
namespace Go.Proofs.YthcejfnngkmojaaGreatDoor
theorem slotFull_jf1 : (Rows.slotFullRow.inPlace == Tryz.prog.inPlace 6) = true := by kernel_rfl
theorem slotFull_jf2 : (Rows.slotFullRow.unfollowed == Tryz.prog.unfollowed 6) = true := by kernel_rfl
theorem slotFull_jf3 : (Rows.slotFullRow.recurses == Tryz.prog.recurses 6) = true := by kernel_rfl
theorem slotFull_jf4 : (Rows.slotFullRow.named == Tryz.prog.varsNamed 6) = true := by kernel_rfl
theorem slotFull_jf5 : laidOutB Tryz.prog = true := by kernel_rfl
theorem slotFull_jf6 : mapsRowed Tryz.prog = true := by kernel_rfl
end Go.Proofs.YthcejfnngkmojaaGreatDoor
