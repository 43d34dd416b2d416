/-
  What the frame of SlotEpochs asks of the program's text, part by part.
-/
import Derived.ProofKit
import Derived.OpenShut
import Derived.ChangeOld
import Derived.SizedLaws
import Derived.JoinedOf
import Derived.Test.YthcejfnngkmojaaGreatDoorRows
import Derived.Test.YthcejfnngkmojaaGreatDoorChecked
namespace Go.Proofs.YthcejfnngkmojaaGreatDoor
theorem slotEpochs_jf1 : (Rows.slotEpochsRow.inPlace == Tryz.prog.inPlace 5) = true := by kernel_rfl
theorem slotEpochs_jf2 : (Rows.slotEpochsRow.unfollowed == Tryz.prog.unfollowed 5) = true := by kernel_rfl
theorem slotEpochs_jf3 : (Rows.slotEpochsRow.recurses == Tryz.prog.recurses 5) = true := by kernel_rfl
theorem slotEpochs_jf4 : (Rows.slotEpochsRow.named == Tryz.prog.varsNamed 5) = true := by kernel_rfl
theorem slotEpochs_jf5 : laidOutB Tryz.prog = true := by kernel_rfl
theorem slotEpochs_jf6 : mapsRowed Tryz.prog = true := by kernel_rfl
end Go.Proofs.YthcejfnngkmojaaGreatDoor
