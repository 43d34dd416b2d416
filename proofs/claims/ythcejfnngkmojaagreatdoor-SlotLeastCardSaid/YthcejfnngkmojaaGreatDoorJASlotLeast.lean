/-
  What the frame of SlotLeast asks of the program's text, part by part.
-/
import Derived.ProofKit
import Derived.OpenShut
import Derived.ChangeOld
import Derived.SizedLaws
import Derived.JoinedOf
import Derived.Test.YthcejfnngkmojaaGreatDoorRows
import Derived.Test.YthcejfnngkmojaaGreatDoorChecked
namespace Go.Proofs.YthcejfnngkmojaaGreatDoor
theorem slotLeast_jf1 : (Rows.slotLeastRow.inPlace == Tryz.prog.inPlace 7) = true := by kernel_rfl
theorem slotLeast_jf2 : (Rows.slotLeastRow.unfollowed == Tryz.prog.unfollowed 7) = true := by kernel_rfl
theorem slotLeast_jf3 : (Rows.slotLeastRow.recurses == Tryz.prog.recurses 7) = true := by kernel_rfl
theorem slotLeast_jf4 : (Rows.slotLeastRow.named == Tryz.prog.varsNamed 7) = true := by kernel_rfl
theorem slotLeast_jf5 : laidOutB Tryz.prog = true := by kernel_rfl
theorem slotLeast_jf6 : mapsRowed Tryz.prog = true := by kernel_rfl
end Go.Proofs.YthcejfnngkmojaaGreatDoor
