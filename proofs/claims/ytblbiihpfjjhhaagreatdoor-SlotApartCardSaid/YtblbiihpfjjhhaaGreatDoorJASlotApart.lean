/-
  What the frame of SlotApart asks of the program's text, part by part.
-/
import Derived.ProofKit
import Derived.OpenShut
import Derived.ChangeOld
import Derived.SizedLaws
import Derived.JoinedOf
import Derived.Test.YtblbiihpfjjhhaaGreatDoorRows
import Derived.Test.YtblbiihpfjjhhaaGreatDoorChecked
namespace Go.Proofs.YtblbiihpfjjhhaaGreatDoor
theorem slotApart_jf1 : (Rows.slotApartRow.inPlace == Tryz.prog.inPlace 3) = true := by kernel_rfl
theorem slotApart_jf2 : (Rows.slotApartRow.unfollowed == Tryz.prog.unfollowed 3) = true := by kernel_rfl
theorem slotApart_jf3 : (Rows.slotApartRow.recurses == Tryz.prog.recurses 3) = true := by kernel_rfl
theorem slotApart_jf4 : (Rows.slotApartRow.named == Tryz.prog.varsNamed 3) = true := by kernel_rfl
theorem slotApart_jf5 : laidOutB Tryz.prog = true := by kernel_rfl
theorem slotApart_jf6 : mapsRowed Tryz.prog = true := by kernel_rfl
end Go.Proofs.YtblbiihpfjjhhaaGreatDoor
