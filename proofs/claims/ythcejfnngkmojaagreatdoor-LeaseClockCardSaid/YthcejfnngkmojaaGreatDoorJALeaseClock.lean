/-
  What the frame of LeaseClock asks of the program's text, part by part.
-/
import Derived.ProofKit
import Derived.OpenShut
import Derived.ChangeOld
import Derived.SizedLaws
import Derived.JoinedOf
import Derived.Test.YthcejfnngkmojaaGreatDoorRows
import Derived.Test.YthcejfnngkmojaaGreatDoorChecked
namespace Go.Proofs.YthcejfnngkmojaaGreatDoor
theorem leaseClock_jf1 : (Rows.leaseClockRow.inPlace == Tryz.prog.inPlace 3) = true := by kernel_rfl
theorem leaseClock_jf2 : (Rows.leaseClockRow.unfollowed == Tryz.prog.unfollowed 3) = true := by kernel_rfl
theorem leaseClock_jf3 : (Rows.leaseClockRow.recurses == Tryz.prog.recurses 3) = true := by kernel_rfl
theorem leaseClock_jf4 : (Rows.leaseClockRow.named == Tryz.prog.varsNamed 3) = true := by kernel_rfl
theorem leaseClock_jf5 : laidOutB Tryz.prog = true := by kernel_rfl
theorem leaseClock_jf6 : mapsRowed Tryz.prog = true := by kernel_rfl
end Go.Proofs.YthcejfnngkmojaaGreatDoor
