/-
  What the frame of HandleOpens asks of the program's text, part by part.
-/
import Derived.ProofKit
import Derived.OpenShut
import Derived.ChangeOld
import Derived.SizedLaws
import Derived.JoinedOf
import Derived.Test.YthcejfnngkmojaaGreatDoorRows
import Derived.Test.YthcejfnngkmojaaGreatDoorChecked
namespace Go.Proofs.YthcejfnngkmojaaGreatDoor
theorem handleOpens_jf1 : (Rows.handleOpensRow.inPlace == Tryz.prog.inPlace 10) = true := by kernel_rfl
theorem handleOpens_jf2 : (Rows.handleOpensRow.unfollowed == Tryz.prog.unfollowed 10) = true := by kernel_rfl
theorem handleOpens_jf3 : (Rows.handleOpensRow.recurses == Tryz.prog.recurses 10) = true := by kernel_rfl
theorem handleOpens_jf4 : (Rows.handleOpensRow.named == Tryz.prog.varsNamed 10) = true := by kernel_rfl
theorem handleOpens_jf5 : laidOutB Tryz.prog = true := by kernel_rfl
theorem handleOpens_jf6 : mapsRowed Tryz.prog = true := by kernel_rfl
end Go.Proofs.YthcejfnngkmojaaGreatDoor
