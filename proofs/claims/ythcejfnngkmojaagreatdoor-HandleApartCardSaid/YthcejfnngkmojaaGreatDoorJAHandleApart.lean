/-
  What the frame of HandleApart asks of the program's text, part by part.
-/
import Derived.ProofKit
import Derived.OpenShut
import Derived.ChangeOld
import Derived.SizedLaws
import Derived.JoinedOf
import Derived.Test.YthcejfnngkmojaaGreatDoorRows
import Derived.Test.YthcejfnngkmojaaGreatDoorChecked
namespace Go.Proofs.YthcejfnngkmojaaGreatDoor
theorem handleApart_jf1 : (Rows.handleApartRow.inPlace == Tryz.prog.inPlace 13) = true := by kernel_rfl
theorem handleApart_jf2 : (Rows.handleApartRow.unfollowed == Tryz.prog.unfollowed 13) = true := by kernel_rfl
theorem handleApart_jf3 : (Rows.handleApartRow.recurses == Tryz.prog.recurses 13) = true := by kernel_rfl
theorem handleApart_jf4 : (Rows.handleApartRow.named == Tryz.prog.varsNamed 13) = true := by kernel_rfl
theorem handleApart_jf5 : laidOutB Tryz.prog = true := by kernel_rfl
theorem handleApart_jf6 : mapsRowed Tryz.prog = true := by kernel_rfl
end Go.Proofs.YthcejfnngkmojaaGreatDoor
