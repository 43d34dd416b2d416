/-
  What the frame of HandleKeys asks of the program's text, part by part.
-/
import Derived.ProofKit
import Derived.OpenShut
import Derived.ChangeOld
import Derived.SizedLaws
import Derived.JoinedOf
import Derived.Test.YthcejfnngkmojaaGreatDoorRows
import Derived.Test.YthcejfnngkmojaaGreatDoorChecked
namespace Go.Proofs.YthcejfnngkmojaaGreatDoor
theorem handleKeys_jf1 : (Rows.handleKeysRow.inPlace == Tryz.prog.inPlace 14) = true := by kernel_rfl
theorem handleKeys_jf2 : (Rows.handleKeysRow.unfollowed == Tryz.prog.unfollowed 14) = true := by kernel_rfl
theorem handleKeys_jf3 : (Rows.handleKeysRow.recurses == Tryz.prog.recurses 14) = true := by kernel_rfl
theorem handleKeys_jf4 : (Rows.handleKeysRow.named == Tryz.prog.varsNamed 14) = true := by kernel_rfl
theorem handleKeys_jf5 : laidOutB Tryz.prog = true := by kernel_rfl
theorem handleKeys_jf6 : mapsRowed Tryz.prog = true := by kernel_rfl
end Go.Proofs.YthcejfnngkmojaaGreatDoor
