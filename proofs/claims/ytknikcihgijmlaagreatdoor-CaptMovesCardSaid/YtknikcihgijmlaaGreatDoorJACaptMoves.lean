/-
  What the frame of CaptMoves asks of the program's text,part by part.
-/
import Derived.ProofKit
import Derived.OpenShut
import Derived.ChangeOld
import Derived.SizedLaws
import Derived.JoinedOf
import Derived.Test.YtknikcihgijmlaaGreatDoorRows
import Derived.Test.YtknikcihgijmlaaGreatDoorChecked
namespace Go.Proofs.YtknikcihgijmlaaGreatDoor
theorem captMoves_jf1:(Rows.captMovesRow.inPlace==Tryz.prog.inPlace 3)=true:=by kernel_rfl
theorem captMoves_jf2:(Rows.captMovesRow.unfollowed==Tryz.prog.unfollowed 3)=true:=by kernel_rfl
theorem captMoves_jf3:(Rows.captMovesRow.recurses==Tryz.prog.recurses 3)=true:=by kernel_rfl
theorem captMoves_jf4:(Rows.captMovesRow.named==Tryz.prog.varsNamed 3)=true:=by kernel_rfl
theorem captMoves_jf5:laidOutB Tryz.prog=true:=by kernel_rfl
theorem captMoves_jf6:mapsRowed Tryz.prog=true:=by kernel_rfl
end Go.Proofs.YtknikcihgijmlaaGreatDoor
