/-
  What the card of CaptMoves asks of the program's text,part by part.
-/
import Derived.SevenTiedAt
import Derived.ProofKit
import Derived.OpenShut
import Derived.ChangeOld
import Derived.SizedLaws
import Derived.JoinedOf
import Derived.Test.YtknikcihgijmlaaGreatDoorRows
import Derived.Test.YtknikcihgijmlaaGreatDoorChecked
namespace Go.Proofs.YtknikcihgijmlaaGreatDoor
theorem captMoves_jg1:true=Tryz.prog.looks []:=by kernel_rfl
theorem captMoves_jg2:false=Rows.captMovesRow.goesBy Tryz.prog:=by kernel_rfl
theorem captMoves_jg3:Tryz.prog.mainIs=some (true,("5509a9a5998e78099db3afe92726fdb7449aa48ac5b035e7b8edf632cebdf1f3":String).toList):=by kernel_rfl
end Go.Proofs.YtknikcihgijmlaaGreatDoor
