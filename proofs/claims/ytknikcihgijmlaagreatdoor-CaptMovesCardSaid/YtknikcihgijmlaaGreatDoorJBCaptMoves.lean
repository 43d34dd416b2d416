/-
  What the frame of CaptMoves asks of the program's text,together.
-/
import Derived.Test.YtknikcihgijmlaaGreatDoorJACaptMoves
namespace Go.Proofs.YtknikcihgijmlaaGreatDoor
theorem captMoves_joined:joinedFacts Tryz.prog 3 Tryz.f3 Rows.captMovesSpec Rows.captMovesRow=true:=by
  simp only[joinedFacts,Bool.and_eq_true]
  repeat' apply And.intro
  all_goals first|with_reducible exact captMoves_jf1|with_reducible exact captMoves_jf2|with_reducible exact captMoves_jf3|with_reducible exact captMoves_jf4|with_reducible exact captMoves_jf5|with_reducible exact captMoves_jf6|kernel_rfl
end Go.Proofs.YtknikcihgijmlaaGreatDoor
