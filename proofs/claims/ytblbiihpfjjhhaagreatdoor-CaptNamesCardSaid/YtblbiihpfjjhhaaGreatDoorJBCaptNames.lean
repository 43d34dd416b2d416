/-
  What the frame of CaptNames asks of the program's text, together.
-/
import Derived.Test.YtblbiihpfjjhhaaGreatDoorJACaptNames
namespace Go.Proofs.YtblbiihpfjjhhaaGreatDoor
theorem captNames_joined : joinedFacts Tryz.prog 4 Tryz.f4 Rows.captNamesSpec Rows.captNamesRow = true := by
  simp only [joinedFacts, Bool.and_eq_true]
  repeat' apply And.intro
  all_goals first | with_reducible exact captNames_jf1 | with_reducible exact captNames_jf2 | with_reducible exact captNames_jf3 | with_reducible exact captNames_jf4 | with_reducible exact captNames_jf5 | with_reducible exact captNames_jf6 | kernel_rfl
end Go.Proofs.YtblbiihpfjjhhaaGreatDoor
