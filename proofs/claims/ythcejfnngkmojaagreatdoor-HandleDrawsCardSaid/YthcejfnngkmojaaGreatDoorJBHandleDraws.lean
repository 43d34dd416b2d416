/-
  What the frame of HandleDraws asks of the program's text, together.
-/
import Derived.Test.YthcejfnngkmojaaGreatDoorJAHandleDraws
namespace Go.Proofs.YthcejfnngkmojaaGreatDoor
theorem handleDraws_joined : joinedFacts Tryz.prog 11 Tryz.f11 Rows.handleDrawsSpec Rows.handleDrawsRow = true := by
  simp only [joinedFacts, Bool.and_eq_true]
  repeat' apply And.intro
  all_goals first | with_reducible exact handleDraws_jf1 | with_reducible exact handleDraws_jf2 | with_reducible exact handleDraws_jf3 | with_reducible exact handleDraws_jf4 | with_reducible exact handleDraws_jf5 | with_reducible exact handleDraws_jf6 | kernel_rfl
end Go.Proofs.YthcejfnngkmojaaGreatDoor
