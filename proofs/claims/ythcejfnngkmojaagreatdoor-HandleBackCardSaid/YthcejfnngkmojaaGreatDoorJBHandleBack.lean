/-
  What the frame of HandleBack asks of the program's text, together.
-/
import Derived.Test.YthcejfnngkmojaaGreatDoorJAHandleBack
namespace Go.Proofs.YthcejfnngkmojaaGreatDoor
theorem handleBack_joined : joinedFacts Tryz.prog 9 Tryz.f9 Rows.handleBackSpec Rows.handleBackRow = true := by
  simp only [joinedFacts, Bool.and_eq_true]
  repeat' apply And.intro
  all_goals first | with_reducible exact handleBack_jf1 | with_reducible exact handleBack_jf2 | with_reducible exact handleBack_jf3 | with_reducible exact handleBack_jf4 | with_reducible exact handleBack_jf5 | with_reducible exact handleBack_jf6 | kernel_rfl
end Go.Proofs.YthcejfnngkmojaaGreatDoor
