/-
  What the frame of HandleApart asks of the program's text, together.
-/
import Derived.Test.YthcejfnngkmojaaGreatDoorJAHandleApart
namespace Go.Proofs.YthcejfnngkmojaaGreatDoor
theorem handleApart_joined : joinedFacts Tryz.prog 13 Tryz.f13 Rows.handleApartSpec Rows.handleApartRow = true := by
  simp only [joinedFacts, Bool.and_eq_true]
  repeat' apply And.intro
  all_goals first | with_reducible exact handleApart_jf1 | with_reducible exact handleApart_jf2 | with_reducible exact handleApart_jf3 | with_reducible exact handleApart_jf4 | with_reducible exact handleApart_jf5 | with_reducible exact handleApart_jf6 | kernel_rfl
end Go.Proofs.YthcejfnngkmojaaGreatDoor
