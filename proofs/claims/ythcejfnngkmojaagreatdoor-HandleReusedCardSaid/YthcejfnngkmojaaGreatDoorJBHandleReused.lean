/-
  What the frame of HandleReused asks of the program's text, together.
-/
import Derived.Test.YthcejfnngkmojaaGreatDoorJAHandleReused
namespace Go.Proofs.YthcejfnngkmojaaGreatDoor
theorem handleReused_joined : joinedFacts Tryz.prog 12 Tryz.f12 Rows.handleReusedSpec Rows.handleReusedRow = true := by
  simp only [joinedFacts, Bool.and_eq_true]
  repeat' apply And.intro
  all_goals first | with_reducible exact handleReused_jf1 | with_reducible exact handleReused_jf2 | with_reducible exact handleReused_jf3 | with_reducible exact handleReused_jf4 | with_reducible exact handleReused_jf5 | with_reducible exact handleReused_jf6 | kernel_rfl
end Go.Proofs.YthcejfnngkmojaaGreatDoor
