/-
  What the frame of HandleOpens asks of the program's text, together.
-/
import Derived.Test.YthcejfnngkmojaaGreatDoorJAHandleOpens
namespace Go.Proofs.YthcejfnngkmojaaGreatDoor
theorem handleOpens_joined : joinedFacts Tryz.prog 10 Tryz.f10 Rows.handleOpensSpec Rows.handleOpensRow = true := by
  simp only [joinedFacts, Bool.and_eq_true]
  repeat' apply And.intro
  all_goals first | with_reducible exact handleOpens_jf1 | with_reducible exact handleOpens_jf2 | with_reducible exact handleOpens_jf3 | with_reducible exact handleOpens_jf4 | with_reducible exact handleOpens_jf5 | with_reducible exact handleOpens_jf6 | kernel_rfl
end Go.Proofs.YthcejfnngkmojaaGreatDoor
