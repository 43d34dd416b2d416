/-
  What the frame of HandleBytes asks of the program's text, together.
-/
import Derived.Test.YthcejfnngkmojaaGreatDoorJAHandleBytes
namespace Go.Proofs.YthcejfnngkmojaaGreatDoor
theorem handleBytes_joined : joinedFacts Tryz.prog 8 Tryz.f8 Rows.handleBytesSpec Rows.handleBytesRow = true := by
  simp only [joinedFacts, Bool.and_eq_true]
  repeat' apply And.intro
  all_goals first | with_reducible exact handleBytes_jf1 | with_reducible exact handleBytes_jf2 | with_reducible exact handleBytes_jf3 | with_reducible exact handleBytes_jf4 | with_reducible exact handleBytes_jf5 | with_reducible exact handleBytes_jf6 | kernel_rfl
end Go.Proofs.YthcejfnngkmojaaGreatDoor
