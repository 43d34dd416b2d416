/-
  What the frame of HandleKeys asks of the program's text, together.
-/
import Derived.Test.YthcejfnngkmojaaGreatDoorJAHandleKeys
namespace Go.Proofs.YthcejfnngkmojaaGreatDoor
theorem handleKeys_joined : joinedFacts Tryz.prog 14 Tryz.f14 Rows.handleKeysSpec Rows.handleKeysRow = true := by
  simp only [joinedFacts, Bool.and_eq_true]
  repeat' apply And.intro
  all_goals first | with_reducible exact handleKeys_jf1 | with_reducible exact handleKeys_jf2 | with_reducible exact handleKeys_jf3 | with_reducible exact handleKeys_jf4 | with_reducible exact handleKeys_jf5 | with_reducible exact handleKeys_jf6 | kernel_rfl
end Go.Proofs.YthcejfnngkmojaaGreatDoor
