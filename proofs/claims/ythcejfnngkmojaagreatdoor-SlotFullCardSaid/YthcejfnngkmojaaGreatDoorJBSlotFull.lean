/-
  What the frame of SlotFull asks of the program's text, together.
-/
import Derived.Test.YthcejfnngkmojaaGreatDoorJASlotFull
namespace Go.Proofs.YthcejfnngkmojaaGreatDoor
theorem slotFull_joined : joinedFacts Tryz.prog 6 Tryz.f6 Rows.slotFullSpec Rows.slotFullRow = true := by
  simp only [joinedFacts, Bool.and_eq_true]
  repeat' apply And.intro
  all_goals first | with_reducible exact slotFull_jf1 | with_reducible exact slotFull_jf2 | with_reducible exact slotFull_jf3 | with_reducible exact slotFull_jf4 | with_reducible exact slotFull_jf5 | with_reducible exact slotFull_jf6 | kernel_rfl
end Go.Proofs.YthcejfnngkmojaaGreatDoor
