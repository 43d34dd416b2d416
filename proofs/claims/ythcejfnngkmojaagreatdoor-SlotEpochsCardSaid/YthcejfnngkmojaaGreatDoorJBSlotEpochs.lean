/-
  What the frame of SlotEpochs asks of the program's text, together.
-/
import Derived.Test.YthcejfnngkmojaaGreatDoorJASlotEpochs
namespace Go.Proofs.YthcejfnngkmojaaGreatDoor
theorem slotEpochs_joined : joinedFacts Tryz.prog 5 Tryz.f5 Rows.slotEpochsSpec Rows.slotEpochsRow = true := by
  simp only [joinedFacts, Bool.and_eq_true]
  repeat' apply And.intro
  all_goals first | with_reducible exact slotEpochs_jf1 | with_reducible exact slotEpochs_jf2 | with_reducible exact slotEpochs_jf3 | with_reducible exact slotEpochs_jf4 | with_reducible exact slotEpochs_jf5 | with_reducible exact slotEpochs_jf6 | kernel_rfl
end Go.Proofs.YthcejfnngkmojaaGreatDoor
