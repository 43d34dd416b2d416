/-
  What the frame of SlotLeast asks of the program's text, together.
-/
import Derived.Test.YthcejfnngkmojaaGreatDoorJASlotLeast
namespace Go.Proofs.YthcejfnngkmojaaGreatDoor
theorem slotLeast_joined : joinedFacts Tryz.prog 7 Tryz.f7 Rows.slotLeastSpec Rows.slotLeastRow = true := by
  simp only [joinedFacts, Bool.and_eq_true]
  repeat' apply And.intro
  all_goals first | with_reducible exact slotLeast_jf1 | with_reducible exact slotLeast_jf2 | with_reducible exact slotLeast_jf3 | with_reducible exact slotLeast_jf4 | with_reducible exact slotLeast_jf5 | with_reducible exact slotLeast_jf6 | kernel_rfl
end Go.Proofs.YthcejfnngkmojaaGreatDoor
