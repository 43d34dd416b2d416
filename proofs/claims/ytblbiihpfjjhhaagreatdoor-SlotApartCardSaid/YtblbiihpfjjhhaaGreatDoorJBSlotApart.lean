/-
  What the frame of SlotApart asks of the program's text, together.
-/
import Derived.Test.YtblbiihpfjjhhaaGreatDoorJASlotApart
namespace Go.Proofs.YtblbiihpfjjhhaaGreatDoor
theorem slotApart_joined : joinedFacts Tryz.prog 3 Tryz.f3 Rows.slotApartSpec Rows.slotApartRow = true := by
  simp only [joinedFacts, Bool.and_eq_true]
  repeat' apply And.intro
  all_goals first | with_reducible exact slotApart_jf1 | with_reducible exact slotApart_jf2 | with_reducible exact slotApart_jf3 | with_reducible exact slotApart_jf4 | with_reducible exact slotApart_jf5 | with_reducible exact slotApart_jf6 | kernel_rfl
end Go.Proofs.YtblbiihpfjjhhaaGreatDoor
