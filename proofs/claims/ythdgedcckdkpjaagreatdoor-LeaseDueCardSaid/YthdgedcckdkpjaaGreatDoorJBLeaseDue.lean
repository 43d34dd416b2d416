/-
  What the frame of LeaseDue asks of the program's text,together.
-/
import Derived.Test.YthdgedcckdkpjaaGreatDoorJALeaseDue
namespace Go.Proofs.YthdgedcckdkpjaaGreatDoor
theorem leaseDue_joined:joinedFacts Tryz.prog 6 Tryz.f6 Rows.leaseDueSpec Rows.leaseDueRow=true:=by
  simp only[joinedFacts,Bool.and_eq_true]
  repeat' apply And.intro
  all_goals first|with_reducible exact leaseDue_jf1|with_reducible exact leaseDue_jf2|with_reducible exact leaseDue_jf3|with_reducible exact leaseDue_jf4|with_reducible exact leaseDue_jf5|with_reducible exact leaseDue_jf6|kernel_rfl
end Go.Proofs.YthdgedcckdkpjaaGreatDoor
