/-
  What the frame of LeaseForgets asks of the program's text,together.
-/
import Derived.Test.YthdgedcckdkpjaaGreatDoorJALeaseForgets
namespace Go.Proofs.YthdgedcckdkpjaaGreatDoor
theorem leaseForgets_joined:joinedFacts Tryz.prog 5 Tryz.f5 Rows.leaseForgetsSpec Rows.leaseForgetsRow=true:=by
  simp only[joinedFacts,Bool.and_eq_true]
  repeat' apply And.intro
  all_goals first|with_reducible exact leaseForgets_jf1|with_reducible exact leaseForgets_jf2|with_reducible exact leaseForgets_jf3|with_reducible exact leaseForgets_jf4|with_reducible exact leaseForgets_jf5|with_reducible exact leaseForgets_jf6|kernel_rfl
end Go.Proofs.YthdgedcckdkpjaaGreatDoor
