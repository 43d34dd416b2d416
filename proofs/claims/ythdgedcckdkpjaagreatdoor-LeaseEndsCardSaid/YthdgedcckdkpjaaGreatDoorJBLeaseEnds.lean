/-
  What the frame of LeaseEnds asks of the program's text,together.
-/
import Derived.Test.YthdgedcckdkpjaaGreatDoorJALeaseEnds
namespace Go.Proofs.YthdgedcckdkpjaaGreatDoor
theorem leaseEnds_joined:joinedFacts Tryz.prog 3 Tryz.f3 Rows.leaseEndsSpec Rows.leaseEndsRow=true:=by
  simp only[joinedFacts,Bool.and_eq_true]
  repeat' apply And.intro
  all_goals first|with_reducible exact leaseEnds_jf1|with_reducible exact leaseEnds_jf2|with_reducible exact leaseEnds_jf3|with_reducible exact leaseEnds_jf4|with_reducible exact leaseEnds_jf5|with_reducible exact leaseEnds_jf6|kernel_rfl
end Go.Proofs.YthdgedcckdkpjaaGreatDoor
