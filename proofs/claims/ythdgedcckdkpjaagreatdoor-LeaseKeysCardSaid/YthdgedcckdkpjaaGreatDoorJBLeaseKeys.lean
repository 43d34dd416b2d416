/-
  What the frame of LeaseKeys asks of the program's text,together.
-/
import Derived.Test.YthdgedcckdkpjaaGreatDoorJALeaseKeys
namespace Go.Proofs.YthdgedcckdkpjaaGreatDoor
theorem leaseKeys_joined:joinedFacts Tryz.prog 4 Tryz.f4 Rows.leaseKeysSpec Rows.leaseKeysRow=true:=by
  simp only[joinedFacts,Bool.and_eq_true]
  repeat' apply And.intro
  all_goals first|with_reducible exact leaseKeys_jf1|with_reducible exact leaseKeys_jf2|with_reducible exact leaseKeys_jf3|with_reducible exact leaseKeys_jf4|with_reducible exact leaseKeys_jf5|with_reducible exact leaseKeys_jf6|kernel_rfl
end Go.Proofs.YthdgedcckdkpjaaGreatDoor
