/-
  What the frame of CaptDeep asks of the program's text, together.
-/
import Derived.Test.YtblbiihpfjjhhaaGreatDoorJACaptDeep
namespace Go.Proofs.YtblbiihpfjjhhaaGreatDoor
theorem captDeep_joined : joinedFacts Tryz.prog 5 Tryz.f5 Rows.captDeepSpec Rows.captDeepRow = true := by
  simp only [joinedFacts, Bool.and_eq_true]
  repeat' apply And.intro
  all_goals first | with_reducible exact captDeep_jf1 | with_reducible exact captDeep_jf2 | with_reducible exact captDeep_jf3 | with_reducible exact captDeep_jf4 | with_reducible exact captDeep_jf5 | with_reducible exact captDeep_jf6 | kernel_rfl
end Go.Proofs.YtblbiihpfjjhhaaGreatDoor
