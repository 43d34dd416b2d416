/-
  What the frame of LeaseClock asks of the program's text, together.
-/
import Derived.Test.YthcejfnngkmojaaGreatDoorJALeaseClock
namespace Go.Proofs.YthcejfnngkmojaaGreatDoor
theorem leaseClock_joined : joinedFacts Tryz.prog 3 Tryz.f3 Rows.leaseClockSpec Rows.leaseClockRow = true := by
  simp only [joinedFacts, Bool.and_eq_true]
  repeat' apply And.intro
  all_goals first | with_reducible exact leaseClock_jf1 | with_reducible exact leaseClock_jf2 | with_reducible exact leaseClock_jf3 | with_reducible exact leaseClock_jf4 | with_reducible exact leaseClock_jf5 | with_reducible exact leaseClock_jf6 | kernel_rfl
end Go.Proofs.YthcejfnngkmojaaGreatDoor
