/-
  The chapter's examples.
-/
import Derived.Test.YtjicpdkdkakfdaaShaFacts
namespace Go.Proofs.Ytjicpdkdkakfdaa
open Go.RowKit
set_option linter.unusedVariables false

set_option maxHeartbeats 800000 in
theorem examples_any (w : World) :
    Calls Try.prog 7 #[] w fun e w' => e = .returned (.bool true) ∧ Below w.heap.size w w' := by
  go_enter Try.func7, Try.ntmps7
  go_wp2_with fail
  refine (sum_is _ _ (by decide)).mono ?_
  rw [sum_abc]
  rintro e w1 ⟨rfl, bb⟩
  go_wp2_with fail
  refine (hex_is _ _ (by decide)).mono ?_
  rw [hex_abc]
  rintro e w2 ⟨rfl, b2⟩
  replace bb := chain bb b2
  clear b2
  go_wp2_with fail
  go_ret
  exact ⟨rfl, bb⟩
end Go.Proofs.Ytjicpdkdkakfdaa
