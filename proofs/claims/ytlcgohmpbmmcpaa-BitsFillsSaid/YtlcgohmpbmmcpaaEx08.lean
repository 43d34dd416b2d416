/-
  The chapter's examples.
-/
import Derived.Test.YtlcgohmpbmmcpaaBitsWith0
import Derived.Test.YtlcgohmpbmmcpaaBitsFirst
import Derived.Test.YtlcgohmpbmmcpaaBitsCount
import Derived.Test.YtlcgohmpbmmcpaaBitsNew
namespace Go.Proofs.Ytlcgohmpbmmcpaa
open Go.RowKit
set_option linter.unusedVariables false

theorem ex_new : Str (List.replicate (newN 9) 0) = ⟨#[0, 0]⟩ := by kernel_rfl
theorem ex_with : withB ⟨#[0, 0]⟩ 8 true = ⟨#[0, 1]⟩ := by kernel_rfl
theorem ex_first : firstN ⟨#[3]⟩ 8 = 2 := by kernel_rfl
theorem ex_firstK : firstK ⟨#[3]⟩ 8 = true := by kernel_rfl
theorem ex_has : hasB ⟨#[0, 1]⟩ 8 = true := by kernel_rfl

set_option maxHeartbeats 800000 in
theorem examples_any (w : World) :
    Calls Try.prog 10 #[] w fun e w' => e = .returned (.bool true) ∧ Below w.heap.size w w' := by
  go_enter Try.func10, Try.ntmps10
  go_wp2_with fail
  refine (new_any _ _ (by omega) (by omega)).mono ?_
  rw [ex_new]
  rintro e w1 ⟨rfl, bb⟩
  go_wp2_with fail
  refine (with_any _ _ _ _ (by omega)).mono ?_
  rw [ex_with]
  rintro e w2 ⟨rfl, b2⟩
  replace bb := chain bb b2
  clear b2
  go_wp2_with fail
  refine (first_any _ _ _ (by decide) (by omega) (by omega)).mono ?_
  rw [ex_first, ex_firstK]
  rintro e w3 ⟨rfl, rfl⟩
  go_wp2_with fail
  refine (has_any _ _ _ (by omega)).mono ?_
  rw [ex_has]
  rintro e w4 ⟨rfl, rfl⟩
  go_wp2_with fail
  go_ret
  exact ⟨rfl, bb⟩
end Go.Proofs.Ytlcgohmpbmmcpaa
