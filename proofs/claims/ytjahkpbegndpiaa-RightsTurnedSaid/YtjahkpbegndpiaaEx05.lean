/-
  The examples ahead of each statement of layer 5.
-/
import Derived.Test.YtjahkpbegndpiaaText
namespace Go.Proofs.Ytjahkpbegndpiaa
open Go.RowKit
set_option linter.unusedVariables false

set_option maxHeartbeats 400000 in
theorem examples_any (w : World) :
    Calls Try.prog 9 #[] w fun e w' => e = .returned (.bool true) ∧ Below w.heap.size w w' := by
  have P1 := Lib.hid (show textS 5 = ⟨#[97, 99]⟩ by kernel_rfl)
  have P2 := Lib.hid (show maskOk 5 = true by kernel_rfl)
  have P3 := Lib.hid (show parN ⟨#[99, 97]⟩ = 5 by kernel_rfl)
  have P4 := Lib.hid (show parB ⟨#[99, 97]⟩ = true by kernel_rfl)
  have P5 := Lib.hid (show parN ⟨#[97, 97]⟩ = 0 by kernel_rfl)
  have P6 := Lib.hid (show parB ⟨#[97, 97]⟩ = false by kernel_rfl)
  have P7 := Lib.hid (show cntN 65535 = 16 by kernel_rfl)
  go_enter Try.func9, Try.ntmps9
  go_wp2_with fail
  refine (text_any _ _).mono ?_
  rw [P1.out, P2.out]
  rintro e w1 ⟨rfl, b1⟩
  go_wp2_with fail
  refine (parse_any _ _ (by decide)).mono ?_
  rw [P3.out, P4.out]
  rintro e w2 ⟨rfl, b2⟩
  replace b1 := chain b1 b2
  clear b2
  go_wp2_with fail
  refine (parse_any _ _ (by decide)).mono ?_
  rw [P5.out, P6.out]
  rintro e w3 ⟨rfl, b3⟩
  replace b1 := chain b1 b3
  clear b3
  go_wp2_with fail
  refine (count_any _ _).mono ?_
  rw [P7.out]
  rintro e w4 ⟨rfl, rfl⟩
  go_wp2_with fail
  go_ret
  exact ⟨rfl, b1⟩
end Go.Proofs.Ytjahkpbegndpiaa
