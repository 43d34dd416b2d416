import Derived.Test.YtjahkpbegndpiaaEx05
namespace Go.Proofs.Ytjahkpbegndpiaa
open Go.RowKit
set_option linter.unusedVariables false

set_option maxHeartbeats 1000000 in
theorem rightsLetters_law (a0 : Int) (a1 : ByteArray) (w : World) (w0 : (Lit.int .i64 a0).wf = true) (z1 : a1.size ≤ 140737488351232) :
    Calls Try.prog 3 #[.int .i64 a0, .string a1] w fun e w' => e = .returned (.bool true) ∧ Below w.heap.size w w' := by
  go_enter Try.func3, Try.ntmps3
  go_wp2_with fail
  refine (examples_any _).mono ?_
  rintro e w1 ⟨rfl, bb⟩
  go_wp2_with fail
  refine (text_any _ _).mono ?_
  rintro e w2 ⟨rfl, b2⟩
  replace bb := chain bb b2
  clear b2
  go_wp2_with fail
  refine (refText_any _ _).mono ?_
  rintro e w3 ⟨rfl, b3⟩
  replace bb := chain bb b3
  clear b3
  go_wp2_with fail
  refine (parse_any _ _ (by omega)).mono ?_
  rintro e w4 ⟨rfl, b4⟩
  replace bb := chain bb b4
  clear b4
  go_wp2_with fail
  refine (refParse_any _ _ (by omega)).mono ?_
  rintro e w5 ⟨rfl, rfl⟩
  go_wp2_with fail
  go_ret
  exact ⟨ret_true (by simp), bb⟩
end Go.Proofs.Ytjahkpbegndpiaa
