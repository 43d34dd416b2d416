import Derived.Test.YtjcodjdhomhlpaaRefFold
namespace Go.Proofs.Ytjcodjdhomhlpaa
open Go.RowKit
set_option linter.unusedVariables false

set_option maxHeartbeats 3200000 in
theorem labelTells_walk (s f : ByteArray) (n : Nat) (v : Bool) (w : World) (hs : s.size ≤ 1048576) (F : Hid (foldB s = f)) (V : Hid (rightB s = v)) (N : Hid ((RS s 0).length = n)) :
    Calls Try.prog 3 #[.string s] w fun e w' => e = .returned (.bool true) ∧ Below w.heap.size w w' := by
  go_enter Try.func3, Try.ntmps3
  go_wp2_with fail
  refine (examples_any _).mono ?_
  rintro e w1 ⟨rfl, bb⟩
  go_wp2_with fail
  refine (fold_any _ _ (by omega)).mono ?_
  rw [F.out, V.out]
  rintro e w9 ⟨rfl, b9⟩
  replace bb := chain bb b9
  clear b9
  go_wp2_with fail
  refine (refFold_any _ _ (by omega)).mono ?_
  rw [F.out, V.out]
  rintro e w9 ⟨rfl, b9⟩
  replace bb := chain bb b9
  clear b9
  go_wp2_with fail
  refine (runes_any _ _ (by omega)).mono ?_
  rw [N.out]
  rintro e w9 ⟨rfl, b9⟩
  replace bb := chain bb b9
  clear b9
  go_wp2_with fail
  refine (refRunes_any _ _ (by omega)).mono ?_
  rw [N.out]
  rintro e w9 ⟨rfl, b9⟩
  replace bb := chain bb b9
  clear b9
  go_wp2_with fail
  refine (right_any _ _ (by omega)).mono ?_
  rw [V.out]
  rintro e w9 ⟨rfl, b9⟩
  replace bb := chain bb b9
  clear b9
  go_wp2_with fail
  refine (refRight_any _ _ (by omega)).mono ?_
  rw [V.out]
  rintro e w9 ⟨rfl, b9⟩
  replace bb := chain bb b9
  clear b9
  go_wp2_with fail
  go_ret
  exact ⟨ret_true (by simp), bb⟩
theorem labelTells_law (a0 : ByteArray) (w : World) (z0 : a0.size ≤ 1048576) :
    Calls Try.prog 3 #[.string a0] w fun e w' => e = .returned (.bool true) ∧ Below w.heap.size w w' :=
  labelTells_walk a0 _ _ _ w z0 (Lib.hid rfl) (Lib.hid rfl) (Lib.hid rfl)
end Go.Proofs.Ytjcodjdhomhlpaa
