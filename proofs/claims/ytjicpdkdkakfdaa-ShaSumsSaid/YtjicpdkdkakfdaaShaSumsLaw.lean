import Derived.Test.YtjicpdkdkakfdaaEx03
import Derived.Test.YtjicpdkdkakfdaaRefSum
import Derived.Test.YtjicpdkdkakfdaaRefHex
import Derived.Outline
namespace Go.Proofs.Ytjicpdkdkakfdaa
open Go.RowKit
set_option linter.unusedVariables false

set_option maxHeartbeats 1600000 in
theorem shaSums_b (s c h y : ByteArray) (w : World) (zs : s.size ≤ 140737488351232) (hc : Hid (s.extract 0 1000 = c)) (hcs : (c.size : Int) ≤ 1000) (hbb : 1000 < (s.size : Int))
    (HH : Hid (hexB c = h)) (HY : Hid (sumB c = y)) :
    Calls Try.prog 3 #[.string s] w fun e w' => e = .returned (.bool true) ∧ Below w.heap.size w w' := by
  go_enter Try.func3, Try.ntmps3
  try simp only [List.append_eq, List.cons_append, List.nil_append]
  go_wp2_with fail
  refine (examples_any _).mono ?_
  rintro e w1 ⟨rfl, bb⟩
  go_wp2_with fail
  rw [hc.out]
  refine (sum_is _ _ (by omega)).mono ?_
  rw [HY.out]
  rintro e w9 ⟨rfl, b9⟩
  replace bb := chain bb b9
  clear b9
  go_wp2_with fail
  refine (refSum_is _ _ (by omega)).mono ?_
  rw [HY.out]
  rintro e w9 ⟨rfl, b9⟩
  replace bb := chain bb b9
  clear b9
  go_wp2_with fail
  refine (hex_is _ _ (by omega)).mono ?_
  rw [HH.out]
  rintro e w9 ⟨rfl, b9⟩
  replace bb := chain bb b9
  clear b9
  go_wp2_with fail
  refine (refHex_is _ _ (by omega)).mono ?_
  rw [HH.out]
  rintro e w9 ⟨rfl, b9⟩
  replace bb := chain bb b9
  clear b9
  go_wp2_with fail
  go_ret
  refine ⟨ret_true ?_, bb⟩
  first | (simp; done) | (simp; omega)
set_option maxHeartbeats 1600000 in
theorem shaSums_s (s c h y : ByteArray) (w : World) (zs : s.size ≤ 140737488351232) (hbb : (s.size : Int) ≤ 1000)
    (HH : Hid (hexB s = h)) (HY : Hid (sumB s = y)) :
    Calls Try.prog 3 #[.string s] w fun e w' => e = .returned (.bool true) ∧ Below w.heap.size w w' := by
  go_enter Try.func3, Try.ntmps3
  try simp only [List.append_eq, List.cons_append, List.nil_append]
  go_wp2_with fail
  refine (examples_any _).mono ?_
  rintro e w1 ⟨rfl, bb⟩
  go_wp2_with fail
  refine (sum_is _ _ (by omega)).mono ?_
  rw [HY.out]
  rintro e w9 ⟨rfl, b9⟩
  replace bb := chain bb b9
  clear b9
  go_wp2_with fail
  refine (refSum_is _ _ (by omega)).mono ?_
  rw [HY.out]
  rintro e w9 ⟨rfl, b9⟩
  replace bb := chain bb b9
  clear b9
  go_wp2_with fail
  refine (hex_is _ _ (by omega)).mono ?_
  rw [HH.out]
  rintro e w9 ⟨rfl, b9⟩
  replace bb := chain bb b9
  clear b9
  go_wp2_with fail
  refine (refHex_is _ _ (by omega)).mono ?_
  rw [HH.out]
  rintro e w9 ⟨rfl, b9⟩
  replace bb := chain bb b9
  clear b9
  go_wp2_with fail
  go_ret
  refine ⟨ret_true ?_, bb⟩
  first | (simp; done) | (simp; omega)
theorem shaSums_law (a0 : ByteArray) (w : World) (z0 : a0.size ≤ 140737488351232) :
    Calls Try.prog 3 #[.string a0] w fun e w' => e = .returned (.bool true) ∧ Below w.heap.size w w' := by
  have hz : ((a0.extract 0 1000).size : Int) ≤ 1000 := by rw [ByteArray.size_extract]; omega
  rcases Int.lt_or_le 1000 (a0.size : Int) with hs | hs
  · exact shaSums_b a0 _ _ _ w z0 (Lib.hid rfl) hz hs (Lib.hid rfl) (Lib.hid rfl)
  · exact shaSums_s a0 a0 _ _ w z0 hs (Lib.hid rfl) (Lib.hid rfl)
end Go.Proofs.Ytjicpdkdkakfdaa
