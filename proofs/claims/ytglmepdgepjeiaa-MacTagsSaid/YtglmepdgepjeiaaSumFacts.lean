/-
  Sums as texts.
-/
import Derived.Test.YtglmepdgepjeiaaSum
namespace Go.Proofs.Ytglmepdgepjeiaa
open Go.RowKit
set_option linter.unusedVariables false

/-- The sum of a text. -/
def sumB (s : ByteArray) : ByteArray := Str (S.sum s.data.toList)
theorem sum_is (s : ByteArray) (w : World) (hz : s.size ≤ 140737488355328) :
    Calls Try.prog 13 #[.string s] w fun e w' => e = .returned (.string (sumB s)) ∧ Below w.heap.size w w' := sum_any s w hz
theorem digest_length (s : S.St) : (S.digest s).length = 32 := by unfold S.digest; rw [dig_length]; rfl
theorem sumB_size (s : ByteArray) : (sumB s).size = 32 := by
  unfold sumB S.sum; rw [Str_size, digest_length]
theorem beq_self (a : ByteArray) : (a.toList == a.toList) = true := by rw [list_beq]; simp
end Go.Proofs.Ytglmepdgepjeiaa
