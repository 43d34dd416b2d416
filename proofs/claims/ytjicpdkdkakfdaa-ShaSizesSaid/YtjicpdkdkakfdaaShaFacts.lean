/-
  Sums and digits as texts; the known ones.
-/
import Derived.Test.YtjicpdkdkakfdaaSum
import Derived.Test.YtjicpdkdkakfdaaHex
namespace Go.Proofs.Ytjicpdkdkakfdaa
open Go.RowKit
set_option linter.unusedVariables false

/-- The sum and the digits of a text. -/
def sumB (s : ByteArray) : ByteArray := Str (S.sum s.data.toList)
def hexB (s : ByteArray) : ByteArray := Str (hexL s.data.toList)
theorem sum_is (s : ByteArray) (w : World) (hz : s.size ≤ 140737488355328) :
    Calls Try.prog 8 #[.string s] w fun e w' => e = .returned (.string (sumB s)) ∧ Below w.heap.size w w' := sum_any s w hz
theorem hex_is (s : ByteArray) (w : World) (hz : s.size ≤ 70368744177664) :
    Calls Try.prog 10 #[.string s] w fun e w' => e = .returned (.string (hexB s)) ∧ Below w.heap.size w w' := hex_any s w hz
theorem hexB_size (s : ByteArray) : (hexB s).size = 2 * s.size := by
  unfold hexB; rw [Str_size, hexL_length]; simp
theorem digest_length (s : S.St) : (S.digest s).length = 32 := by unfold S.digest; rw [dig_length]; rfl
theorem sumB_size (s : ByteArray) : (sumB s).size = 32 := by
  unfold sumB S.sum; rw [Str_size, digest_length]
theorem hexB_append (a b : ByteArray) : hexB (a ++ b) = hexB a ++ hexB b := by
  unfold hexB
  rw [Str_append, Str_list, append_list, hexL_append]
theorem sum_abc : sumB ⟨#[97, 98, 99]⟩ = ⟨#[186, 120, 22, 191, 143, 1, 207, 234, 65, 65, 64, 222, 93, 174, 34, 35, 176, 3, 97, 163, 150, 23, 122, 156, 180, 16, 255, 97, 242, 0, 21, 173]⟩ := by decide +kernel
theorem hex_abc : hexB ⟨#[186, 120, 22, 191, 143, 1, 207, 234, 65, 65, 64, 222, 93, 174, 34, 35, 176, 3, 97, 163, 150, 23, 122, 156, 180, 16, 255, 97, 242, 0, 21, 173]⟩ = ⟨#[98, 97, 55, 56, 49, 54, 98, 102, 56, 102, 48, 49, 99, 102, 101, 97, 52, 49, 52, 49, 52, 48, 100, 101, 53, 100, 97, 101, 50, 50, 50, 51, 98, 48, 48, 51, 54, 49, 97, 51, 57, 54, 49, 55, 55, 97, 57, 99, 98, 52, 49, 48, 102, 102, 54, 49, 102, 50, 48, 48, 49, 53, 97, 100]⟩ := by decide +kernel
theorem sum_none : sumB ⟨#[]⟩ = ⟨#[227, 176, 196, 66, 152, 252, 28, 20, 154, 251, 244, 200, 153, 111, 185, 36, 39, 174, 65, 228, 100, 155, 147, 76, 164, 149, 153, 27, 120, 82, 184, 85]⟩ := by decide +kernel
theorem hex_none : hexB ⟨#[227, 176, 196, 66, 152, 252, 28, 20, 154, 251, 244, 200, 153, 111, 185, 36, 39, 174, 65, 228, 100, 155, 147, 76, 164, 149, 153, 27, 120, 82, 184, 85]⟩ = ⟨#[101, 51, 98, 48, 99, 52, 52, 50, 57, 56, 102, 99, 49, 99, 49, 52, 57, 97, 102, 98, 102, 52, 99, 56, 57, 57, 54, 102, 98, 57, 50, 52, 50, 55, 97, 101, 52, 49, 101, 52, 54, 52, 57, 98, 57, 51, 52, 99, 97, 52, 57, 53, 57, 57, 49, 98, 55, 56, 53, 50, 98, 56, 53, 53]⟩ := by decide +kernel
theorem sum_long : sumB ⟨#[97, 98, 99, 100, 98, 99, 100, 101, 99, 100, 101, 102, 100, 101, 102, 103, 101, 102, 103, 104, 102, 103, 104, 105, 103, 104, 105, 106, 104, 105, 106, 107, 105, 106, 107, 108, 106, 107, 108, 109, 107, 108, 109, 110, 108, 109, 110, 111, 109, 110, 111, 112, 110, 111, 112, 113]⟩ = ⟨#[36, 141, 106, 97, 210, 6, 56, 184, 229, 192, 38, 147, 12, 62, 96, 57, 163, 60, 228, 89, 100, 255, 33, 103, 246, 236, 237, 212, 25, 219, 6, 193]⟩ := by decide +kernel
theorem hex_long : hexB ⟨#[36, 141, 106, 97, 210, 6, 56, 184, 229, 192, 38, 147, 12, 62, 96, 57, 163, 60, 228, 89, 100, 255, 33, 103, 246, 236, 237, 212, 25, 219, 6, 193]⟩ = ⟨#[50, 52, 56, 100, 54, 97, 54, 49, 100, 50, 48, 54, 51, 56, 98, 56, 101, 53, 99, 48, 50, 54, 57, 51, 48, 99, 51, 101, 54, 48, 51, 57, 97, 51, 51, 99, 101, 52, 53, 57, 54, 52, 102, 102, 50, 49, 54, 55, 102, 54, 101, 99, 101, 100, 100, 52, 49, 57, 100, 98, 48, 54, 99, 49]⟩ := by decide +kernel
theorem beq_self (a : ByteArray) : (a.toList == a.toList) = true := by rw [list_beq]; simp
end Go.Proofs.Ytjicpdkdkakfdaa
