/-
  What stands in a frame; the chapter's examples.
-/
import Derived.Test.YtnbljpdfmomjjaaFrame
import Derived.Outline
namespace Go.Proofs.Ytnbljpdfmomjjaa
open Go.RowKit
set_option linter.unusedVariables false

theorem frB_list (s m : ByteArray) : (frB s ++ m).data.toList = M.be 2 s.size ++ (s.data.toList ++ m.data.toList) := by
  unfold frB
  rw [append_list, append_list, Str_list, List.append_assoc]
theorem fr_take (n : Nat) (l : List UInt8) : (M.be 2 n ++ l).take 2 = M.be 2 n := by
  rw [List.take_append_of_le_length (by rw [M.be_length]; omega), List.take_of_length_le (by rw [M.be_length]; omega)]
theorem fr_val (n : Nat) (l : List UInt8) (h : n < 65536) : M.val ((M.be 2 n ++ l).take 2) = n := by
  rw [fr_take, M.val_be]
  exact Nat.mod_eq_of_lt h
theorem fr_drop (n : Nat) (l : List UInt8) : (M.be 2 n ++ l).drop 2 = l := by
  rw [List.drop_append_of_le_length (by rw [M.be_length]; omega), List.drop_of_length_le (by rw [M.be_length]; omega), List.nil_append]
theorem fr_text (s : ByteArray) (l : List UInt8) : Str (((M.be 2 s.size ++ (s.data.toList ++ l)).drop 2).take s.size) = s := by
  rw [fr_drop, List.take_append_of_le_length (by simp), List.take_of_length_le (by simp), Str_of]
theorem fr_rest (s : ByteArray) (l : List UInt8) : (M.be 2 s.size ++ (s.data.toList ++ l)).drop (2 + s.size) = l := by
  rw [← List.drop_drop, fr_drop, List.drop_append_of_le_length (by simp), List.drop_of_length_le (by simp), List.nil_append]
theorem ex_fr : frB ⟨#[97, 98]⟩ = ⟨#[0, 2, 97, 98]⟩ := by decide +kernel
set_option maxHeartbeats 1600000 in
set_option maxRecDepth 20000 in
theorem examples_any (w : World) :
    Calls Try.prog 8 #[] w fun e w' => e = .returned (.bool true) ∧ Below w.heap.size w w' := by
  go_enter Try.func8, Try.ntmps8
  go_wp2_with fail
  refine (new_any _).mono ?_
  rintro e w1 ⟨rfl, r1, b1⟩
  go_wp2_with fail
  refine (fput_good _ _ _ (by decide) (Lib.hid ex_fr)).mono ?_
  rintro e w2 ⟨rfl, b2⟩
  have R2 := Lib.hid (r1.below b2)
  have B2 := Lib.hid (chain b1 b2)
  have hlo := B2.out.size
  clear r1 b1 b2
  generalize hp : w.heap.size = lo at *
  go_wp2_with fail
  refine (add_good lo lo [] _ _ hlo R2.out (by decide)).mono ?_
  rintro e w3 ⟨rfl, r3, b3⟩
  have R3 : Hid (RB w3 lo lo [0, 2, 97, 98, 0] false) := Lib.hid r3
  have B3 := Lib.hid (B2.out.trans b3)
  have hlo3 := B3.out.size
  clear r3 b3 R2 B2
  go_wp2_with fail
  refine (next_tell lo lo [0, 2, 97, 98, 0] 2 ⟨#[97, 98]⟩ _ (Lib.hid (by decide +kernel)) (by omega) R3.out (by decide) (by decide) (by decide) (Lib.hid (by decide +kernel)) (by decide)).mono ?_
  rintro e w4 ⟨rfl, r4, b4⟩
  have R4 : Hid (RB w4 lo lo [0] false) := Lib.hid r4
  have B4 := Lib.hid (B3.out.trans b4)
  clear r4 b4 R3 B3
  go_wp2_with fail
  refine (rest_any lo lo [0] false _ R4.out).mono ?_
  rintro e w5 ⟨rfl, rfl⟩
  go_wp2_with fail
  refine (bad_any lo lo [0] false _ R4.out).mono ?_
  rintro e w5 ⟨rfl, rfl⟩
  go_wp2_with fail
  go_ret
  exact ⟨rfl, by rw [hp]; exact B4.out⟩
end Go.Proofs.Ytnbljpdfmomjjaa
