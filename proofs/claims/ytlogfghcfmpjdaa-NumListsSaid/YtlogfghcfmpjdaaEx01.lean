/-
  The examples ahead of each statement of layer 1.
-/
import Derived.Test.YtlogfghcfmpjdaaNum
namespace Go.Proofs.Ytlogfghcfmpjdaa
open Go.RowKit

set_option maxHeartbeats 400000 in
theorem examples_any (w : World) :
    Calls Try.prog 10 #[] w fun e w' => e = .returned (.bool true) ∧ Below w.heap.size w w' := by
  have p1 : Str (putL 258 2) = ⟨#[1, 2]⟩ := by kernel_rfl
  have q1 : putE 258 2 = 0 := by kernel_rfl
  have p2 : Str (putL 256 1) = ⟨#[]⟩ := by kernel_rfl
  have q2 : putE 256 1 = 1 := by kernel_rfl
  have p3 : textL ⟨#[97, 98]⟩ = ⟨#[2, 97, 98]⟩ := by kernel_rfl
  have q3 : textE ⟨#[97, 98]⟩ = 0 := by kernel_rfl
  have P1 := Lib.hid p1
  have Q1 := Lib.hid q1
  have P2 := Lib.hid p2
  have Q2 := Lib.hid q2
  have P3 := Lib.hid p3
  have Q3 := Lib.hid q3
  clear p1 q1 p2 q2 p3 q3
  go_enter Try.func10, Try.ntmps10
  go_wp2_with fail
  refine (put_any _ _ _ (by omega)).mono ?_
  rw [P1.out, Q1.out]
  rintro e w1 ⟨rfl, h1⟩
  go_wp2_with fail
  refine (put_any _ _ _ (by omega)).mono ?_
  rw [P2.out, Q2.out]
  rintro e w2 ⟨rfl, h2⟩
  go_wp2_with fail
  refine (text_any _ _).mono ?_
  rw [P3.out, Q3.out]
  rintro e w3 ⟨rfl, h3⟩
  go_wp2_with fail
  go_ret
  exact ⟨rfl, (h1.trans (h2.mono h1.size)).trans (h3.mono (Nat.le_trans h1.size h2.size))⟩
end Go.Proofs.Ytlogfghcfmpjdaa
