/-
  Sets as bits: the same bits are the same set; many put in, or taken out.
-/
import Derived.Test.YtbjmbndeaobbeaaDoorBtFacts
namespace Go.Proofs.YtbjmbndeaobbeaaDoor
open Go.RowKit
set_option linter.unusedVariables false
set_option linter.unusedSimpArgs false
theorem byte_ext (a b : UInt8) (h : ∀ k, k < 8 → a.toNat.testBit k = b.toNat.testBit k) : a = b := by
  apply UInt8.toNat_inj.1
  apply Nat.eq_of_testBit_eq
  intro k
  by_cases hk : k < 8
  · exact h k hk
  · have h1 : ∀ c : UInt8, c.toNat.testBit k = false := fun c => by
      apply Nat.testBit_lt_two_pow
      have := UInt8.toNat_lt c
      have h2 : 2 ^ 8 ≤ 2 ^ k := Nat.pow_le_pow_right (by decide) (by omega)
      omega
    rw [h1, h1]
theorem bits_ext {a b : ByteArray} (hs : a.size = b.size) (h : ∀ i : Nat, hasB a (i : Int) = hasB b (i : Int)) : a = b := by
  apply eq_of_data
  apply List.ext_getElem
  · rw [size_list, size_list, hs]
  · intro j h1 h2
    apply byte_ext
    intro k hk
    have hi := h (8 * j + k)
    have e1 : (8 * j + k) / 8 = j := by omega
    have e2 : (8 * j + k) % 8 = k := by omega
    have h0 : decide ((0 : Int) ≤ ((8 * j + k : Nat) : Int)) = true := decide_eq_true (by omega)
    unfold hasB at hi
    rw [h0, Bool.true_and, Bool.true_and] at hi
    simp only [Int.toNat_natCast, bitL, e1, e2, h1, h2, dif_pos] at hi
    exact hi
def withAll (u : ByteArray) (L : List Int) (on : Bool) : ByteArray := L.foldl (fun u n => withB u n on) u
theorem withAll_size (L : List Int) (on : Bool) : ∀ u, (withAll u L on).size = u.size := by
  induction L with
  | nil => intro u; rfl
  | cons n L ih => intro u; show (withAll (withB u n on) L on).size = _; rw [ih, withB_size]
theorem room_size {a b : ByteArray} (h : a.size = b.size) (i : Int) : roomB a i = roomB b i := by unfold roomB; rw [h]
theorem has_withAll (L : List Int) (on : Bool) (i : Int) : ∀ u, (∀ x ∈ L, roomB u x = true) → hasB (withAll u L on) i = if i ∈ L then on else hasB u i := by
  induction L with
  | nil => intro u _; rw [if_neg (by simp)]; rfl
  | cons n L ih =>
    intro u hr
    show hasB (withAll (withB u n on) L on) i = _
    rw [ih _ (fun x hx => by rw [room_size (withB_size u n on)]; exact hr x (by simp [hx])), has_with u n i on (hr n (by simp))]
    by_cases h1 : i ∈ L
    · rw [if_pos h1, if_pos (by simp [h1])]
    · rw [if_neg h1]
      by_cases h2 : i = n
      · rw [if_pos h2, if_pos (by simp [h2])]
      · rw [if_neg h2, if_neg (by simp [h1, h2])]
end Go.Proofs.YtbjmbndeaobbeaaDoor
