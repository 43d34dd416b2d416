/-
  Plain facts on Adler's sum.
-/
import Derived.Test.YtbjmbndeaobbeaaDoorSup
namespace Go.Proofs.YtbjmbndeaobbeaaDoor
open Go.RowKit
set_option linter.unusedVariables false
set_option linter.unusedSimpArgs false
/-- One byte more. -/
def adT (p : Nat × Nat) (c : UInt8) : Nat × Nat := ((p.1 + c.toNat) % 65521, (p.2 + (p.1 + c.toNat) % 65521) % 65521)
def adF : List UInt8 → Nat × Nat → Nat × Nat
  | [], p => p
  | c :: l, p => adF l (adT p c)
def adA (l : List UInt8) : Nat := (adF l (1, 0)).1
def adB (l : List UInt8) : Nat := (adF l (1, 0)).2
/-- Adler's sum. -/
def adS (l : List UInt8) : Nat := adB l * 65536 + adA l
theorem adF_append (l m : List UInt8) (p : Nat × Nat) : adF (l ++ m) p = adF m (adF l p) := by
  induction l generalizing p with
  | nil => rfl
  | cons c l ih => simp only [List.cons_append, adF]; exact ih _
theorem adF_snoc (l : List UInt8) (c : UInt8) (p : Nat × Nat) : adF (l ++ [c]) p = adT (adF l p) c := by rw [adF_append]; rfl
theorem adF_lt (l : List UInt8) (p : Nat × Nat) (h1 : p.1 < 65521) (h2 : p.2 < 65521) : (adF l p).1 < 65521 ∧ (adF l p).2 < 65521 := by
  induction l generalizing p with
  | nil => exact ⟨h1, h2⟩
  | cons c l ih =>
    simp only [adF]
    refine ih _ ?_ ?_
    · exact Nat.mod_lt _ (by decide)
    · exact Nat.mod_lt _ (by decide)
theorem adA_lt (l : List UInt8) : adA l < 65521 := (adF_lt l (1, 0) (by decide) (by decide)).1
theorem adB_lt (l : List UInt8) : adB l < 65521 := (adF_lt l (1, 0) (by decide) (by decide)).2
theorem adS_lt (l : List UInt8) : adS l < 4294967296 := by have := adA_lt l; have := adB_lt l; unfold adS; omega
/-- The bytes' sum. -/
def sumL : List UInt8 → Nat
  | [] => 0
  | c :: l => c.toNat + sumL l
/-- The bytes' sum, each as often as it stands from the end. -/
def wsum : List UInt8 → Nat
  | [] => 0
  | c :: l => (l.length + 1) * c.toNat + wsum l
theorem mul_mod_in (x k m y p : Nat) : (x + k * (m % p) + y) % p = (x + k * m + y) % p := by
  have e : k * m = k * (m % p) + p * (k * (m / p)) := by
    calc k * m = k * (m % p + p * (m / p)) := by rw [Nat.mod_add_div]
      _ = k * (m % p) + p * (k * (m / p)) := by rw [Nat.mul_add, Nat.mul_left_comm]
  rw [e, show x + (k * (m % p) + p * (k * (m / p))) + y = x + k * (m % p) + y + p * (k * (m / p)) by omega, Nat.add_mul_mod_self_left]
theorem adF_fst (l : List UInt8) (p : Nat × Nat) : (adF l p).1 % 65521 = (p.1 + sumL l) % 65521 := by
  induction l generalizing p with
  | nil => simp [adF, sumL]
  | cons c l ih =>
    simp only [adF, sumL]
    rw [ih]
    simp only [adT]
    rw [Nat.mod_add_mod, Nat.add_assoc]
theorem adF_snd (l : List UInt8) (p : Nat × Nat) : (adF l p).2 % 65521 = (p.2 + l.length * p.1 + wsum l) % 65521 := by
  induction l generalizing p with
  | nil => simp [adF, wsum]
  | cons c l ih =>
    simp only [adF, wsum]
    rw [ih]
    simp only [adT, List.length_cons]
    rw [Nat.add_assoc, Nat.mod_add_mod, ← Nat.add_assoc, show p.2 + (p.1 + c.toNat) % 65521 + l.length * ((p.1 + c.toNat) % 65521) + wsum l = p.2 + (l.length + 1) * ((p.1 + c.toNat) % 65521) + wsum l by rw [Nat.add_mul, Nat.one_mul]; omega]
    rw [mul_mod_in, Nat.mul_add]
    congr 1
    omega
theorem adA_eq (l : List UInt8) : adA l = (1 + sumL l) % 65521 := by
  rw [← adF_fst l (1, 0)]; exact (Nat.mod_eq_of_lt (adA_lt l)).symm
theorem adB_eq (l : List UInt8) : adB l = (l.length + wsum l) % 65521 := by
  have := adF_snd l (1, 0)
  have h2 := Nat.mod_eq_of_lt (adB_lt l)
  unfold adB at h2
  rw [h2] at this
  unfold adB
  rw [this]
  simp
theorem sumL_append (l m : List UInt8) : sumL (l ++ m) = sumL l + sumL m := by
  induction l with
  | nil => simp [sumL]
  | cons c l ih => simp only [List.cons_append, sumL, ih]; omega
/-- The sum of two texts. -/
theorem adA_append (l m : List UInt8) : adA (l ++ m) = (adA l + adA m + 65520) % 65521 := by
  have h1 := adF_fst m (adF l (1, 0))
  rw [← adF_append] at h1
  have h2 := Nat.mod_eq_of_lt (adA_lt (l ++ m))
  unfold adA at h2
  rw [h2] at h1
  show (adF (l ++ m) (1, 0)).1 = _
  rw [h1, adA_eq m]
  show (adA l + sumL m) % 65521 = _
  omega
theorem adB_append (l m : List UInt8) : adB (l ++ m) = (adB l + adB m + m.length * (adA l + 65520)) % 65521 := by
  have h1 := adF_snd m (adF l (1, 0))
  rw [← adF_append] at h1
  have h2 := Nat.mod_eq_of_lt (adB_lt (l ++ m))
  unfold adB at h2
  rw [h2] at h1
  show (adF (l ++ m) (1, 0)).2 = _
  rw [h1, adB_eq m]
  show (adB l + m.length * adA l + wsum m) % 65521 = _
  rw [Nat.mul_add]
  generalize m.length * adA l = X
  generalize wsum m = W
  generalize adB l = B
  generalize m.length = n
  omega
end Go.Proofs.YtbjmbndeaobbeaaDoor
