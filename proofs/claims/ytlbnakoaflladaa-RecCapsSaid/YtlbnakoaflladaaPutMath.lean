import Derived.Test.YtlbnakoaflladaaNum
namespace Go.Proofs.Ytlbnakoaflladaa
open Go.RowKit
set_option linter.unusedVariables false
theorem putE_cases (n size : Int) : (putE n size = 0 ∧ putOk n size = true) ∨ (putE n size = 1 ∧ putOk n size = false) := by
  unfold putE; cases h : putOk n size <;> simp
theorem putE_zero {n size : Int} (h : putE n size = 0) : putOk n size = true := by
  rcases putE_cases n size with ⟨_, h'⟩ | ⟨h', _⟩
  · exact h'
  · omega
theorem putOk_nat (m : Nat) (size : Int) : putOk (m : Int) size = true ↔ 1 ≤ size ∧ size ≤ 8 ∧ m < 256 ^ size.toNat := by
  simp only [putOk, Bool.and_eq_true, decide_eq_true_eq, beq_iff_eq]
  constructor
  · rintro ⟨⟨h1, h8⟩, h⟩
    refine ⟨h1, h8, ?_⟩
    obtain ⟨s, rfl⟩ := Int.eq_ofNat_of_zero_le (show 0 ≤ size by omega)
    rw [show (8 * (s : Int)).toNat = 8 * s by omega] at h
    have h' : m / 2 ^ (8 * s) = 0 := by exact_mod_cast h
    have hp : 0 < 2 ^ (8 * s) := Nat.pow_pos (by decide)
    have e : (256 : Nat) ^ s = 2 ^ (8 * s) := by rw [Nat.pow_mul]
    simp only [Int.toNat_natCast]
    rw [e]
    exact (Nat.div_eq_zero_iff_lt hp).1 h'
  · rintro ⟨h1, h8, h⟩
    refine ⟨⟨h1, h8⟩, ?_⟩
    obtain ⟨s, rfl⟩ := Int.eq_ofNat_of_zero_le (show 0 ≤ size by omega)
    rw [show (8 * (s : Int)).toNat = 8 * s by omega]
    simp only [Int.toNat_natCast] at h
    have hp : 0 < 2 ^ (8 * s) := Nat.pow_pos (by decide)
    have e : (256 : Nat) ^ s = 2 ^ (8 * s) := by rw [Nat.pow_mul]
    rw [e] at h
    have h' := (Nat.div_eq_zero_iff_lt hp).2 h
    exact_mod_cast h'
theorem putOk_lt {n size : Int} (h0 : 0 ≤ n) (h : putOk n size = true) : n.toNat < 256 ^ size.toNat ∧ 1 ≤ size ∧ size ≤ 8 := by
  obtain ⟨a, rfl⟩ := Int.eq_ofNat_of_zero_le h0
  have := (putOk_nat a size).1 h
  exact ⟨by simpa using this.2.2, this.1, this.2.1⟩
end Go.Proofs.Ytlbnakoaflladaa
