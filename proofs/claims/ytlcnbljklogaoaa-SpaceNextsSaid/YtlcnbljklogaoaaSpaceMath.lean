/-
  Plain facts on the bits of keys.
-/
import Derived.Test.YtlcnbljklogaoaaSup
namespace Go.Proofs.Ytlcnbljklogaoaa
open Go.RowKit

def keyOk (k a b : Int) : Bool := decide (0 ≤ k ∧ k ≤ 15) && decide (0 ≤ a ∧ a ≤ 268435455) && decide (0 ≤ b ∧ b ≤ 4294967295)
def keyN (k a b : Int) : Int := if keyOk k a b = true then k * 1152921504606846976 + a * 4294967296 + b else 0
def spK (key : Int) : Int := key / 1152921504606846976
def spA (key : Int) : Int := key / 4294967296 % 268435456
def spB (key : Int) : Int := key % 4294967296
def topKey : Int := 18446744073709551615
def nextOk (key : Int) : Bool := decide (key < topKey)
def nextN (key : Int) : Int := if key < topKey then key + 1 else 0

theorem or_nat (i x y : Nat) (hx : x % 2 ^ i = 0) (hy : y < 2 ^ i) (h1 : x < 18446744073709551616) (h2 : y < 18446744073709551616) : bits BinOp.or IntKind.u64 (x : Int) (y : Int) = ((x + y : Nat) : Int) := by
  rw [u64_or_nat x y h1 h2, nat_join i x y hx hy]
theorem or_key (k a b : Int) (k0 : 0 ≤ k) (k1 : k ≤ 15) (a0 : 0 ≤ a) (a1 : a ≤ 268435455) (b0 : 0 ≤ b) (b1 : b ≤ 4294967295) :
    bits BinOp.or IntKind.u64 (bits BinOp.or IntKind.u64 (k * 1152921504606846976) (a * 4294967296)) b = k * 1152921504606846976 + a * 4294967296 + b := by
  obtain ⟨k, rfl⟩ := Int.eq_ofNat_of_zero_le k0
  obtain ⟨a, rfl⟩ := Int.eq_ofNat_of_zero_le a0
  obtain ⟨b, rfl⟩ := Int.eq_ofNat_of_zero_le b0
  have e1 : ((k : Int) * 1152921504606846976) = ((k * 1152921504606846976 : Nat) : Int) := by omega
  have e2 : ((a : Int) * 4294967296) = ((a * 4294967296 : Nat) : Int) := by omega
  rw [e1, e2, or_nat 60 (k * 1152921504606846976) (a * 4294967296) (by simp) (by simp; omega) (by omega) (by omega),
    or_nat 32 (k * 1152921504606846976 + a * 4294967296) b (by simp; omega) (by simp; omega) (by omega) (by omega)]
  omega
theorem and_mod (i : Nat) (x : Int) (m : Int) (hm : m = ((2 ^ i - 1 : Nat) : Int)) (hi : 2 ^ i ≤ 18446744073709551616) (h0 : 0 ≤ x) (h1 : x < 18446744073709551616) : bits BinOp.and IntKind.u64 x m = x % ((2 ^ i : Nat) : Int) := by
  obtain ⟨x, rfl⟩ := Int.eq_ofNat_of_zero_le h0
  have hp : 0 < 2 ^ i := Nat.pow_pos (by decide)
  rw [hm, u64_and_nat x (2 ^ i - 1) (by omega) (by omega), Nat.and_two_pow_sub_one_eq_mod]
  simp
theorem and_k (key : Int) (k0 : 0 ≤ key) (k1 : key ≤ 18446744073709551615) : wrap64 (bits BinOp.and IntKind.u64 (key / 1152921504606846976) 15) = spK key := by
  rw [and_mod 4 _ 15 (by decide) (by decide) (by omega) (by omega), spK]
  rw [IntWalk.wrap64_in] <;> simp <;> omega
theorem and_a (key : Int) (k0 : 0 ≤ key) (k1 : key ≤ 18446744073709551615) : wrap64 (bits BinOp.and IntKind.u64 (key / 4294967296) 268435455) = spA key := by
  rw [and_mod 28 _ 268435455 (by simp) (by simp) (by omega) (by omega), spA]
  rw [IntWalk.wrap64_in] <;> simp <;> omega
theorem and_b (key : Int) (k0 : 0 ≤ key) (k1 : key ≤ 18446744073709551615) : wrap64 (bits BinOp.and IntKind.u64 key 4294967295) = spB key := by
  rw [and_mod 32 _ 4294967295 (by simp) (by simp) (by omega) (by omega), spB]
  rw [IntWalk.wrap64_in] <;> simp <;> omega
theorem keyN_bd (k a b : Int) : 0 ≤ keyN k a b ∧ keyN k a b ≤ 18446744073709551615 := by
  unfold keyN
  cases h : keyOk k a b
  · simp
  · simp only [keyOk, Bool.and_eq_true, decide_eq_true_eq] at h
    simp only [if_true]
    omega
theorem nextN_bd (key : Int) (k0 : 0 ≤ key) : 0 ≤ nextN key ∧ nextN key ≤ 18446744073709551615 := by
  unfold nextN topKey
  split <;> omega
end Go.Proofs.Ytlcnbljklogaoaa
