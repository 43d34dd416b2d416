/-
  The contract of math/bits.OnesCount at a number below 65536.
-/
import Derived.Test.YtjahkpbegndpiaaPop
namespace Go.Proofs.Ytjahkpbegndpiaa
open Go.RowKit
set_option linter.unusedVariables false

theorem ofInt_i64 (a : Nat) (ha : a < 9223372036854775808) : (BitVec.ofInt 64 (a : Int)).toNat = a := by
  rw [BitVec.ofInt_natCast, BitVec.toNat_ofNat]; exact Nat.mod_eq_of_lt (by omega)
theorem i64_and_nat (a b : Nat) (ha : a < 9223372036854775808) (hb : b < 9223372036854775808) : bits .and .i64 (a : Int) (b : Int) = ((a &&& b : Nat) : Int) := by
  have hx : a &&& b < 2 ^ 63 := Nat.and_lt_two_pow _ (by omega)
  show IntKind.i64.wrap ((BitVec.ofInt 64 (a : Int) &&& BitVec.ofInt 64 (b : Int)).toNat : Int) = _
  rw [BitVec.toNat_and, ofInt_i64 a ha, ofInt_i64 b hb, IntKind.wrap_i64]
  omega
theorem last_and (t : Nat) (ht : t ≤ 65535) (v : Nat) (hv : (t + t / 256 + (t + t / 256) / 65536 + (t + t / 256 + (t + t / 256) / 65536) / 4294967296) % 128 = v) :
    bits .and .i64 ((t : Int) + t / 256 + (t + t / 256) / 65536 + (t + t / 256 + (t + t / 256) / 65536) / 4294967296) 127 = (v : Int) := by
  have e : (t : Int) + t / 256 + (t + t / 256) / 65536 + (t + t / 256 + (t + t / 256) / 65536) / 4294967296 = ((t + t / 256 + (t + t / 256) / 65536 + (t + t / 256 + (t + t / 256) / 65536) / 4294967296 : Nat) : Int) := by omega
  have h : t + t / 256 + (t + t / 256) / 65536 + (t + t / 256 + (t + t / 256) / 65536) / 4294967296 < 9223372036854775808 := by omega
  rw [e]
  generalize t + t / 256 + (t + t / 256) / 65536 + (t + t / 256 + (t + t / 256) / 65536) / 4294967296 = y at *
  rw [show (127 : Int) = ((127 : Nat) : Int) from rfl, i64_and_nat y 127 h (by decide), Nat.and_two_pow_sub_one_eq_mod y 7]
  omega

set_option maxHeartbeats 400000 in
theorem ones64_any (x : Nat) (w : World) (h1 : x ≤ 65535) :
    Calls Try.prog 25 #[.int .u64 (x : Int)] w fun e w' => e = .returned (.int .i64 (pc 16 x)) ∧ w = w' := by
  obtain ⟨p, q, r, s, t, e1, e2, e3, e4, e5, b1, b2, b3, b4, b5, b6, b7, hv⟩ := steps_of x h1
  have E1 : bits BinOp.and IntKind.u64 ((x : Int) / 2) 6148914691236517205 = (p : Int) := by
    have := u64_and_nat (x / 2) 6148914691236517205 (by omega) (by decide)
    rw [e1, Int.natCast_ediv] at this
    exact this
  have E2 : bits BinOp.and IntKind.u64 (x : Int) 6148914691236517205 = (q : Int) := by
    have := u64_and_nat x 6148914691236517205 (by omega) (by decide)
    rw [e2] at this
    exact this
  have E3 : bits BinOp.and IntKind.u64 (((p : Int) + q) / 4) 3689348814741910323 = (r : Int) := by
    have := u64_and_nat ((p + q) / 4) 3689348814741910323 (by omega) (by decide)
    rw [e3, Int.natCast_ediv, Int.natCast_add] at this
    exact this
  have E4 : bits BinOp.and IntKind.u64 ((p : Int) + q) 3689348814741910323 = (s : Int) := by
    have := u64_and_nat (p + q) 3689348814741910323 (by omega) (by decide)
    rw [e4, Int.natCast_add] at this
    exact this
  have E5 : bits BinOp.and IntKind.u64 (((r : Int) + s) / 16 + (r + s)) 1085102592571150095 = (t : Int) := by
    have := u64_and_nat ((r + s) / 16 + (r + s)) 1085102592571150095 (by omega) (by decide)
    rw [e5, Int.natCast_add, Int.natCast_ediv, Int.natCast_add] at this
    exact this
  have E6 := last_and t b7 _ hv
  generalize pc 16 x = v at *
  clear e1 e2 e3 e4 e5 hv
  go_enter Try.func25, Try.ntmps25
  go_wp2
  go_ret
  exact ⟨rfl, rfl⟩
set_option maxHeartbeats 400000 in
theorem ones_any (x : Int) (w : World) (h0 : 0 ≤ x) (h1 : x ≤ 65535) :
    Calls Try.prog 23 #[.int .u64 x] w fun e w' => e = .returned (.int .i64 (pc 16 x.toNat)) ∧ w = w' := by
  obtain ⟨n, rfl⟩ := Int.eq_ofNat_of_zero_le h0
  rw [Int.toNat_natCast]
  go_enter Try.func23, Try.ntmps23
  go_wp2_with fail
  refine (ones64_any _ _ (by omega)).mono ?_
  rintro e w1 ⟨rfl, rfl⟩
  go_wp2_with fail
  go_ret
  exact ⟨rfl, rfl⟩
end Go.Proofs.Ytjahkpbegndpiaa
