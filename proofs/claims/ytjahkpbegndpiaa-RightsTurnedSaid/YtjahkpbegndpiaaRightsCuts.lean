import Derived.Test.YtjahkpbegndpiaaEx05
namespace Go.Proofs.Ytjahkpbegndpiaa
open Go.RowKit
set_option linter.unusedVariables false

theorem pc_and_or (k x y : Nat) : pc k (x &&& y) + pc k (x ||| y) = pc k x + pc k y := by
  induction k generalizing x y with
  | zero => rfl
  | succ k ih =>
    have h1 : (x &&& y) / 2 = x / 2 &&& y / 2 := Nat.and_div_two_pow (n := 1)
    have h2 : (x ||| y) / 2 = x / 2 ||| y / 2 := Nat.or_div_two_pow (n := 1)
    have h3 : (x &&& y) % 2 = x % 2 &&& y % 2 := Nat.and_mod_two_pow (n := 1)
    have h4 : (x ||| y) % 2 = x % 2 ||| y % 2 := Nat.or_mod_two_pow (n := 1)
    have h5 : (x % 2 &&& y % 2) + (x % 2 ||| y % 2) = x % 2 + y % 2 := by
      rcases Nat.mod_two_eq_zero_or_one x with h | h <;> rcases Nat.mod_two_eq_zero_or_one y with h' | h' <;> rw [h, h'] <;> rfl
    have := ih (x / 2) (y / 2)
    simp only [pc, h1, h2, h3, h4]
    omega
theorem pc_and_le (k x y : Nat) : pc k (x &&& y) ≤ pc k x := by
  induction k generalizing x y with
  | zero => exact Nat.le_refl _
  | succ k ih =>
    have h1 : (x &&& y) / 2 = x / 2 &&& y / 2 := Nat.and_div_two_pow (n := 1)
    have h3 : (x &&& y) % 2 = x % 2 &&& y % 2 := Nat.and_mod_two_pow (n := 1)
    have h5 : (x % 2 &&& y % 2) ≤ x % 2 := Nat.and_le_left
    have := ih (x / 2) (y / 2)
    simp only [pc, h1, h3]
    omega
theorem maskOk_nat (n : Nat) (h : n ≤ 65535) : maskOk (n : Int) = true := by simp [maskOk]; omega
theorem cutN_nat (x y : Nat) (hx : x ≤ 65535) (hy : y ≤ 65535) : cutN (x : Int) (y : Int) = ((x &&& y : Nat) : Int) := by
  simp [cutN, maskOk_nat x hx, maskOk_nat y hy]
theorem subB_nat (x y : Nat) (hx : x ≤ 65535) (hy : y ≤ 65535) : subB (x : Int) (y : Int) = (x &&& y == x) := by
  simp [subB, maskOk_nat x hx, maskOk_nat y hy]
theorem cntN_nat (x : Nat) (hx : x ≤ 65535) : cntN (x : Int) = (pc 16 x : Int) := by
  simp [cntN, maskOk_nat x hx]
theorem and_le' (x y : Nat) (hx : x ≤ 65535) : x &&& y ≤ 65535 := Nat.le_trans Nat.and_le_left hx
theorem or_le' (x y : Nat) (hx : x ≤ 65535) (hy : y ≤ 65535) : x ||| y ≤ 65535 := by
  have := Nat.or_lt_two_pow (n := 16) (x := x) (y := y) (by simp; omega) (by simp; omega)
  simp at this; omega

set_option maxHeartbeats 1000000 in
theorem rightsCuts_walk (x y z k a b p q : Nat) (v : Bool) (w : World) (hx : x ≤ 65535) (hy : y ≤ 65535) (hz : z ≤ 65535)
    (f1 : Hid (cutN x y = k)) (f2 : Hid (cutN k z = a)) (f3 : Hid (subB k x = true)) (f4 : Hid (subB k y = true)) (f5 : Hid (cutN y x = k)) (f6 : Hid (cutN y z = b)) (f7 : Hid (cutN x b = a)) (f8 : Hid (cutN x x = x)) (f9 : Hid (subB x x = true)) (g1 : Hid (subB x y = v))
    (g2 : ((k : Int) == (x : Int)) = v) (g3 : Hid (cntN k = p)) (g4 : Hid (cntN x = q)) (g5 : p ≤ q) :
    Calls Try.prog 6 #[.int .u16 (x : Int), .int .u16 (y : Int), .int .u16 (z : Int)] w fun e w' => e = .returned (.bool true) ∧ Below w.heap.size w w' := by
  cases v
  all_goals
    go_enter Try.func6, Try.ntmps6
    go_wp2_with fail
    refine (examples_any _).mono ?_
    rintro e w1 ⟨rfl, bb⟩
    go_wp2_with fail
    refine (cut_any _ _ _).mono ?_
    rw [f1.out]
    rintro e w2 ⟨rfl, rfl⟩
    go_wp2_with fail
    refine (cut_any _ _ _).mono ?_
    rw [f2.out]
    rintro e w2 ⟨rfl, rfl⟩
    go_wp2_with fail
    refine (sub_any _ _ _).mono ?_
    rw [f3.out]
    rintro e w2 ⟨rfl, rfl⟩
    go_wp2_with fail
    refine (sub_any _ _ _).mono ?_
    rw [f4.out]
    rintro e w2 ⟨rfl, rfl⟩
    go_wp2_with fail
    refine (cut_any _ _ _).mono ?_
    rw [f5.out]
    rintro e w2 ⟨rfl, rfl⟩
    go_wp2_with fail
    refine (cut_any _ _ _).mono ?_
    rw [f6.out]
    rintro e w2 ⟨rfl, rfl⟩
    go_wp2_with fail
    refine (cut_any _ _ _).mono ?_
    rw [f7.out]
    rintro e w2 ⟨rfl, rfl⟩
    go_wp2_with fail
    refine (cut_any _ _ _).mono ?_
    rw [f8.out]
    rintro e w2 ⟨rfl, rfl⟩
    go_wp2_with fail
    refine (sub_any _ _ _).mono ?_
    rw [f9.out]
    rintro e w2 ⟨rfl, rfl⟩
    go_wp2_with fail
    refine (sub_any _ _ _).mono ?_
    rw [g1.out]
    rintro e w2 ⟨rfl, rfl⟩
    go_wp2_with fail
    refine (count_any _ _).mono ?_
    rw [g3.out]
    rintro e w2 ⟨rfl, rfl⟩
    go_wp2_with fail
    refine (count_any _ _).mono ?_
    rw [g4.out]
    rintro e w2 ⟨rfl, rfl⟩
    go_wp2_with fail
    go_ret
    exact ⟨ret_true (by simp), bb⟩
theorem rightsCuts_law (a0 a1 a2 : Int) (w : World) (w0 : (Lit.int .u16 a0).wf = true) (w1 : (Lit.int .u16 a1).wf = true) (w2 : (Lit.int .u16 a2).wf = true) :
    Calls Try.prog 6 #[.int .u16 a0, .int .u16 a1, .int .u16 a2] w fun e w' => e = .returned (.bool true) ∧ Below w.heap.size w w' := by
  have h0 := bounds_u16 w0
  have h1 := bounds_u16 w1
  have h2 := bounds_u16 w2
  obtain ⟨x, rfl⟩ := Int.eq_ofNat_of_zero_le h0.1
  obtain ⟨y, rfl⟩ := Int.eq_ofNat_of_zero_le h1.1
  obtain ⟨z, rfl⟩ := Int.eq_ofNat_of_zero_le h2.1
  have hx : x ≤ 65535 := by omega
  have hy : y ≤ 65535 := by omega
  have hz : z ≤ 65535 := by omega
  have hk := and_le' x y hx
  have hb := and_le' y z hy
  refine rightsCuts_walk x y z (x &&& y) (x &&& y &&& z) (y &&& z) _ _ _ w hx hy hz (Lib.hid (cutN_nat x y hx hy)) (Lib.hid (cutN_nat _ z hk hz)) (Lib.hid ?_) (Lib.hid ?_) (Lib.hid ?_) (Lib.hid (cutN_nat y z hy hz)) (Lib.hid ?_) (Lib.hid ?_) (Lib.hid ?_) (Lib.hid (subB_nat x y hx hy)) ?_ (Lib.hid (cntN_nat _ hk)) (Lib.hid (cntN_nat x hx)) (pc_and_le 16 x y)
  · rw [subB_nat _ _ hk hx, beq_iff_eq, Nat.and_comm x y, Nat.and_assoc, Nat.and_self]
  · rw [subB_nat _ _ hk hy, beq_iff_eq, Nat.and_assoc, Nat.and_self]
  · rw [cutN_nat y x hy hx, Nat.and_comm]
  · rw [cutN_nat x _ hx hb, Nat.and_assoc]
  · rw [cutN_nat x x hx hx, Nat.and_self]
  · rw [subB_nat x x hx hx, Nat.and_self, beq_iff_eq]
  · rw [Bool.eq_iff_iff, beq_iff_eq, beq_iff_eq]; omega
end Go.Proofs.Ytjahkpbegndpiaa
