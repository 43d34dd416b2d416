/-
  right; first; table.
-/
import Derived.Test.YtglmepdgepjeiaaShaMath
import Derived.Outline
namespace Go.Proofs.Ytglmepdgepjeiaa
open Go.RowKit
set_option linter.unusedVariables false

set_option maxHeartbeats 400000 in
theorem rotl_2 (x : Nat) (w : World) (hx : x < 4294967296) :
    Calls Try.prog 31 #[.int .u32 (x : Int), .int .i64 (-2)] w fun e w' => e = .returned (.int .u32 (S.rot x 2 : Int)) ∧ w = w' := by
  have ho := u32_or_nat (x * 2 ^ (32 - 2) % 4294967296) (x / 2 ^ 2) (Nat.mod_lt _ (by decide)) (Nat.lt_of_le_of_lt (Nat.div_le_self _ _) hx)
  have hb : bits .and .u64 (IntKind.u64.wrap (-2)) 31 = 30 := by decide
  change _ = (S.rot x 2 : Int) at ho
  generalize S.rot x 2 = r at *
  simp only [Int.natCast_emod, Int.natCast_mul, Int.natCast_ediv, Nat.reducePow, Nat.reduceSub, Int.cast_ofNat_Int] at ho
  go_enter Try.func31, Try.ntmps31
  go_wp2_with fail
  go_ret
  exact ⟨rfl, rfl⟩
set_option maxHeartbeats 400000 in
theorem right_2 (x : Nat) (w : World) (hx : x < 4294967296) :
    Calls Try.prog 30 #[.int .u32 (x : Int), .int .i64 2] w fun e w' => e = .returned (.int .u32 (S.rot x 2 : Int)) ∧ w = w' := by
  go_enter Try.func30, Try.ntmps30
  go_wp2_with fail
  refine (rotl_2 _ _ hx).mono ?_
  rintro e w1 ⟨rfl, rfl⟩
  go_wp2_with fail
  go_ret
  exact ⟨rfl, rfl⟩
set_option maxHeartbeats 400000 in
theorem rotl_6 (x : Nat) (w : World) (hx : x < 4294967296) :
    Calls Try.prog 31 #[.int .u32 (x : Int), .int .i64 (-6)] w fun e w' => e = .returned (.int .u32 (S.rot x 6 : Int)) ∧ w = w' := by
  have ho := u32_or_nat (x * 2 ^ (32 - 6) % 4294967296) (x / 2 ^ 6) (Nat.mod_lt _ (by decide)) (Nat.lt_of_le_of_lt (Nat.div_le_self _ _) hx)
  have hb : bits .and .u64 (IntKind.u64.wrap (-6)) 31 = 26 := by decide
  change _ = (S.rot x 6 : Int) at ho
  generalize S.rot x 6 = r at *
  simp only [Int.natCast_emod, Int.natCast_mul, Int.natCast_ediv, Nat.reducePow, Nat.reduceSub, Int.cast_ofNat_Int] at ho
  go_enter Try.func31, Try.ntmps31
  go_wp2_with fail
  go_ret
  exact ⟨rfl, rfl⟩
set_option maxHeartbeats 400000 in
theorem right_6 (x : Nat) (w : World) (hx : x < 4294967296) :
    Calls Try.prog 30 #[.int .u32 (x : Int), .int .i64 6] w fun e w' => e = .returned (.int .u32 (S.rot x 6 : Int)) ∧ w = w' := by
  go_enter Try.func30, Try.ntmps30
  go_wp2_with fail
  refine (rotl_6 _ _ hx).mono ?_
  rintro e w1 ⟨rfl, rfl⟩
  go_wp2_with fail
  go_ret
  exact ⟨rfl, rfl⟩
set_option maxHeartbeats 400000 in
theorem rotl_7 (x : Nat) (w : World) (hx : x < 4294967296) :
    Calls Try.prog 31 #[.int .u32 (x : Int), .int .i64 (-7)] w fun e w' => e = .returned (.int .u32 (S.rot x 7 : Int)) ∧ w = w' := by
  have ho := u32_or_nat (x * 2 ^ (32 - 7) % 4294967296) (x / 2 ^ 7) (Nat.mod_lt _ (by decide)) (Nat.lt_of_le_of_lt (Nat.div_le_self _ _) hx)
  have hb : bits .and .u64 (IntKind.u64.wrap (-7)) 31 = 25 := by decide
  change _ = (S.rot x 7 : Int) at ho
  generalize S.rot x 7 = r at *
  simp only [Int.natCast_emod, Int.natCast_mul, Int.natCast_ediv, Nat.reducePow, Nat.reduceSub, Int.cast_ofNat_Int] at ho
  go_enter Try.func31, Try.ntmps31
  go_wp2_with fail
  go_ret
  exact ⟨rfl, rfl⟩
set_option maxHeartbeats 400000 in
theorem right_7 (x : Nat) (w : World) (hx : x < 4294967296) :
    Calls Try.prog 30 #[.int .u32 (x : Int), .int .i64 7] w fun e w' => e = .returned (.int .u32 (S.rot x 7 : Int)) ∧ w = w' := by
  go_enter Try.func30, Try.ntmps30
  go_wp2_with fail
  refine (rotl_7 _ _ hx).mono ?_
  rintro e w1 ⟨rfl, rfl⟩
  go_wp2_with fail
  go_ret
  exact ⟨rfl, rfl⟩
set_option maxHeartbeats 400000 in
theorem rotl_11 (x : Nat) (w : World) (hx : x < 4294967296) :
    Calls Try.prog 31 #[.int .u32 (x : Int), .int .i64 (-11)] w fun e w' => e = .returned (.int .u32 (S.rot x 11 : Int)) ∧ w = w' := by
  have ho := u32_or_nat (x * 2 ^ (32 - 11) % 4294967296) (x / 2 ^ 11) (Nat.mod_lt _ (by decide)) (Nat.lt_of_le_of_lt (Nat.div_le_self _ _) hx)
  have hb : bits .and .u64 (IntKind.u64.wrap (-11)) 31 = 21 := by decide
  change _ = (S.rot x 11 : Int) at ho
  generalize S.rot x 11 = r at *
  simp only [Int.natCast_emod, Int.natCast_mul, Int.natCast_ediv, Nat.reducePow, Nat.reduceSub, Int.cast_ofNat_Int] at ho
  go_enter Try.func31, Try.ntmps31
  go_wp2_with fail
  go_ret
  exact ⟨rfl, rfl⟩
set_option maxHeartbeats 400000 in
theorem right_11 (x : Nat) (w : World) (hx : x < 4294967296) :
    Calls Try.prog 30 #[.int .u32 (x : Int), .int .i64 11] w fun e w' => e = .returned (.int .u32 (S.rot x 11 : Int)) ∧ w = w' := by
  go_enter Try.func30, Try.ntmps30
  go_wp2_with fail
  refine (rotl_11 _ _ hx).mono ?_
  rintro e w1 ⟨rfl, rfl⟩
  go_wp2_with fail
  go_ret
  exact ⟨rfl, rfl⟩
set_option maxHeartbeats 400000 in
theorem rotl_13 (x : Nat) (w : World) (hx : x < 4294967296) :
    Calls Try.prog 31 #[.int .u32 (x : Int), .int .i64 (-13)] w fun e w' => e = .returned (.int .u32 (S.rot x 13 : Int)) ∧ w = w' := by
  have ho := u32_or_nat (x * 2 ^ (32 - 13) % 4294967296) (x / 2 ^ 13) (Nat.mod_lt _ (by decide)) (Nat.lt_of_le_of_lt (Nat.div_le_self _ _) hx)
  have hb : bits .and .u64 (IntKind.u64.wrap (-13)) 31 = 19 := by decide
  change _ = (S.rot x 13 : Int) at ho
  generalize S.rot x 13 = r at *
  simp only [Int.natCast_emod, Int.natCast_mul, Int.natCast_ediv, Nat.reducePow, Nat.reduceSub, Int.cast_ofNat_Int] at ho
  go_enter Try.func31, Try.ntmps31
  go_wp2_with fail
  go_ret
  exact ⟨rfl, rfl⟩
set_option maxHeartbeats 400000 in
theorem right_13 (x : Nat) (w : World) (hx : x < 4294967296) :
    Calls Try.prog 30 #[.int .u32 (x : Int), .int .i64 13] w fun e w' => e = .returned (.int .u32 (S.rot x 13 : Int)) ∧ w = w' := by
  go_enter Try.func30, Try.ntmps30
  go_wp2_with fail
  refine (rotl_13 _ _ hx).mono ?_
  rintro e w1 ⟨rfl, rfl⟩
  go_wp2_with fail
  go_ret
  exact ⟨rfl, rfl⟩
set_option maxHeartbeats 400000 in
theorem rotl_17 (x : Nat) (w : World) (hx : x < 4294967296) :
    Calls Try.prog 31 #[.int .u32 (x : Int), .int .i64 (-17)] w fun e w' => e = .returned (.int .u32 (S.rot x 17 : Int)) ∧ w = w' := by
  have ho := u32_or_nat (x * 2 ^ (32 - 17) % 4294967296) (x / 2 ^ 17) (Nat.mod_lt _ (by decide)) (Nat.lt_of_le_of_lt (Nat.div_le_self _ _) hx)
  have hb : bits .and .u64 (IntKind.u64.wrap (-17)) 31 = 15 := by decide
  change _ = (S.rot x 17 : Int) at ho
  generalize S.rot x 17 = r at *
  simp only [Int.natCast_emod, Int.natCast_mul, Int.natCast_ediv, Nat.reducePow, Nat.reduceSub, Int.cast_ofNat_Int] at ho
  go_enter Try.func31, Try.ntmps31
  go_wp2_with fail
  go_ret
  exact ⟨rfl, rfl⟩
set_option maxHeartbeats 400000 in
theorem right_17 (x : Nat) (w : World) (hx : x < 4294967296) :
    Calls Try.prog 30 #[.int .u32 (x : Int), .int .i64 17] w fun e w' => e = .returned (.int .u32 (S.rot x 17 : Int)) ∧ w = w' := by
  go_enter Try.func30, Try.ntmps30
  go_wp2_with fail
  refine (rotl_17 _ _ hx).mono ?_
  rintro e w1 ⟨rfl, rfl⟩
  go_wp2_with fail
  go_ret
  exact ⟨rfl, rfl⟩
set_option maxHeartbeats 400000 in
theorem rotl_18 (x : Nat) (w : World) (hx : x < 4294967296) :
    Calls Try.prog 31 #[.int .u32 (x : Int), .int .i64 (-18)] w fun e w' => e = .returned (.int .u32 (S.rot x 18 : Int)) ∧ w = w' := by
  have ho := u32_or_nat (x * 2 ^ (32 - 18) % 4294967296) (x / 2 ^ 18) (Nat.mod_lt _ (by decide)) (Nat.lt_of_le_of_lt (Nat.div_le_self _ _) hx)
  have hb : bits .and .u64 (IntKind.u64.wrap (-18)) 31 = 14 := by decide
  change _ = (S.rot x 18 : Int) at ho
  generalize S.rot x 18 = r at *
  simp only [Int.natCast_emod, Int.natCast_mul, Int.natCast_ediv, Nat.reducePow, Nat.reduceSub, Int.cast_ofNat_Int] at ho
  go_enter Try.func31, Try.ntmps31
  go_wp2_with fail
  go_ret
  exact ⟨rfl, rfl⟩
set_option maxHeartbeats 400000 in
theorem right_18 (x : Nat) (w : World) (hx : x < 4294967296) :
    Calls Try.prog 30 #[.int .u32 (x : Int), .int .i64 18] w fun e w' => e = .returned (.int .u32 (S.rot x 18 : Int)) ∧ w = w' := by
  go_enter Try.func30, Try.ntmps30
  go_wp2_with fail
  refine (rotl_18 _ _ hx).mono ?_
  rintro e w1 ⟨rfl, rfl⟩
  go_wp2_with fail
  go_ret
  exact ⟨rfl, rfl⟩
set_option maxHeartbeats 400000 in
theorem rotl_19 (x : Nat) (w : World) (hx : x < 4294967296) :
    Calls Try.prog 31 #[.int .u32 (x : Int), .int .i64 (-19)] w fun e w' => e = .returned (.int .u32 (S.rot x 19 : Int)) ∧ w = w' := by
  have ho := u32_or_nat (x * 2 ^ (32 - 19) % 4294967296) (x / 2 ^ 19) (Nat.mod_lt _ (by decide)) (Nat.lt_of_le_of_lt (Nat.div_le_self _ _) hx)
  have hb : bits .and .u64 (IntKind.u64.wrap (-19)) 31 = 13 := by decide
  change _ = (S.rot x 19 : Int) at ho
  generalize S.rot x 19 = r at *
  simp only [Int.natCast_emod, Int.natCast_mul, Int.natCast_ediv, Nat.reducePow, Nat.reduceSub, Int.cast_ofNat_Int] at ho
  go_enter Try.func31, Try.ntmps31
  go_wp2_with fail
  go_ret
  exact ⟨rfl, rfl⟩
set_option maxHeartbeats 400000 in
theorem right_19 (x : Nat) (w : World) (hx : x < 4294967296) :
    Calls Try.prog 30 #[.int .u32 (x : Int), .int .i64 19] w fun e w' => e = .returned (.int .u32 (S.rot x 19 : Int)) ∧ w = w' := by
  go_enter Try.func30, Try.ntmps30
  go_wp2_with fail
  refine (rotl_19 _ _ hx).mono ?_
  rintro e w1 ⟨rfl, rfl⟩
  go_wp2_with fail
  go_ret
  exact ⟨rfl, rfl⟩
set_option maxHeartbeats 400000 in
theorem rotl_22 (x : Nat) (w : World) (hx : x < 4294967296) :
    Calls Try.prog 31 #[.int .u32 (x : Int), .int .i64 (-22)] w fun e w' => e = .returned (.int .u32 (S.rot x 22 : Int)) ∧ w = w' := by
  have ho := u32_or_nat (x * 2 ^ (32 - 22) % 4294967296) (x / 2 ^ 22) (Nat.mod_lt _ (by decide)) (Nat.lt_of_le_of_lt (Nat.div_le_self _ _) hx)
  have hb : bits .and .u64 (IntKind.u64.wrap (-22)) 31 = 10 := by decide
  change _ = (S.rot x 22 : Int) at ho
  generalize S.rot x 22 = r at *
  simp only [Int.natCast_emod, Int.natCast_mul, Int.natCast_ediv, Nat.reducePow, Nat.reduceSub, Int.cast_ofNat_Int] at ho
  go_enter Try.func31, Try.ntmps31
  go_wp2_with fail
  go_ret
  exact ⟨rfl, rfl⟩
set_option maxHeartbeats 400000 in
theorem right_22 (x : Nat) (w : World) (hx : x < 4294967296) :
    Calls Try.prog 30 #[.int .u32 (x : Int), .int .i64 22] w fun e w' => e = .returned (.int .u32 (S.rot x 22 : Int)) ∧ w = w' := by
  go_enter Try.func30, Try.ntmps30
  go_wp2_with fail
  refine (rotl_22 _ _ hx).mono ?_
  rintro e w1 ⟨rfl, rfl⟩
  go_wp2_with fail
  go_ret
  exact ⟨rfl, rfl⟩
set_option maxHeartbeats 400000 in
theorem rotl_25 (x : Nat) (w : World) (hx : x < 4294967296) :
    Calls Try.prog 31 #[.int .u32 (x : Int), .int .i64 (-25)] w fun e w' => e = .returned (.int .u32 (S.rot x 25 : Int)) ∧ w = w' := by
  have ho := u32_or_nat (x * 2 ^ (32 - 25) % 4294967296) (x / 2 ^ 25) (Nat.mod_lt _ (by decide)) (Nat.lt_of_le_of_lt (Nat.div_le_self _ _) hx)
  have hb : bits .and .u64 (IntKind.u64.wrap (-25)) 31 = 7 := by decide
  change _ = (S.rot x 25 : Int) at ho
  generalize S.rot x 25 = r at *
  simp only [Int.natCast_emod, Int.natCast_mul, Int.natCast_ediv, Nat.reducePow, Nat.reduceSub, Int.cast_ofNat_Int] at ho
  go_enter Try.func31, Try.ntmps31
  go_wp2_with fail
  go_ret
  exact ⟨rfl, rfl⟩
set_option maxHeartbeats 400000 in
theorem right_25 (x : Nat) (w : World) (hx : x < 4294967296) :
    Calls Try.prog 30 #[.int .u32 (x : Int), .int .i64 25] w fun e w' => e = .returned (.int .u32 (S.rot x 25 : Int)) ∧ w = w' := by
  go_enter Try.func30, Try.ntmps30
  go_wp2_with fail
  refine (rotl_25 _ _ hx).mono ?_
  rintro e w1 ⟨rfl, rfl⟩
  go_wp2_with fail
  go_ret
  exact ⟨rfl, rfl⟩
end Go.Proofs.Ytglmepdgepjeiaa
