/-
  Contracts of bailiwickref13, and the examples ahead of each statement of layer 13.
-/
import Derived.Test.YtlcnbljklogaoaaSpace
namespace Go.Proofs.Ytlcnbljklogaoaa
open Go.RowKit

set_option maxHeartbeats 400000 in
theorem refKey_ok (k a b : Int) (w : World) (k0 : 0 ≤ k) (k1 : k ≤ 15) (a0 : 0 ≤ a) (a1 : a ≤ 268435455) (b0 : 0 ≤ b) (b1 : b ≤ 4294967295) :
    Calls Try.prog 10 #[.int .i64 k, .int .i64 a, .int .i64 b] w fun e w' => e = .returned (.tuple #[.int .u64 (k * 1152921504606846976 + a * 4294967296 + b), .bool true]) ∧ w = w' := by
  have FIN := Lib.hid (or_key k a b k0 k1 a0 a1 b0 b1)
  go_enter Try.func10, Try.ntmps10
  go_wp2
  rw [FIN.out]
  go_ret2
  exact ⟨rfl, rfl⟩
set_option maxHeartbeats 400000 in
theorem refKey_no (k a b : Int) (w : World) (h : ¬ (0 ≤ k ∧ k ≤ 15 ∧ 0 ≤ a ∧ a ≤ 268435455 ∧ 0 ≤ b ∧ b ≤ 4294967295)) :
    Calls Try.prog 10 #[.int .i64 k, .int .i64 a, .int .i64 b] w fun e w' => e = .returned (.tuple #[.int .u64 0, .bool false]) ∧ w = w' := by
  by_cases h1 : k < 0
  · clear h
    go_enter Try.func10, Try.ntmps10
    go_wp2
    go_ret2
    exact ⟨rfl, rfl⟩
  by_cases h2 : 15 < k
  · clear h
    go_enter Try.func10, Try.ntmps10
    go_wp2
    go_ret2
    exact ⟨rfl, rfl⟩
  by_cases h3 : a < 0
  · clear h
    go_enter Try.func10, Try.ntmps10
    go_wp2
    go_ret2
    exact ⟨rfl, rfl⟩
  by_cases h4 : 268435456 ≤ a
  · clear h
    go_enter Try.func10, Try.ntmps10
    go_wp2
    go_ret2
    exact ⟨rfl, rfl⟩
  by_cases h5 : b < 0
  · clear h
    go_enter Try.func10, Try.ntmps10
    go_wp2
    go_ret2
    exact ⟨rfl, rfl⟩
  have h6 : 4294967296 ≤ b := by omega
  clear h
  go_enter Try.func10, Try.ntmps10
  go_wp2
  go_ret2
  exact ⟨rfl, rfl⟩
theorem refKey_any (k a b : Int) (w : World) :
    Calls Try.prog 10 #[.int .i64 k, .int .i64 a, .int .i64 b] w fun e w' => e = .returned (.tuple #[.int .u64 (keyN k a b), .bool (keyOk k a b)]) ∧ w = w' := by
  cases ho : keyOk k a b
  · refine (refKey_no k a b w ?_).mono ?_
    · intro h
      have : keyOk k a b = true := by simp only [keyOk, Bool.and_eq_true, decide_eq_true_eq]; omega
      rw [ho] at this; cases this
    · rintro e w' ⟨rfl, rfl⟩
      exact ⟨by simp [keyN, ho], rfl⟩
  · have h := ho
    simp only [keyOk, Bool.and_eq_true, decide_eq_true_eq] at h
    simpa [keyN, ho] using refKey_ok k a b w h.1.1.1 h.1.1.2 h.1.2.1 h.1.2.2 h.2.1 h.2.2
set_option maxHeartbeats 400000 in
theorem refSplit_any (key : Int) (w : World) (k0 : 0 ≤ key) (k1 : key ≤ 18446744073709551615)  :
    Calls Try.prog 12 #[.int .u64 key] w fun e w' => e = .returned (.tuple #[.int .i64 (spK key), .int .i64 (spA key), .int .i64 (spB key)]) ∧ w = w' := by
  have F2 := Lib.hid (and_a key k0 k1)
  have F3 := Lib.hid (and_b key k0 k1)
  go_enter Try.func12, Try.ntmps12
  go_wp2
  rw [F2.out, F3.out]
  go_ret3
  exact ⟨rfl, rfl⟩
theorem next_wrap (key : Int) (k0 : 0 ≤ key) (k1 : key ≤ 18446744073709551615) : IntKind.u64.wrap (key + 1) = nextN key ∧ decide (0 < IntKind.u64.wrap (key + 1)) = nextOk key := by
  unfold nextN nextOk topKey
  rw [IntKind.wrap_u64]
  by_cases h : key < 18446744073709551615
  · rw [if_pos h]
    have e : (key + 1) % 18446744073709551616 = key + 1 := by omega
    rw [e]
    exact ⟨rfl, by rw [decide_eq_decide]; omega⟩
  · rw [if_neg h]
    have e : (key + 1) % 18446744073709551616 = 0 := by omega
    rw [e]
    exact ⟨rfl, by rw [decide_eq_decide]; omega⟩
def ret2_eq (a b : Value) (a' b' : Value) : Prop := Ending.returned (.tuple #[a, b]) = Ending.returned (.tuple #[a', b'])
set_option maxHeartbeats 400000 in
theorem refNext_any (key : Int) (w : World) (k0 : 0 ≤ key) (k1 : key ≤ 18446744073709551615) :
    Calls Try.prog 14 #[.int .u64 key] w (NextPost key w) := by
  have F := Lib.hid (next_wrap key k0 k1)
  clear k0 k1
  go_enter Try.func14, Try.ntmps14
  go_wp2
  go_ret2
  refine ⟨?_, rfl⟩
  rw [← F.out.2, ← F.out.1]
  rfl
set_option maxHeartbeats 400000 in
theorem refFirst_any (k : Int) (w : World) :
    Calls Try.prog 16 #[.int .i64 k] w fun e w' => e = .returned (.int .u64 (keyN k 0 0)) ∧ w = w' := by
  go_enter Try.func16, Try.ntmps16
  go_wp2_with fail
  refine (refKey_any _ _ _ _).mono ?_
  rintro e w1 ⟨rfl, rfl⟩
  go_wp2_with fail
  go_ret
  exact ⟨rfl, rfl⟩
set_option maxHeartbeats 400000 in
theorem refIn_any (key k a : Int) (w : World) (k0 : 0 ≤ key) (k1 : key ≤ 18446744073709551615) :
    Calls Try.prog 18 #[.int .u64 key, .int .i64 k, .int .i64 a] w fun e w' => e = .returned (.bool (inKey key k a)) ∧ w = w' := by
  have F : Hid (∀ v, v = inKey key k a → Ending.returned (.bool v) = Ending.returned (.bool (inKey key k a))) := fun v h => by rw [h]
  by_cases h : spK key = k
  all_goals
    go_enter Try.func18, Try.ntmps18
    go_wp2_with fail
    refine (refSplit_any _ _ k0 k1).mono ?_
    rintro e w1 ⟨rfl, rfl⟩
    go_wp2_with fail
    go_ret
    refine ⟨F.out _ ?_, rfl⟩
    simp [inKey, h]
set_option maxHeartbeats 400000 in
theorem examples_any (w : World) :
    Calls Try.prog 8 #[] w fun e w' => e = .returned (.bool true) ∧ w = w' := by
  have P1 := Lib.hid (show keyN 1 0 5 = 1152921504606846981 by decide)
  have P2 := Lib.hid (show keyOk 1 0 5 = true by decide)
  have P3 := Lib.hid (show inKey 1152921504606846981 1 0 = true by decide)
  go_enter Try.func8, Try.ntmps8
  go_wp2_with fail
  refine (key_any _ _ _ _).mono ?_
  rw [P1.out, P2.out]
  rintro e w1 ⟨rfl, rfl⟩
  go_wp2_with fail
  refine (in_any _ _ _ _ (by omega) (by omega)).mono ?_
  rw [P3.out]
  rintro e w1 ⟨rfl, rfl⟩
  go_wp2_with fail
  go_ret
  exact ⟨rfl, rfl⟩
end Go.Proofs.Ytlcnbljklogaoaa
