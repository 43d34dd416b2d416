/-
  Contracts of package space, and of bailiwickref13.
-/
import Derived.Test.YtlcnbljklogaoaaSpaceMath
namespace Go.Proofs.Ytlcnbljklogaoaa
open Go.RowKit

set_option maxHeartbeats 400000 in
theorem within_is (n last : Int) (v : Bool) (w : World) (hv : (decide (0 ≤ n) && decide (n ≤ last)) = v) :
    Calls Try.prog 19 #[.int .i64 n, .int .i64 last] w fun e w' => e = .returned (.bool v) ∧ w = w' := by
  have H := Lib.hid hv
  clear hv
  by_cases h : n < 0
  · go_enter Try.func19, Try.ntmps19
    go_wp2
    go_ret
    refine ⟨?_, rfl⟩
    rw [← H.out]
    exact ret_bool (by simp; omega)
  · go_enter Try.func19, Try.ntmps19
    go_wp2
    go_ret
    refine ⟨?_, rfl⟩
    rw [← H.out]
    exact ret_bool (by simp; omega)

set_option maxHeartbeats 400000 in
theorem key_ok (k a b : Int) (w : World) (k0 : 0 ≤ k) (k1 : k ≤ 15) (a0 : 0 ≤ a) (a1 : a ≤ 268435455) (b0 : 0 ≤ b) (b1 : b ≤ 4294967295) :
    Calls Try.prog 9 #[.int .i64 k, .int .i64 a, .int .i64 b] w fun e w' => e = .returned (.tuple #[.int .u64 (k * 1152921504606846976 + a * 4294967296 + b), .bool true]) ∧ w = w' := by
  have FIN := Lib.hid (or_key k a b k0 k1 a0 a1 b0 b1)
  go_enter Try.func9, Try.ntmps9
  go_wp2_with fail
  refine (within_is _ _ true _ (by simp; omega)).mono ?_
  rintro e w1 ⟨rfl, rfl⟩
  go_wp2_with fail
  refine (within_is _ _ true _ (by simp; omega)).mono ?_
  rintro e w1 ⟨rfl, rfl⟩
  go_wp2_with fail
  refine (within_is _ _ true _ (by simp; omega)).mono ?_
  rintro e w1 ⟨rfl, rfl⟩
  go_wp2_with fail
  rw [FIN.out]
  go_ret2
  exact ⟨rfl, rfl⟩
set_option maxHeartbeats 400000 in
theorem key_k (k a b : Int) (w : World) (h : (decide (0 ≤ k) && decide (k ≤ 15)) = false) :
    Calls Try.prog 9 #[.int .i64 k, .int .i64 a, .int .i64 b] w fun e w' => e = .returned (.tuple #[.int .u64 0, .bool false]) ∧ w = w' := by
  have H := Lib.hid h
  clear h
  go_enter Try.func9, Try.ntmps9
  go_wp2_with fail
  refine (within_is _ _ false _ H.out).mono ?_
  rintro e w1 ⟨rfl, rfl⟩
  go_wp2_with fail
  go_ret2
  exact ⟨rfl, rfl⟩
set_option maxHeartbeats 400000 in
theorem key_a (k a b : Int) (w : World) (k0 : 0 ≤ k) (k1 : k ≤ 15) (h : (decide (0 ≤ a) && decide (a ≤ 268435455)) = false) :
    Calls Try.prog 9 #[.int .i64 k, .int .i64 a, .int .i64 b] w fun e w' => e = .returned (.tuple #[.int .u64 0, .bool false]) ∧ w = w' := by
  have H := Lib.hid h
  clear h
  go_enter Try.func9, Try.ntmps9
  go_wp2_with fail
  refine (within_is _ _ true _ (by simp; omega)).mono ?_
  rintro e w1 ⟨rfl, rfl⟩
  go_wp2_with fail
  refine (within_is _ _ false _ H.out).mono ?_
  rintro e w1 ⟨rfl, rfl⟩
  go_wp2_with fail
  go_ret2
  exact ⟨rfl, rfl⟩
set_option maxHeartbeats 400000 in
theorem key_b (k a b : Int) (w : World) (k0 : 0 ≤ k) (k1 : k ≤ 15) (a0 : 0 ≤ a) (a1 : a ≤ 268435455) (h : (decide (0 ≤ b) && decide (b ≤ 4294967295)) = false) :
    Calls Try.prog 9 #[.int .i64 k, .int .i64 a, .int .i64 b] w fun e w' => e = .returned (.tuple #[.int .u64 0, .bool false]) ∧ w = w' := by
  have H := Lib.hid h
  clear h
  go_enter Try.func9, Try.ntmps9
  go_wp2_with fail
  refine (within_is _ _ true _ (by simp; omega)).mono ?_
  rintro e w1 ⟨rfl, rfl⟩
  go_wp2_with fail
  refine (within_is _ _ true _ (by simp; omega)).mono ?_
  rintro e w1 ⟨rfl, rfl⟩
  go_wp2_with fail
  refine (within_is _ _ false _ H.out).mono ?_
  rintro e w1 ⟨rfl, rfl⟩
  go_wp2_with fail
  go_ret2
  exact ⟨rfl, rfl⟩
theorem key_any (k a b : Int) (w : World) :
    Calls Try.prog 9 #[.int .i64 k, .int .i64 a, .int .i64 b] w fun e w' => e = .returned (.tuple #[.int .u64 (keyN k a b), .bool (keyOk k a b)]) ∧ w = w' := by
  by_cases hk : 0 ≤ k ∧ k ≤ 15
  · by_cases ha : 0 ≤ a ∧ a ≤ 268435455
    · by_cases hb : 0 ≤ b ∧ b ≤ 4294967295
      · have ho : keyOk k a b = true := by simp [keyOk, hk, ha, hb]
        simpa [keyN, ho] using key_ok k a b w hk.1 hk.2 ha.1 ha.2 hb.1 hb.2
      · have ho : keyOk k a b = false := by simp only [keyOk, hb, decide_false, Bool.and_false]
        simpa [keyN, ho] using key_b k a b w hk.1 hk.2 ha.1 ha.2 (by rw [← Bool.decide_and]; simp only [hb, decide_false])
    · have ho : keyOk k a b = false := by simp only [keyOk, ha, decide_false, Bool.and_false, Bool.false_and]
      simpa [keyN, ho] using key_a k a b w hk.1 hk.2 (by rw [← Bool.decide_and]; simp only [ha, decide_false])
  · have ho : keyOk k a b = false := by simp only [keyOk, hk, decide_false, Bool.false_and]
    simpa [keyN, ho] using key_k k a b w (by rw [← Bool.decide_and]; simp only [hk, decide_false])

set_option maxHeartbeats 400000 in
theorem split_any (key : Int) (w : World) (k0 : 0 ≤ key) (k1 : key ≤ 18446744073709551615)  :
    Calls Try.prog 11 #[.int .u64 key] w fun e w' => e = .returned (.tuple #[.int .i64 (spK key), .int .i64 (spA key), .int .i64 (spB key)]) ∧ w = w' := by
  have F1 := Lib.hid (and_k key k0 k1)
  have F2 := Lib.hid (and_a key k0 k1)
  have F3 := Lib.hid (and_b key k0 k1)
  go_enter Try.func11, Try.ntmps11
  go_wp2
  rw [F1.out, F2.out, F3.out]
  go_ret3
  exact ⟨rfl, rfl⟩
def NextPost (key : Int) (w : World) (e : Ending) (w' : World) : Prop := e = .returned (.tuple #[.int .u64 (nextN key), .bool (nextOk key)]) ∧ w = w'
set_option maxHeartbeats 400000 in
theorem next_any' (key : Int) (w : World) (k0 : 0 ≤ key) (k1 : key ≤ 18446744073709551615) :
    Calls Try.prog 13 #[.int .u64 key] w (NextPost key w) := by
  by_cases h : key < 18446744073709551615
  · have F : Hid (nextN key = key + 1 ∧ nextOk key = true) := ⟨by unfold nextN topKey; rw [if_pos h], by unfold nextOk topKey; simp [h]⟩
    go_enter Try.func13, Try.ntmps13
    go_wp2
    all_goals go_ret2
    refine ⟨?_, rfl⟩
    rw [F.out.1, F.out.2]
    rfl
  · have F : Hid (nextN key = 0 ∧ nextOk key = false) := ⟨by unfold nextN topKey; rw [if_neg h], by unfold nextOk topKey; simp; omega⟩
    go_enter Try.func13, Try.ntmps13
    go_wp2
    all_goals go_ret2
    refine ⟨?_, rfl⟩
    rw [F.out.1, F.out.2]
    rfl
theorem next_any (key : Int) (w : World) (k0 : 0 ≤ key) (k1 : key ≤ 18446744073709551615) :
    Calls Try.prog 13 #[.int .u64 key] w fun e w' => e = .returned (.tuple #[.int .u64 (nextN key), .bool (nextOk key)]) ∧ w = w' := next_any' key w k0 k1
set_option maxHeartbeats 400000 in
theorem first_any (k : Int) (w : World) :
    Calls Try.prog 15 #[.int .i64 k] w fun e w' => e = .returned (.int .u64 (keyN k 0 0)) ∧ w = w' := by
  go_enter Try.func15, Try.ntmps15
  go_wp2_with fail
  refine (key_any _ _ _ _).mono ?_
  rintro e w1 ⟨rfl, rfl⟩
  go_wp2_with fail
  go_ret
  exact ⟨rfl, rfl⟩
def inKey (key k a : Int) : Bool := (spK key == k) && (spA key == a)
set_option maxHeartbeats 400000 in
theorem in_any (key k a : Int) (w : World) (k0 : 0 ≤ key) (k1 : key ≤ 18446744073709551615) :
    Calls Try.prog 17 #[.int .u64 key, .int .i64 k, .int .i64 a] w fun e w' => e = .returned (.bool (inKey key k a)) ∧ w = w' := by
  have F : Hid (∀ v, v = inKey key k a → Ending.returned (.bool v) = Ending.returned (.bool (inKey key k a))) := fun v h => by rw [h]
  by_cases h : spK key = k
  all_goals
    go_enter Try.func17, Try.ntmps17
    go_wp2_with fail
    refine (split_any _ _ k0 k1).mono ?_
    rintro e w1 ⟨rfl, rfl⟩
    go_wp2_with fail
    go_ret
    refine ⟨F.out _ ?_, rfl⟩
    simp [inKey, h]
end Go.Proofs.Ytlcnbljklogaoaa
