/-
  upper, allowed, edge, Runes, Right of package label.
-/
import Derived.Test.YtlbnakoaflladaaRunes
import Derived.Deep.Light
namespace Go.Proofs.Ytlbnakoaflladaa
open Go.RowKit
set_option linter.unusedVariables false

def upR (r : Nat) : Bool := decide (65 ≤ r) && decide (r ≤ 90)
def okR (r : Nat) : Bool := decide ((97 ≤ r ∧ r ≤ 122) ∨ (65 ≤ r ∧ r ≤ 90) ∨ (48 ≤ r ∧ r ≤ 57) ∨ r = 45 ∨ r = 46 ∨ (192 ≤ r ∧ r ≤ 383))
def edgeR (r : Nat) : Bool := decide (r ≠ 45 ∧ r ≠ 46)

set_option maxHeartbeats 400000 in
theorem upper_is (r : Nat) (v : Bool) (w : World) (hr : r ≤ 1114111) (hv : upR r = v) :
    Calls Try.prog 47 #[.int .i32 (r : Int)] w fun e w' => e = .returned (.bool v) ∧ w = w' := by
  subst hv
  rcases (show r < 65 ∨ (65 ≤ r ∧ r ≤ 90) ∨ 90 < r by omega) with h | h | h
  · have e : upR r = false := by simp [upR]; omega
    rw [e]
    have : (r : Int) < 65 := by omega
    go_enter Try.func47, Try.ntmps47
    go_wp2_with fail
    all_goals go_ret
    all_goals exact ⟨ret_bool (by simp; try omega), rfl⟩
  · have e : upR r = true := by simp [upR]; omega
    rw [e]
    obtain ⟨h1, h2⟩ := h
    have : 65 ≤ (r : Int) := by omega
    have : (r : Int) ≤ 90 := by omega
    go_enter Try.func47, Try.ntmps47
    go_wp2_with fail
    all_goals go_ret
    all_goals exact ⟨ret_bool (by simp; try omega), rfl⟩
  · have e : upR r = false := by simp [upR]; omega
    rw [e]
    have : 90 < (r : Int) := by omega
    go_enter Try.func47, Try.ntmps47
    go_wp2_with fail
    all_goals go_ret
    all_goals exact ⟨ret_bool (by simp; try omega), rfl⟩
set_option maxHeartbeats 800000 in
theorem edge_is (r : Nat) (v : Bool) (w : World) (hr : r ≤ 1114111) (hv : edgeR r = v) :
    Calls Try.prog 57 #[.int .i32 (r : Int)] w fun e w' => e = .returned (.bool v) ∧ w = w' := by
  subst hv
  rcases (show r = 45 ∨ r = 46 ∨ (r ≠ 45 ∧ r ≠ 46) by omega) with rfl | rfl | h
  · go_enter Try.func57, Try.ntmps57
    go_wp2_with fail
    all_goals go_ret
    all_goals exact ⟨rfl, rfl⟩
  · go_enter Try.func57, Try.ntmps57
    go_wp2_with fail
    all_goals go_ret
    all_goals exact ⟨rfl, rfl⟩
  · have e : edgeR r = true := by simpa [edgeR] using h
    rw [e]
    have h1 : ((r : Int) != 45) = true := by simp; omega
    have h2 : ((r : Int) != 46) = true := by simp; omega
    clear h
    go_enter Try.func57, Try.ntmps57
    go_wp2_with fail
    all_goals go_ret
    all_goals exact ⟨ret_bool (by simp), rfl⟩
/-- The ways that a rune may go. -/
theorem rune_ways (r : Nat) : r < 45 ∨ r = 45 ∨ r = 46 ∨ r = 47 ∨ (48 ≤ r ∧ r ≤ 57) ∨ (58 ≤ r ∧ r ≤ 64) ∨ (65 ≤ r ∧ r ≤ 90) ∨ (91 ≤ r ∧ r ≤ 96) ∨ (97 ≤ r ∧ r ≤ 122) ∨ (123 ≤ r ∧ r ≤ 191) ∨ (192 ≤ r ∧ r ≤ 383) ∨ 384 ≤ r := by omega
set_option maxRecDepth 20000 in
set_option maxHeartbeats 3200000 in
theorem allowed_is (r : Nat) (v : Bool) (w : World) (hr : r ≤ 1114111) (hv : okR r = v) :
    Calls Try.prog 56 #[.int .i32 (r : Int)] w fun e w' => e = .returned (.bool v) ∧ w = w' := by
  subst hv
  have ok : ∀ b, (b = decide ((97 ≤ r ∧ r ≤ 122) ∨ (65 ≤ r ∧ r ≤ 90) ∨ (48 ≤ r ∧ r ≤ 57) ∨ r = 45 ∨ r = 46 ∨ (192 ≤ r ∧ r ≤ 383))) → okR r = b := fun b h => h.symm
  rcases rune_ways r with h | h | h | h | h | h | h | h | h | h | h | h
  all_goals
    first
    | (have e : okR r = true := ok _ (by symm; rw [decide_eq_true_eq]; omega)
       rw [e])
    | (have e : okR r = false := ok _ (by symm; rw [decide_eq_false_iff_not]; omega)
       rw [e])
    clear ok e
  · have h1 : (r : Int) < 45 := by omega
    have h8 : ((r : Int) == 45) = false := by simp; omega
    have h9 : ((r : Int) == 46) = false := by simp; omega
    clear h
    go_enter Try.func56, Try.ntmps56
    go_wp2_with fail
    refine (upper_is _ false _ (by omega) (by simp [upR]; omega)).mono ?_
    rintro e w9 ⟨rfl, rfl⟩
    go_wp2_with fail
    go_ret
    exact ⟨ret_bool (by simp; try omega), rfl⟩
  · subst h
    go_enter Try.func56, Try.ntmps56
    go_wp2_with fail
    refine (upper_is _ false _ (by omega) (by simp [upR])).mono ?_
    rintro e w9 ⟨rfl, rfl⟩
    go_wp2_with fail
    go_ret
    exact ⟨ret_bool (by simp; try omega), rfl⟩
  · subst h
    go_enter Try.func56, Try.ntmps56
    go_wp2_with fail
    refine (upper_is _ false _ (by omega) (by simp [upR])).mono ?_
    rintro e w9 ⟨rfl, rfl⟩
    go_wp2_with fail
    go_ret
    exact ⟨ret_bool (by simp; try omega), rfl⟩
  · subst h
    go_enter Try.func56, Try.ntmps56
    go_wp2_with fail
    refine (upper_is _ false _ (by omega) (by simp [upR])).mono ?_
    rintro e w9 ⟨rfl, rfl⟩
    go_wp2_with fail
    go_ret
    exact ⟨ret_bool (by simp; try omega), rfl⟩
  · have h1 : 48 ≤ (r : Int) := by omega
    have h2 : (r : Int) ≤ 57 := by omega
    have h8 : ((r : Int) == 45) = false := by simp; omega
    have h9 : ((r : Int) == 46) = false := by simp; omega
    clear h
    go_enter Try.func56, Try.ntmps56
    go_wp2_with fail
    refine (upper_is _ false _ (by omega) (by simp [upR]; omega)).mono ?_
    rintro e w9 ⟨rfl, rfl⟩
    go_wp2_with fail
    go_ret
    exact ⟨ret_bool (by simp; try omega), rfl⟩
  · have h1 : 57 < (r : Int) := by omega
    have h2 : (r : Int) < 65 := by omega
    have h8 : ((r : Int) == 45) = false := by simp; omega
    have h9 : ((r : Int) == 46) = false := by simp; omega
    clear h
    go_enter Try.func56, Try.ntmps56
    go_wp2_with fail
    refine (upper_is _ false _ (by omega) (by simp [upR]; omega)).mono ?_
    rintro e w9 ⟨rfl, rfl⟩
    go_wp2_with fail
    go_ret
    exact ⟨ret_bool (by simp; try omega), rfl⟩
  · have h1 : 65 ≤ (r : Int) := by omega
    have h2 : (r : Int) ≤ 90 := by omega
    have h8 : ((r : Int) == 45) = false := by simp; omega
    have h9 : ((r : Int) == 46) = false := by simp; omega
    clear h
    go_enter Try.func56, Try.ntmps56
    go_wp2_with fail
    refine (upper_is _ true _ (by omega) (by simp [upR]; omega)).mono ?_
    rintro e w9 ⟨rfl, rfl⟩
    go_wp2_with fail
    go_ret
    exact ⟨ret_bool (by simp; try omega), rfl⟩
  · have h1 : 90 < (r : Int) := by omega
    have h2 : (r : Int) < 97 := by omega
    have h8 : ((r : Int) == 45) = false := by simp; omega
    have h9 : ((r : Int) == 46) = false := by simp; omega
    clear h
    go_enter Try.func56, Try.ntmps56
    go_wp2_with fail
    refine (upper_is _ false _ (by omega) (by simp [upR]; omega)).mono ?_
    rintro e w9 ⟨rfl, rfl⟩
    go_wp2_with fail
    go_ret
    exact ⟨ret_bool (by simp; try omega), rfl⟩
  · have h1 : 97 ≤ (r : Int) := by omega
    have h2 : (r : Int) ≤ 122 := by omega
    have h8 : ((r : Int) == 45) = false := by simp; omega
    have h9 : ((r : Int) == 46) = false := by simp; omega
    clear h
    go_enter Try.func56, Try.ntmps56
    go_wp2_with fail
    go_ret
    exact ⟨ret_bool (by simp; try omega), rfl⟩
  · have h1 : 122 < (r : Int) := by omega
    have h2 : (r : Int) < 192 := by omega
    have h8 : ((r : Int) == 45) = false := by simp; omega
    have h9 : ((r : Int) == 46) = false := by simp; omega
    clear h
    go_enter Try.func56, Try.ntmps56
    go_wp2_with fail
    refine (upper_is _ false _ (by omega) (by simp [upR]; omega)).mono ?_
    rintro e w9 ⟨rfl, rfl⟩
    go_wp2_with fail
    go_ret
    exact ⟨ret_bool (by simp; try omega), rfl⟩
  · have h1 : 192 ≤ (r : Int) := by omega
    have h2 : (r : Int) ≤ 383 := by omega
    have h8 : ((r : Int) == 45) = false := by simp; omega
    have h9 : ((r : Int) == 46) = false := by simp; omega
    clear h
    go_enter Try.func56, Try.ntmps56
    go_wp2_with fail
    refine (upper_is _ false _ (by omega) (by simp [upR]; omega)).mono ?_
    rintro e w9 ⟨rfl, rfl⟩
    go_wp2_with fail
    go_ret
    exact ⟨ret_bool (by simp; try omega), rfl⟩
  · have h1 : 383 < (r : Int) := by omega
    have h8 : ((r : Int) == 45) = false := by simp; omega
    have h9 : ((r : Int) == 46) = false := by simp; omega
    clear h
    go_enter Try.func56, Try.ntmps56
    go_wp2_with fail
    refine (upper_is _ false _ (by omega) (by simp [upR]; omega)).mono ?_
    rintro e w9 ⟨rfl, rfl⟩
    go_wp2_with fail
    go_ret
    exact ⟨ret_bool (by simp; try omega), rfl⟩
end Go.Proofs.Ytlbnakoaflladaa
