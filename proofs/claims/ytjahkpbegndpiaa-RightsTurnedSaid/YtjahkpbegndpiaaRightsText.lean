/-
  Contracts of the letters of package rights, and of bailiwickref05.
-/
import Derived.Test.YtjahkpbegndpiaaRights
import Derived.Lib.OthersKept
namespace Go.Proofs.Ytjahkpbegndpiaa
open Go.RowKit
set_option linter.unusedVariables false

/-- The letters of the rights. -/
def LET : ByteArray := ⟨#[97, 98, 99, 100, 101, 102, 103, 104, 105, 106, 107, 108, 109, 110, 111, 112]⟩
theorem LET_size : LET.size = 16 := rfl
theorem LET_at : ∀ k : Fin 16, (LET[k.val]'(by rw [LET_size]; exact k.isLt)).toNat = 97 + k.val := by decide

def bitN (r : Int) : Int := if 97 ≤ r ∧ r ≤ 112 then ((2 ^ (r - 97).toNat : Nat) : Int) else 0

theorem next_let (k : Nat) (hk : k < 16) (w : World) (ty : TypeId) :
    (Instr.next (.pointer (some ⟨w.heap.size, 0, none⟩)) true ty).run Try.prog (w.iter LET k) = .ok (.tuple #[.bool true, .int .i64 k, .int .i32 ((97 : Int) + k)]) (w.iter LET (k + 1)) := by
  have h := LET_at ⟨k, hk⟩
  simp only at h
  have := run_next_ascii (P := Try.prog) w LET k ty (by rw [LET_size]; exact hk) (by omega)
  rw [h] at this
  exact this

theorem let_end (w : World) (ty : TypeId) :
    (Instr.next (.pointer (some ⟨w.heap.size, 0, none⟩)) true ty).run Try.prog (w.iter LET 16) = .ok (.tuple #[.bool false]) (w.iter LET 16) :=
  run_next_end (P := Try.prog) w LET 16 ty (by rw [LET_size]; omega)
theorem bit_yes (k : Nat) (h : k < 16) : bitN (97 + (k : Int)) = ((2 ^ k : Nat) : Int) := by
  unfold bitN; rw [if_pos (by omega)]; congr 2; omega
theorem pow_small (k : Nat) (h : k < 16) : 1 ≤ 2 ^ k ∧ 2 ^ k ≤ 32768 := by
  have h1 : 2 ^ k ≤ 2 ^ 15 := Nat.pow_le_pow_right (by decide) (by omega)
  have h2 : 0 < 2 ^ k := Nat.pow_pos (by decide)
  simp only [Nat.reducePow] at h1
  omega
theorem pow_wrap (k : Nat) (h : k < 16) : wrap64 ((2 : Int) ^ k) = ((2 ^ k : Nat) : Int) := by
  have hp := pow_small k h
  have e : (2 : Int) ^ k = ((2 ^ k : Nat) : Int) := by rw [Int.natCast_pow]; rfl
  rw [e, IntWalk.wrap64_in]
  omega
set_option maxHeartbeats 400000 in
theorem bit_any (r : Int) (w : World) :
    Calls Try.prog 22 #[.int .i32 r] w fun e w' => e = .returned (.int .i64 (bitN r)) ∧ Below w.heap.size w w' := by
  go_enter Try.func22, Try.ntmps22
  go_wp2_with fail
  go_loopw [3, 4] (fun _ _ wr => ∃ k : Nat, k ≤ 16 ∧ (∀ j : Nat, j < k → r ≠ 97 + (j : Int)) ∧ wr = w.iter LET k) (fun _ _ wr => 16 - wr.iterPos w.heap.size)
  case atStart => exact ⟨0, by omega, fun j hj => by omega, rfl⟩
  case round =>
    obtain ⟨k, hk, hno, rfl⟩ := hrel
    have NO := Lib.hid hno
    clear hno
    by_cases hlt : k < 16
    · have hnext := next_let k hlt w
      by_cases hr : r = 97 + (k : Int)
      · subst hr
        have F := Lib.hid (bit_yes k hlt)
        have P2 := Lib.hid (pow_wrap k hlt)
        go_wp2_with fail
        go_ret
        exact ⟨ret_int (by rw [F.out, P2.out]), (Below.refl _ _).alloc (Nat.le_refl _) _⟩
      · have hr' : (r == 97 + (k : Int)) = false := by simp [hr]
        have hr2 := Lib.hid hr
        clear hr
        go_wp2_with fail
        go_roundw
        case rel => exact ⟨k + 1, by omega, fun j hj => by
          rcases Nat.lt_or_ge j k with h | h
          · exact NO.out j h
          · obtain rfl : j = k := by omega
            exact hr2.out, rfl⟩
        case measure => simp; omega
    · obtain rfl : k = 16 := by omega
      have hend := let_end w
      have F := Lib.hid (show bitN r = 0 by
        unfold bitN
        rw [if_neg]
        intro h
        exact NO.out (r - 97).toNat (by omega) (by omega))
      go_wp2_with fail
      go_ret
      exact ⟨by rw [F.out]; rfl, (Below.refl _ _).alloc (Nat.le_refl _) _⟩
end Go.Proofs.Ytjahkpbegndpiaa
