/-
  Package proto: an int, and a pointer to an Ask, are no requests.
-/
import Derived.Test.YtemhlhcaahaecaaProtoProper
namespace Go.Proofs.Ytemhlhcaahaecaa
open Go.RowKit
set_option linter.unusedVariables false
set_option linter.unusedSimpArgs false
theorem sk_i_Hello (z : Int) (w : World) : (Instr.typeAssert (.iface 3 (.int .i64 z)) 20 64 true).run Try.prog w = .ok (.tuple #[.agg #[.string ⟨#[]⟩], .bool false]) w := by kernel_rfl
theorem sk_i_Register (z : Int) (w : World) : (Instr.typeAssert (.iface 3 (.int .i64 z)) 20 51 true).run Try.prog w = .ok (.tuple #[.agg #[.string ⟨#[]⟩, .int .i64 0], .bool false]) w := by kernel_rfl
theorem sk_i_Mint (z : Int) (w : World) : (Instr.typeAssert (.iface 3 (.int .i64 z)) 20 53 true).run Try.prog w = .ok (.tuple #[.agg #[.int .i64 0, .int .i64 0, .int .i64 0, .int .i64 0], .bool false]) w := by kernel_rfl
theorem sk_i_Derive (z : Int) (w : World) : (Instr.typeAssert (.iface 3 (.int .i64 z)) 20 83 true).run Try.prog w = .ok (.tuple #[.agg #[.string ⟨#[]⟩, .string ⟨#[]⟩, .int .i64 0, .int .i64 0, .int .i64 0], .bool false]) w := by kernel_rfl
theorem sk_i_Renew (z : Int) (w : World) : (Instr.typeAssert (.iface 3 (.int .i64 z)) 20 62 true).run Try.prog w = .ok (.tuple #[.agg #[.string ⟨#[]⟩, .int .i64 0], .bool false]) w := by kernel_rfl
theorem sk_i_Validate (z : Int) (w : World) : (Instr.typeAssert (.iface 3 (.int .i64 z)) 20 55 true).run Try.prog w = .ok (.tuple #[.agg #[.string ⟨#[]⟩], .bool false]) w := by kernel_rfl
theorem sk_i_Invoke (z : Int) (w : World) : (Instr.typeAssert (.iface 3 (.int .i64 z)) 20 58 true).run Try.prog w = .ok (.tuple #[.agg #[.string ⟨#[]⟩, .int .i32 0], .bool false]) w := by kernel_rfl
theorem sk_i_Revoke (z : Int) (w : World) : (Instr.typeAssert (.iface 3 (.int .i64 z)) 20 85 true).run Try.prog w = .ok (.tuple #[.agg #[.string ⟨#[]⟩, .bool false], .bool false]) w := by kernel_rfl
theorem sk_i_Delete (z : Int) (w : World) : (Instr.typeAssert (.iface 3 (.int .i64 z)) 20 86 true).run Try.prog w = .ok (.tuple #[.agg #[.string ⟨#[]⟩], .bool false]) w := by kernel_rfl
theorem sk_i_Move (z : Int) (w : World) : (Instr.typeAssert (.iface 3 (.int .i64 z)) 20 88 true).run Try.prog w = .ok (.tuple #[.agg #[.string ⟨#[]⟩, .string ⟨#[]⟩], .bool false]) w := by kernel_rfl
theorem sk_i_List (z : Int) (w : World) : (Instr.typeAssert (.iface 3 (.int .i64 z)) 20 60 true).run Try.prog w = .ok (.tuple #[.agg #[.string ⟨#[]⟩, .int .i64 0, .int .i64 0], .bool false]) w := by kernel_rfl
theorem sk_i_Quota (z : Int) (w : World) : (Instr.typeAssert (.iface 3 (.int .i64 z)) 20 68 true).run Try.prog w = .ok (.tuple #[.agg #[], .bool false]) w := by kernel_rfl
theorem sk_i_Rotate (z : Int) (w : World) : (Instr.typeAssert (.iface 3 (.int .i64 z)) 20 89 true).run Try.prog w = .ok (.tuple #[.agg #[], .bool false]) w := by kernel_rfl
set_option maxHeartbeats 3200000 in
set_option maxRecDepth 20000 in
theorem known_i (z : Int) (w : World) :
    Calls Try.prog 41 #[.iface 3 (.int .i64 z)] w fun e w' => e = .returned (.tuple #[.nilIface, .bool false]) ∧ Below w.heap.size w w' := by
  have q0 := sk_i_Hello z
  have q1 := sk_i_Register z
  have q2 := sk_i_Mint z
  have q3 := sk_i_Derive z
  have q4 := sk_i_Renew z
  have q5 := sk_i_Validate z
  have q6 := sk_i_Invoke z
  have q7 := sk_i_Revoke z
  have q8 := sk_i_Delete z
  have q9 := sk_i_Move z
  have q10 := sk_i_List z
  have q11 := sk_i_Quota z
  have q12 := sk_i_Rotate z
  go_enter Try.func41, Try.ntmps41
  go_wp2_with fail
  go_ret2
  refine ⟨rfl, ?_⟩
  repeat' (first | exact Below.refl _ _ | refine Below.alloc ?_ (by simp; try omega) _)
theorem stray_i (z : Int) : Improper (.iface 3 (.int .i64 z)) := by
  intro w
  go_enter Try.func30, Try.ntmps30
  go_wp2_with fail
  refine (known_i z _).mono ?_
  rintro e w1 ⟨rfl, b1⟩
  go_wp2_with fail
  go_ret2
  exact ⟨rfl, b1⟩
theorem sk_a_Hello (z : Option Addr) (w : World) : (Instr.typeAssert (.iface 44 (.pointer z)) 20 64 true).run Try.prog w = .ok (.tuple #[.agg #[.string ⟨#[]⟩], .bool false]) w := by kernel_rfl
theorem sk_a_Register (z : Option Addr) (w : World) : (Instr.typeAssert (.iface 44 (.pointer z)) 20 51 true).run Try.prog w = .ok (.tuple #[.agg #[.string ⟨#[]⟩, .int .i64 0], .bool false]) w := by kernel_rfl
theorem sk_a_Mint (z : Option Addr) (w : World) : (Instr.typeAssert (.iface 44 (.pointer z)) 20 53 true).run Try.prog w = .ok (.tuple #[.agg #[.int .i64 0, .int .i64 0, .int .i64 0, .int .i64 0], .bool false]) w := by kernel_rfl
theorem sk_a_Derive (z : Option Addr) (w : World) : (Instr.typeAssert (.iface 44 (.pointer z)) 20 83 true).run Try.prog w = .ok (.tuple #[.agg #[.string ⟨#[]⟩, .string ⟨#[]⟩, .int .i64 0, .int .i64 0, .int .i64 0], .bool false]) w := by kernel_rfl
theorem sk_a_Renew (z : Option Addr) (w : World) : (Instr.typeAssert (.iface 44 (.pointer z)) 20 62 true).run Try.prog w = .ok (.tuple #[.agg #[.string ⟨#[]⟩, .int .i64 0], .bool false]) w := by kernel_rfl
theorem sk_a_Validate (z : Option Addr) (w : World) : (Instr.typeAssert (.iface 44 (.pointer z)) 20 55 true).run Try.prog w = .ok (.tuple #[.agg #[.string ⟨#[]⟩], .bool false]) w := by kernel_rfl
theorem sk_a_Invoke (z : Option Addr) (w : World) : (Instr.typeAssert (.iface 44 (.pointer z)) 20 58 true).run Try.prog w = .ok (.tuple #[.agg #[.string ⟨#[]⟩, .int .i32 0], .bool false]) w := by kernel_rfl
theorem sk_a_Revoke (z : Option Addr) (w : World) : (Instr.typeAssert (.iface 44 (.pointer z)) 20 85 true).run Try.prog w = .ok (.tuple #[.agg #[.string ⟨#[]⟩, .bool false], .bool false]) w := by kernel_rfl
theorem sk_a_Delete (z : Option Addr) (w : World) : (Instr.typeAssert (.iface 44 (.pointer z)) 20 86 true).run Try.prog w = .ok (.tuple #[.agg #[.string ⟨#[]⟩], .bool false]) w := by kernel_rfl
theorem sk_a_Move (z : Option Addr) (w : World) : (Instr.typeAssert (.iface 44 (.pointer z)) 20 88 true).run Try.prog w = .ok (.tuple #[.agg #[.string ⟨#[]⟩, .string ⟨#[]⟩], .bool false]) w := by kernel_rfl
theorem sk_a_List (z : Option Addr) (w : World) : (Instr.typeAssert (.iface 44 (.pointer z)) 20 60 true).run Try.prog w = .ok (.tuple #[.agg #[.string ⟨#[]⟩, .int .i64 0, .int .i64 0], .bool false]) w := by kernel_rfl
theorem sk_a_Quota (z : Option Addr) (w : World) : (Instr.typeAssert (.iface 44 (.pointer z)) 20 68 true).run Try.prog w = .ok (.tuple #[.agg #[], .bool false]) w := by kernel_rfl
theorem sk_a_Rotate (z : Option Addr) (w : World) : (Instr.typeAssert (.iface 44 (.pointer z)) 20 89 true).run Try.prog w = .ok (.tuple #[.agg #[], .bool false]) w := by kernel_rfl
set_option maxHeartbeats 3200000 in
set_option maxRecDepth 20000 in
theorem known_a (z : Option Addr) (w : World) :
    Calls Try.prog 41 #[.iface 44 (.pointer z)] w fun e w' => e = .returned (.tuple #[.nilIface, .bool false]) ∧ Below w.heap.size w w' := by
  have q0 := sk_a_Hello z
  have q1 := sk_a_Register z
  have q2 := sk_a_Mint z
  have q3 := sk_a_Derive z
  have q4 := sk_a_Renew z
  have q5 := sk_a_Validate z
  have q6 := sk_a_Invoke z
  have q7 := sk_a_Revoke z
  have q8 := sk_a_Delete z
  have q9 := sk_a_Move z
  have q10 := sk_a_List z
  have q11 := sk_a_Quota z
  have q12 := sk_a_Rotate z
  go_enter Try.func41, Try.ntmps41
  go_wp2_with fail
  go_ret2
  refine ⟨rfl, ?_⟩
  repeat' (first | exact Below.refl _ _ | refine Below.alloc ?_ (by simp; try omega) _)
theorem stray_a (z : Option Addr) : Improper (.iface 44 (.pointer z)) := by
  intro w
  go_enter Try.func30, Try.ntmps30
  go_wp2_with fail
  refine (known_a z _).mono ?_
  rintro e w1 ⟨rfl, b1⟩
  go_wp2_with fail
  go_ret2
  exact ⟨rfl, b1⟩
end Go.Proofs.Ytemhlhcaahaecaa
