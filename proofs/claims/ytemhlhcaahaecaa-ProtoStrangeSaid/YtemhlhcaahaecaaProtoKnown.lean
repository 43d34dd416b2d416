/-
  Package proto: which request a value is.
-/
import Derived.Test.YtemhlhcaahaecaaProtoEx
namespace Go.Proofs.Ytemhlhcaahaecaa
open Go.RowKit
set_option linter.unusedVariables false
set_option linter.unusedSimpArgs false
theorem ak_Hello_Hello (nm : ByteArray) (w : World) : (Instr.typeAssert (.iface 64 (.agg #[.string nm])) 20 64 true).run Try.prog w = .ok (.tuple #[.agg #[.string nm], .bool true]) w := by kernel_rfl
set_option maxHeartbeats 3200000 in
set_option maxRecDepth 20000 in
theorem known_Hello (nm : ByteArray) (w : World) :
    Calls Try.prog 41 #[.iface 64 (.agg #[.string nm])] w fun e w' => e = .returned (.tuple #[.iface 64 (.agg #[.string nm]), .bool true]) ∧ Below w.heap.size w w' := by
  have q0 := ak_Hello_Hello nm
  go_enter Try.func41, Try.ntmps41
  go_wp2_with fail
  go_ret2
  refine ⟨rfl, ?_⟩
  repeat' (first | exact Below.refl _ _ | refine Below.alloc ?_ (by simp; try omega) _)
theorem ak_Register_Hello (nm : ByteArray) (li : Int) (w : World) : (Instr.typeAssert (.iface 51 (.agg #[.string nm, .int .i64 li])) 20 64 true).run Try.prog w = .ok (.tuple #[.agg #[.string ⟨#[]⟩], .bool false]) w := by kernel_rfl
theorem ak_Register_Register (nm : ByteArray) (li : Int) (w : World) : (Instr.typeAssert (.iface 51 (.agg #[.string nm, .int .i64 li])) 20 51 true).run Try.prog w = .ok (.tuple #[.agg #[.string nm, .int .i64 li], .bool true]) w := by kernel_rfl
set_option maxHeartbeats 3200000 in
set_option maxRecDepth 20000 in
theorem known_Register (nm : ByteArray) (li : Int) (w : World) :
    Calls Try.prog 41 #[.iface 51 (.agg #[.string nm, .int .i64 li])] w fun e w' => e = .returned (.tuple #[.iface 51 (.agg #[.string nm, .int .i64 li]), .bool true]) ∧ Below w.heap.size w w' := by
  have q0 := ak_Register_Hello nm li
  have q1 := ak_Register_Register nm li
  go_enter Try.func41, Try.ntmps41
  go_wp2_with fail
  go_ret2
  refine ⟨rfl, ?_⟩
  repeat' (first | exact Below.refl _ _ | refine Below.alloc ?_ (by simp; try omega) _)
theorem ak_Mint_Hello (ob : Int) (ri : Int) (ba : Int) (ex : Int) (w : World) : (Instr.typeAssert (.iface 53 (.agg #[.int .i64 ob, .int .i64 ri, .int .i64 ba, .int .i64 ex])) 20 64 true).run Try.prog w = .ok (.tuple #[.agg #[.string ⟨#[]⟩], .bool false]) w := by kernel_rfl
theorem ak_Mint_Register (ob : Int) (ri : Int) (ba : Int) (ex : Int) (w : World) : (Instr.typeAssert (.iface 53 (.agg #[.int .i64 ob, .int .i64 ri, .int .i64 ba, .int .i64 ex])) 20 51 true).run Try.prog w = .ok (.tuple #[.agg #[.string ⟨#[]⟩, .int .i64 0], .bool false]) w := by kernel_rfl
theorem ak_Mint_Mint (ob : Int) (ri : Int) (ba : Int) (ex : Int) (w : World) : (Instr.typeAssert (.iface 53 (.agg #[.int .i64 ob, .int .i64 ri, .int .i64 ba, .int .i64 ex])) 20 53 true).run Try.prog w = .ok (.tuple #[.agg #[.int .i64 ob, .int .i64 ri, .int .i64 ba, .int .i64 ex], .bool true]) w := by kernel_rfl
set_option maxHeartbeats 3200000 in
set_option maxRecDepth 20000 in
theorem known_Mint (ob : Int) (ri : Int) (ba : Int) (ex : Int) (w : World) :
    Calls Try.prog 41 #[.iface 53 (.agg #[.int .i64 ob, .int .i64 ri, .int .i64 ba, .int .i64 ex])] w fun e w' => e = .returned (.tuple #[.iface 53 (.agg #[.int .i64 ob, .int .i64 ri, .int .i64 ba, .int .i64 ex]), .bool true]) ∧ Below w.heap.size w w' := by
  have q0 := ak_Mint_Hello ob ri ba ex
  have q1 := ak_Mint_Register ob ri ba ex
  have q2 := ak_Mint_Mint ob ri ba ex
  go_enter Try.func41, Try.ntmps41
  go_wp2_with fail
  go_ret2
  refine ⟨rfl, ?_⟩
  repeat' (first | exact Below.refl _ _ | refine Below.alloc ?_ (by simp; try omega) _)
theorem ak_Derive_Hello (hd : ByteArray) (nm : ByteArray) (ri : Int) (ba : Int) (ex : Int) (w : World) : (Instr.typeAssert (.iface 83 (.agg #[.string hd, .string nm, .int .i64 ri, .int .i64 ba, .int .i64 ex])) 20 64 true).run Try.prog w = .ok (.tuple #[.agg #[.string ⟨#[]⟩], .bool false]) w := by kernel_rfl
theorem ak_Derive_Register (hd : ByteArray) (nm : ByteArray) (ri : Int) (ba : Int) (ex : Int) (w : World) : (Instr.typeAssert (.iface 83 (.agg #[.string hd, .string nm, .int .i64 ri, .int .i64 ba, .int .i64 ex])) 20 51 true).run Try.prog w = .ok (.tuple #[.agg #[.string ⟨#[]⟩, .int .i64 0], .bool false]) w := by kernel_rfl
theorem ak_Derive_Mint (hd : ByteArray) (nm : ByteArray) (ri : Int) (ba : Int) (ex : Int) (w : World) : (Instr.typeAssert (.iface 83 (.agg #[.string hd, .string nm, .int .i64 ri, .int .i64 ba, .int .i64 ex])) 20 53 true).run Try.prog w = .ok (.tuple #[.agg #[.int .i64 0, .int .i64 0, .int .i64 0, .int .i64 0], .bool false]) w := by kernel_rfl
theorem ak_Derive_Derive (hd : ByteArray) (nm : ByteArray) (ri : Int) (ba : Int) (ex : Int) (w : World) : (Instr.typeAssert (.iface 83 (.agg #[.string hd, .string nm, .int .i64 ri, .int .i64 ba, .int .i64 ex])) 20 83 true).run Try.prog w = .ok (.tuple #[.agg #[.string hd, .string nm, .int .i64 ri, .int .i64 ba, .int .i64 ex], .bool true]) w := by kernel_rfl
set_option maxHeartbeats 3200000 in
set_option maxRecDepth 20000 in
theorem known_Derive (hd : ByteArray) (nm : ByteArray) (ri : Int) (ba : Int) (ex : Int) (w : World) :
    Calls Try.prog 41 #[.iface 83 (.agg #[.string hd, .string nm, .int .i64 ri, .int .i64 ba, .int .i64 ex])] w fun e w' => e = .returned (.tuple #[.iface 83 (.agg #[.string hd, .string nm, .int .i64 ri, .int .i64 ba, .int .i64 ex]), .bool true]) ∧ Below w.heap.size w w' := by
  have q0 := ak_Derive_Hello hd nm ri ba ex
  have q1 := ak_Derive_Register hd nm ri ba ex
  have q2 := ak_Derive_Mint hd nm ri ba ex
  have q3 := ak_Derive_Derive hd nm ri ba ex
  go_enter Try.func41, Try.ntmps41
  go_wp2_with fail
  go_ret2
  refine ⟨rfl, ?_⟩
  repeat' (first | exact Below.refl _ _ | refine Below.alloc ?_ (by simp; try omega) _)
theorem ak_Renew_Hello (hd : ByteArray) (ex : Int) (w : World) : (Instr.typeAssert (.iface 62 (.agg #[.string hd, .int .i64 ex])) 20 64 true).run Try.prog w = .ok (.tuple #[.agg #[.string ⟨#[]⟩], .bool false]) w := by kernel_rfl
theorem ak_Renew_Register (hd : ByteArray) (ex : Int) (w : World) : (Instr.typeAssert (.iface 62 (.agg #[.string hd, .int .i64 ex])) 20 51 true).run Try.prog w = .ok (.tuple #[.agg #[.string ⟨#[]⟩, .int .i64 0], .bool false]) w := by kernel_rfl
theorem ak_Renew_Mint (hd : ByteArray) (ex : Int) (w : World) : (Instr.typeAssert (.iface 62 (.agg #[.string hd, .int .i64 ex])) 20 53 true).run Try.prog w = .ok (.tuple #[.agg #[.int .i64 0, .int .i64 0, .int .i64 0, .int .i64 0], .bool false]) w := by kernel_rfl
theorem ak_Renew_Derive (hd : ByteArray) (ex : Int) (w : World) : (Instr.typeAssert (.iface 62 (.agg #[.string hd, .int .i64 ex])) 20 83 true).run Try.prog w = .ok (.tuple #[.agg #[.string ⟨#[]⟩, .string ⟨#[]⟩, .int .i64 0, .int .i64 0, .int .i64 0], .bool false]) w := by kernel_rfl
theorem ak_Renew_Renew (hd : ByteArray) (ex : Int) (w : World) : (Instr.typeAssert (.iface 62 (.agg #[.string hd, .int .i64 ex])) 20 62 true).run Try.prog w = .ok (.tuple #[.agg #[.string hd, .int .i64 ex], .bool true]) w := by kernel_rfl
set_option maxHeartbeats 3200000 in
set_option maxRecDepth 20000 in
theorem known_Renew (hd : ByteArray) (ex : Int) (w : World) :
    Calls Try.prog 41 #[.iface 62 (.agg #[.string hd, .int .i64 ex])] w fun e w' => e = .returned (.tuple #[.iface 62 (.agg #[.string hd, .int .i64 ex]), .bool true]) ∧ Below w.heap.size w w' := by
  have q0 := ak_Renew_Hello hd ex
  have q1 := ak_Renew_Register hd ex
  have q2 := ak_Renew_Mint hd ex
  have q3 := ak_Renew_Derive hd ex
  have q4 := ak_Renew_Renew hd ex
  go_enter Try.func41, Try.ntmps41
  go_wp2_with fail
  go_ret2
  refine ⟨rfl, ?_⟩
  repeat' (first | exact Below.refl _ _ | refine Below.alloc ?_ (by simp; try omega) _)
theorem ak_Validate_Hello (hd : ByteArray) (w : World) : (Instr.typeAssert (.iface 55 (.agg #[.string hd])) 20 64 true).run Try.prog w = .ok (.tuple #[.agg #[.string ⟨#[]⟩], .bool false]) w := by kernel_rfl
theorem ak_Validate_Register (hd : ByteArray) (w : World) : (Instr.typeAssert (.iface 55 (.agg #[.string hd])) 20 51 true).run Try.prog w = .ok (.tuple #[.agg #[.string ⟨#[]⟩, .int .i64 0], .bool false]) w := by kernel_rfl
theorem ak_Validate_Mint (hd : ByteArray) (w : World) : (Instr.typeAssert (.iface 55 (.agg #[.string hd])) 20 53 true).run Try.prog w = .ok (.tuple #[.agg #[.int .i64 0, .int .i64 0, .int .i64 0, .int .i64 0], .bool false]) w := by kernel_rfl
theorem ak_Validate_Derive (hd : ByteArray) (w : World) : (Instr.typeAssert (.iface 55 (.agg #[.string hd])) 20 83 true).run Try.prog w = .ok (.tuple #[.agg #[.string ⟨#[]⟩, .string ⟨#[]⟩, .int .i64 0, .int .i64 0, .int .i64 0], .bool false]) w := by kernel_rfl
theorem ak_Validate_Renew (hd : ByteArray) (w : World) : (Instr.typeAssert (.iface 55 (.agg #[.string hd])) 20 62 true).run Try.prog w = .ok (.tuple #[.agg #[.string ⟨#[]⟩, .int .i64 0], .bool false]) w := by kernel_rfl
theorem ak_Validate_Validate (hd : ByteArray) (w : World) : (Instr.typeAssert (.iface 55 (.agg #[.string hd])) 20 55 true).run Try.prog w = .ok (.tuple #[.agg #[.string hd], .bool true]) w := by kernel_rfl
set_option maxHeartbeats 3200000 in
set_option maxRecDepth 20000 in
theorem known_Validate (hd : ByteArray) (w : World) :
    Calls Try.prog 41 #[.iface 55 (.agg #[.string hd])] w fun e w' => e = .returned (.tuple #[.iface 55 (.agg #[.string hd]), .bool true]) ∧ Below w.heap.size w w' := by
  have q0 := ak_Validate_Hello hd
  have q1 := ak_Validate_Register hd
  have q2 := ak_Validate_Mint hd
  have q3 := ak_Validate_Derive hd
  have q4 := ak_Validate_Renew hd
  have q5 := ak_Validate_Validate hd
  go_enter Try.func41, Try.ntmps41
  go_wp2_with fail
  go_ret2
  refine ⟨rfl, ?_⟩
  repeat' (first | exact Below.refl _ _ | refine Below.alloc ?_ (by simp; try omega) _)
theorem ak_Invoke_Hello (hd : ByteArray) (rt : Int) (w : World) : (Instr.typeAssert (.iface 58 (.agg #[.string hd, .int .i32 rt])) 20 64 true).run Try.prog w = .ok (.tuple #[.agg #[.string ⟨#[]⟩], .bool false]) w := by kernel_rfl
theorem ak_Invoke_Register (hd : ByteArray) (rt : Int) (w : World) : (Instr.typeAssert (.iface 58 (.agg #[.string hd, .int .i32 rt])) 20 51 true).run Try.prog w = .ok (.tuple #[.agg #[.string ⟨#[]⟩, .int .i64 0], .bool false]) w := by kernel_rfl
theorem ak_Invoke_Mint (hd : ByteArray) (rt : Int) (w : World) : (Instr.typeAssert (.iface 58 (.agg #[.string hd, .int .i32 rt])) 20 53 true).run Try.prog w = .ok (.tuple #[.agg #[.int .i64 0, .int .i64 0, .int .i64 0, .int .i64 0], .bool false]) w := by kernel_rfl
theorem ak_Invoke_Derive (hd : ByteArray) (rt : Int) (w : World) : (Instr.typeAssert (.iface 58 (.agg #[.string hd, .int .i32 rt])) 20 83 true).run Try.prog w = .ok (.tuple #[.agg #[.string ⟨#[]⟩, .string ⟨#[]⟩, .int .i64 0, .int .i64 0, .int .i64 0], .bool false]) w := by kernel_rfl
theorem ak_Invoke_Renew (hd : ByteArray) (rt : Int) (w : World) : (Instr.typeAssert (.iface 58 (.agg #[.string hd, .int .i32 rt])) 20 62 true).run Try.prog w = .ok (.tuple #[.agg #[.string ⟨#[]⟩, .int .i64 0], .bool false]) w := by kernel_rfl
theorem ak_Invoke_Validate (hd : ByteArray) (rt : Int) (w : World) : (Instr.typeAssert (.iface 58 (.agg #[.string hd, .int .i32 rt])) 20 55 true).run Try.prog w = .ok (.tuple #[.agg #[.string ⟨#[]⟩], .bool false]) w := by kernel_rfl
theorem ak_Invoke_Invoke (hd : ByteArray) (rt : Int) (w : World) : (Instr.typeAssert (.iface 58 (.agg #[.string hd, .int .i32 rt])) 20 58 true).run Try.prog w = .ok (.tuple #[.agg #[.string hd, .int .i32 rt], .bool true]) w := by kernel_rfl
set_option maxHeartbeats 3200000 in
set_option maxRecDepth 20000 in
theorem known_Invoke (hd : ByteArray) (rt : Int) (w : World) :
    Calls Try.prog 41 #[.iface 58 (.agg #[.string hd, .int .i32 rt])] w fun e w' => e = .returned (.tuple #[.iface 58 (.agg #[.string hd, .int .i32 rt]), .bool true]) ∧ Below w.heap.size w w' := by
  have q0 := ak_Invoke_Hello hd rt
  have q1 := ak_Invoke_Register hd rt
  have q2 := ak_Invoke_Mint hd rt
  have q3 := ak_Invoke_Derive hd rt
  have q4 := ak_Invoke_Renew hd rt
  have q5 := ak_Invoke_Validate hd rt
  have q6 := ak_Invoke_Invoke hd rt
  go_enter Try.func41, Try.ntmps41
  go_wp2_with fail
  go_ret2
  refine ⟨rfl, ?_⟩
  repeat' (first | exact Below.refl _ _ | refine Below.alloc ?_ (by simp; try omega) _)
theorem ak_Revoke_Hello (hd : ByteArray) (sf : Bool) (w : World) : (Instr.typeAssert (.iface 85 (.agg #[.string hd, .bool sf])) 20 64 true).run Try.prog w = .ok (.tuple #[.agg #[.string ⟨#[]⟩], .bool false]) w := by kernel_rfl
theorem ak_Revoke_Register (hd : ByteArray) (sf : Bool) (w : World) : (Instr.typeAssert (.iface 85 (.agg #[.string hd, .bool sf])) 20 51 true).run Try.prog w = .ok (.tuple #[.agg #[.string ⟨#[]⟩, .int .i64 0], .bool false]) w := by kernel_rfl
theorem ak_Revoke_Mint (hd : ByteArray) (sf : Bool) (w : World) : (Instr.typeAssert (.iface 85 (.agg #[.string hd, .bool sf])) 20 53 true).run Try.prog w = .ok (.tuple #[.agg #[.int .i64 0, .int .i64 0, .int .i64 0, .int .i64 0], .bool false]) w := by kernel_rfl
theorem ak_Revoke_Derive (hd : ByteArray) (sf : Bool) (w : World) : (Instr.typeAssert (.iface 85 (.agg #[.string hd, .bool sf])) 20 83 true).run Try.prog w = .ok (.tuple #[.agg #[.string ⟨#[]⟩, .string ⟨#[]⟩, .int .i64 0, .int .i64 0, .int .i64 0], .bool false]) w := by kernel_rfl
theorem ak_Revoke_Renew (hd : ByteArray) (sf : Bool) (w : World) : (Instr.typeAssert (.iface 85 (.agg #[.string hd, .bool sf])) 20 62 true).run Try.prog w = .ok (.tuple #[.agg #[.string ⟨#[]⟩, .int .i64 0], .bool false]) w := by kernel_rfl
theorem ak_Revoke_Validate (hd : ByteArray) (sf : Bool) (w : World) : (Instr.typeAssert (.iface 85 (.agg #[.string hd, .bool sf])) 20 55 true).run Try.prog w = .ok (.tuple #[.agg #[.string ⟨#[]⟩], .bool false]) w := by kernel_rfl
theorem ak_Revoke_Invoke (hd : ByteArray) (sf : Bool) (w : World) : (Instr.typeAssert (.iface 85 (.agg #[.string hd, .bool sf])) 20 58 true).run Try.prog w = .ok (.tuple #[.agg #[.string ⟨#[]⟩, .int .i32 0], .bool false]) w := by kernel_rfl
theorem ak_Revoke_Revoke (hd : ByteArray) (sf : Bool) (w : World) : (Instr.typeAssert (.iface 85 (.agg #[.string hd, .bool sf])) 20 85 true).run Try.prog w = .ok (.tuple #[.agg #[.string hd, .bool sf], .bool true]) w := by kernel_rfl
set_option maxHeartbeats 3200000 in
set_option maxRecDepth 20000 in
theorem known_Revoke (hd : ByteArray) (sf : Bool) (w : World) :
    Calls Try.prog 41 #[.iface 85 (.agg #[.string hd, .bool sf])] w fun e w' => e = .returned (.tuple #[.iface 85 (.agg #[.string hd, .bool sf]), .bool true]) ∧ Below w.heap.size w w' := by
  have q0 := ak_Revoke_Hello hd sf
  have q1 := ak_Revoke_Register hd sf
  have q2 := ak_Revoke_Mint hd sf
  have q3 := ak_Revoke_Derive hd sf
  have q4 := ak_Revoke_Renew hd sf
  have q5 := ak_Revoke_Validate hd sf
  have q6 := ak_Revoke_Invoke hd sf
  have q7 := ak_Revoke_Revoke hd sf
  go_enter Try.func41, Try.ntmps41
  go_wp2_with fail
  go_ret2
  refine ⟨rfl, ?_⟩
  repeat' (first | exact Below.refl _ _ | refine Below.alloc ?_ (by simp; try omega) _)
theorem ak_Delete_Hello (hd : ByteArray) (w : World) : (Instr.typeAssert (.iface 86 (.agg #[.string hd])) 20 64 true).run Try.prog w = .ok (.tuple #[.agg #[.string ⟨#[]⟩], .bool false]) w := by kernel_rfl
theorem ak_Delete_Register (hd : ByteArray) (w : World) : (Instr.typeAssert (.iface 86 (.agg #[.string hd])) 20 51 true).run Try.prog w = .ok (.tuple #[.agg #[.string ⟨#[]⟩, .int .i64 0], .bool false]) w := by kernel_rfl
theorem ak_Delete_Mint (hd : ByteArray) (w : World) : (Instr.typeAssert (.iface 86 (.agg #[.string hd])) 20 53 true).run Try.prog w = .ok (.tuple #[.agg #[.int .i64 0, .int .i64 0, .int .i64 0, .int .i64 0], .bool false]) w := by kernel_rfl
theorem ak_Delete_Derive (hd : ByteArray) (w : World) : (Instr.typeAssert (.iface 86 (.agg #[.string hd])) 20 83 true).run Try.prog w = .ok (.tuple #[.agg #[.string ⟨#[]⟩, .string ⟨#[]⟩, .int .i64 0, .int .i64 0, .int .i64 0], .bool false]) w := by kernel_rfl
theorem ak_Delete_Renew (hd : ByteArray) (w : World) : (Instr.typeAssert (.iface 86 (.agg #[.string hd])) 20 62 true).run Try.prog w = .ok (.tuple #[.agg #[.string ⟨#[]⟩, .int .i64 0], .bool false]) w := by kernel_rfl
theorem ak_Delete_Validate (hd : ByteArray) (w : World) : (Instr.typeAssert (.iface 86 (.agg #[.string hd])) 20 55 true).run Try.prog w = .ok (.tuple #[.agg #[.string ⟨#[]⟩], .bool false]) w := by kernel_rfl
theorem ak_Delete_Invoke (hd : ByteArray) (w : World) : (Instr.typeAssert (.iface 86 (.agg #[.string hd])) 20 58 true).run Try.prog w = .ok (.tuple #[.agg #[.string ⟨#[]⟩, .int .i32 0], .bool false]) w := by kernel_rfl
theorem ak_Delete_Revoke (hd : ByteArray) (w : World) : (Instr.typeAssert (.iface 86 (.agg #[.string hd])) 20 85 true).run Try.prog w = .ok (.tuple #[.agg #[.string ⟨#[]⟩, .bool false], .bool false]) w := by kernel_rfl
theorem ak_Delete_Delete (hd : ByteArray) (w : World) : (Instr.typeAssert (.iface 86 (.agg #[.string hd])) 20 86 true).run Try.prog w = .ok (.tuple #[.agg #[.string hd], .bool true]) w := by kernel_rfl
set_option maxHeartbeats 3200000 in
set_option maxRecDepth 20000 in
theorem known_Delete (hd : ByteArray) (w : World) :
    Calls Try.prog 41 #[.iface 86 (.agg #[.string hd])] w fun e w' => e = .returned (.tuple #[.iface 86 (.agg #[.string hd]), .bool true]) ∧ Below w.heap.size w w' := by
  have q0 := ak_Delete_Hello hd
  have q1 := ak_Delete_Register hd
  have q2 := ak_Delete_Mint hd
  have q3 := ak_Delete_Derive hd
  have q4 := ak_Delete_Renew hd
  have q5 := ak_Delete_Validate hd
  have q6 := ak_Delete_Invoke hd
  have q7 := ak_Delete_Revoke hd
  have q8 := ak_Delete_Delete hd
  go_enter Try.func41, Try.ntmps41
  go_wp2_with fail
  go_ret2
  refine ⟨rfl, ?_⟩
  repeat' (first | exact Below.refl _ _ | refine Below.alloc ?_ (by simp; try omega) _)
theorem ak_Move_Hello (hd : ByteArray) (to : ByteArray) (w : World) : (Instr.typeAssert (.iface 88 (.agg #[.string hd, .string to])) 20 64 true).run Try.prog w = .ok (.tuple #[.agg #[.string ⟨#[]⟩], .bool false]) w := by kernel_rfl
theorem ak_Move_Register (hd : ByteArray) (to : ByteArray) (w : World) : (Instr.typeAssert (.iface 88 (.agg #[.string hd, .string to])) 20 51 true).run Try.prog w = .ok (.tuple #[.agg #[.string ⟨#[]⟩, .int .i64 0], .bool false]) w := by kernel_rfl
theorem ak_Move_Mint (hd : ByteArray) (to : ByteArray) (w : World) : (Instr.typeAssert (.iface 88 (.agg #[.string hd, .string to])) 20 53 true).run Try.prog w = .ok (.tuple #[.agg #[.int .i64 0, .int .i64 0, .int .i64 0, .int .i64 0], .bool false]) w := by kernel_rfl
theorem ak_Move_Derive (hd : ByteArray) (to : ByteArray) (w : World) : (Instr.typeAssert (.iface 88 (.agg #[.string hd, .string to])) 20 83 true).run Try.prog w = .ok (.tuple #[.agg #[.string ⟨#[]⟩, .string ⟨#[]⟩, .int .i64 0, .int .i64 0, .int .i64 0], .bool false]) w := by kernel_rfl
theorem ak_Move_Renew (hd : ByteArray) (to : ByteArray) (w : World) : (Instr.typeAssert (.iface 88 (.agg #[.string hd, .string to])) 20 62 true).run Try.prog w = .ok (.tuple #[.agg #[.string ⟨#[]⟩, .int .i64 0], .bool false]) w := by kernel_rfl
theorem ak_Move_Validate (hd : ByteArray) (to : ByteArray) (w : World) : (Instr.typeAssert (.iface 88 (.agg #[.string hd, .string to])) 20 55 true).run Try.prog w = .ok (.tuple #[.agg #[.string ⟨#[]⟩], .bool false]) w := by kernel_rfl
theorem ak_Move_Invoke (hd : ByteArray) (to : ByteArray) (w : World) : (Instr.typeAssert (.iface 88 (.agg #[.string hd, .string to])) 20 58 true).run Try.prog w = .ok (.tuple #[.agg #[.string ⟨#[]⟩, .int .i32 0], .bool false]) w := by kernel_rfl
theorem ak_Move_Revoke (hd : ByteArray) (to : ByteArray) (w : World) : (Instr.typeAssert (.iface 88 (.agg #[.string hd, .string to])) 20 85 true).run Try.prog w = .ok (.tuple #[.agg #[.string ⟨#[]⟩, .bool false], .bool false]) w := by kernel_rfl
theorem ak_Move_Delete (hd : ByteArray) (to : ByteArray) (w : World) : (Instr.typeAssert (.iface 88 (.agg #[.string hd, .string to])) 20 86 true).run Try.prog w = .ok (.tuple #[.agg #[.string ⟨#[]⟩], .bool false]) w := by kernel_rfl
theorem ak_Move_Move (hd : ByteArray) (to : ByteArray) (w : World) : (Instr.typeAssert (.iface 88 (.agg #[.string hd, .string to])) 20 88 true).run Try.prog w = .ok (.tuple #[.agg #[.string hd, .string to], .bool true]) w := by kernel_rfl
set_option maxHeartbeats 3200000 in
set_option maxRecDepth 20000 in
theorem known_Move (hd : ByteArray) (to : ByteArray) (w : World) :
    Calls Try.prog 41 #[.iface 88 (.agg #[.string hd, .string to])] w fun e w' => e = .returned (.tuple #[.iface 88 (.agg #[.string hd, .string to]), .bool true]) ∧ Below w.heap.size w w' := by
  have q0 := ak_Move_Hello hd to
  have q1 := ak_Move_Register hd to
  have q2 := ak_Move_Mint hd to
  have q3 := ak_Move_Derive hd to
  have q4 := ak_Move_Renew hd to
  have q5 := ak_Move_Validate hd to
  have q6 := ak_Move_Invoke hd to
  have q7 := ak_Move_Revoke hd to
  have q8 := ak_Move_Delete hd to
  have q9 := ak_Move_Move hd to
  go_enter Try.func41, Try.ntmps41
  go_wp2_with fail
  go_ret2
  refine ⟨rfl, ?_⟩
  repeat' (first | exact Below.refl _ _ | refine Below.alloc ?_ (by simp; try omega) _)
theorem ak_List_Hello (hd : ByteArray) (fr : Int) (mo : Int) (w : World) : (Instr.typeAssert (.iface 60 (.agg #[.string hd, .int .i64 fr, .int .i64 mo])) 20 64 true).run Try.prog w = .ok (.tuple #[.agg #[.string ⟨#[]⟩], .bool false]) w := by kernel_rfl
theorem ak_List_Register (hd : ByteArray) (fr : Int) (mo : Int) (w : World) : (Instr.typeAssert (.iface 60 (.agg #[.string hd, .int .i64 fr, .int .i64 mo])) 20 51 true).run Try.prog w = .ok (.tuple #[.agg #[.string ⟨#[]⟩, .int .i64 0], .bool false]) w := by kernel_rfl
theorem ak_List_Mint (hd : ByteArray) (fr : Int) (mo : Int) (w : World) : (Instr.typeAssert (.iface 60 (.agg #[.string hd, .int .i64 fr, .int .i64 mo])) 20 53 true).run Try.prog w = .ok (.tuple #[.agg #[.int .i64 0, .int .i64 0, .int .i64 0, .int .i64 0], .bool false]) w := by kernel_rfl
theorem ak_List_Derive (hd : ByteArray) (fr : Int) (mo : Int) (w : World) : (Instr.typeAssert (.iface 60 (.agg #[.string hd, .int .i64 fr, .int .i64 mo])) 20 83 true).run Try.prog w = .ok (.tuple #[.agg #[.string ⟨#[]⟩, .string ⟨#[]⟩, .int .i64 0, .int .i64 0, .int .i64 0], .bool false]) w := by kernel_rfl
theorem ak_List_Renew (hd : ByteArray) (fr : Int) (mo : Int) (w : World) : (Instr.typeAssert (.iface 60 (.agg #[.string hd, .int .i64 fr, .int .i64 mo])) 20 62 true).run Try.prog w = .ok (.tuple #[.agg #[.string ⟨#[]⟩, .int .i64 0], .bool false]) w := by kernel_rfl
theorem ak_List_Validate (hd : ByteArray) (fr : Int) (mo : Int) (w : World) : (Instr.typeAssert (.iface 60 (.agg #[.string hd, .int .i64 fr, .int .i64 mo])) 20 55 true).run Try.prog w = .ok (.tuple #[.agg #[.string ⟨#[]⟩], .bool false]) w := by kernel_rfl
theorem ak_List_Invoke (hd : ByteArray) (fr : Int) (mo : Int) (w : World) : (Instr.typeAssert (.iface 60 (.agg #[.string hd, .int .i64 fr, .int .i64 mo])) 20 58 true).run Try.prog w = .ok (.tuple #[.agg #[.string ⟨#[]⟩, .int .i32 0], .bool false]) w := by kernel_rfl
theorem ak_List_Revoke (hd : ByteArray) (fr : Int) (mo : Int) (w : World) : (Instr.typeAssert (.iface 60 (.agg #[.string hd, .int .i64 fr, .int .i64 mo])) 20 85 true).run Try.prog w = .ok (.tuple #[.agg #[.string ⟨#[]⟩, .bool false], .bool false]) w := by kernel_rfl
theorem ak_List_Delete (hd : ByteArray) (fr : Int) (mo : Int) (w : World) : (Instr.typeAssert (.iface 60 (.agg #[.string hd, .int .i64 fr, .int .i64 mo])) 20 86 true).run Try.prog w = .ok (.tuple #[.agg #[.string ⟨#[]⟩], .bool false]) w := by kernel_rfl
theorem ak_List_Move (hd : ByteArray) (fr : Int) (mo : Int) (w : World) : (Instr.typeAssert (.iface 60 (.agg #[.string hd, .int .i64 fr, .int .i64 mo])) 20 88 true).run Try.prog w = .ok (.tuple #[.agg #[.string ⟨#[]⟩, .string ⟨#[]⟩], .bool false]) w := by kernel_rfl
theorem ak_List_List (hd : ByteArray) (fr : Int) (mo : Int) (w : World) : (Instr.typeAssert (.iface 60 (.agg #[.string hd, .int .i64 fr, .int .i64 mo])) 20 60 true).run Try.prog w = .ok (.tuple #[.agg #[.string hd, .int .i64 fr, .int .i64 mo], .bool true]) w := by kernel_rfl
set_option maxHeartbeats 3200000 in
set_option maxRecDepth 20000 in
theorem known_List (hd : ByteArray) (fr : Int) (mo : Int) (w : World) :
    Calls Try.prog 41 #[.iface 60 (.agg #[.string hd, .int .i64 fr, .int .i64 mo])] w fun e w' => e = .returned (.tuple #[.iface 60 (.agg #[.string hd, .int .i64 fr, .int .i64 mo]), .bool true]) ∧ Below w.heap.size w w' := by
  have q0 := ak_List_Hello hd fr mo
  have q1 := ak_List_Register hd fr mo
  have q2 := ak_List_Mint hd fr mo
  have q3 := ak_List_Derive hd fr mo
  have q4 := ak_List_Renew hd fr mo
  have q5 := ak_List_Validate hd fr mo
  have q6 := ak_List_Invoke hd fr mo
  have q7 := ak_List_Revoke hd fr mo
  have q8 := ak_List_Delete hd fr mo
  have q9 := ak_List_Move hd fr mo
  have q10 := ak_List_List hd fr mo
  go_enter Try.func41, Try.ntmps41
  go_wp2_with fail
  go_ret2
  refine ⟨rfl, ?_⟩
  repeat' (first | exact Below.refl _ _ | refine Below.alloc ?_ (by simp; try omega) _)
theorem ak_Rotate_Hello  (w : World) : (Instr.typeAssert (.iface 89 (.agg #[])) 20 64 true).run Try.prog w = .ok (.tuple #[.agg #[.string ⟨#[]⟩], .bool false]) w := by kernel_rfl
theorem ak_Rotate_Register  (w : World) : (Instr.typeAssert (.iface 89 (.agg #[])) 20 51 true).run Try.prog w = .ok (.tuple #[.agg #[.string ⟨#[]⟩, .int .i64 0], .bool false]) w := by kernel_rfl
theorem ak_Rotate_Mint  (w : World) : (Instr.typeAssert (.iface 89 (.agg #[])) 20 53 true).run Try.prog w = .ok (.tuple #[.agg #[.int .i64 0, .int .i64 0, .int .i64 0, .int .i64 0], .bool false]) w := by kernel_rfl
theorem ak_Rotate_Derive  (w : World) : (Instr.typeAssert (.iface 89 (.agg #[])) 20 83 true).run Try.prog w = .ok (.tuple #[.agg #[.string ⟨#[]⟩, .string ⟨#[]⟩, .int .i64 0, .int .i64 0, .int .i64 0], .bool false]) w := by kernel_rfl
theorem ak_Rotate_Renew  (w : World) : (Instr.typeAssert (.iface 89 (.agg #[])) 20 62 true).run Try.prog w = .ok (.tuple #[.agg #[.string ⟨#[]⟩, .int .i64 0], .bool false]) w := by kernel_rfl
theorem ak_Rotate_Validate  (w : World) : (Instr.typeAssert (.iface 89 (.agg #[])) 20 55 true).run Try.prog w = .ok (.tuple #[.agg #[.string ⟨#[]⟩], .bool false]) w := by kernel_rfl
theorem ak_Rotate_Invoke  (w : World) : (Instr.typeAssert (.iface 89 (.agg #[])) 20 58 true).run Try.prog w = .ok (.tuple #[.agg #[.string ⟨#[]⟩, .int .i32 0], .bool false]) w := by kernel_rfl
theorem ak_Rotate_Revoke  (w : World) : (Instr.typeAssert (.iface 89 (.agg #[])) 20 85 true).run Try.prog w = .ok (.tuple #[.agg #[.string ⟨#[]⟩, .bool false], .bool false]) w := by kernel_rfl
theorem ak_Rotate_Delete  (w : World) : (Instr.typeAssert (.iface 89 (.agg #[])) 20 86 true).run Try.prog w = .ok (.tuple #[.agg #[.string ⟨#[]⟩], .bool false]) w := by kernel_rfl
theorem ak_Rotate_Move  (w : World) : (Instr.typeAssert (.iface 89 (.agg #[])) 20 88 true).run Try.prog w = .ok (.tuple #[.agg #[.string ⟨#[]⟩, .string ⟨#[]⟩], .bool false]) w := by kernel_rfl
theorem ak_Rotate_List  (w : World) : (Instr.typeAssert (.iface 89 (.agg #[])) 20 60 true).run Try.prog w = .ok (.tuple #[.agg #[.string ⟨#[]⟩, .int .i64 0, .int .i64 0], .bool false]) w := by kernel_rfl
theorem ak_Rotate_Quota  (w : World) : (Instr.typeAssert (.iface 89 (.agg #[])) 20 68 true).run Try.prog w = .ok (.tuple #[.agg #[], .bool false]) w := by kernel_rfl
theorem ak_Rotate_Rotate  (w : World) : (Instr.typeAssert (.iface 89 (.agg #[])) 20 89 true).run Try.prog w = .ok (.tuple #[.agg #[], .bool true]) w := by kernel_rfl
set_option maxHeartbeats 3200000 in
set_option maxRecDepth 20000 in
theorem known_Rotate  (w : World) :
    Calls Try.prog 41 #[.iface 89 (.agg #[])] w fun e w' => e = .returned (.tuple #[.iface 89 (.agg #[]), .bool true]) ∧ Below w.heap.size w w' := by
  have q0 := ak_Rotate_Hello 
  have q1 := ak_Rotate_Register 
  have q2 := ak_Rotate_Mint 
  have q3 := ak_Rotate_Derive 
  have q4 := ak_Rotate_Renew 
  have q5 := ak_Rotate_Validate 
  have q6 := ak_Rotate_Invoke 
  have q7 := ak_Rotate_Revoke 
  have q8 := ak_Rotate_Delete 
  have q9 := ak_Rotate_Move 
  have q10 := ak_Rotate_List 
  have q11 := ak_Rotate_Quota 
  have q12 := ak_Rotate_Rotate 
  go_enter Try.func41, Try.ntmps41
  go_wp2_with fail
  go_ret2
  refine ⟨rfl, ?_⟩
  repeat' (first | exact Below.refl _ _ | refine Below.alloc ?_ (by simp; try omega) _)
end Go.Proofs.Ytemhlhcaahaecaa
