/-
  The chapter's examples.
-/
import Derived.Test.YtemhlhcaahaecaaProto
namespace Go.Proofs.Ytemhlhcaahaecaa
open Go.RowKit
set_option linter.unusedVariables false
set_option linter.unusedSimpArgs false
theorem as_q_Hello (w : World) : (Instr.typeAssert (.iface 68 (.agg #[])) 20 64 true).run Try.prog w = .ok (.tuple #[.agg #[.string ⟨#[]⟩], .bool false]) w := by kernel_rfl
theorem as_q_Register (w : World) : (Instr.typeAssert (.iface 68 (.agg #[])) 20 51 true).run Try.prog w = .ok (.tuple #[.agg #[.string ⟨#[]⟩, .int .i64 0], .bool false]) w := by kernel_rfl
theorem as_q_Mint (w : World) : (Instr.typeAssert (.iface 68 (.agg #[])) 20 53 true).run Try.prog w = .ok (.tuple #[.agg #[.int .i64 0, .int .i64 0, .int .i64 0, .int .i64 0], .bool false]) w := by kernel_rfl
theorem as_q_Derive (w : World) : (Instr.typeAssert (.iface 68 (.agg #[])) 20 83 true).run Try.prog w = .ok (.tuple #[.agg #[.string ⟨#[]⟩, .string ⟨#[]⟩, .int .i64 0, .int .i64 0, .int .i64 0], .bool false]) w := by kernel_rfl
theorem as_q_Renew (w : World) : (Instr.typeAssert (.iface 68 (.agg #[])) 20 62 true).run Try.prog w = .ok (.tuple #[.agg #[.string ⟨#[]⟩, .int .i64 0], .bool false]) w := by kernel_rfl
theorem as_q_Validate (w : World) : (Instr.typeAssert (.iface 68 (.agg #[])) 20 55 true).run Try.prog w = .ok (.tuple #[.agg #[.string ⟨#[]⟩], .bool false]) w := by kernel_rfl
theorem as_q_Invoke (w : World) : (Instr.typeAssert (.iface 68 (.agg #[])) 20 58 true).run Try.prog w = .ok (.tuple #[.agg #[.string ⟨#[]⟩, .int .i32 0], .bool false]) w := by kernel_rfl
theorem as_q_Revoke (w : World) : (Instr.typeAssert (.iface 68 (.agg #[])) 20 85 true).run Try.prog w = .ok (.tuple #[.agg #[.string ⟨#[]⟩, .bool false], .bool false]) w := by kernel_rfl
theorem as_q_Delete (w : World) : (Instr.typeAssert (.iface 68 (.agg #[])) 20 86 true).run Try.prog w = .ok (.tuple #[.agg #[.string ⟨#[]⟩], .bool false]) w := by kernel_rfl
theorem as_q_Move (w : World) : (Instr.typeAssert (.iface 68 (.agg #[])) 20 88 true).run Try.prog w = .ok (.tuple #[.agg #[.string ⟨#[]⟩, .string ⟨#[]⟩], .bool false]) w := by kernel_rfl
theorem as_q_List (w : World) : (Instr.typeAssert (.iface 68 (.agg #[])) 20 60 true).run Try.prog w = .ok (.tuple #[.agg #[.string ⟨#[]⟩, .int .i64 0, .int .i64 0], .bool false]) w := by kernel_rfl
theorem as_q_Quota (w : World) : (Instr.typeAssert (.iface 68 (.agg #[])) 20 68 true).run Try.prog w = .ok (.tuple #[.agg #[], .bool true]) w := by kernel_rfl
theorem as_q_Rotate (w : World) : (Instr.typeAssert (.iface 68 (.agg #[])) 20 89 true).run Try.prog w = .ok (.tuple #[.agg #[], .bool false]) w := by kernel_rfl
theorem as_n_Hello (w : World) : (Instr.typeAssert (.nilIface) 20 64 true).run Try.prog w = .ok (.tuple #[.agg #[.string ⟨#[]⟩], .bool false]) w := by kernel_rfl
theorem as_n_Register (w : World) : (Instr.typeAssert (.nilIface) 20 51 true).run Try.prog w = .ok (.tuple #[.agg #[.string ⟨#[]⟩, .int .i64 0], .bool false]) w := by kernel_rfl
theorem as_n_Mint (w : World) : (Instr.typeAssert (.nilIface) 20 53 true).run Try.prog w = .ok (.tuple #[.agg #[.int .i64 0, .int .i64 0, .int .i64 0, .int .i64 0], .bool false]) w := by kernel_rfl
theorem as_n_Derive (w : World) : (Instr.typeAssert (.nilIface) 20 83 true).run Try.prog w = .ok (.tuple #[.agg #[.string ⟨#[]⟩, .string ⟨#[]⟩, .int .i64 0, .int .i64 0, .int .i64 0], .bool false]) w := by kernel_rfl
theorem as_n_Renew (w : World) : (Instr.typeAssert (.nilIface) 20 62 true).run Try.prog w = .ok (.tuple #[.agg #[.string ⟨#[]⟩, .int .i64 0], .bool false]) w := by kernel_rfl
theorem as_n_Validate (w : World) : (Instr.typeAssert (.nilIface) 20 55 true).run Try.prog w = .ok (.tuple #[.agg #[.string ⟨#[]⟩], .bool false]) w := by kernel_rfl
theorem as_n_Invoke (w : World) : (Instr.typeAssert (.nilIface) 20 58 true).run Try.prog w = .ok (.tuple #[.agg #[.string ⟨#[]⟩, .int .i32 0], .bool false]) w := by kernel_rfl
theorem as_n_Revoke (w : World) : (Instr.typeAssert (.nilIface) 20 85 true).run Try.prog w = .ok (.tuple #[.agg #[.string ⟨#[]⟩, .bool false], .bool false]) w := by kernel_rfl
theorem as_n_Delete (w : World) : (Instr.typeAssert (.nilIface) 20 86 true).run Try.prog w = .ok (.tuple #[.agg #[.string ⟨#[]⟩], .bool false]) w := by kernel_rfl
theorem as_n_Move (w : World) : (Instr.typeAssert (.nilIface) 20 88 true).run Try.prog w = .ok (.tuple #[.agg #[.string ⟨#[]⟩, .string ⟨#[]⟩], .bool false]) w := by kernel_rfl
theorem as_n_List (w : World) : (Instr.typeAssert (.nilIface) 20 60 true).run Try.prog w = .ok (.tuple #[.agg #[.string ⟨#[]⟩, .int .i64 0, .int .i64 0], .bool false]) w := by kernel_rfl
theorem as_n_Quota (w : World) : (Instr.typeAssert (.nilIface) 20 68 true).run Try.prog w = .ok (.tuple #[.agg #[], .bool false]) w := by kernel_rfl
theorem as_n_Rotate (w : World) : (Instr.typeAssert (.nilIface) 20 89 true).run Try.prog w = .ok (.tuple #[.agg #[], .bool false]) w := by kernel_rfl
theorem as_p_Hello (a : Option Addr) (w : World) : (Instr.typeAssert (.iface 70 (.pointer a)) 20 64 true).run Try.prog w = .ok (.tuple #[.agg #[.string ⟨#[]⟩], .bool false]) w := by kernel_rfl
theorem as_p_Register (a : Option Addr) (w : World) : (Instr.typeAssert (.iface 70 (.pointer a)) 20 51 true).run Try.prog w = .ok (.tuple #[.agg #[.string ⟨#[]⟩, .int .i64 0], .bool false]) w := by kernel_rfl
theorem as_p_Mint (a : Option Addr) (w : World) : (Instr.typeAssert (.iface 70 (.pointer a)) 20 53 true).run Try.prog w = .ok (.tuple #[.agg #[.int .i64 0, .int .i64 0, .int .i64 0, .int .i64 0], .bool false]) w := by kernel_rfl
theorem as_p_Derive (a : Option Addr) (w : World) : (Instr.typeAssert (.iface 70 (.pointer a)) 20 83 true).run Try.prog w = .ok (.tuple #[.agg #[.string ⟨#[]⟩, .string ⟨#[]⟩, .int .i64 0, .int .i64 0, .int .i64 0], .bool false]) w := by kernel_rfl
theorem as_p_Renew (a : Option Addr) (w : World) : (Instr.typeAssert (.iface 70 (.pointer a)) 20 62 true).run Try.prog w = .ok (.tuple #[.agg #[.string ⟨#[]⟩, .int .i64 0], .bool false]) w := by kernel_rfl
theorem as_p_Validate (a : Option Addr) (w : World) : (Instr.typeAssert (.iface 70 (.pointer a)) 20 55 true).run Try.prog w = .ok (.tuple #[.agg #[.string ⟨#[]⟩], .bool false]) w := by kernel_rfl
theorem as_p_Invoke (a : Option Addr) (w : World) : (Instr.typeAssert (.iface 70 (.pointer a)) 20 58 true).run Try.prog w = .ok (.tuple #[.agg #[.string ⟨#[]⟩, .int .i32 0], .bool false]) w := by kernel_rfl
theorem as_p_Revoke (a : Option Addr) (w : World) : (Instr.typeAssert (.iface 70 (.pointer a)) 20 85 true).run Try.prog w = .ok (.tuple #[.agg #[.string ⟨#[]⟩, .bool false], .bool false]) w := by kernel_rfl
theorem as_p_Delete (a : Option Addr) (w : World) : (Instr.typeAssert (.iface 70 (.pointer a)) 20 86 true).run Try.prog w = .ok (.tuple #[.agg #[.string ⟨#[]⟩], .bool false]) w := by kernel_rfl
theorem as_p_Move (a : Option Addr) (w : World) : (Instr.typeAssert (.iface 70 (.pointer a)) 20 88 true).run Try.prog w = .ok (.tuple #[.agg #[.string ⟨#[]⟩, .string ⟨#[]⟩], .bool false]) w := by kernel_rfl
theorem as_p_List (a : Option Addr) (w : World) : (Instr.typeAssert (.iface 70 (.pointer a)) 20 60 true).run Try.prog w = .ok (.tuple #[.agg #[.string ⟨#[]⟩, .int .i64 0, .int .i64 0], .bool false]) w := by kernel_rfl
theorem as_p_Quota (a : Option Addr) (w : World) : (Instr.typeAssert (.iface 70 (.pointer a)) 20 68 true).run Try.prog w = .ok (.tuple #[.agg #[], .bool false]) w := by kernel_rfl
theorem as_p_Rotate (a : Option Addr) (w : World) : (Instr.typeAssert (.iface 70 (.pointer a)) 20 89 true).run Try.prog w = .ok (.tuple #[.agg #[], .bool false]) w := by kernel_rfl
set_option maxHeartbeats 3200000 in
set_option maxRecDepth 20000 in
theorem known_q (w : World) :
    Calls Try.prog 41 #[.iface 68 (.agg #[])] w fun e w' => e = .returned (.tuple #[.iface 68 (.agg #[]), .bool true]) ∧ Below w.heap.size w w' := by
  have q0 := as_q_Hello
  have q1 := as_q_Register
  have q2 := as_q_Mint
  have q3 := as_q_Derive
  have q4 := as_q_Renew
  have q5 := as_q_Validate
  have q6 := as_q_Invoke
  have q7 := as_q_Revoke
  have q8 := as_q_Delete
  have q9 := as_q_Move
  have q10 := as_q_List
  have q11 := as_q_Quota
  go_enter Try.func41, Try.ntmps41
  go_wp2_with fail
  go_ret2
  refine ⟨rfl, ?_⟩
  repeat' (first | exact Below.refl _ _ | refine Below.alloc ?_ (by simp; try omega) _)
set_option maxHeartbeats 3200000 in
set_option maxRecDepth 20000 in
theorem known_n (w : World) :
    Calls Try.prog 41 #[.nilIface] w fun e w' => e = .returned (.tuple #[.nilIface, .bool false]) ∧ Below w.heap.size w w' := by
  have q0 := as_n_Hello
  have q1 := as_n_Register
  have q2 := as_n_Mint
  have q3 := as_n_Derive
  have q4 := as_n_Renew
  have q5 := as_n_Validate
  have q6 := as_n_Invoke
  have q7 := as_n_Revoke
  have q8 := as_n_Delete
  have q9 := as_n_Move
  have q10 := as_n_List
  have q11 := as_n_Quota
  have q12 := as_n_Rotate
  go_enter Try.func41, Try.ntmps41
  go_wp2_with fail
  go_ret2
  refine ⟨rfl, ?_⟩
  repeat' (first | exact Below.refl _ _ | refine Below.alloc ?_ (by simp; try omega) _)
set_option maxHeartbeats 3200000 in
set_option maxRecDepth 20000 in
theorem known_p (a : Option Addr) (w : World) :
    Calls Try.prog 41 #[.iface 70 (.pointer a)] w fun e w' => e = .returned (.tuple #[.nilIface, .bool false]) ∧ Below w.heap.size w w' := by
  have q0 := as_p_Hello a
  have q1 := as_p_Register a
  have q2 := as_p_Mint a
  have q3 := as_p_Derive a
  have q4 := as_p_Renew a
  have q5 := as_p_Validate a
  have q6 := as_p_Invoke a
  have q7 := as_p_Revoke a
  have q8 := as_p_Delete a
  have q9 := as_p_Move a
  have q10 := as_p_List a
  have q11 := as_p_Quota a
  have q12 := as_p_Rotate a
  go_enter Try.func41, Try.ntmps41
  go_wp2_with fail
  go_ret2
  refine ⟨rfl, ?_⟩
  repeat' (first | exact Below.refl _ _ | refine Below.alloc ?_ (by simp; try omega) _)

set_option maxRecDepth 20000 in
theorem quota_right (w : World) : Calls Try.prog 103 #[.agg #[]] w fun e w' => e = .returned (.bool true) ∧ Below w.heap.size w w' := by
  go_enter Try.func103, Try.ntmps103
  go_wp2_with fail
  go_ret
  exact ⟨rfl, (Below.refl _ _).alloc (Nat.le_refl _) _⟩
theorem quota_op (w : World) : Calls Try.prog 101 #[.agg #[]] w fun e w' => e = .returned (.int .i64 12) ∧ Below w.heap.size w w' := by
  go_enter Try.func101, Try.ntmps101
  go_wp2_with fail
  go_ret
  exact ⟨rfl, (Below.refl _ _).alloc (Nat.le_refl _) _⟩
theorem quota_fields (w : World) : Calls Try.prog 102 #[.agg #[]] w fun e w' => e = .returned (.string ⟨#[]⟩) ∧ Below w.heap.size w w' := by
  go_enter Try.func102, Try.ntmps102
  go_wp2_with fail
  go_ret
  exact ⟨rfl, (Below.refl _ _).alloc (Nat.le_refl _) _⟩
theorem m_right (w : World) : (method 321 68 (.agg #[]) "bailiwick/proto.right").run Try.prog w = .ok (103, .agg #[]) w := by kernel_rfl
theorem m_op (w : World) : (method 321 68 (.agg #[]) "Op").run Try.prog w = .ok (101, .agg #[]) w := by kernel_rfl
theorem m_fields (w : World) : (method 321 68 (.agg #[]) "bailiwick/proto.fields").run Try.prog w = .ok (102, .agg #[]) w := by kernel_rfl
set_option maxRecDepth 20000 in
theorem proper_q (w : World) :
    Calls Try.prog 30 #[.iface 68 (.agg #[])] w fun e w' => e = .returned (.tuple #[.iface 68 (.agg #[]), .bool true]) ∧ Below w.heap.size w w' := by
  have hm := m_right
  go_enter Try.func30, Try.ntmps30
  go_wp2_with fail
  refine (known_q _).mono ?_
  rintro e w1 ⟨rfl, b1⟩
  go_wp2_with fail
  refine (quota_right _).mono ?_
  rintro e w2 ⟨rfl, b2⟩
  go_wp2_with fail
  go_ret2
  exact ⟨rfl, chain b1 b2⟩
set_option maxRecDepth 20000 in
theorem proper_n (w : World) :
    Calls Try.prog 30 #[.nilIface] w fun e w' => e = .returned (.tuple #[.nilIface, .bool false]) ∧ Below w.heap.size w w' := by
  go_enter Try.func30, Try.ntmps30
  go_wp2_with fail
  refine (known_n _).mono ?_
  rintro e w1 ⟨rfl, b1⟩
  go_wp2_with fail
  go_ret2
  exact ⟨rfl, b1⟩
set_option maxRecDepth 20000 in
theorem proper_p (a : Option Addr) (w : World) :
    Calls Try.prog 30 #[.iface 70 (.pointer a)] w fun e w' => e = .returned (.tuple #[.nilIface, .bool false]) ∧ Below w.heap.size w w' := by
  go_enter Try.func30, Try.ntmps30
  go_wp2_with fail
  refine (known_p a _).mono ?_
  rintro e w1 ⟨rfl, b1⟩
  go_wp2_with fail
  go_ret2
  exact ⟨rfl, b1⟩
theorem right_n (w : World) :
    Calls Try.prog 17 #[.nilIface] w fun e w' => e = .returned (.bool false) ∧ Below w.heap.size w w' := by
  go_enter Try.func17, Try.ntmps17
  go_wp2_with fail
  refine (proper_n _).mono ?_
  rintro e w1 ⟨rfl, b1⟩
  go_wp2_with fail
  go_ret
  exact ⟨rfl, b1⟩
theorem right_p (a : Option Addr) (w : World) :
    Calls Try.prog 17 #[.iface 70 (.pointer a)] w fun e w' => e = .returned (.bool false) ∧ Below w.heap.size w w' := by
  go_enter Try.func17, Try.ntmps17
  go_wp2_with fail
  refine (proper_p a _).mono ?_
  rintro e w1 ⟨rfl, b1⟩
  go_wp2_with fail
  go_ret
  exact ⟨rfl, b1⟩
def qS : ByteArray := ⟨#[1, 12, 0, 0, 0, 7]⟩
set_option maxRecDepth 20000 in
set_option maxHeartbeats 1600000 in
theorem encode_q (w : World) :
    Calls Try.prog 15 #[.int .i64 7, .iface 68 (.agg #[])] w fun e w' => e = .returned (.tuple #[.string qS, .int .i64 0]) ∧ Below w.heap.size w w' := by
  have hm1 := m_op
  have hm2 := m_fields
  have e1 : Hid (Str (putL 12 1) = ⟨#[12]⟩) := Lib.hid (by decide +kernel)
  have e2 : Hid (Str (putL 7 4) = ⟨#[0, 0, 0, 7]⟩) := Lib.hid (by decide +kernel)
  have hz : (⟨#[1]⟩ : ByteArray) ++ (⟨#[12]⟩ : ByteArray) ++ (⟨#[0, 0, 0, 7]⟩ : ByteArray) ++ (⟨#[]⟩ : ByteArray) = qS := by decide +kernel
  have F : Hid (Ending.returned (.tuple #[.string ((⟨#[1]⟩ : ByteArray) ++ (⟨#[12]⟩ : ByteArray) ++ (⟨#[0, 0, 0, 7]⟩ : ByteArray) ++ (⟨#[]⟩ : ByteArray)), .int .i64 0]) = Ending.returned (.tuple #[.string qS, .int .i64 0])) := Lib.hid (by rw [hz])
  clear hz
  go_enter Try.func15, Try.ntmps15
  go_wp2_with fail
  refine (proper_q _).mono ?_
  rintro e w1 ⟨rfl, b1⟩
  go_wp2_with fail
  refine (askRight_is 7 true _ (by decide)).mono ?_
  rintro e w2 ⟨rfl, rfl⟩
  go_wp2_with fail
  refine (quota_op _).mono ?_
  rintro e w3 ⟨rfl, b3⟩
  go_wp2_with fail
  refine (pnumber_is 12 1 _ _ (by decide) (by decide) e1.out).mono ?_
  rintro e w4 ⟨rfl, b4⟩
  go_wp2_with fail
  refine (pnumber_is 7 4 _ _ (by decide) (by decide) e2.out).mono ?_
  rintro e w5 ⟨rfl, b5⟩
  go_wp2_with fail
  refine (quota_fields _).mono ?_
  rintro e w6 ⟨rfl, b6⟩
  go_wp2_with fail
  go_ret2
  exact ⟨F.out, chain (chain (chain (chain b1 b3) b4) b5) b6⟩
set_option maxRecDepth 20000 in
set_option maxHeartbeats 1600000 in
theorem request_12 (a : Option Addr) (w : World) :
    Calls Try.prog 31 #[.pointer a, .int .i64 12] w fun e w' => e = .returned (.iface 68 (.agg #[])) ∧ w = w' := by
  go_enter Try.func31, Try.ntmps31
  go_wp2_with fail
  go_ret
  exact ⟨rfl, rfl⟩
set_option maxRecDepth 20000 in
set_option maxHeartbeats 1600000 in
theorem decode_q (w : World) :
    Calls Try.prog 16 #[.string qS] w fun e w' => e = .returned (.tuple #[.int .i64 7, .iface 68 (.agg #[]), .int .i64 0]) ∧ Below w.heap.size w w' := by
  have h0 : Hid (takeN qS 1 = 1) := Lib.hid (by decide +kernel)
  have h1 : Hid (takeR qS 1 = ⟨#[12, 0, 0, 0, 7]⟩) := Lib.hid (by decide +kernel)
  have h2 : Hid (takeN ⟨#[12, 0, 0, 0, 7]⟩ 1 = 12) := Lib.hid (by decide +kernel)
  have h3 : Hid (takeR ⟨#[12, 0, 0, 0, 7]⟩ 1 = ⟨#[0, 0, 0, 7]⟩) := Lib.hid (by decide +kernel)
  have h4 : Hid (takeN ⟨#[0, 0, 0, 7]⟩ 4 = 7) := Lib.hid (by decide +kernel)
  have h5 : Hid (takeR ⟨#[0, 0, 0, 7]⟩ 4 = ⟨#[]⟩) := Lib.hid (by decide +kernel)
  generalize hq : qS = q at *
  have HQ := Lib.hid hq
  clear hq
  go_enter Try.func16, Try.ntmps16
  go_wp2_with fail
  refine (rnumber_is w.heap.size _ 1 _ _ _ (heap_alloc_new _ _) (by decide) h0 h1).mono ?_
  rintro e w1 ⟨rfl, f1, c1⟩
  have F := Lib.hid f1
  have B : Hid (Below w.heap.size w w1) := Lib.hid (((Below.refl _ _).alloc (Nat.le_refl _) _).trans c1)
  clear f1 c1
  go_wp2_with fail
  refine (rnumber_is w.heap.size _ 1 _ _ _ F.out (by decide) h2 h3).mono ?_
  rintro e w2 ⟨rfl, f1, c1⟩
  replace F := Lib.hid f1
  replace B := Lib.hid (B.out.trans c1)
  clear f1 c1
  go_wp2_with fail
  refine (rnumber_is w.heap.size _ 4 _ _ _ F.out (by decide) h4 h5).mono ?_
  rintro e w3 ⟨rfl, f1, c1⟩
  replace F := Lib.hid f1
  replace B := Lib.hid (B.out.trans c1)
  clear f1 c1
  go_wp2_with fail
  refine (request_12 _ _).mono ?_
  rintro e w4 ⟨rfl, rfl⟩
  go_wp2_with fail
  refine (encode_q _).mono ?_
  rw [HQ.out]
  rintro e w5 ⟨rfl, c1⟩
  replace B := Lib.hid (chain B.out c1)
  clear c1
  go_wp2_with fail
  go_ret3
  exact ⟨rfl, B.out⟩
set_option maxRecDepth 20000 in
set_option maxHeartbeats 1600000 in
theorem examples_any (w : World) :
    Calls Try.prog 9 #[] w fun e w' => e = .returned (.bool true) ∧ Below w.heap.size w w' := by
  have HD := Lib.hid decode_q
  have HE := Lib.hid encode_q
  have HQ : Hid (qS = ⟨#[1, 12, 0, 0, 0, 7]⟩) := Lib.hid rfl
  have ha := as_q_Quota
  go_enter Try.func9, Try.ntmps9
  go_wp2_with fail
  refine (HE.out _).mono ?_
  rintro e w1 ⟨rfl, b1⟩
  go_wp2_with fail
  refine (HD.out _).mono ?_
  rintro e w2 ⟨rfl, b2⟩
  rw [HQ.out]
  have B := Lib.hid (chain b1 b2)
  clear b1 b2
  go_wp2_with fail
  refine (right_n _).mono ?_
  rintro e w3 ⟨rfl, b3⟩
  replace B := Lib.hid (chain1 B.out b3)
  clear b3
  go_wp2_with fail
  refine (right_p _ _).mono ?_
  rintro e w4 ⟨rfl, b4⟩
  replace B := Lib.hid (chain1 B.out b4)
  clear b4
  go_wp2_with fail
  go_ret
  exact ⟨rfl, B.out⟩
end Go.Proofs.Ytemhlhcaahaecaa
