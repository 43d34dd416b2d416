/-
  Package proto: what is proper, and what becomes of what is not.
-/
import Derived.Test.YtemhlhcaahaecaaProtoRight
namespace Go.Proofs.Ytemhlhcaahaecaa
open Go.RowKit
set_option linter.unusedVariables false
set_option linter.unusedSimpArgs false
theorem mr_Hello (nm : ByteArray) (w : World) : (method 321 64 (.agg #[.string nm]) "bailiwick/proto.right").run Try.prog w = .ok (100, .agg #[.string nm]) w := by kernel_rfl
set_option maxHeartbeats 800000 in
set_option maxRecDepth 20000 in
theorem proper_Hello (nm : ByteArray) (v : Bool) (w : World) (hs : nm.size ≤ 140737488351232) (hv : helloR nm = v) :
    Calls Try.prog 30 #[.iface 64 (.agg #[.string nm])] w fun e w' => e = .returned (.tuple #[if v = true then .iface 64 (.agg #[.string nm]) else .nilIface, .bool v]) ∧ Below w.heap.size w w' := by
  have hm := mr_Hello nm
  have H := Lib.hid hv
  clear hv
  go_enter Try.func30, Try.ntmps30
  go_wp2_with fail
  refine (known_Hello nm _).mono ?_
  rintro e w1 ⟨rfl, b1⟩
  go_wp2_with fail
  refine (right_Hello nm v _ hs H.out).mono ?_
  rintro e w2 ⟨rfl, b2⟩
  have B := Lib.hid (chain b1 b2)
  clear b1 b2
  cases v
  all_goals
    go_wp2_with fail
    all_goals go_ret2
    all_goals exact ⟨rfl, B.out⟩
theorem mr_Register (nm : ByteArray) (li : Int) (w : World) : (method 321 51 (.agg #[.string nm, .int .i64 li]) "bailiwick/proto.right").run Try.prog w = .ok (66, .agg #[.string nm, .int .i64 li]) w := by kernel_rfl
set_option maxHeartbeats 800000 in
set_option maxRecDepth 20000 in
theorem proper_Register (nm : ByteArray) (li : Int) (v : Bool) (w : World) (hs : nm.size ≤ 140737488351232) (hv : registerR nm li = v) :
    Calls Try.prog 30 #[.iface 51 (.agg #[.string nm, .int .i64 li])] w fun e w' => e = .returned (.tuple #[if v = true then .iface 51 (.agg #[.string nm, .int .i64 li]) else .nilIface, .bool v]) ∧ Below w.heap.size w w' := by
  have hm := mr_Register nm li
  have H := Lib.hid hv
  clear hv
  go_enter Try.func30, Try.ntmps30
  go_wp2_with fail
  refine (known_Register nm li _).mono ?_
  rintro e w1 ⟨rfl, b1⟩
  go_wp2_with fail
  refine (right_Register nm li v _ hs H.out).mono ?_
  rintro e w2 ⟨rfl, b2⟩
  have B := Lib.hid (chain b1 b2)
  clear b1 b2
  cases v
  all_goals
    go_wp2_with fail
    all_goals go_ret2
    all_goals exact ⟨rfl, B.out⟩
theorem mr_Mint (ob : Int) (ri : Int) (ba : Int) (ex : Int) (w : World) : (method 321 53 (.agg #[.int .i64 ob, .int .i64 ri, .int .i64 ba, .int .i64 ex]) "bailiwick/proto.right").run Try.prog w = .ok (74, .agg #[.int .i64 ob, .int .i64 ri, .int .i64 ba, .int .i64 ex]) w := by kernel_rfl
set_option maxHeartbeats 800000 in
set_option maxRecDepth 20000 in
theorem proper_Mint (ob : Int) (ri : Int) (ba : Int) (ex : Int) (v : Bool) (w : World) (hv : mintR ob ri ba ex = v) :
    Calls Try.prog 30 #[.iface 53 (.agg #[.int .i64 ob, .int .i64 ri, .int .i64 ba, .int .i64 ex])] w fun e w' => e = .returned (.tuple #[if v = true then .iface 53 (.agg #[.int .i64 ob, .int .i64 ri, .int .i64 ba, .int .i64 ex]) else .nilIface, .bool v]) ∧ Below w.heap.size w w' := by
  have hm := mr_Mint ob ri ba ex
  have H := Lib.hid hv
  clear hv
  go_enter Try.func30, Try.ntmps30
  go_wp2_with fail
  refine (known_Mint ob ri ba ex _).mono ?_
  rintro e w1 ⟨rfl, b1⟩
  go_wp2_with fail
  refine (right_Mint ob ri ba ex v _ H.out).mono ?_
  rintro e w2 ⟨rfl, b2⟩
  have B := Lib.hid (chain b1 b2)
  clear b1 b2
  cases v
  all_goals
    go_wp2_with fail
    all_goals go_ret2
    all_goals exact ⟨rfl, B.out⟩
theorem mr_Derive (hd : ByteArray) (nm : ByteArray) (ri : Int) (ba : Int) (ex : Int) (w : World) : (method 321 83 (.agg #[.string hd, .string nm, .int .i64 ri, .int .i64 ba, .int .i64 ex]) "bailiwick/proto.right").run Try.prog w = .ok (107, .agg #[.string hd, .string nm, .int .i64 ri, .int .i64 ba, .int .i64 ex]) w := by kernel_rfl
set_option maxHeartbeats 800000 in
set_option maxRecDepth 20000 in
theorem proper_Derive (hd : ByteArray) (nm : ByteArray) (ri : Int) (ba : Int) (ex : Int) (v : Bool) (w : World) (hs : nm.size ≤ 140737488351232) (hv : deriveR hd nm ri ba ex = v) :
    Calls Try.prog 30 #[.iface 83 (.agg #[.string hd, .string nm, .int .i64 ri, .int .i64 ba, .int .i64 ex])] w fun e w' => e = .returned (.tuple #[if v = true then .iface 83 (.agg #[.string hd, .string nm, .int .i64 ri, .int .i64 ba, .int .i64 ex]) else .nilIface, .bool v]) ∧ Below w.heap.size w w' := by
  have hm := mr_Derive hd nm ri ba ex
  have H := Lib.hid hv
  clear hv
  go_enter Try.func30, Try.ntmps30
  go_wp2_with fail
  refine (known_Derive hd nm ri ba ex _).mono ?_
  rintro e w1 ⟨rfl, b1⟩
  go_wp2_with fail
  refine (right_Derive hd nm ri ba ex v _ hs H.out).mono ?_
  rintro e w2 ⟨rfl, b2⟩
  have B := Lib.hid (chain b1 b2)
  clear b1 b2
  cases v
  all_goals
    go_wp2_with fail
    all_goals go_ret2
    all_goals exact ⟨rfl, B.out⟩
theorem mr_Renew (hd : ByteArray) (ex : Int) (w : World) : (method 321 62 (.agg #[.string hd, .int .i64 ex]) "bailiwick/proto.right").run Try.prog w = .ok (97, .agg #[.string hd, .int .i64 ex]) w := by kernel_rfl
set_option maxHeartbeats 800000 in
set_option maxRecDepth 20000 in
theorem proper_Renew (hd : ByteArray) (ex : Int) (v : Bool) (w : World) (hv : renewR hd ex = v) :
    Calls Try.prog 30 #[.iface 62 (.agg #[.string hd, .int .i64 ex])] w fun e w' => e = .returned (.tuple #[if v = true then .iface 62 (.agg #[.string hd, .int .i64 ex]) else .nilIface, .bool v]) ∧ Below w.heap.size w w' := by
  have hm := mr_Renew hd ex
  have H := Lib.hid hv
  clear hv
  go_enter Try.func30, Try.ntmps30
  go_wp2_with fail
  refine (known_Renew hd ex _).mono ?_
  rintro e w1 ⟨rfl, b1⟩
  go_wp2_with fail
  refine (right_Renew hd ex v _ H.out).mono ?_
  rintro e w2 ⟨rfl, b2⟩
  have B := Lib.hid (chain b1 b2)
  clear b1 b2
  cases v
  all_goals
    go_wp2_with fail
    all_goals go_ret2
    all_goals exact ⟨rfl, B.out⟩
theorem mr_Validate (hd : ByteArray) (w : World) : (method 321 55 (.agg #[.string hd]) "bailiwick/proto.right").run Try.prog w = .ok (84, .agg #[.string hd]) w := by kernel_rfl
set_option maxHeartbeats 800000 in
set_option maxRecDepth 20000 in
theorem proper_Validate (hd : ByteArray) (v : Bool) (w : World) (hv : validateR hd = v) :
    Calls Try.prog 30 #[.iface 55 (.agg #[.string hd])] w fun e w' => e = .returned (.tuple #[if v = true then .iface 55 (.agg #[.string hd]) else .nilIface, .bool v]) ∧ Below w.heap.size w w' := by
  have hm := mr_Validate hd
  have H := Lib.hid hv
  clear hv
  go_enter Try.func30, Try.ntmps30
  go_wp2_with fail
  refine (known_Validate hd _).mono ?_
  rintro e w1 ⟨rfl, b1⟩
  go_wp2_with fail
  refine (right_Validate hd v _ H.out).mono ?_
  rintro e w2 ⟨rfl, b2⟩
  have B := Lib.hid (chain b1 b2)
  clear b1 b2
  cases v
  all_goals
    go_wp2_with fail
    all_goals go_ret2
    all_goals exact ⟨rfl, B.out⟩
theorem mr_Invoke (hd : ByteArray) (rt : Int) (w : World) : (method 321 58 (.agg #[.string hd, .int .i32 rt]) "bailiwick/proto.right").run Try.prog w = .ok (89, .agg #[.string hd, .int .i32 rt]) w := by kernel_rfl
set_option maxHeartbeats 800000 in
set_option maxRecDepth 20000 in
theorem proper_Invoke (hd : ByteArray) (rt : Int) (v : Bool) (w : World) (hv : invokeR hd rt = v) :
    Calls Try.prog 30 #[.iface 58 (.agg #[.string hd, .int .i32 rt])] w fun e w' => e = .returned (.tuple #[if v = true then .iface 58 (.agg #[.string hd, .int .i32 rt]) else .nilIface, .bool v]) ∧ Below w.heap.size w w' := by
  have hm := mr_Invoke hd rt
  have H := Lib.hid hv
  clear hv
  go_enter Try.func30, Try.ntmps30
  go_wp2_with fail
  refine (known_Invoke hd rt _).mono ?_
  rintro e w1 ⟨rfl, b1⟩
  go_wp2_with fail
  refine (right_Invoke hd rt v _ H.out).mono ?_
  rintro e w2 ⟨rfl, b2⟩
  have B := Lib.hid (chain b1 b2)
  clear b1 b2
  cases v
  all_goals
    go_wp2_with fail
    all_goals go_ret2
    all_goals exact ⟨rfl, B.out⟩
theorem mr_Revoke (hd : ByteArray) (sf : Bool) (w : World) : (method 321 85 (.agg #[.string hd, .bool sf]) "bailiwick/proto.right").run Try.prog w = .ok (111, .agg #[.string hd, .bool sf]) w := by kernel_rfl
set_option maxHeartbeats 800000 in
set_option maxRecDepth 20000 in
theorem proper_Revoke (hd : ByteArray) (sf : Bool) (v : Bool) (w : World) (hv : revokeR hd = v) :
    Calls Try.prog 30 #[.iface 85 (.agg #[.string hd, .bool sf])] w fun e w' => e = .returned (.tuple #[if v = true then .iface 85 (.agg #[.string hd, .bool sf]) else .nilIface, .bool v]) ∧ Below w.heap.size w w' := by
  have hm := mr_Revoke hd sf
  have H := Lib.hid hv
  clear hv
  go_enter Try.func30, Try.ntmps30
  go_wp2_with fail
  refine (known_Revoke hd sf _).mono ?_
  rintro e w1 ⟨rfl, b1⟩
  go_wp2_with fail
  refine (right_Revoke hd sf v _ H.out).mono ?_
  rintro e w2 ⟨rfl, b2⟩
  have B := Lib.hid (chain b1 b2)
  clear b1 b2
  cases v
  all_goals
    go_wp2_with fail
    all_goals go_ret2
    all_goals exact ⟨rfl, B.out⟩
theorem mr_Delete (hd : ByteArray) (w : World) : (method 321 86 (.agg #[.string hd]) "bailiwick/proto.right").run Try.prog w = .ok (116, .agg #[.string hd]) w := by kernel_rfl
set_option maxHeartbeats 800000 in
set_option maxRecDepth 20000 in
theorem proper_Delete (hd : ByteArray) (v : Bool) (w : World) (hv : deleteR hd = v) :
    Calls Try.prog 30 #[.iface 86 (.agg #[.string hd])] w fun e w' => e = .returned (.tuple #[if v = true then .iface 86 (.agg #[.string hd]) else .nilIface, .bool v]) ∧ Below w.heap.size w w' := by
  have hm := mr_Delete hd
  have H := Lib.hid hv
  clear hv
  go_enter Try.func30, Try.ntmps30
  go_wp2_with fail
  refine (known_Delete hd _).mono ?_
  rintro e w1 ⟨rfl, b1⟩
  go_wp2_with fail
  refine (right_Delete hd v _ H.out).mono ?_
  rintro e w2 ⟨rfl, b2⟩
  have B := Lib.hid (chain b1 b2)
  clear b1 b2
  cases v
  all_goals
    go_wp2_with fail
    all_goals go_ret2
    all_goals exact ⟨rfl, B.out⟩
theorem mr_Move (hd : ByteArray) (to : ByteArray) (w : World) : (method 321 88 (.agg #[.string hd, .string to]) "bailiwick/proto.right").run Try.prog w = .ok (120, .agg #[.string hd, .string to]) w := by kernel_rfl
set_option maxHeartbeats 800000 in
set_option maxRecDepth 20000 in
theorem proper_Move (hd : ByteArray) (to : ByteArray) (v : Bool) (w : World) (hv : moveR hd to = v) :
    Calls Try.prog 30 #[.iface 88 (.agg #[.string hd, .string to])] w fun e w' => e = .returned (.tuple #[if v = true then .iface 88 (.agg #[.string hd, .string to]) else .nilIface, .bool v]) ∧ Below w.heap.size w w' := by
  have hm := mr_Move hd to
  have H := Lib.hid hv
  clear hv
  go_enter Try.func30, Try.ntmps30
  go_wp2_with fail
  refine (known_Move hd to _).mono ?_
  rintro e w1 ⟨rfl, b1⟩
  go_wp2_with fail
  refine (right_Move hd to v _ H.out).mono ?_
  rintro e w2 ⟨rfl, b2⟩
  have B := Lib.hid (chain b1 b2)
  clear b1 b2
  cases v
  all_goals
    go_wp2_with fail
    all_goals go_ret2
    all_goals exact ⟨rfl, B.out⟩
theorem mr_List (hd : ByteArray) (fr : Int) (mo : Int) (w : World) : (method 321 60 (.agg #[.string hd, .int .i64 fr, .int .i64 mo]) "bailiwick/proto.right").run Try.prog w = .ok (93, .agg #[.string hd, .int .i64 fr, .int .i64 mo]) w := by kernel_rfl
set_option maxHeartbeats 800000 in
set_option maxRecDepth 20000 in
theorem proper_List (hd : ByteArray) (fr : Int) (mo : Int) (v : Bool) (w : World) (hv : listR hd fr mo = v) :
    Calls Try.prog 30 #[.iface 60 (.agg #[.string hd, .int .i64 fr, .int .i64 mo])] w fun e w' => e = .returned (.tuple #[if v = true then .iface 60 (.agg #[.string hd, .int .i64 fr, .int .i64 mo]) else .nilIface, .bool v]) ∧ Below w.heap.size w w' := by
  have hm := mr_List hd fr mo
  have H := Lib.hid hv
  clear hv
  go_enter Try.func30, Try.ntmps30
  go_wp2_with fail
  refine (known_List hd fr mo _).mono ?_
  rintro e w1 ⟨rfl, b1⟩
  go_wp2_with fail
  refine (right_List hd fr mo v _ H.out).mono ?_
  rintro e w2 ⟨rfl, b2⟩
  have B := Lib.hid (chain b1 b2)
  clear b1 b2
  cases v
  all_goals
    go_wp2_with fail
    all_goals go_ret2
    all_goals exact ⟨rfl, B.out⟩
theorem mr_Rotate  (w : World) : (method 321 89 (.agg #[]) "bailiwick/proto.right").run Try.prog w = .ok (123, .agg #[]) w := by kernel_rfl
set_option maxHeartbeats 800000 in
set_option maxRecDepth 20000 in
theorem proper_Rotate  (v : Bool) (w : World) (hv : rotateR  = v) :
    Calls Try.prog 30 #[.iface 89 (.agg #[])] w fun e w' => e = .returned (.tuple #[if v = true then .iface 89 (.agg #[]) else .nilIface, .bool v]) ∧ Below w.heap.size w w' := by
  have hm := mr_Rotate 
  have H := Lib.hid hv
  clear hv
  go_enter Try.func30, Try.ntmps30
  go_wp2_with fail
  refine (known_Rotate  _).mono ?_
  rintro e w1 ⟨rfl, b1⟩
  go_wp2_with fail
  refine (right_Rotate  v _ H.out).mono ?_
  rintro e w2 ⟨rfl, b2⟩
  have B := Lib.hid (chain b1 b2)
  clear b1 b2
  cases v
  all_goals
    go_wp2_with fail
    all_goals go_ret2
    all_goals exact ⟨rfl, B.out⟩
/-- What is not proper is not written, bears nothing, is not right, and mutates nothing. -/
def Improper (x : Value) : Prop := ∀ w, Calls Try.prog 30 #[x] w fun e w' => e = .returned (.tuple #[.nilIface, .bool false]) ∧ Below w.heap.size w w'
theorem im_encode (x : Value) (id : Int) (w : World) (h : Hid (Improper x)) : Calls Try.prog 15 #[.int .i64 id, x] w fun e w' => e = .returned (.tuple #[.string ⟨#[]⟩, .int .i64 1]) ∧ Below w.heap.size w w' := by
  go_enter Try.func15, Try.ntmps15
  go_wp2_with fail
  refine (h.out _).mono ?_
  rintro e w1 ⟨rfl, b1⟩
  go_wp2_with fail
  go_ret2
  exact ⟨rfl, b1⟩
theorem im_bears (x : Value) (w : World) (h : Hid (Improper x)) : Calls Try.prog 18 #[x] w fun e w' => e = .returned (.tuple #[.string ⟨#[]⟩, .bool false]) ∧ Below w.heap.size w w' := by
  go_enter Try.func18, Try.ntmps18
  go_wp2_with fail
  refine (h.out _).mono ?_
  rintro e w1 ⟨rfl, b1⟩
  go_wp2_with fail
  go_ret2
  exact ⟨rfl, b1⟩
theorem im_right (x : Value) (w : World) (h : Hid (Improper x)) : Calls Try.prog 17 #[x] w fun e w' => e = .returned (.bool false) ∧ Below w.heap.size w w' := by
  go_enter Try.func17, Try.ntmps17
  go_wp2_with fail
  refine (h.out _).mono ?_
  rintro e w1 ⟨rfl, b1⟩
  go_wp2_with fail
  go_ret
  exact ⟨rfl, b1⟩
theorem im_mutates (x : Value) (w : World) (h : Hid (Improper x)) : Calls Try.prog 19 #[x] w fun e w' => e = .returned (.bool false) ∧ Below w.heap.size w w' := by
  go_enter Try.func19, Try.ntmps19
  go_wp2_with fail
  refine (h.out _).mono ?_
  rintro e w1 ⟨rfl, b1⟩
  go_wp2_with fail
  go_ret
  exact ⟨rfl, b1⟩
end Go.Proofs.Ytemhlhcaahaecaa
