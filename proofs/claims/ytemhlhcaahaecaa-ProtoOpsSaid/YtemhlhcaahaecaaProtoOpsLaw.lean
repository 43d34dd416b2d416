import Derived.Test.YtemhlhcaahaecaaProtoOpsPY
import Derived.Test.YtemhlhcaahaecaaProtoOpsNY
import Derived.Test.YtemhlhcaahaecaaProtoOpsPN
import Derived.Test.YtemhlhcaahaecaaProtoOpsNN
import Derived.Test.YtemhlhcaahaecaaProtoMade
import Derived.Test.YtemhlhcaahaecaaProtoStray
import Derived.Deep.RegionHeld3
namespace Go.Proofs.Ytemhlhcaahaecaa
open Go.RowKit
set_option linter.unusedVariables false
set_option linter.unusedSimpArgs false
theorem mq_Hello (nm : ByteArray) (w : World) : (method 254 64 (.agg #[.string nm]) "Op").run Try.prog w = .ok (98, .agg #[.string nm]) w := by kernel_rfl
theorem cf_Hello (args : Array Value) (w : World) : (callFunc 98 args).run Try.prog w = .ok (.enter 98 args) w := by kernel_rfl
theorem ta_Hello (nm : ByteArray) (w : World) : (Instr.typeAssert (.iface 64 (.agg #[.string nm])) 20 42 true).run Try.prog w = .ok (.tuple #[.iface 64 (.agg #[.string nm]), .bool true]) w := by kernel_rfl
theorem oq_Hello (nm : ByteArray) (r : Int) (hr : r = 1) (w : World) : Calls Try.prog 98 #[.agg #[.string nm]] w fun e w' => e = .returned (.int .i64 r) ∧ Below w.heap.size w w' := by
  subst hr
  exact op_Hello nm w
theorem mq_Register (nm : ByteArray) (li : Int) (w : World) : (method 254 51 (.agg #[.string nm, .int .i64 li]) "Op").run Try.prog w = .ok (64, .agg #[.string nm, .int .i64 li]) w := by kernel_rfl
theorem cf_Register (args : Array Value) (w : World) : (callFunc 64 args).run Try.prog w = .ok (.enter 64 args) w := by kernel_rfl
theorem ta_Register (nm : ByteArray) (li : Int) (w : World) : (Instr.typeAssert (.iface 51 (.agg #[.string nm, .int .i64 li])) 20 42 true).run Try.prog w = .ok (.tuple #[.iface 51 (.agg #[.string nm, .int .i64 li]), .bool true]) w := by kernel_rfl
theorem oq_Register (nm : ByteArray) (li : Int) (r : Int) (hr : r = 2) (w : World) : Calls Try.prog 64 #[.agg #[.string nm, .int .i64 li]] w fun e w' => e = .returned (.int .i64 r) ∧ Below w.heap.size w w' := by
  subst hr
  exact op_Register nm li w
theorem mq_Mint (ob : Int) (ri : Int) (ba : Int) (ex : Int) (w : World) : (method 254 53 (.agg #[.int .i64 ob, .int .i64 ri, .int .i64 ba, .int .i64 ex]) "Op").run Try.prog w = .ok (72, .agg #[.int .i64 ob, .int .i64 ri, .int .i64 ba, .int .i64 ex]) w := by kernel_rfl
theorem cf_Mint (args : Array Value) (w : World) : (callFunc 72 args).run Try.prog w = .ok (.enter 72 args) w := by kernel_rfl
theorem ta_Mint (ob : Int) (ri : Int) (ba : Int) (ex : Int) (w : World) : (Instr.typeAssert (.iface 53 (.agg #[.int .i64 ob, .int .i64 ri, .int .i64 ba, .int .i64 ex])) 20 42 true).run Try.prog w = .ok (.tuple #[.iface 53 (.agg #[.int .i64 ob, .int .i64 ri, .int .i64 ba, .int .i64 ex]), .bool true]) w := by kernel_rfl
theorem oq_Mint (ob : Int) (ri : Int) (ba : Int) (ex : Int) (r : Int) (hr : r = 3) (w : World) : Calls Try.prog 72 #[.agg #[.int .i64 ob, .int .i64 ri, .int .i64 ba, .int .i64 ex]] w fun e w' => e = .returned (.int .i64 r) ∧ Below w.heap.size w w' := by
  subst hr
  exact op_Mint ob ri ba ex w
theorem mq_Derive (hd : ByteArray) (nm : ByteArray) (ri : Int) (ba : Int) (ex : Int) (w : World) : (method 254 83 (.agg #[.string hd, .string nm, .int .i64 ri, .int .i64 ba, .int .i64 ex]) "Op").run Try.prog w = .ok (104, .agg #[.string hd, .string nm, .int .i64 ri, .int .i64 ba, .int .i64 ex]) w := by kernel_rfl
theorem cf_Derive (args : Array Value) (w : World) : (callFunc 104 args).run Try.prog w = .ok (.enter 104 args) w := by kernel_rfl
theorem ta_Derive (hd : ByteArray) (nm : ByteArray) (ri : Int) (ba : Int) (ex : Int) (w : World) : (Instr.typeAssert (.iface 83 (.agg #[.string hd, .string nm, .int .i64 ri, .int .i64 ba, .int .i64 ex])) 20 42 true).run Try.prog w = .ok (.tuple #[.iface 83 (.agg #[.string hd, .string nm, .int .i64 ri, .int .i64 ba, .int .i64 ex]), .bool true]) w := by kernel_rfl
theorem oq_Derive (hd : ByteArray) (nm : ByteArray) (ri : Int) (ba : Int) (ex : Int) (r : Int) (hr : r = 4) (w : World) : Calls Try.prog 104 #[.agg #[.string hd, .string nm, .int .i64 ri, .int .i64 ba, .int .i64 ex]] w fun e w' => e = .returned (.int .i64 r) ∧ Below w.heap.size w w' := by
  subst hr
  exact op_Derive hd nm ri ba ex w
theorem mq_Renew (hd : ByteArray) (ex : Int) (w : World) : (method 254 62 (.agg #[.string hd, .int .i64 ex]) "Op").run Try.prog w = .ok (94, .agg #[.string hd, .int .i64 ex]) w := by kernel_rfl
theorem cf_Renew (args : Array Value) (w : World) : (callFunc 94 args).run Try.prog w = .ok (.enter 94 args) w := by kernel_rfl
theorem ta_Renew (hd : ByteArray) (ex : Int) (w : World) : (Instr.typeAssert (.iface 62 (.agg #[.string hd, .int .i64 ex])) 20 42 true).run Try.prog w = .ok (.tuple #[.iface 62 (.agg #[.string hd, .int .i64 ex]), .bool true]) w := by kernel_rfl
theorem oq_Renew (hd : ByteArray) (ex : Int) (r : Int) (hr : r = 5) (w : World) : Calls Try.prog 94 #[.agg #[.string hd, .int .i64 ex]] w fun e w' => e = .returned (.int .i64 r) ∧ Below w.heap.size w w' := by
  subst hr
  exact op_Renew hd ex w
theorem mq_Validate (hd : ByteArray) (w : World) : (method 254 55 (.agg #[.string hd]) "Op").run Try.prog w = .ok (81, .agg #[.string hd]) w := by kernel_rfl
theorem cf_Validate (args : Array Value) (w : World) : (callFunc 81 args).run Try.prog w = .ok (.enter 81 args) w := by kernel_rfl
theorem ta_Validate (hd : ByteArray) (w : World) : (Instr.typeAssert (.iface 55 (.agg #[.string hd])) 20 42 true).run Try.prog w = .ok (.tuple #[.iface 55 (.agg #[.string hd]), .bool true]) w := by kernel_rfl
theorem oq_Validate (hd : ByteArray) (r : Int) (hr : r = 6) (w : World) : Calls Try.prog 81 #[.agg #[.string hd]] w fun e w' => e = .returned (.int .i64 r) ∧ Below w.heap.size w w' := by
  subst hr
  exact op_Validate hd w
theorem mq_Invoke (hd : ByteArray) (rt : Int) (w : World) : (method 254 58 (.agg #[.string hd, .int .i32 rt]) "Op").run Try.prog w = .ok (86, .agg #[.string hd, .int .i32 rt]) w := by kernel_rfl
theorem cf_Invoke (args : Array Value) (w : World) : (callFunc 86 args).run Try.prog w = .ok (.enter 86 args) w := by kernel_rfl
theorem ta_Invoke (hd : ByteArray) (rt : Int) (w : World) : (Instr.typeAssert (.iface 58 (.agg #[.string hd, .int .i32 rt])) 20 42 true).run Try.prog w = .ok (.tuple #[.iface 58 (.agg #[.string hd, .int .i32 rt]), .bool true]) w := by kernel_rfl
theorem oq_Invoke (hd : ByteArray) (rt : Int) (r : Int) (hr : r = 7) (w : World) : Calls Try.prog 86 #[.agg #[.string hd, .int .i32 rt]] w fun e w' => e = .returned (.int .i64 r) ∧ Below w.heap.size w w' := by
  subst hr
  exact op_Invoke hd rt w
theorem mq_Revoke (hd : ByteArray) (sf : Bool) (w : World) : (method 254 85 (.agg #[.string hd, .bool sf]) "Op").run Try.prog w = .ok (108, .agg #[.string hd, .bool sf]) w := by kernel_rfl
theorem cf_Revoke (args : Array Value) (w : World) : (callFunc 108 args).run Try.prog w = .ok (.enter 108 args) w := by kernel_rfl
theorem ta_Revoke (hd : ByteArray) (sf : Bool) (w : World) : (Instr.typeAssert (.iface 85 (.agg #[.string hd, .bool sf])) 20 42 true).run Try.prog w = .ok (.tuple #[.iface 85 (.agg #[.string hd, .bool sf]), .bool true]) w := by kernel_rfl
theorem oq_Revoke (hd : ByteArray) (sf : Bool) (r : Int) (hr : r = 8) (w : World) : Calls Try.prog 108 #[.agg #[.string hd, .bool sf]] w fun e w' => e = .returned (.int .i64 r) ∧ Below w.heap.size w w' := by
  subst hr
  exact op_Revoke hd sf w
theorem mq_Delete (hd : ByteArray) (w : World) : (method 254 86 (.agg #[.string hd]) "Op").run Try.prog w = .ok (113, .agg #[.string hd]) w := by kernel_rfl
theorem cf_Delete (args : Array Value) (w : World) : (callFunc 113 args).run Try.prog w = .ok (.enter 113 args) w := by kernel_rfl
theorem ta_Delete (hd : ByteArray) (w : World) : (Instr.typeAssert (.iface 86 (.agg #[.string hd])) 20 42 true).run Try.prog w = .ok (.tuple #[.iface 86 (.agg #[.string hd]), .bool true]) w := by kernel_rfl
theorem oq_Delete (hd : ByteArray) (r : Int) (hr : r = 9) (w : World) : Calls Try.prog 113 #[.agg #[.string hd]] w fun e w' => e = .returned (.int .i64 r) ∧ Below w.heap.size w w' := by
  subst hr
  exact op_Delete hd w
theorem mq_Move (hd : ByteArray) (to : ByteArray) (w : World) : (method 254 88 (.agg #[.string hd, .string to]) "Op").run Try.prog w = .ok (117, .agg #[.string hd, .string to]) w := by kernel_rfl
theorem cf_Move (args : Array Value) (w : World) : (callFunc 117 args).run Try.prog w = .ok (.enter 117 args) w := by kernel_rfl
theorem ta_Move (hd : ByteArray) (to : ByteArray) (w : World) : (Instr.typeAssert (.iface 88 (.agg #[.string hd, .string to])) 20 42 true).run Try.prog w = .ok (.tuple #[.iface 88 (.agg #[.string hd, .string to]), .bool true]) w := by kernel_rfl
theorem oq_Move (hd : ByteArray) (to : ByteArray) (r : Int) (hr : r = 10) (w : World) : Calls Try.prog 117 #[.agg #[.string hd, .string to]] w fun e w' => e = .returned (.int .i64 r) ∧ Below w.heap.size w w' := by
  subst hr
  exact op_Move hd to w
theorem mq_List (hd : ByteArray) (fr : Int) (mo : Int) (w : World) : (method 254 60 (.agg #[.string hd, .int .i64 fr, .int .i64 mo]) "Op").run Try.prog w = .ok (90, .agg #[.string hd, .int .i64 fr, .int .i64 mo]) w := by kernel_rfl
theorem cf_List (args : Array Value) (w : World) : (callFunc 90 args).run Try.prog w = .ok (.enter 90 args) w := by kernel_rfl
theorem ta_List (hd : ByteArray) (fr : Int) (mo : Int) (w : World) : (Instr.typeAssert (.iface 60 (.agg #[.string hd, .int .i64 fr, .int .i64 mo])) 20 42 true).run Try.prog w = .ok (.tuple #[.iface 60 (.agg #[.string hd, .int .i64 fr, .int .i64 mo]), .bool true]) w := by kernel_rfl
theorem oq_List (hd : ByteArray) (fr : Int) (mo : Int) (r : Int) (hr : r = 11) (w : World) : Calls Try.prog 90 #[.agg #[.string hd, .int .i64 fr, .int .i64 mo]] w fun e w' => e = .returned (.int .i64 r) ∧ Below w.heap.size w w' := by
  subst hr
  exact op_List hd fr mo w
theorem mq_Quota  (w : World) : (method 254 68 (.agg #[]) "Op").run Try.prog w = .ok (101, .agg #[]) w := by kernel_rfl
theorem cf_Quota (args : Array Value) (w : World) : (callFunc 101 args).run Try.prog w = .ok (.enter 101 args) w := by kernel_rfl
theorem ta_Quota  (w : World) : (Instr.typeAssert (.iface 68 (.agg #[])) 20 42 true).run Try.prog w = .ok (.tuple #[.iface 68 (.agg #[]), .bool true]) w := by kernel_rfl
theorem oq_Quota  (r : Int) (hr : r = 12) (w : World) : Calls Try.prog 101 #[.agg #[]] w fun e w' => e = .returned (.int .i64 r) ∧ Below w.heap.size w w' := by
  subst hr
  exact quota_op w
theorem mq_Rotate  (w : World) : (method 254 89 (.agg #[]) "Op").run Try.prog w = .ok (121, .agg #[]) w := by kernel_rfl
theorem cf_Rotate (args : Array Value) (w : World) : (callFunc 121 args).run Try.prog w = .ok (.enter 121 args) w := by kernel_rfl
theorem ta_Rotate  (w : World) : (Instr.typeAssert (.iface 89 (.agg #[])) 20 42 true).run Try.prog w = .ok (.tuple #[.iface 89 (.agg #[]), .bool true]) w := by kernel_rfl
theorem oq_Rotate  (r : Int) (hr : r = 13) (w : World) : Calls Try.prog 121 #[.agg #[]] w fun e w' => e = .returned (.int .i64 r) ∧ Below w.heap.size w w' := by
  subst hr
  exact op_Rotate  w
theorem enc_first (op id : Int) (f : ByteArray) (x : UInt8) (r : Int) (ho : Str (putL op 1) = ⟨#[x]⟩) (hx : IntKind.i64.wrap (x.toNat : Int) = r) : ∀ h : 1 < (encS true op id f).size, IntKind.i64.wrap ((((encS true op id f)[1]'h).toNat : Nat) : Int) = r := by
  intro h
  have e : (encS true op id f)[1]'h = x := by
    have hl : (encS true op id f).data.toList = 1 :: x :: ((Str (putL id 4)).data.toList ++ f.data.toList) := by
      unfold encS
      rw [if_pos rfl, ho]
      simp
    have h2 : (encS true op id f)[1]'h = (encS true op id f).data.toList[1]'(by rw [size_list]; exact h) := rfl
    rw [h2]
    simp only [hl]
    rfl
  rw [e]
  exact hx
theorem protoOps_law (id : Int) (op : Int) (nm : ByteArray) (hd : ByteArray) (to : ByteArray) (li : Int) (ob : Int) (ri : Int) (ba : Int) (ex : Int) (le : Int) (sf : Bool) (fr : Int) (mo : Int) (ot : Int) (w : World) (v_id : (Lit.int .i64 id).wf = true) (v_op : (Lit.int .i64 op).wf = true) (z_nm : nm.size ≤ 140737488351232) (z_hd : hd.size ≤ 140737488351232) (z_to : to.size ≤ 140737488351232) (v_li : (Lit.int .i64 li).wf = true) (v_ob : (Lit.int .i64 ob).wf = true) (v_ri : (Lit.int .i64 ri).wf = true) (v_ba : (Lit.int .i64 ba).wf = true) (v_ex : (Lit.int .i64 ex).wf = true) (v_le : (Lit.int .i32 le).wf = true) (v_fr : (Lit.int .i64 fr).wf = true) (v_mo : (Lit.int .i64 mo).wf = true) (v_ot : (Lit.int .i64 ot).wf = true) :
    Calls Try.prog 5 #[.int .i64 id, .agg #[.int .i64 op, .string nm, .string hd, .string to, .int .i64 li, .int .i64 ob, .int .i64 ri, .int .i64 ba, .int .i64 ex, .int .i32 le, .bool sf, .int .i64 fr, .int .i64 mo], .int .i64 ot] w fun e w' => e = .returned (.bool true) ∧ Below w.heap.size w w' := by
  have hw := v_op
  simp only [Lit.wf, Bool.and_eq_true, decide_eq_true_eq] at hw
  have hmin : IntKind.i64.min = -9223372036854775808 := rfl
  rw [hmin] at hw
  have o1 := hw.1
  clear hw hmin
  rcases plK_cases op with hk | hk | hk | hk | hk | hk | hk | hk | hk | hk | hk | hk | hk
  · have E := fun w => enc_Hello nm id w z_nm
    have hwr : (helloR nm && askOk id) = true → 5 < ((encS true 1 id (wr_Hello nm)).size : Int) := fun h => by
      rw [Bool.and_eq_true] at h
      rw [encS_size 1 id _ true (by decide) h.2]
      omega
    generalize hv : (helloR nm && askOk id) = v at E hwr
    by_cases h0 : op < 0
    · have hr : -((op + 1).tmod 13) = 0 := plN_neg h0 _ hk
      have hq : IntKind.i64.wrap (1 + -(op + 1).tmod 13) = 1 := by rw [hr]; rfl
      cases v
      · exact protoOps_nn id ot op nm hd to li ob ri ba ex le sf fr mo _ _ _ _ w o1 h0 (Lib.hid fun w => made_Hello op nm hd to li ob ri ba ex le sf fr mo w v_op hk) (Lib.hid fun w => ta_Hello nm w) (Lib.hid fun w => mq_Hello nm w) (Lib.hid cf_Hello) (Lib.hid fun w => oq_Hello nm _ hq w) (Lib.hid E)
      · exact protoOps_ny id ot op nm hd to li ob ri ba ex le sf fr mo _ _ _ _ w o1 h0 (Lib.hid (hwr rfl)) (Lib.hid (enc_first 1 id _ 1 _ (by decide +kernel) (by rw [hq]; rfl))) (Lib.hid fun w => made_Hello op nm hd to li ob ri ba ex le sf fr mo w v_op hk) (Lib.hid fun w => ta_Hello nm w) (Lib.hid fun w => mq_Hello nm w) (Lib.hid cf_Hello) (Lib.hid fun w => oq_Hello nm _ hq w) (Lib.hid E)
    · have h0' : 0 ≤ op := by omega
      have hr : op % 13 = 0 := plN_pos h0' _ hk
      have hq : IntKind.i64.wrap (1 + op.tmod 13) = 1 := by rw [Int.tmod_eq_emod_of_nonneg h0', hr]; rfl
      cases v
      · exact protoOps_pn id ot op nm hd to li ob ri ba ex le sf fr mo _ _ _ _ w o1 h0' (Lib.hid fun w => made_Hello op nm hd to li ob ri ba ex le sf fr mo w v_op hk) (Lib.hid fun w => ta_Hello nm w) (Lib.hid fun w => mq_Hello nm w) (Lib.hid cf_Hello) (Lib.hid fun w => oq_Hello nm _ hq w) (Lib.hid E)
      · exact protoOps_py id ot op nm hd to li ob ri ba ex le sf fr mo _ _ _ _ w o1 h0' (Lib.hid (hwr rfl)) (Lib.hid (enc_first 1 id _ 1 _ (by decide +kernel) (by rw [hq]; rfl))) (Lib.hid fun w => made_Hello op nm hd to li ob ri ba ex le sf fr mo w v_op hk) (Lib.hid fun w => ta_Hello nm w) (Lib.hid fun w => mq_Hello nm w) (Lib.hid cf_Hello) (Lib.hid fun w => oq_Hello nm _ hq w) (Lib.hid E)
  · have E := fun w => enc_Register nm li id w z_nm
    have hwr : (registerR nm li && askOk id) = true → 5 < ((encS true 2 id (wr_Register nm li)).size : Int) := fun h => by
      rw [Bool.and_eq_true] at h
      rw [encS_size 2 id _ true (by decide) h.2]
      omega
    generalize hv : (registerR nm li && askOk id) = v at E hwr
    by_cases h0 : op < 0
    · have hr : -((op + 1).tmod 13) = 1 := plN_neg h0 _ hk
      have hq : IntKind.i64.wrap (1 + -(op + 1).tmod 13) = 2 := by rw [hr]; rfl
      cases v
      · exact protoOps_nn id ot op nm hd to li ob ri ba ex le sf fr mo _ _ _ _ w o1 h0 (Lib.hid fun w => made_Register op nm hd to li ob ri ba ex le sf fr mo w v_op hk) (Lib.hid fun w => ta_Register nm li w) (Lib.hid fun w => mq_Register nm li w) (Lib.hid cf_Register) (Lib.hid fun w => oq_Register nm li _ hq w) (Lib.hid E)
      · exact protoOps_ny id ot op nm hd to li ob ri ba ex le sf fr mo _ _ _ _ w o1 h0 (Lib.hid (hwr rfl)) (Lib.hid (enc_first 2 id _ 2 _ (by decide +kernel) (by rw [hq]; rfl))) (Lib.hid fun w => made_Register op nm hd to li ob ri ba ex le sf fr mo w v_op hk) (Lib.hid fun w => ta_Register nm li w) (Lib.hid fun w => mq_Register nm li w) (Lib.hid cf_Register) (Lib.hid fun w => oq_Register nm li _ hq w) (Lib.hid E)
    · have h0' : 0 ≤ op := by omega
      have hr : op % 13 = 1 := plN_pos h0' _ hk
      have hq : IntKind.i64.wrap (1 + op.tmod 13) = 2 := by rw [Int.tmod_eq_emod_of_nonneg h0', hr]; rfl
      cases v
      · exact protoOps_pn id ot op nm hd to li ob ri ba ex le sf fr mo _ _ _ _ w o1 h0' (Lib.hid fun w => made_Register op nm hd to li ob ri ba ex le sf fr mo w v_op hk) (Lib.hid fun w => ta_Register nm li w) (Lib.hid fun w => mq_Register nm li w) (Lib.hid cf_Register) (Lib.hid fun w => oq_Register nm li _ hq w) (Lib.hid E)
      · exact protoOps_py id ot op nm hd to li ob ri ba ex le sf fr mo _ _ _ _ w o1 h0' (Lib.hid (hwr rfl)) (Lib.hid (enc_first 2 id _ 2 _ (by decide +kernel) (by rw [hq]; rfl))) (Lib.hid fun w => made_Register op nm hd to li ob ri ba ex le sf fr mo w v_op hk) (Lib.hid fun w => ta_Register nm li w) (Lib.hid fun w => mq_Register nm li w) (Lib.hid cf_Register) (Lib.hid fun w => oq_Register nm li _ hq w) (Lib.hid E)
  · have E := fun w => enc_Mint ob ri ba ex id w
    have hwr : (mintR ob ri ba ex && askOk id) = true → 5 < ((encS true 3 id (wr_Mint ob ri ba ex)).size : Int) := fun h => by
      rw [Bool.and_eq_true] at h
      rw [encS_size 3 id _ true (by decide) h.2]
      omega
    generalize hv : (mintR ob ri ba ex && askOk id) = v at E hwr
    by_cases h0 : op < 0
    · have hr : -((op + 1).tmod 13) = 2 := plN_neg h0 _ hk
      have hq : IntKind.i64.wrap (1 + -(op + 1).tmod 13) = 3 := by rw [hr]; rfl
      cases v
      · exact protoOps_nn id ot op nm hd to li ob ri ba ex le sf fr mo _ _ _ _ w o1 h0 (Lib.hid fun w => made_Mint op nm hd to li ob ri ba ex le sf fr mo w v_op hk) (Lib.hid fun w => ta_Mint ob ri ba ex w) (Lib.hid fun w => mq_Mint ob ri ba ex w) (Lib.hid cf_Mint) (Lib.hid fun w => oq_Mint ob ri ba ex _ hq w) (Lib.hid E)
      · exact protoOps_ny id ot op nm hd to li ob ri ba ex le sf fr mo _ _ _ _ w o1 h0 (Lib.hid (hwr rfl)) (Lib.hid (enc_first 3 id _ 3 _ (by decide +kernel) (by rw [hq]; rfl))) (Lib.hid fun w => made_Mint op nm hd to li ob ri ba ex le sf fr mo w v_op hk) (Lib.hid fun w => ta_Mint ob ri ba ex w) (Lib.hid fun w => mq_Mint ob ri ba ex w) (Lib.hid cf_Mint) (Lib.hid fun w => oq_Mint ob ri ba ex _ hq w) (Lib.hid E)
    · have h0' : 0 ≤ op := by omega
      have hr : op % 13 = 2 := plN_pos h0' _ hk
      have hq : IntKind.i64.wrap (1 + op.tmod 13) = 3 := by rw [Int.tmod_eq_emod_of_nonneg h0', hr]; rfl
      cases v
      · exact protoOps_pn id ot op nm hd to li ob ri ba ex le sf fr mo _ _ _ _ w o1 h0' (Lib.hid fun w => made_Mint op nm hd to li ob ri ba ex le sf fr mo w v_op hk) (Lib.hid fun w => ta_Mint ob ri ba ex w) (Lib.hid fun w => mq_Mint ob ri ba ex w) (Lib.hid cf_Mint) (Lib.hid fun w => oq_Mint ob ri ba ex _ hq w) (Lib.hid E)
      · exact protoOps_py id ot op nm hd to li ob ri ba ex le sf fr mo _ _ _ _ w o1 h0' (Lib.hid (hwr rfl)) (Lib.hid (enc_first 3 id _ 3 _ (by decide +kernel) (by rw [hq]; rfl))) (Lib.hid fun w => made_Mint op nm hd to li ob ri ba ex le sf fr mo w v_op hk) (Lib.hid fun w => ta_Mint ob ri ba ex w) (Lib.hid fun w => mq_Mint ob ri ba ex w) (Lib.hid cf_Mint) (Lib.hid fun w => oq_Mint ob ri ba ex _ hq w) (Lib.hid E)
  · have E := fun w => enc_Derive hd nm ri ba ex id w z_nm
    have hwr : (deriveR hd nm ri ba ex && askOk id) = true → 5 < ((encS true 4 id (wr_Derive hd nm ri ba ex)).size : Int) := fun h => by
      rw [Bool.and_eq_true] at h
      rw [encS_size 4 id _ true (by decide) h.2]
      omega
    generalize hv : (deriveR hd nm ri ba ex && askOk id) = v at E hwr
    by_cases h0 : op < 0
    · have hr : -((op + 1).tmod 13) = 3 := plN_neg h0 _ hk
      have hq : IntKind.i64.wrap (1 + -(op + 1).tmod 13) = 4 := by rw [hr]; rfl
      cases v
      · exact protoOps_nn id ot op nm hd to li ob ri ba ex le sf fr mo _ _ _ _ w o1 h0 (Lib.hid fun w => made_Derive op nm hd to li ob ri ba ex le sf fr mo w v_op hk) (Lib.hid fun w => ta_Derive hd nm ri ba ex w) (Lib.hid fun w => mq_Derive hd nm ri ba ex w) (Lib.hid cf_Derive) (Lib.hid fun w => oq_Derive hd nm ri ba ex _ hq w) (Lib.hid E)
      · exact protoOps_ny id ot op nm hd to li ob ri ba ex le sf fr mo _ _ _ _ w o1 h0 (Lib.hid (hwr rfl)) (Lib.hid (enc_first 4 id _ 4 _ (by decide +kernel) (by rw [hq]; rfl))) (Lib.hid fun w => made_Derive op nm hd to li ob ri ba ex le sf fr mo w v_op hk) (Lib.hid fun w => ta_Derive hd nm ri ba ex w) (Lib.hid fun w => mq_Derive hd nm ri ba ex w) (Lib.hid cf_Derive) (Lib.hid fun w => oq_Derive hd nm ri ba ex _ hq w) (Lib.hid E)
    · have h0' : 0 ≤ op := by omega
      have hr : op % 13 = 3 := plN_pos h0' _ hk
      have hq : IntKind.i64.wrap (1 + op.tmod 13) = 4 := by rw [Int.tmod_eq_emod_of_nonneg h0', hr]; rfl
      cases v
      · exact protoOps_pn id ot op nm hd to li ob ri ba ex le sf fr mo _ _ _ _ w o1 h0' (Lib.hid fun w => made_Derive op nm hd to li ob ri ba ex le sf fr mo w v_op hk) (Lib.hid fun w => ta_Derive hd nm ri ba ex w) (Lib.hid fun w => mq_Derive hd nm ri ba ex w) (Lib.hid cf_Derive) (Lib.hid fun w => oq_Derive hd nm ri ba ex _ hq w) (Lib.hid E)
      · exact protoOps_py id ot op nm hd to li ob ri ba ex le sf fr mo _ _ _ _ w o1 h0' (Lib.hid (hwr rfl)) (Lib.hid (enc_first 4 id _ 4 _ (by decide +kernel) (by rw [hq]; rfl))) (Lib.hid fun w => made_Derive op nm hd to li ob ri ba ex le sf fr mo w v_op hk) (Lib.hid fun w => ta_Derive hd nm ri ba ex w) (Lib.hid fun w => mq_Derive hd nm ri ba ex w) (Lib.hid cf_Derive) (Lib.hid fun w => oq_Derive hd nm ri ba ex _ hq w) (Lib.hid E)
  · have E := fun w => enc_Renew hd ex id w
    have hwr : (renewR hd ex && askOk id) = true → 5 < ((encS true 5 id (wr_Renew hd ex)).size : Int) := fun h => by
      rw [Bool.and_eq_true] at h
      rw [encS_size 5 id _ true (by decide) h.2]
      omega
    generalize hv : (renewR hd ex && askOk id) = v at E hwr
    by_cases h0 : op < 0
    · have hr : -((op + 1).tmod 13) = 4 := plN_neg h0 _ hk
      have hq : IntKind.i64.wrap (1 + -(op + 1).tmod 13) = 5 := by rw [hr]; rfl
      cases v
      · exact protoOps_nn id ot op nm hd to li ob ri ba ex le sf fr mo _ _ _ _ w o1 h0 (Lib.hid fun w => made_Renew op nm hd to li ob ri ba ex le sf fr mo w v_op hk) (Lib.hid fun w => ta_Renew hd ex w) (Lib.hid fun w => mq_Renew hd ex w) (Lib.hid cf_Renew) (Lib.hid fun w => oq_Renew hd ex _ hq w) (Lib.hid E)
      · exact protoOps_ny id ot op nm hd to li ob ri ba ex le sf fr mo _ _ _ _ w o1 h0 (Lib.hid (hwr rfl)) (Lib.hid (enc_first 5 id _ 5 _ (by decide +kernel) (by rw [hq]; rfl))) (Lib.hid fun w => made_Renew op nm hd to li ob ri ba ex le sf fr mo w v_op hk) (Lib.hid fun w => ta_Renew hd ex w) (Lib.hid fun w => mq_Renew hd ex w) (Lib.hid cf_Renew) (Lib.hid fun w => oq_Renew hd ex _ hq w) (Lib.hid E)
    · have h0' : 0 ≤ op := by omega
      have hr : op % 13 = 4 := plN_pos h0' _ hk
      have hq : IntKind.i64.wrap (1 + op.tmod 13) = 5 := by rw [Int.tmod_eq_emod_of_nonneg h0', hr]; rfl
      cases v
      · exact protoOps_pn id ot op nm hd to li ob ri ba ex le sf fr mo _ _ _ _ w o1 h0' (Lib.hid fun w => made_Renew op nm hd to li ob ri ba ex le sf fr mo w v_op hk) (Lib.hid fun w => ta_Renew hd ex w) (Lib.hid fun w => mq_Renew hd ex w) (Lib.hid cf_Renew) (Lib.hid fun w => oq_Renew hd ex _ hq w) (Lib.hid E)
      · exact protoOps_py id ot op nm hd to li ob ri ba ex le sf fr mo _ _ _ _ w o1 h0' (Lib.hid (hwr rfl)) (Lib.hid (enc_first 5 id _ 5 _ (by decide +kernel) (by rw [hq]; rfl))) (Lib.hid fun w => made_Renew op nm hd to li ob ri ba ex le sf fr mo w v_op hk) (Lib.hid fun w => ta_Renew hd ex w) (Lib.hid fun w => mq_Renew hd ex w) (Lib.hid cf_Renew) (Lib.hid fun w => oq_Renew hd ex _ hq w) (Lib.hid E)
  · have E := fun w => enc_Validate hd id w
    have hwr : (validateR hd && askOk id) = true → 5 < ((encS true 6 id (wr_Validate hd)).size : Int) := fun h => by
      rw [Bool.and_eq_true] at h
      rw [encS_size 6 id _ true (by decide) h.2]
      omega
    generalize hv : (validateR hd && askOk id) = v at E hwr
    by_cases h0 : op < 0
    · have hr : -((op + 1).tmod 13) = 5 := plN_neg h0 _ hk
      have hq : IntKind.i64.wrap (1 + -(op + 1).tmod 13) = 6 := by rw [hr]; rfl
      cases v
      · exact protoOps_nn id ot op nm hd to li ob ri ba ex le sf fr mo _ _ _ _ w o1 h0 (Lib.hid fun w => made_Validate op nm hd to li ob ri ba ex le sf fr mo w v_op hk) (Lib.hid fun w => ta_Validate hd w) (Lib.hid fun w => mq_Validate hd w) (Lib.hid cf_Validate) (Lib.hid fun w => oq_Validate hd _ hq w) (Lib.hid E)
      · exact protoOps_ny id ot op nm hd to li ob ri ba ex le sf fr mo _ _ _ _ w o1 h0 (Lib.hid (hwr rfl)) (Lib.hid (enc_first 6 id _ 6 _ (by decide +kernel) (by rw [hq]; rfl))) (Lib.hid fun w => made_Validate op nm hd to li ob ri ba ex le sf fr mo w v_op hk) (Lib.hid fun w => ta_Validate hd w) (Lib.hid fun w => mq_Validate hd w) (Lib.hid cf_Validate) (Lib.hid fun w => oq_Validate hd _ hq w) (Lib.hid E)
    · have h0' : 0 ≤ op := by omega
      have hr : op % 13 = 5 := plN_pos h0' _ hk
      have hq : IntKind.i64.wrap (1 + op.tmod 13) = 6 := by rw [Int.tmod_eq_emod_of_nonneg h0', hr]; rfl
      cases v
      · exact protoOps_pn id ot op nm hd to li ob ri ba ex le sf fr mo _ _ _ _ w o1 h0' (Lib.hid fun w => made_Validate op nm hd to li ob ri ba ex le sf fr mo w v_op hk) (Lib.hid fun w => ta_Validate hd w) (Lib.hid fun w => mq_Validate hd w) (Lib.hid cf_Validate) (Lib.hid fun w => oq_Validate hd _ hq w) (Lib.hid E)
      · exact protoOps_py id ot op nm hd to li ob ri ba ex le sf fr mo _ _ _ _ w o1 h0' (Lib.hid (hwr rfl)) (Lib.hid (enc_first 6 id _ 6 _ (by decide +kernel) (by rw [hq]; rfl))) (Lib.hid fun w => made_Validate op nm hd to li ob ri ba ex le sf fr mo w v_op hk) (Lib.hid fun w => ta_Validate hd w) (Lib.hid fun w => mq_Validate hd w) (Lib.hid cf_Validate) (Lib.hid fun w => oq_Validate hd _ hq w) (Lib.hid E)
  · have E := fun w => enc_Invoke hd le id w
    have hwr : (invokeR hd le && askOk id) = true → 5 < ((encS true 7 id (wr_Invoke hd le)).size : Int) := fun h => by
      rw [Bool.and_eq_true] at h
      rw [encS_size 7 id _ true (by decide) h.2]
      omega
    generalize hv : (invokeR hd le && askOk id) = v at E hwr
    by_cases h0 : op < 0
    · have hr : -((op + 1).tmod 13) = 6 := plN_neg h0 _ hk
      have hq : IntKind.i64.wrap (1 + -(op + 1).tmod 13) = 7 := by rw [hr]; rfl
      cases v
      · exact protoOps_nn id ot op nm hd to li ob ri ba ex le sf fr mo _ _ _ _ w o1 h0 (Lib.hid fun w => made_Invoke op nm hd to li ob ri ba ex le sf fr mo w v_op hk) (Lib.hid fun w => ta_Invoke hd le w) (Lib.hid fun w => mq_Invoke hd le w) (Lib.hid cf_Invoke) (Lib.hid fun w => oq_Invoke hd le _ hq w) (Lib.hid E)
      · exact protoOps_ny id ot op nm hd to li ob ri ba ex le sf fr mo _ _ _ _ w o1 h0 (Lib.hid (hwr rfl)) (Lib.hid (enc_first 7 id _ 7 _ (by decide +kernel) (by rw [hq]; rfl))) (Lib.hid fun w => made_Invoke op nm hd to li ob ri ba ex le sf fr mo w v_op hk) (Lib.hid fun w => ta_Invoke hd le w) (Lib.hid fun w => mq_Invoke hd le w) (Lib.hid cf_Invoke) (Lib.hid fun w => oq_Invoke hd le _ hq w) (Lib.hid E)
    · have h0' : 0 ≤ op := by omega
      have hr : op % 13 = 6 := plN_pos h0' _ hk
      have hq : IntKind.i64.wrap (1 + op.tmod 13) = 7 := by rw [Int.tmod_eq_emod_of_nonneg h0', hr]; rfl
      cases v
      · exact protoOps_pn id ot op nm hd to li ob ri ba ex le sf fr mo _ _ _ _ w o1 h0' (Lib.hid fun w => made_Invoke op nm hd to li ob ri ba ex le sf fr mo w v_op hk) (Lib.hid fun w => ta_Invoke hd le w) (Lib.hid fun w => mq_Invoke hd le w) (Lib.hid cf_Invoke) (Lib.hid fun w => oq_Invoke hd le _ hq w) (Lib.hid E)
      · exact protoOps_py id ot op nm hd to li ob ri ba ex le sf fr mo _ _ _ _ w o1 h0' (Lib.hid (hwr rfl)) (Lib.hid (enc_first 7 id _ 7 _ (by decide +kernel) (by rw [hq]; rfl))) (Lib.hid fun w => made_Invoke op nm hd to li ob ri ba ex le sf fr mo w v_op hk) (Lib.hid fun w => ta_Invoke hd le w) (Lib.hid fun w => mq_Invoke hd le w) (Lib.hid cf_Invoke) (Lib.hid fun w => oq_Invoke hd le _ hq w) (Lib.hid E)
  · have E := fun w => enc_Revoke hd sf id w
    have hwr : (revokeR hd && askOk id) = true → 5 < ((encS true 8 id (wr_Revoke hd sf)).size : Int) := fun h => by
      rw [Bool.and_eq_true] at h
      rw [encS_size 8 id _ true (by decide) h.2]
      omega
    generalize hv : (revokeR hd && askOk id) = v at E hwr
    by_cases h0 : op < 0
    · have hr : -((op + 1).tmod 13) = 7 := plN_neg h0 _ hk
      have hq : IntKind.i64.wrap (1 + -(op + 1).tmod 13) = 8 := by rw [hr]; rfl
      cases v
      · exact protoOps_nn id ot op nm hd to li ob ri ba ex le sf fr mo _ _ _ _ w o1 h0 (Lib.hid fun w => made_Revoke op nm hd to li ob ri ba ex le sf fr mo w v_op hk) (Lib.hid fun w => ta_Revoke hd sf w) (Lib.hid fun w => mq_Revoke hd sf w) (Lib.hid cf_Revoke) (Lib.hid fun w => oq_Revoke hd sf _ hq w) (Lib.hid E)
      · exact protoOps_ny id ot op nm hd to li ob ri ba ex le sf fr mo _ _ _ _ w o1 h0 (Lib.hid (hwr rfl)) (Lib.hid (enc_first 8 id _ 8 _ (by decide +kernel) (by rw [hq]; rfl))) (Lib.hid fun w => made_Revoke op nm hd to li ob ri ba ex le sf fr mo w v_op hk) (Lib.hid fun w => ta_Revoke hd sf w) (Lib.hid fun w => mq_Revoke hd sf w) (Lib.hid cf_Revoke) (Lib.hid fun w => oq_Revoke hd sf _ hq w) (Lib.hid E)
    · have h0' : 0 ≤ op := by omega
      have hr : op % 13 = 7 := plN_pos h0' _ hk
      have hq : IntKind.i64.wrap (1 + op.tmod 13) = 8 := by rw [Int.tmod_eq_emod_of_nonneg h0', hr]; rfl
      cases v
      · exact protoOps_pn id ot op nm hd to li ob ri ba ex le sf fr mo _ _ _ _ w o1 h0' (Lib.hid fun w => made_Revoke op nm hd to li ob ri ba ex le sf fr mo w v_op hk) (Lib.hid fun w => ta_Revoke hd sf w) (Lib.hid fun w => mq_Revoke hd sf w) (Lib.hid cf_Revoke) (Lib.hid fun w => oq_Revoke hd sf _ hq w) (Lib.hid E)
      · exact protoOps_py id ot op nm hd to li ob ri ba ex le sf fr mo _ _ _ _ w o1 h0' (Lib.hid (hwr rfl)) (Lib.hid (enc_first 8 id _ 8 _ (by decide +kernel) (by rw [hq]; rfl))) (Lib.hid fun w => made_Revoke op nm hd to li ob ri ba ex le sf fr mo w v_op hk) (Lib.hid fun w => ta_Revoke hd sf w) (Lib.hid fun w => mq_Revoke hd sf w) (Lib.hid cf_Revoke) (Lib.hid fun w => oq_Revoke hd sf _ hq w) (Lib.hid E)
  · have E := fun w => enc_Delete hd id w
    have hwr : (deleteR hd && askOk id) = true → 5 < ((encS true 9 id (wr_Delete hd)).size : Int) := fun h => by
      rw [Bool.and_eq_true] at h
      rw [encS_size 9 id _ true (by decide) h.2]
      omega
    generalize hv : (deleteR hd && askOk id) = v at E hwr
    by_cases h0 : op < 0
    · have hr : -((op + 1).tmod 13) = 8 := plN_neg h0 _ hk
      have hq : IntKind.i64.wrap (1 + -(op + 1).tmod 13) = 9 := by rw [hr]; rfl
      cases v
      · exact protoOps_nn id ot op nm hd to li ob ri ba ex le sf fr mo _ _ _ _ w o1 h0 (Lib.hid fun w => made_Delete op nm hd to li ob ri ba ex le sf fr mo w v_op hk) (Lib.hid fun w => ta_Delete hd w) (Lib.hid fun w => mq_Delete hd w) (Lib.hid cf_Delete) (Lib.hid fun w => oq_Delete hd _ hq w) (Lib.hid E)
      · exact protoOps_ny id ot op nm hd to li ob ri ba ex le sf fr mo _ _ _ _ w o1 h0 (Lib.hid (hwr rfl)) (Lib.hid (enc_first 9 id _ 9 _ (by decide +kernel) (by rw [hq]; rfl))) (Lib.hid fun w => made_Delete op nm hd to li ob ri ba ex le sf fr mo w v_op hk) (Lib.hid fun w => ta_Delete hd w) (Lib.hid fun w => mq_Delete hd w) (Lib.hid cf_Delete) (Lib.hid fun w => oq_Delete hd _ hq w) (Lib.hid E)
    · have h0' : 0 ≤ op := by omega
      have hr : op % 13 = 8 := plN_pos h0' _ hk
      have hq : IntKind.i64.wrap (1 + op.tmod 13) = 9 := by rw [Int.tmod_eq_emod_of_nonneg h0', hr]; rfl
      cases v
      · exact protoOps_pn id ot op nm hd to li ob ri ba ex le sf fr mo _ _ _ _ w o1 h0' (Lib.hid fun w => made_Delete op nm hd to li ob ri ba ex le sf fr mo w v_op hk) (Lib.hid fun w => ta_Delete hd w) (Lib.hid fun w => mq_Delete hd w) (Lib.hid cf_Delete) (Lib.hid fun w => oq_Delete hd _ hq w) (Lib.hid E)
      · exact protoOps_py id ot op nm hd to li ob ri ba ex le sf fr mo _ _ _ _ w o1 h0' (Lib.hid (hwr rfl)) (Lib.hid (enc_first 9 id _ 9 _ (by decide +kernel) (by rw [hq]; rfl))) (Lib.hid fun w => made_Delete op nm hd to li ob ri ba ex le sf fr mo w v_op hk) (Lib.hid fun w => ta_Delete hd w) (Lib.hid fun w => mq_Delete hd w) (Lib.hid cf_Delete) (Lib.hid fun w => oq_Delete hd _ hq w) (Lib.hid E)
  · have E := fun w => enc_Move hd to id w
    have hwr : (moveR hd to && askOk id) = true → 5 < ((encS true 10 id (wr_Move hd to)).size : Int) := fun h => by
      rw [Bool.and_eq_true] at h
      rw [encS_size 10 id _ true (by decide) h.2]
      omega
    generalize hv : (moveR hd to && askOk id) = v at E hwr
    by_cases h0 : op < 0
    · have hr : -((op + 1).tmod 13) = 9 := plN_neg h0 _ hk
      have hq : IntKind.i64.wrap (1 + -(op + 1).tmod 13) = 10 := by rw [hr]; rfl
      cases v
      · exact protoOps_nn id ot op nm hd to li ob ri ba ex le sf fr mo _ _ _ _ w o1 h0 (Lib.hid fun w => made_Move op nm hd to li ob ri ba ex le sf fr mo w v_op hk) (Lib.hid fun w => ta_Move hd to w) (Lib.hid fun w => mq_Move hd to w) (Lib.hid cf_Move) (Lib.hid fun w => oq_Move hd to _ hq w) (Lib.hid E)
      · exact protoOps_ny id ot op nm hd to li ob ri ba ex le sf fr mo _ _ _ _ w o1 h0 (Lib.hid (hwr rfl)) (Lib.hid (enc_first 10 id _ 10 _ (by decide +kernel) (by rw [hq]; rfl))) (Lib.hid fun w => made_Move op nm hd to li ob ri ba ex le sf fr mo w v_op hk) (Lib.hid fun w => ta_Move hd to w) (Lib.hid fun w => mq_Move hd to w) (Lib.hid cf_Move) (Lib.hid fun w => oq_Move hd to _ hq w) (Lib.hid E)
    · have h0' : 0 ≤ op := by omega
      have hr : op % 13 = 9 := plN_pos h0' _ hk
      have hq : IntKind.i64.wrap (1 + op.tmod 13) = 10 := by rw [Int.tmod_eq_emod_of_nonneg h0', hr]; rfl
      cases v
      · exact protoOps_pn id ot op nm hd to li ob ri ba ex le sf fr mo _ _ _ _ w o1 h0' (Lib.hid fun w => made_Move op nm hd to li ob ri ba ex le sf fr mo w v_op hk) (Lib.hid fun w => ta_Move hd to w) (Lib.hid fun w => mq_Move hd to w) (Lib.hid cf_Move) (Lib.hid fun w => oq_Move hd to _ hq w) (Lib.hid E)
      · exact protoOps_py id ot op nm hd to li ob ri ba ex le sf fr mo _ _ _ _ w o1 h0' (Lib.hid (hwr rfl)) (Lib.hid (enc_first 10 id _ 10 _ (by decide +kernel) (by rw [hq]; rfl))) (Lib.hid fun w => made_Move op nm hd to li ob ri ba ex le sf fr mo w v_op hk) (Lib.hid fun w => ta_Move hd to w) (Lib.hid fun w => mq_Move hd to w) (Lib.hid cf_Move) (Lib.hid fun w => oq_Move hd to _ hq w) (Lib.hid E)
  · have E := fun w => enc_List hd fr mo id w
    have hwr : (listR hd fr mo && askOk id) = true → 5 < ((encS true 11 id (wr_List hd fr mo)).size : Int) := fun h => by
      rw [Bool.and_eq_true] at h
      rw [encS_size 11 id _ true (by decide) h.2]
      omega
    generalize hv : (listR hd fr mo && askOk id) = v at E hwr
    by_cases h0 : op < 0
    · have hr : -((op + 1).tmod 13) = 10 := plN_neg h0 _ hk
      have hq : IntKind.i64.wrap (1 + -(op + 1).tmod 13) = 11 := by rw [hr]; rfl
      cases v
      · exact protoOps_nn id ot op nm hd to li ob ri ba ex le sf fr mo _ _ _ _ w o1 h0 (Lib.hid fun w => made_List op nm hd to li ob ri ba ex le sf fr mo w v_op hk) (Lib.hid fun w => ta_List hd fr mo w) (Lib.hid fun w => mq_List hd fr mo w) (Lib.hid cf_List) (Lib.hid fun w => oq_List hd fr mo _ hq w) (Lib.hid E)
      · exact protoOps_ny id ot op nm hd to li ob ri ba ex le sf fr mo _ _ _ _ w o1 h0 (Lib.hid (hwr rfl)) (Lib.hid (enc_first 11 id _ 11 _ (by decide +kernel) (by rw [hq]; rfl))) (Lib.hid fun w => made_List op nm hd to li ob ri ba ex le sf fr mo w v_op hk) (Lib.hid fun w => ta_List hd fr mo w) (Lib.hid fun w => mq_List hd fr mo w) (Lib.hid cf_List) (Lib.hid fun w => oq_List hd fr mo _ hq w) (Lib.hid E)
    · have h0' : 0 ≤ op := by omega
      have hr : op % 13 = 10 := plN_pos h0' _ hk
      have hq : IntKind.i64.wrap (1 + op.tmod 13) = 11 := by rw [Int.tmod_eq_emod_of_nonneg h0', hr]; rfl
      cases v
      · exact protoOps_pn id ot op nm hd to li ob ri ba ex le sf fr mo _ _ _ _ w o1 h0' (Lib.hid fun w => made_List op nm hd to li ob ri ba ex le sf fr mo w v_op hk) (Lib.hid fun w => ta_List hd fr mo w) (Lib.hid fun w => mq_List hd fr mo w) (Lib.hid cf_List) (Lib.hid fun w => oq_List hd fr mo _ hq w) (Lib.hid E)
      · exact protoOps_py id ot op nm hd to li ob ri ba ex le sf fr mo _ _ _ _ w o1 h0' (Lib.hid (hwr rfl)) (Lib.hid (enc_first 11 id _ 11 _ (by decide +kernel) (by rw [hq]; rfl))) (Lib.hid fun w => made_List op nm hd to li ob ri ba ex le sf fr mo w v_op hk) (Lib.hid fun w => ta_List hd fr mo w) (Lib.hid fun w => mq_List hd fr mo w) (Lib.hid cf_List) (Lib.hid fun w => oq_List hd fr mo _ hq w) (Lib.hid E)
  · have E := fun w => enc_Quota  id w
    have hwr : (quotaR  && askOk id) = true → 5 < ((encS true 12 id (wr_Quota )).size : Int) := fun h => by
      rw [Bool.and_eq_true] at h
      rw [encS_size 12 id _ true (by decide) h.2]
      omega
    generalize hv : (quotaR  && askOk id) = v at E hwr
    by_cases h0 : op < 0
    · have hr : -((op + 1).tmod 13) = 11 := plN_neg h0 _ hk
      have hq : IntKind.i64.wrap (1 + -(op + 1).tmod 13) = 12 := by rw [hr]; rfl
      cases v
      · exact protoOps_nn id ot op nm hd to li ob ri ba ex le sf fr mo _ _ _ _ w o1 h0 (Lib.hid fun w => made_Quota op nm hd to li ob ri ba ex le sf fr mo w v_op hk) (Lib.hid fun w => ta_Quota  w) (Lib.hid fun w => mq_Quota  w) (Lib.hid cf_Quota) (Lib.hid fun w => oq_Quota  _ hq w) (Lib.hid E)
      · exact protoOps_ny id ot op nm hd to li ob ri ba ex le sf fr mo _ _ _ _ w o1 h0 (Lib.hid (hwr rfl)) (Lib.hid (enc_first 12 id _ 12 _ (by decide +kernel) (by rw [hq]; rfl))) (Lib.hid fun w => made_Quota op nm hd to li ob ri ba ex le sf fr mo w v_op hk) (Lib.hid fun w => ta_Quota  w) (Lib.hid fun w => mq_Quota  w) (Lib.hid cf_Quota) (Lib.hid fun w => oq_Quota  _ hq w) (Lib.hid E)
    · have h0' : 0 ≤ op := by omega
      have hr : op % 13 = 11 := plN_pos h0' _ hk
      have hq : IntKind.i64.wrap (1 + op.tmod 13) = 12 := by rw [Int.tmod_eq_emod_of_nonneg h0', hr]; rfl
      cases v
      · exact protoOps_pn id ot op nm hd to li ob ri ba ex le sf fr mo _ _ _ _ w o1 h0' (Lib.hid fun w => made_Quota op nm hd to li ob ri ba ex le sf fr mo w v_op hk) (Lib.hid fun w => ta_Quota  w) (Lib.hid fun w => mq_Quota  w) (Lib.hid cf_Quota) (Lib.hid fun w => oq_Quota  _ hq w) (Lib.hid E)
      · exact protoOps_py id ot op nm hd to li ob ri ba ex le sf fr mo _ _ _ _ w o1 h0' (Lib.hid (hwr rfl)) (Lib.hid (enc_first 12 id _ 12 _ (by decide +kernel) (by rw [hq]; rfl))) (Lib.hid fun w => made_Quota op nm hd to li ob ri ba ex le sf fr mo w v_op hk) (Lib.hid fun w => ta_Quota  w) (Lib.hid fun w => mq_Quota  w) (Lib.hid cf_Quota) (Lib.hid fun w => oq_Quota  _ hq w) (Lib.hid E)
  · have E := fun w => enc_Rotate  id w
    have hwr : (rotateR  && askOk id) = true → 5 < ((encS true 13 id (wr_Rotate )).size : Int) := fun h => by
      rw [Bool.and_eq_true] at h
      rw [encS_size 13 id _ true (by decide) h.2]
      omega
    generalize hv : (rotateR  && askOk id) = v at E hwr
    by_cases h0 : op < 0
    · have hr : -((op + 1).tmod 13) = 12 := plN_neg h0 _ hk
      have hq : IntKind.i64.wrap (1 + -(op + 1).tmod 13) = 13 := by rw [hr]; rfl
      cases v
      · exact protoOps_nn id ot op nm hd to li ob ri ba ex le sf fr mo _ _ _ _ w o1 h0 (Lib.hid fun w => made_Rotate op nm hd to li ob ri ba ex le sf fr mo w v_op hk) (Lib.hid fun w => ta_Rotate  w) (Lib.hid fun w => mq_Rotate  w) (Lib.hid cf_Rotate) (Lib.hid fun w => oq_Rotate  _ hq w) (Lib.hid E)
      · exact protoOps_ny id ot op nm hd to li ob ri ba ex le sf fr mo _ _ _ _ w o1 h0 (Lib.hid (hwr rfl)) (Lib.hid (enc_first 13 id _ 13 _ (by decide +kernel) (by rw [hq]; rfl))) (Lib.hid fun w => made_Rotate op nm hd to li ob ri ba ex le sf fr mo w v_op hk) (Lib.hid fun w => ta_Rotate  w) (Lib.hid fun w => mq_Rotate  w) (Lib.hid cf_Rotate) (Lib.hid fun w => oq_Rotate  _ hq w) (Lib.hid E)
    · have h0' : 0 ≤ op := by omega
      have hr : op % 13 = 12 := plN_pos h0' _ hk
      have hq : IntKind.i64.wrap (1 + op.tmod 13) = 13 := by rw [Int.tmod_eq_emod_of_nonneg h0', hr]; rfl
      cases v
      · exact protoOps_pn id ot op nm hd to li ob ri ba ex le sf fr mo _ _ _ _ w o1 h0' (Lib.hid fun w => made_Rotate op nm hd to li ob ri ba ex le sf fr mo w v_op hk) (Lib.hid fun w => ta_Rotate  w) (Lib.hid fun w => mq_Rotate  w) (Lib.hid cf_Rotate) (Lib.hid fun w => oq_Rotate  _ hq w) (Lib.hid E)
      · exact protoOps_py id ot op nm hd to li ob ri ba ex le sf fr mo _ _ _ _ w o1 h0' (Lib.hid (hwr rfl)) (Lib.hid (enc_first 13 id _ 13 _ (by decide +kernel) (by rw [hq]; rfl))) (Lib.hid fun w => made_Rotate op nm hd to li ob ri ba ex le sf fr mo w v_op hk) (Lib.hid fun w => ta_Rotate  w) (Lib.hid fun w => mq_Rotate  w) (Lib.hid cf_Rotate) (Lib.hid fun w => oq_Rotate  _ hq w) (Lib.hid E)
end Go.Proofs.Ytemhlhcaahaecaa
