import Derived.Test.YtemhlhcaahaecaaProtoAll
import Derived.Test.YtemhlhcaahaecaaProtoMade
import Derived.Test.YtemhlhcaahaecaaProtoStray
import Derived.Deep.RegionHeld3
namespace Go.Proofs.Ytemhlhcaahaecaa
open Go.RowKit
set_option linter.unusedVariables false
set_option linter.unusedSimpArgs false
set_option maxHeartbeats 3200000 in
set_option maxRecDepth 20000 in
theorem protoOps_py (id ot : Int) (op : Int) (nm : ByteArray) (hd : ByteArray) (to : ByteArray) (li : Int) (ob : Int) (ri : Int) (ba : Int) (ex : Int) (le : Int) (sf : Bool) (fr : Int) (mo : Int) (T : TypeId) (a : Value) (F : FuncId) (s : ByteArray) (w : World) (o1 : -9223372036854775808 ≤ op) (h0 : 0 ≤ op) (hz : Hid (5 < (s.size : Int))) (hi : Hid (∀ h : 1 < s.size, IntKind.i64.wrap (((s[1]'h).toNat : Nat) : Int) = (IntKind.i64.wrap (1 + op.tmod 13))))
    (M : Hid (∀ w, Calls Try.prog 14 #[.agg #[.int .i64 op, .string nm, .string hd, .string to, .int .i64 li, .int .i64 ob, .int .i64 ri, .int .i64 ba, .int .i64 ex, .int .i32 le, .bool sf, .int .i64 fr, .int .i64 mo]] w fun e w' => e = .returned (.iface T a) ∧ Below w.heap.size w w'))
    (TA : Hid (∀ w, (Instr.typeAssert (.iface T a) 20 42 true).run Try.prog w = .ok (.tuple #[.iface T a, .bool true]) w))
    (ME : Hid (∀ w, (method 254 T a "Op").run Try.prog w = .ok (F, a) w))
    (CF : Hid (∀ (args : Array Value) w, (callFunc F args).run Try.prog w = .ok (.enter F args) w))
    (OP : Hid (∀ w, Calls Try.prog F #[a] w fun e w' => e = .returned (.int .i64 (IntKind.i64.wrap (1 + op.tmod 13))) ∧ Below w.heap.size w w'))
    (E : Hid (∀ w, Calls Try.prog 15 #[.int .i64 id, .iface T a] w fun e w' => e = .returned (.tuple #[.string s, .int .i64 0]) ∧ Below w.heap.size w w')) :
    Calls Try.prog 5 #[.int .i64 id, .agg #[.int .i64 op, .string nm, .string hd, .string to, .int .i64 li, .int .i64 ob, .int .i64 ri, .int .i64 ba, .int .i64 ex, .int .i32 le, .bool sf, .int .i64 fr, .int .i64 mo], .int .i64 ot] w fun e w' => e = .returned (.bool true) ∧ Below w.heap.size w w' := by
  have S1 := Lib.hid (stray_i ot)
  have S2 := Lib.hid (fun z => stray_a z)
  go_enter Try.func5, Try.ntmps5
  go_wp2_with fail
  refine (examples_any _).mono ?_
  rintro e w1 ⟨rfl, b1⟩
  have K1 : w1.heap[w.heap.size]? = some (.cells #[.int .i64 op, .string nm, .string hd, .string to, .int .i64 li, .int .i64 ob, .int .i64 ri, .int .i64 ba, .int .i64 ex, .int .i32 le, .bool sf, .int .i64 fr, .int .i64 mo] 34) := kept1 b1
  have B1 : Below w.heap.size w w1 := ((Below.refl _ _).alloc (Nat.le_refl _) _).trans (b1.mono (by simp))
  clear b1
  have k0 : w1.cell? ⟨w.heap.size, 0, none⟩ = some (.int .i64 op) := by rw [Go.Joins.cell_of_block K1]; rfl
  have k1 : w1.cell? ⟨w.heap.size, 1, none⟩ = some (.string nm) := by rw [Go.Joins.cell_of_block K1]; rfl
  have k2 : w1.cell? ⟨w.heap.size, 2, none⟩ = some (.string hd) := by rw [Go.Joins.cell_of_block K1]; rfl
  have k3 : w1.cell? ⟨w.heap.size, 3, none⟩ = some (.string to) := by rw [Go.Joins.cell_of_block K1]; rfl
  have k4 : w1.cell? ⟨w.heap.size, 4, none⟩ = some (.int .i64 li) := by rw [Go.Joins.cell_of_block K1]; rfl
  have k5 : w1.cell? ⟨w.heap.size, 5, none⟩ = some (.int .i64 ob) := by rw [Go.Joins.cell_of_block K1]; rfl
  have k6 : w1.cell? ⟨w.heap.size, 6, none⟩ = some (.int .i64 ri) := by rw [Go.Joins.cell_of_block K1]; rfl
  have k7 : w1.cell? ⟨w.heap.size, 7, none⟩ = some (.int .i64 ba) := by rw [Go.Joins.cell_of_block K1]; rfl
  have k8 : w1.cell? ⟨w.heap.size, 8, none⟩ = some (.int .i64 ex) := by rw [Go.Joins.cell_of_block K1]; rfl
  have k9 : w1.cell? ⟨w.heap.size, 9, none⟩ = some (.int .i32 le) := by rw [Go.Joins.cell_of_block K1]; rfl
  have k10 : w1.cell? ⟨w.heap.size, 10, none⟩ = some (.bool sf) := by rw [Go.Joins.cell_of_block K1]; rfl
  have k11 : w1.cell? ⟨w.heap.size, 11, none⟩ = some (.int .i64 fr) := by rw [Go.Joins.cell_of_block K1]; rfl
  have k12 : w1.cell? ⟨w.heap.size, 12, none⟩ = some (.int .i64 mo) := by rw [Go.Joins.cell_of_block K1]; rfl
  go_wp2_with fail
  refine (M.out _).mono ?_
  rintro e w2 ⟨rfl, b2⟩
  have K2 := kept K1 b2
  have B2 := Lib.hid (chain B1 b2)
  clear k0 k1 k2 k3 k4 k5 k6 k7 k8 k9 k10 k11 k12 K1 B1 b2 M
  have k0 : w2.cell? ⟨w.heap.size, 0, none⟩ = some (.int .i64 op) := by rw [Go.Joins.cell_of_block K2]; rfl
  clear K2
  have ta := TA.out
  go_wp2_with fail
  refine (E.out _).mono ?_
  rintro e w3 ⟨rfl, b3⟩
  replace B2 := Lib.hid (chain B2.out b3)
  clear b3 E k0
  go_wp2_with fail
  refine (im_encode _ _ _ S1).mono ?_
  rintro e w4 ⟨rfl, b3⟩
  replace B2 := Lib.hid (chain B2.out b3)
  clear b3
  go_wp2_with fail
  refine (im_encode _ _ _ (Lib.hid (S2.out _))).mono ?_
  rintro e w5 ⟨rfl, b3⟩
  replace B2 := Lib.hid (chain B2.out b3)
  clear b3
  go_wp2_with fail
  refine (im_bears _ _ S1).mono ?_
  rintro e w6 ⟨rfl, b3⟩
  replace B2 := Lib.hid (chain B2.out b3)
  clear b3
  have me := ME.out
  have cf := CF.out
  have BR : Below w6.heap.size w6 w6 := Below.refl _ _
  have hun : undef = Value.tuple #[] := rfl
  have hz5 := hz.out
  have hz1 : 1 < (s.size : Int) := by omega
  have hi1 := hi.out
  clear TA S2 ta
  go_wp2_with fail
  first | (go_region_held (fun w' => Below w6.heap.size w6 w') (first | assumption | exact BR.drew | exact chain BR.drew b9 | exact chain (by assumption) b9) ((first | (go_at_call 19; refine (im_mutates _ _ S1).mono ?_; rintro e w9 ⟨rfl, b9⟩) | (go_at_call 17; refine (im_right _ _ S1).mono ?_; rintro e w9 ⟨rfl, b9⟩) | (refine (OP.out _).mono ?_; rintro e w9 ⟨rfl, b9⟩)))) | fail
  all_goals
    rename_i hH
    go_wp2_with fail
    go_ret
    exact ⟨rfl, chain B2.out hH⟩
end Go.Proofs.Ytemhlhcaahaecaa
