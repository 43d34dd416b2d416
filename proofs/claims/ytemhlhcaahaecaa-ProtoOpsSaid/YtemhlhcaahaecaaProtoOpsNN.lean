import Derived.Test.YtemhlhcaahaecaaProtoAll
import Derived.Test.YtemhlhcaahaecaaProtoMade
import Derived.Test.YtemhlhcaahaecaaProtoStray
import Derived.Test.YtemhlhcaahaecaaWays
import Derived.Deep.RegionHeld3
namespace Go.Proofs.Ytemhlhcaahaecaa
open Go.RowKit
set_option linter.unusedVariables false
set_option linter.unusedSimpArgs false
set_option maxHeartbeats 3200000 in
set_option maxRecDepth 20000 in
theorem protoOps_nn (id ot : Int) (op : Int) (nm : ByteArray) (hd : ByteArray) (to : ByteArray) (li : Int) (ob : Int) (ri : Int) (ba : Int) (ex : Int) (le : Int) (sf : Bool) (fr : Int) (mo : Int) (T : TypeId) (a : Value) (F : FuncId) (s : ByteArray) (w : World) (o1 : -9223372036854775808 ≤ op) (h0 : op < 0)
    (M : Hid (∀ w, Calls Try.prog 14 #[.agg #[.int .i64 op, .string nm, .string hd, .string to, .int .i64 li, .int .i64 ob, .int .i64 ri, .int .i64 ba, .int .i64 ex, .int .i32 le, .bool sf, .int .i64 fr, .int .i64 mo]] w fun e w' => e = .returned (.iface T a) ∧ Below w.heap.size w w'))
    (TA : Hid (∀ w, (Instr.typeAssert (.iface T a) 20 42 true).run Try.prog w = .ok (.tuple #[.iface T a, .bool true]) w))
    (ME : Hid (∀ w, (method 254 T a "Op").run Try.prog w = .ok (F, a) w))
    (CF : Hid (∀ (args : Array Value) w, (callFunc F args).run Try.prog w = .ok (.enter F args) w))
    (OP : Hid (∀ w, Calls Try.prog F #[a] w fun e w' => e = .returned (.int .i64 (IntKind.i64.wrap (1 + -(op + 1).tmod 13))) ∧ Below w.heap.size w w'))
    (E : Hid (∀ w, Calls Try.prog 15 #[.int .i64 id, .iface T a] w fun e w' => e = .returned (.tuple #[.string s, .int .i64 1]) ∧ Below w.heap.size w w')) :
    Calls Try.prog 5 #[.int .i64 id, .agg #[.int .i64 op, .string nm, .string hd, .string to, .int .i64 li, .int .i64 ob, .int .i64 ri, .int .i64 ba, .int .i64 ex, .int .i32 le, .bool sf, .int .i64 fr, .int .i64 mo], .int .i64 ot] w fun e w' => e = .returned (.bool true) ∧ Below w.heap.size w w' := by
  have S1 := Lib.hid (stray_i ot)
  have S2 := Lib.hid (fun z => stray_a z)
  go_enter Try.func5, Try.ntmps5
  go_wp2_with fail
  refine (examples_any _).mono ?_
  rintro e w1 ⟨rfl, b1⟩
  have K1 : w1.heap[w.heap.size]? = some (.cells #[.int .i64 op, .string nm, .string hd, .string to, .int .i64 li, .int .i64 ob, .int .i64 ri, .int .i64 ba, .int .i64 ex, .int .i32 le, .bool sf, .int .i64 fr, .int .i64 mo] 34) := kept1 b1
  have B1 : Below w.heap.size w w1 := ((Below.refl _ _).alloc (Nat.le_refl _) _).trans (b1.mono (by simp))
  clear b1
  have k0 : w1.cell? ⟨w.heap.size, 0, none⟩ = some (.int .i64 op) := by rw [Go.Joins.cell_of_block K1]; rfl
  have k1 : w1.cell? ⟨w.heap.size, 1, none⟩ = some (.string nm) := by rw [Go.Joins.cell_of_block K1]; rfl
  have k2 : w1.cell? ⟨w.heap.size, 2, none⟩ = some (.string hd) := by rw [Go.Joins.cell_of_block K1]; rfl
  have k3 : w1.cell? ⟨w.heap.size, 3, none⟩ = some (.string to) := by rw [Go.Joins.cell_of_block K1]; rfl
  have k4 : w1.cell? ⟨w.heap.size, 4, none⟩ = some (.int .i64 li) := by rw [Go.Joins.cell_of_block K1]; rfl
  have k5 : w1.cell? ⟨w.heap.size, 5, none⟩ = some (.int .i64 ob) := by rw [Go.Joins.cell_of_block K1]; rfl
  have k6 : w1.cell? ⟨w.heap.size, 6, none⟩ = some (.int .i64 ri) := by rw [Go.Joins.cell_of_block K1]; rfl
  have k7 : w1.cell? ⟨w.heap.size, 7, none⟩ = some (.int .i64 ba) := by rw [Go.Joins.cell_of_block K1]; rfl
  have k8 : w1.cell? ⟨w.heap.size, 8, none⟩ = some (.int .i64 ex) := by rw [Go.Joins.cell_of_block K1]; rfl
  have k9 : w1.cell? ⟨w.heap.size, 9, none⟩ = some (.int .i32 le) := by rw [Go.Joins.cell_of_block K1]; rfl
  have k10 : w1.cell? ⟨w.heap.size, 10, none⟩ = some (.bool sf) := by rw [Go.Joins.cell_of_block K1]; rfl
  have k11 : w1.cell? ⟨w.heap.size, 11, none⟩ = some (.int .i64 fr) := by rw [Go.Joins.cell_of_block K1]; rfl
  have k12 : w1.cell? ⟨w.heap.size, 12, none⟩ = some (.int .i64 mo) := by rw [Go.Joins.cell_of_block K1]; rfl
  go_wp2_with fail
  refine (M.out _).mono ?_
  rintro e w2 ⟨rfl, b2⟩
  have K2 := kept K1 b2
  have B2 := Lib.hid (chain B1 b2)
  clear k0 k1 k2 k3 k4 k5 k6 k7 k8 k9 k10 k11 k12 K1 B1 b2 M
  have k0 : w2.cell? ⟨w.heap.size, 0, none⟩ = some (.int .i64 op) := by rw [Go.Joins.cell_of_block K2]; rfl
  clear K2
  have ta := TA.out
  go_wp2_with fail
  refine (E.out _).mono ?_
  rintro e w3 ⟨rfl, b3⟩
  replace B2 := Lib.hid (chain B2.out b3)
  clear b3 E k0
  go_wp2_with fail
  refine (im_encode _ _ _ S1).mono ?_
  rintro e w4 ⟨rfl, b3⟩
  replace B2 := Lib.hid (chain B2.out b3)
  clear b3
  go_wp2_with fail
  refine (im_encode _ _ _ (Lib.hid (S2.out _))).mono ?_
  rintro e w5 ⟨rfl, b3⟩
  replace B2 := Lib.hid (chain B2.out b3)
  clear b3
  go_wp2_with fail
  refine (im_bears _ _ S1).mono ?_
  rintro e w6 ⟨rfl, b3⟩
  replace B2 := Lib.hid (chain B2.out b3)
  clear b3
  have me := ME.out
  have cf := CF.out
  have BR : Below w6.heap.size w6 w6 := Below.refl _ _
  have hun : undef = Value.tuple #[] := rfl
  clear TA S2 ta
  go_wp2_with fail
  refine region_ways (fun _ => True) 99 (by kernel_rfl) ?_
  have B6 : Hid (Below w.heap.size w w6.drew) := Lib.hid B2.out.drew
  clear B2
  have B2 := B6
  clear B6
  refine ways_skipd (i := 0) 62 (v := ?v0) rfl rfl (by kernel_rfl) (by kernel_rfl) (by kernel_rfl) (by kernel_rfl) (fun _ _ _ h => h) trivial (by rfl) ?h0 ?r0
  case h0 =>
    intro w9
    go_simp
    try (with_reducible rfl)
  simp only [List.setIfInBounds_toArray, List.set_cons_zero, List.set_cons_succ]
  refine ways_skipd (i := 1) 63 (v := ?v1) rfl rfl (by kernel_rfl) (by kernel_rfl) (by kernel_rfl) (by kernel_rfl) (fun _ _ _ h => h) trivial (by rfl) ?h1 ?r1
  case h1 =>
    intro w9
    go_simp
    try (with_reducible rfl)
  simp only [List.setIfInBounds_toArray, List.set_cons_zero, List.set_cons_succ]
  refine ways_skipd (i := 2) 64 (v := ?v2) rfl rfl (by kernel_rfl) (by kernel_rfl) (by kernel_rfl) (by kernel_rfl) (fun _ _ _ h => h) trivial (by rfl) ?h2 ?r2
  case h2 =>
    intro w9
    go_simp
    try (with_reducible rfl)
  simp only [List.setIfInBounds_toArray, List.set_cons_zero, List.set_cons_succ]
  refine ways_skipd (i := 3) 65 (v := ?v3) rfl rfl (by kernel_rfl) (by kernel_rfl) (by kernel_rfl) (by kernel_rfl) (fun _ _ _ h => h) trivial (by rfl) ?h3 ?r3
  case h3 =>
    intro w9
    go_simp
    try (with_reducible rfl)
  simp only [List.setIfInBounds_toArray, List.set_cons_zero, List.set_cons_succ]
  refine ways_skipd (i := 4) 66 (v := ?v4) rfl rfl (by kernel_rfl) (by kernel_rfl) (by kernel_rfl) (by kernel_rfl) (fun _ _ _ h => h) trivial (by rfl) ?h4 ?r4
  case h4 =>
    intro w9
    go_simp
    try (with_reducible rfl)
  simp only [List.setIfInBounds_toArray, List.set_cons_zero, List.set_cons_succ]
  refine ways_skipd (i := 5) 67 (v := ?v5) rfl rfl (by kernel_rfl) (by kernel_rfl) (by kernel_rfl) (by kernel_rfl) (fun _ _ _ h => h) trivial (by rfl) ?h5 ?r5
  case h5 =>
    intro w9
    go_simp
    try (with_reducible rfl)
  simp only [List.setIfInBounds_toArray, List.set_cons_zero, List.set_cons_succ]
  refine ways_skipd (i := 7) 69 (v := ?v7) rfl rfl (by kernel_rfl) (by kernel_rfl) (by kernel_rfl) (by kernel_rfl) (fun _ _ _ h => h) trivial (by rfl) ?h7 ?r7
  case h7 =>
    intro w9
    go_simp
    try (with_reducible rfl)
  simp only [List.setIfInBounds_toArray, List.set_cons_zero, List.set_cons_succ]
  refine ways_skipd (i := 8) 70 (v := ?v8) rfl rfl (by kernel_rfl) (by kernel_rfl) (by kernel_rfl) (by kernel_rfl) (fun _ _ _ h => h) trivial (by rfl) ?h8 ?r8
  case h8 =>
    intro w9
    go_simp
    try (with_reducible rfl)
  simp only [List.setIfInBounds_toArray, List.set_cons_zero, List.set_cons_succ]
  refine ways_skipd (i := 9) 71 (v := ?v9) rfl rfl (by kernel_rfl) (by kernel_rfl) (by kernel_rfl) (by kernel_rfl) (fun _ _ _ h => h) trivial (by rfl) ?h9 ?r9
  case h9 =>
    intro w9
    go_simp
    try (with_reducible rfl)
  simp only [List.setIfInBounds_toArray, List.set_cons_zero, List.set_cons_succ]
  refine ways_step (i := 6) rfl (by kernel_rfl) (fun K hK => ?_)
  have HK := Lib.hid hK
  clear hK
  go_simp
  go_wp2_with fail
  refine (OP.out _).mono ?_
  rintro e w7 ⟨rfl, b3⟩
  replace B2 := Lib.hid (chain B2.out b3)
  clear b3
  go_wp2_with fail
  refine HK.out _ _ ?_ (fun _ => trivial)
  clear HK K
  try simp only [Act.put, List.setIfInBounds_toArray, List.set_cons_zero, List.set_cons_succ]
  refine ways_skipd (i := 10) 72 (v := .bool true) rfl rfl (by kernel_rfl) (by kernel_rfl) (by kernel_rfl) (by kernel_rfl) (fun _ _ _ h => h) trivial (by rfl) ?h10 ?r10
  case h10 =>
    intro w9
    go_simp
    try (with_reducible rfl)
  simp only [List.setIfInBounds_toArray, List.set_cons_zero, List.set_cons_succ]
  refine ways_skipd (i := 11) 73 (v := ?v11) rfl rfl (by kernel_rfl) (by kernel_rfl) (by kernel_rfl) (by kernel_rfl) (fun _ _ _ h => h) trivial (by rfl) ?h11 ?r11
  case h11 =>
    intro w9
    go_simp
    try (with_reducible rfl)
  simp only [List.setIfInBounds_toArray, List.set_cons_zero, List.set_cons_succ]
  refine ways_skipd (i := 12) 74 (v := ?v12) rfl rfl (by kernel_rfl) (by kernel_rfl) (by kernel_rfl) (by kernel_rfl) (fun _ _ _ h => h) trivial (by rfl) ?h12 ?r12
  case h12 =>
    intro w9
    go_simp
    try (with_reducible rfl)
  simp only [List.setIfInBounds_toArray, List.set_cons_zero, List.set_cons_succ]
  refine ways_skipd (i := 13) 75 (v := ?v13) rfl rfl (by kernel_rfl) (by kernel_rfl) (by kernel_rfl) (by kernel_rfl) (fun _ _ _ h => h) trivial (by rfl) ?h13 ?r13
  case h13 =>
    intro w9
    go_simp
    try (with_reducible rfl)
  simp only [List.setIfInBounds_toArray, List.set_cons_zero, List.set_cons_succ]
  refine ways_skipd (i := 14) 76 (v := ?v14) rfl rfl (by kernel_rfl) (by kernel_rfl) (by kernel_rfl) (by kernel_rfl) (fun _ _ _ h => h) trivial (by rfl) ?h14 ?r14
  case h14 =>
    intro w9
    go_simp
    try (with_reducible rfl)
  simp only [List.setIfInBounds_toArray, List.set_cons_zero, List.set_cons_succ]
  refine ways_skipd (i := 15) 77 (v := ?v15) rfl rfl (by kernel_rfl) (by kernel_rfl) (by kernel_rfl) (by kernel_rfl) (fun _ _ _ h => h) trivial (by rfl) ?h15 ?r15
  case h15 =>
    intro w9
    go_simp
    try (with_reducible rfl)
  simp only [List.setIfInBounds_toArray, List.set_cons_zero, List.set_cons_succ]
  refine ways_noned (i := 16) 78 rfl rfl (by kernel_rfl) (by kernel_rfl) (by kernel_rfl) (by kernel_rfl) (fun _ _ _ h => h) trivial (by rfl) ?_
  simp only [List.setIfInBounds_toArray, List.set_cons_zero, List.set_cons_succ]
  refine ways_noned (i := 17) 79 rfl rfl (by kernel_rfl) (by kernel_rfl) (by kernel_rfl) (by kernel_rfl) (fun _ _ _ h => h) trivial (by rfl) ?_
  simp only [List.setIfInBounds_toArray, List.set_cons_zero, List.set_cons_succ]
  refine ways_noned (i := 18) 80 rfl rfl (by kernel_rfl) (by kernel_rfl) (by kernel_rfl) (by kernel_rfl) (fun _ _ _ h => h) trivial (by rfl) ?_
  simp only [List.setIfInBounds_toArray, List.set_cons_zero, List.set_cons_succ]
  refine ways_noned (i := 19) 81 rfl rfl (by kernel_rfl) (by kernel_rfl) (by kernel_rfl) (by kernel_rfl) (fun _ _ _ h => h) trivial (by rfl) ?_
  simp only [List.setIfInBounds_toArray, List.set_cons_zero, List.set_cons_succ]
  refine ways_noned (i := 20) 82 rfl rfl (by kernel_rfl) (by kernel_rfl) (by kernel_rfl) (by kernel_rfl) (fun _ _ _ h => h) trivial (by rfl) ?_
  simp only [List.setIfInBounds_toArray, List.set_cons_zero, List.set_cons_succ]
  refine ways_noned (i := 21) 83 rfl rfl (by kernel_rfl) (by kernel_rfl) (by kernel_rfl) (by kernel_rfl) (fun _ _ _ h => h) trivial (by rfl) ?_
  simp only [List.setIfInBounds_toArray, List.set_cons_zero, List.set_cons_succ]
  refine ways_noned (i := 22) 84 rfl rfl (by kernel_rfl) (by kernel_rfl) (by kernel_rfl) (by kernel_rfl) (fun _ _ _ h => h) trivial (by rfl) ?_
  simp only [List.setIfInBounds_toArray, List.set_cons_zero, List.set_cons_succ]
  refine ways_noned (i := 23) 85 rfl rfl (by kernel_rfl) (by kernel_rfl) (by kernel_rfl) (by kernel_rfl) (fun _ _ _ h => h) trivial (by rfl) ?_
  simp only [List.setIfInBounds_toArray, List.set_cons_zero, List.set_cons_succ]
  refine ways_noned (i := 24) 86 rfl rfl (by kernel_rfl) (by kernel_rfl) (by kernel_rfl) (by kernel_rfl) (fun _ _ _ h => h) trivial (by rfl) ?_
  simp only [List.setIfInBounds_toArray, List.set_cons_zero, List.set_cons_succ]
  refine ways_noned (i := 25) 87 rfl rfl (by kernel_rfl) (by kernel_rfl) (by kernel_rfl) (by kernel_rfl) (fun _ _ _ h => h) trivial (by rfl) ?_
  simp only [List.setIfInBounds_toArray, List.set_cons_zero, List.set_cons_succ]
  refine ways_noned (i := 26) 88 rfl rfl (by kernel_rfl) (by kernel_rfl) (by kernel_rfl) (by kernel_rfl) (fun _ _ _ h => h) trivial (by rfl) ?_
  simp only [List.setIfInBounds_toArray, List.set_cons_zero, List.set_cons_succ]
  refine ways_skipd (i := 27) 89 (v := ?v27) rfl rfl (by kernel_rfl) (by kernel_rfl) (by kernel_rfl) (by kernel_rfl) (fun _ _ _ h => h) trivial (by rfl) ?h27 ?r27
  case h27 =>
    intro w9
    go_simp
    try (with_reducible rfl)
  simp only [List.setIfInBounds_toArray, List.set_cons_zero, List.set_cons_succ]
  refine ways_skipd (i := 28) 90 (v := ?v28) rfl rfl (by kernel_rfl) (by kernel_rfl) (by kernel_rfl) (by kernel_rfl) (fun _ _ _ h => h) trivial (by rfl) ?h28 ?r28
  case h28 =>
    intro w9
    go_simp
    try (with_reducible rfl)
  simp only [List.setIfInBounds_toArray, List.set_cons_zero, List.set_cons_succ]
  refine ways_skipd (i := 29) 91 (v := ?v29) rfl rfl (by kernel_rfl) (by kernel_rfl) (by kernel_rfl) (by kernel_rfl) (fun _ _ _ h => h) trivial (by rfl) ?h29 ?r29
  case h29 =>
    intro w9
    go_simp
    try (with_reducible rfl)
  simp only [List.setIfInBounds_toArray, List.set_cons_zero, List.set_cons_succ]
  refine ways_skipd (i := 30) 92 (v := ?v30) rfl rfl (by kernel_rfl) (by kernel_rfl) (by kernel_rfl) (by kernel_rfl) (fun _ _ _ h => h) trivial (by rfl) ?h30 ?r30
  case h30 =>
    intro w9
    go_simp
    try (with_reducible rfl)
  simp only [List.setIfInBounds_toArray, List.set_cons_zero, List.set_cons_succ]
  refine ways_skipd (i := 31) 93 (v := ?v31) rfl rfl (by kernel_rfl) (by kernel_rfl) (by kernel_rfl) (by kernel_rfl) (fun _ _ _ h => h) trivial (by rfl) ?h31 ?r31
  case h31 =>
    intro w9
    go_simp
    try (with_reducible rfl)
  simp only [List.setIfInBounds_toArray, List.set_cons_zero, List.set_cons_succ]
  refine ways_skipd (i := 32) 94 (v := ?v32) rfl rfl (by kernel_rfl) (by kernel_rfl) (by kernel_rfl) (by kernel_rfl) (fun _ _ _ h => h) trivial (by rfl) ?h32 ?r32
  case h32 =>
    intro w9
    go_simp
    try (with_reducible rfl)
  simp only [List.setIfInBounds_toArray, List.set_cons_zero, List.set_cons_succ]
  refine ways_skipd (i := 33) 95 (v := ?v33) rfl rfl (by kernel_rfl) (by kernel_rfl) (by kernel_rfl) (by kernel_rfl) (fun _ _ _ h => h) trivial (by rfl) ?h33 ?r33
  case h33 =>
    intro w9
    go_simp
    try (with_reducible rfl)
  simp only [List.setIfInBounds_toArray, List.set_cons_zero, List.set_cons_succ]
  refine ways_skipd (i := 34) 96 (v := ?v34) rfl rfl (by kernel_rfl) (by kernel_rfl) (by kernel_rfl) (by kernel_rfl) (fun _ _ _ h => h) trivial (by rfl) ?h34 ?r34
  case h34 =>
    intro w9
    go_simp
    try (with_reducible rfl)
  simp only [List.setIfInBounds_toArray, List.set_cons_zero, List.set_cons_succ]
  refine ways_skipd (i := 35) 97 (v := ?v35) rfl rfl (by kernel_rfl) (by kernel_rfl) (by kernel_rfl) (by kernel_rfl) (fun _ _ _ h => h) trivial (by rfl) ?h35 ?r35
  case h35 =>
    intro w9
    go_simp
    try (with_reducible rfl)
  simp only [List.setIfInBounds_toArray, List.set_cons_zero, List.set_cons_succ]
  refine ways_skipd (i := 36) 98 (v := ?v36) rfl rfl (by kernel_rfl) (by kernel_rfl) (by kernel_rfl) (by kernel_rfl) (fun _ _ _ h => h) trivial (by rfl) ?h36 ?r36
  case h36 =>
    intro w9
    go_simp
    try (with_reducible rfl)
  simp only [List.setIfInBounds_toArray, List.set_cons_zero, List.set_cons_succ]
  refine ways_skipd (i := 37) 99 (v := ?v37) rfl rfl (by kernel_rfl) (by kernel_rfl) (by kernel_rfl) (by kernel_rfl) (fun _ _ _ h => h) trivial (by rfl) ?h37 ?r37
  case h37 =>
    intro w9
    go_simp
    try (with_reducible rfl)
  simp only [List.setIfInBounds_toArray, List.set_cons_zero, List.set_cons_succ]
  refine ways_skipd (i := 38) 100 (v := ?v38) rfl rfl (by kernel_rfl) (by kernel_rfl) (by kernel_rfl) (by kernel_rfl) (fun _ _ _ h => h) trivial (by rfl) ?h38 ?r38
  case h38 =>
    intro w9
    go_simp
    try (with_reducible rfl)
  simp only [List.setIfInBounds_toArray, List.set_cons_zero, List.set_cons_succ]
  refine ways_skipd (i := 39) 101 (v := ?v39) rfl rfl (by kernel_rfl) (by kernel_rfl) (by kernel_rfl) (by kernel_rfl) (fun _ _ _ h => h) trivial (by rfl) ?h39 ?r39
  case h39 =>
    intro w9
    go_simp
    try (with_reducible rfl)
  simp only [List.setIfInBounds_toArray, List.set_cons_zero, List.set_cons_succ]
  refine ways_skipd (i := 40) 102 (v := ?v40) rfl rfl (by kernel_rfl) (by kernel_rfl) (by kernel_rfl) (by kernel_rfl) (fun _ _ _ h => h) trivial (by rfl) ?h40 ?r40
  case h40 =>
    intro w9
    go_simp
    try (with_reducible rfl)
  simp only [List.setIfInBounds_toArray, List.set_cons_zero, List.set_cons_succ]
  refine ways_skipd (i := 41) 103 (v := ?v41) rfl rfl (by kernel_rfl) (by kernel_rfl) (by kernel_rfl) (by kernel_rfl) (fun _ _ _ h => h) trivial (by rfl) ?h41 ?r41
  case h41 =>
    intro w9
    go_simp
    try (with_reducible rfl)
  simp only [List.setIfInBounds_toArray, List.set_cons_zero, List.set_cons_succ]
  refine ways_skipd (i := 42) 104 (v := ?v42) rfl rfl (by kernel_rfl) (by kernel_rfl) (by kernel_rfl) (by kernel_rfl) (fun _ _ _ h => h) trivial (by rfl) ?h42 ?r42
  case h42 =>
    intro w9
    go_simp
    try (with_reducible rfl)
  simp only [List.setIfInBounds_toArray, List.set_cons_zero, List.set_cons_succ]
  refine ways_skipd (i := 43) 105 (v := ?v43) rfl rfl (by kernel_rfl) (by kernel_rfl) (by kernel_rfl) (by kernel_rfl) (fun _ _ _ h => h) trivial (by rfl) ?h43 ?r43
  case h43 =>
    intro w9
    go_simp
    try (with_reducible rfl)
  simp only [List.setIfInBounds_toArray, List.set_cons_zero, List.set_cons_succ]
  refine ways_step (i := 44) rfl (by kernel_rfl) (fun K hK => ?_)
  have HK := Lib.hid hK
  clear hK
  go_simp
  go_wp2_with fail
  refine (im_mutates _ _ S1).mono ?_
  rintro e w8 ⟨rfl, b3⟩
  replace B2 := Lib.hid (chain B2.out b3)
  clear b3
  go_wp2_with fail
  refine HK.out _ _ ?_ (fun _ => trivial)
  clear HK K
  try simp only [Act.put, List.setIfInBounds_toArray, List.set_cons_zero, List.set_cons_succ]
  refine ways_skipd (i := 45) 107 (v := ?v45) rfl rfl (by kernel_rfl) (by kernel_rfl) (by kernel_rfl) (by kernel_rfl) (fun _ _ _ h => h) trivial (by rfl) ?h45 ?r45
  case h45 =>
    intro w9
    go_simp
    try (with_reducible rfl)
  simp only [List.setIfInBounds_toArray, List.set_cons_zero, List.set_cons_succ]
  refine ways_skipd (i := 46) 108 (v := ?v46) rfl rfl (by kernel_rfl) (by kernel_rfl) (by kernel_rfl) (by kernel_rfl) (fun _ _ _ h => h) trivial (by rfl) ?h46 ?r46
  case h46 =>
    intro w9
    go_simp
    try (with_reducible rfl)
  simp only [List.setIfInBounds_toArray, List.set_cons_zero, List.set_cons_succ]
  refine ways_skipd (i := 47) 109 (v := ?v47) rfl rfl (by kernel_rfl) (by kernel_rfl) (by kernel_rfl) (by kernel_rfl) (fun _ _ _ h => h) trivial (by rfl) ?h47 ?r47
  case h47 =>
    intro w9
    go_simp
    try (with_reducible rfl)
  simp only [List.setIfInBounds_toArray, List.set_cons_zero, List.set_cons_succ]
  refine ways_skipd (i := 48) 110 (v := ?v48) rfl rfl (by kernel_rfl) (by kernel_rfl) (by kernel_rfl) (by kernel_rfl) (fun _ _ _ h => h) trivial (by rfl) ?h48 ?r48
  case h48 =>
    intro w9
    go_simp
    try (with_reducible rfl)
  simp only [List.setIfInBounds_toArray, List.set_cons_zero, List.set_cons_succ]
  refine ways_skipd (i := 49) 111 (v := ?v49) rfl rfl (by kernel_rfl) (by kernel_rfl) (by kernel_rfl) (by kernel_rfl) (fun _ _ _ h => h) trivial (by rfl) ?h49 ?r49
  case h49 =>
    intro w9
    go_simp
    try (with_reducible rfl)
  simp only [List.setIfInBounds_toArray, List.set_cons_zero, List.set_cons_succ]
  refine ways_step (i := 50) rfl (by kernel_rfl) (fun K hK => ?_)
  have HK := Lib.hid hK
  clear hK
  go_simp
  go_wp2_with fail
  refine (im_right _ _ S1).mono ?_
  rintro e w10 ⟨rfl, b3⟩
  replace B2 := Lib.hid (chain B2.out b3)
  clear b3
  go_wp2_with fail
  refine HK.out _ _ ?_ (fun _ => trivial)
  clear HK K
  try simp only [Act.put, List.setIfInBounds_toArray, List.set_cons_zero, List.set_cons_succ]
  refine ways_skipd (i := 51) 113 (v := ?v51) rfl rfl (by kernel_rfl) (by kernel_rfl) (by kernel_rfl) (by kernel_rfl) (fun _ _ _ h => h) trivial (by rfl) ?h51 ?r51
  case h51 =>
    intro w9
    go_simp
    try (with_reducible rfl)
  simp only [List.setIfInBounds_toArray, List.set_cons_zero, List.set_cons_succ]
  refine ways_skipd (i := 52) 114 (v := ?v52) rfl rfl (by kernel_rfl) (by kernel_rfl) (by kernel_rfl) (by kernel_rfl) (fun _ _ _ h => h) trivial (by rfl) ?h52 ?r52
  case h52 =>
    intro w9
    go_simp
    try (with_reducible rfl)
  simp only [List.setIfInBounds_toArray, List.set_cons_zero, List.set_cons_succ]
  refine ways_step (i := 53) rfl (by kernel_rfl) (fun K hK => ?_)
  have HK := Lib.hid hK
  clear hK
  go_simp
  refine HK.out _ _ ?_ (fun _ => trivial)
  clear HK K
  refine ways_done (by kernel_rfl) ?_
  go_wp2_with fail
  go_ret
  exact ⟨rfl, B2.out⟩
end Go.Proofs.Ytemhlhcaahaecaa
