import Derived.Test.YtlbnakoaflladaaRef14C
import Derived.Test.YtlbnakoaflladaaHeld
import Derived.Outline
import Derived.Deep.RegionHeld
namespace Go.Proofs.Ytlbnakoaflladaa
open Go.RowKit
set_option linter.unusedVariables false
set_option linter.unusedSimpArgs false
set_option maxHeartbeats 3200000 in
set_option maxRecDepth 20000 in
theorem recCaps_wtt (ci : Int) (pa : Int) (ob : Int) (ow : Int) (ri : Int) (ba : Int) (de : Int) (ex : Int) (cu : Int) (rv : Bool) (y0 : Int) (y1 : Int) (y2 : Int) (y3 : Int) (y4 : Int) (y5 : Int) (y6 : Int) (y7 : Int) (y8 : Int) (y9 : Bool) (id : Int) (s a : ByteArray) (w : World)
    (P1 : Hid (∀ w, Calls Try.prog 10 #[.agg #[.int .i64 ci, .int .i64 pa, .int .i64 ob, .int .i64 ow, .int .i64 ri, .int .i64 ba, .int .i64 de, .int .i64 ex, .int .i64 cu, .bool rv]] w fun e' w' => e' = .returned (.tuple #[.string a, .int .i64 0]) ∧ Below w.heap.size w w'))
    (P2 : Hid (∀ w, Calls Try.prog 11 #[.agg #[.int .i64 ci, .int .i64 pa, .int .i64 ob, .int .i64 ow, .int .i64 ri, .int .i64 ba, .int .i64 de, .int .i64 ex, .int .i64 cu, .bool rv]] w fun e' w' => e' = .returned (.tuple #[.string a, .bool true]) ∧ Below w.heap.size w w'))
    (T1 : Hid (∀ w, Calls Try.prog 12 #[.int .i64 id, .string s] w fun e' w' => e' = .returned (.tuple #[.agg #[.int .i64 y0, .int .i64 y1, .int .i64 y2, .int .i64 y3, .int .i64 y4, .int .i64 y5, .int .i64 y6, .int .i64 y7, .int .i64 y8, .bool y9], .int .i64 0]) ∧ Below w.heap.size w w'))
    (T2 : Hid (∀ w, Calls Try.prog 13 #[.int .i64 id, .string s] w fun e' w' => e' = .returned (.tuple #[.agg #[.int .i64 y0, .int .i64 y1, .int .i64 y2, .int .i64 y3, .int .i64 y4, .int .i64 y5, .int .i64 y6, .int .i64 y7, .int .i64 y8, .bool y9], .bool true]) ∧ Below w.heap.size w w'))
    (R1 : Hid (∀ w, Calls Try.prog 14 #[.agg #[.int .i64 ci, .int .i64 pa, .int .i64 ob, .int .i64 ow, .int .i64 ri, .int .i64 ba, .int .i64 de, .int .i64 ex, .int .i64 cu, .bool rv]] w fun e' w' => e' = .returned (.bool true) ∧ Below w.heap.size w w'))
    (R2 : Hid (∀ w, Calls Try.prog 15 #[.agg #[.int .i64 ci, .int .i64 pa, .int .i64 ob, .int .i64 ow, .int .i64 ri, .int .i64 ba, .int .i64 de, .int .i64 ex, .int .i64 cu, .bool rv]] w fun e' w' => e' = .returned (.bool true) ∧ Below w.heap.size w w'))
    :
    Calls Try.prog 3 #[.agg #[.int .i64 ci, .int .i64 pa, .int .i64 ob, .int .i64 ow, .int .i64 ri, .int .i64 ba, .int .i64 de, .int .i64 ex, .int .i64 cu, .bool rv], .int .i64 id, .string s] w fun e w' => e = .returned (.bool true) ∧ Below w.heap.size w w' := by
  go_enter Try.func3, Try.ntmps3
  try simp only [List.append_eq, List.cons_append, List.nil_append]
  go_wp2_with fail
  refine (examples_any _).mono ?_
  rintro e w1 ⟨rfl, b1⟩
  have K : Hid (w1.heap[w.heap.size]? = some (.cells #[.int .i64 ci, .int .i64 pa, .int .i64 ob, .int .i64 ow, .int .i64 ri, .int .i64 ba, .int .i64 de, .int .i64 ex, .int .i64 cu, .bool rv] 23)) := Lib.hid (kept1 b1)
  have B : Hid (Below w.heap.size w w1) := Lib.hid (((Below.refl _ _).alloc (Nat.le_refl _) _).trans (b1.mono (by simp)))
  clear b1
  obtain ⟨k0, k1, k2, k3, k4, k5, k6, k7, k8, k9⟩ := cells10 K.out
  go_wp2_with fail
  refine (P1.out _).mono ?_
  rintro e w2 ⟨rfl, b2⟩
  clear k0 k1 k2 k3 k4 k5 k6 k7 k8 k9
  replace K := Lib.hid (kept K.out b2)
  replace B := Lib.hid (chain B.out b2)
  clear b2
  obtain ⟨k0, k1, k2, k3, k4, k5, k6, k7, k8, k9⟩ := cells10 K.out
  go_wp2_with fail
  refine (P2.out _).mono ?_
  rintro e w3 ⟨rfl, b3⟩
  clear k0 k1 k2 k3 k4 k5 k6 k7 k8 k9
  replace K := Lib.hid (kept K.out b3)
  replace B := Lib.hid (chain B.out b3)
  clear b3
  go_wp2_with fail
  refine (T1.out _).mono ?_
  rintro e w4 ⟨rfl, b4⟩
  replace K := Lib.hid (kept K.out b4)
  replace B := Lib.hid (chain B.out b4)
  clear b4
  go_wp2_with fail
  refine (T2.out _).mono ?_
  rintro e w5 ⟨rfl, b5⟩
  have X := Lib.hid (kept1 b5)
  replace K := Lib.hid (kept2 K.out b5)
  replace B := Lib.hid (chain1 B.out b5)
  clear b5
  have W : Hid ((w5.alloc (.cells #[.int .i64 y0, .int .i64 y1, .int .i64 y2, .int .i64 y3, .int .i64 y4, .int .i64 y5, .int .i64 y6, .int .i64 y7, .int .i64 y8, .bool y9] 23)).heap[w5.heap.size]? = some (.cells #[.int .i64 y0, .int .i64 y1, .int .i64 y2, .int .i64 y3, .int .i64 y4, .int .i64 y5, .int .i64 y6, .int .i64 y7, .int .i64 y8, .bool y9] 23)) := Lib.hid (heap_alloc_new _ _)
  replace K := Lib.hid (kept0 K.out (.cells #[.int .i64 y0, .int .i64 y1, .int .i64 y2, .int .i64 y3, .int .i64 y4, .int .i64 y5, .int .i64 y6, .int .i64 y7, .int .i64 y8, .bool y9] 23))
  replace X := Lib.hid (kept0 X.out (.cells #[.int .i64 y0, .int .i64 y1, .int .i64 y2, .int .i64 y3, .int .i64 y4, .int .i64 y5, .int .i64 y6, .int .i64 y7, .int .i64 y8, .bool y9] 23))
  replace B : Hid (Below w.heap.size w (w5.alloc (.cells #[.int .i64 y0, .int .i64 y1, .int .i64 y2, .int .i64 y3, .int .i64 y4, .int .i64 y5, .int .i64 y6, .int .i64 y7, .int .i64 y8, .bool y9] 23))) := Lib.hid (B.out.alloc B.out.size _)
  go_wp2_with fail
  generalize w5.heap.size = g5 at *
  generalize w4.heap.size = g4 at *
  generalize w5.alloc (.cells #[.int .i64 y0, .int .i64 y1, .int .i64 y2, .int .i64 y3, .int .i64 y4, .int .i64 y5, .int .i64 y6, .int .i64 y7, .int .i64 y8, .bool y9] 23) = v5 at *
  clear P1 P2 T1 T2
  refine wp_region_held_drew (S := fun w' => Below v5.heap.size v5 w') (by kernel_rfl) (Below.refl _ _).drew (fun hS => ?_)
  refine held_take (i := 0) 41 (v := ?va0x1) rfl rfl (by kernel_rfl) (by kernel_rfl) (by kernel_rfl) (fun _ _ _ h => h) hS (by rfl) ?ha0x1 ?ra0x1
  case ha0x1 =>
    intro w9 s9
    clear s9
    go_simp
    try (with_reducible rfl)
  simp only [List.setIfInBounds_toArray, List.set_cons_zero, List.set_cons_succ]
  refine held_take (i := 1) 42 (v := ?va1x2) rfl rfl (by kernel_rfl) (by kernel_rfl) (by kernel_rfl) (fun _ _ _ h => h) hS (by rfl) ?ha1x2 ?ra1x2
  case ha1x2 =>
    intro w9 s9
    clear s9
    go_simp
    try (with_reducible rfl)
  simp only [List.setIfInBounds_toArray, List.set_cons_zero, List.set_cons_succ]
  refine held_take (i := 2) 43 (v := ?va2x3) rfl rfl (by kernel_rfl) (by kernel_rfl) (by kernel_rfl) (fun _ _ _ h => h) hS (by rfl) ?ha2x3 ?ra2x3
  case ha2x3 =>
    intro w9 s9
    obtain ⟨q0, q1, q2, q3, q4, q5, q6, q7, q8, q9⟩ := cells10 (kept K.out s9)
    clear s9
    go_simp
    try (with_reducible rfl)
  simp only [List.setIfInBounds_toArray, List.set_cons_zero, List.set_cons_succ]
  refine held_take (i := 4) 45 (v := ?va4x4) rfl rfl (by kernel_rfl) (by kernel_rfl) (by kernel_rfl) (fun _ _ _ h => h) hS (by rfl) ?ha4x4 ?ra4x4
  case ha4x4 =>
    intro w9 s9
    obtain ⟨q0, q1, q2, q3, q4, q5, q6, q7, q8, q9⟩ := cells10 (kept K.out s9)
    clear s9
    go_simp
    try (with_reducible rfl)
  simp only [List.setIfInBounds_toArray, List.set_cons_zero, List.set_cons_succ]
  refine held_step (i := 3) rfl (by kernel_rfl) (fun K hK => ?_)
  have HK := Lib.hid hK
  clear hK
  go_simp
  go_wp2_with fail
  refine (R1.out _).mono ?_
  rintro e v6 ⟨rfl, b6⟩
  refine HK.out _ _ ?_ ?_
  · exact chain hS b6
  clear HK K
  try simp only [Act.put, List.setIfInBounds_toArray, List.set_cons_zero, List.set_cons_succ]
  have hS9 := chain hS b6
  clear hS b6
  have hS := hS9
  clear hS9
  refine held_step (i := 5) rfl (by kernel_rfl) (fun K hK => ?_)
  have HK := Lib.hid hK
  clear hK
  go_simp
  go_wp2_with fail
  refine (R2.out _).mono ?_
  rintro e v7 ⟨rfl, b7⟩
  refine HK.out _ _ ?_ ?_
  · exact chain hS b7
  clear HK K
  try simp only [Act.put, List.setIfInBounds_toArray, List.set_cons_zero, List.set_cons_succ]
  have hS9 := chain hS b7
  clear hS b7
  have hS := hS9
  clear hS9
  refine held_take (i := 6) 47 (v := ?va6x5) rfl rfl (by kernel_rfl) (by kernel_rfl) (by kernel_rfl) (fun _ _ _ h => h) hS (by rfl) ?ha6x5 ?ra6x5
  case ha6x5 =>
    intro w9 s9
    clear s9
    go_simp
    try (with_reducible rfl)
  simp only [List.setIfInBounds_toArray, List.set_cons_zero, List.set_cons_succ]
  refine held_take (i := 7) 48 (v := ?va7x6) rfl rfl (by kernel_rfl) (by kernel_rfl) (by kernel_rfl) (fun _ _ _ h => h) hS (by rfl) ?ha7x6 ?ra7x6
  case ha7x6 =>
    intro w9 s9
    clear s9
    go_simp
    try (with_reducible rfl)
  simp only [List.setIfInBounds_toArray, List.set_cons_zero, List.set_cons_succ]
  refine held_take (i := 8) 49 (v := ?va8x7) rfl rfl (by kernel_rfl) (by kernel_rfl) (by kernel_rfl) (fun _ _ _ h => h) hS (by rfl) ?ha8x7 ?ra8x7
  case ha8x7 =>
    intro w9 s9
    clear s9
    go_simp
    try (with_reducible rfl)
  simp only [List.setIfInBounds_toArray, List.set_cons_zero, List.set_cons_succ]
  refine held_take (i := 9) 50 (v := ?va9x8) rfl rfl (by kernel_rfl) (by kernel_rfl) (by kernel_rfl) (fun _ _ _ h => h) hS (by rfl) ?ha9x8 ?ra9x8
  case ha9x8 =>
    intro w9 s9
    clear s9
    go_simp
    try (with_reducible rfl)
  simp only [List.setIfInBounds_toArray, List.set_cons_zero, List.set_cons_succ]
  refine held_take (i := 10) 51 (v := ?va10x9) rfl rfl (by kernel_rfl) (by kernel_rfl) (by kernel_rfl) (fun _ _ _ h => h) hS (by rfl) ?ha10x9 ?ra10x9
  case ha10x9 =>
    intro w9 s9
    clear s9
    go_simp
    try (with_reducible rfl)
  simp only [List.setIfInBounds_toArray, List.set_cons_zero, List.set_cons_succ]
  refine held_take (i := 11) 52 (v := ?va11x10) rfl rfl (by kernel_rfl) (by kernel_rfl) (by kernel_rfl) (fun _ _ _ h => h) hS (by rfl) ?ha11x10 ?ra11x10
  case ha11x10 =>
    intro w9 s9
    clear s9
    go_simp
    try (with_reducible rfl)
  simp only [List.setIfInBounds_toArray, List.set_cons_zero, List.set_cons_succ]
  refine held_take (i := 12) 53 (v := ?va12x11) rfl rfl (by kernel_rfl) (by kernel_rfl) (by kernel_rfl) (fun _ _ _ h => h) hS (by rfl) ?ha12x11 ?ra12x11
  case ha12x11 =>
    intro w9 s9
    clear s9
    go_simp
    try (with_reducible rfl)
  simp only [List.setIfInBounds_toArray, List.set_cons_zero, List.set_cons_succ]
  refine held_take (i := 13) 54 (v := ?va13x12) rfl rfl (by kernel_rfl) (by kernel_rfl) (by kernel_rfl) (fun _ _ _ h => h) hS (by rfl) ?ha13x12 ?ra13x12
  case ha13x12 =>
    intro w9 s9
    clear s9
    go_simp
    try (with_reducible rfl)
  simp only [List.setIfInBounds_toArray, List.set_cons_zero, List.set_cons_succ]
  refine held_take (i := 14) 55 (v := ?va14x13) rfl rfl (by kernel_rfl) (by kernel_rfl) (by kernel_rfl) (fun _ _ _ h => h) hS (by rfl) ?ha14x13 ?ra14x13
  case ha14x13 =>
    intro w9 s9
    clear s9
    go_simp
    try (with_reducible rfl)
  simp only [List.setIfInBounds_toArray, List.set_cons_zero, List.set_cons_succ]
  refine held_take (i := 15) 56 (v := ?va15x14) rfl rfl (by kernel_rfl) (by kernel_rfl) (by kernel_rfl) (fun _ _ _ h => h) hS (by rfl) ?ha15x14 ?ra15x14
  case ha15x14 =>
    intro w9 s9
    clear s9
    go_simp
    try (with_reducible rfl)
  simp only [List.setIfInBounds_toArray, List.set_cons_zero, List.set_cons_succ]
  refine held_take (i := 16) 57 (v := ?va16x15) rfl rfl (by kernel_rfl) (by kernel_rfl) (by kernel_rfl) (fun _ _ _ h => h) hS (by rfl) ?ha16x15 ?ra16x15
  case ha16x15 =>
    intro w9 s9
    clear s9
    go_simp
    try (with_reducible rfl)
  simp only [List.setIfInBounds_toArray, List.set_cons_zero, List.set_cons_succ]
  refine held_take (i := 17) 58 (v := ?va17x16) rfl rfl (by kernel_rfl) (by kernel_rfl) (by kernel_rfl) (fun _ _ _ h => h) hS (by rfl) ?ha17x16 ?ra17x16
  case ha17x16 =>
    intro w9 s9
    clear s9
    go_simp
    try (with_reducible rfl)
  simp only [List.setIfInBounds_toArray, List.set_cons_zero, List.set_cons_succ]
  refine held_take (i := 18) 59 (v := ?va18x17) rfl rfl (by kernel_rfl) (by kernel_rfl) (by kernel_rfl) (fun _ _ _ h => h) hS (by rfl) ?ha18x17 ?ra18x17
  case ha18x17 =>
    intro w9 s9
    clear s9
    go_simp
    try (with_reducible rfl)
  simp only [List.setIfInBounds_toArray, List.set_cons_zero, List.set_cons_succ]
  refine held_take (i := 19) 60 (v := ?va19x18) rfl rfl (by kernel_rfl) (by kernel_rfl) (by kernel_rfl) (fun _ _ _ h => h) hS (by rfl) ?ha19x18 ?ra19x18
  case ha19x18 =>
    intro w9 s9
    clear s9
    go_simp
    try (with_reducible rfl)
  simp only [List.setIfInBounds_toArray, List.set_cons_zero, List.set_cons_succ]
  refine held_none (i := 20) 61 rfl rfl (by kernel_rfl) (by kernel_rfl) (by kernel_rfl) (fun _ _ _ h => h) hS (by rfl) ?_
  simp only [List.setIfInBounds_toArray, List.set_cons_zero, List.set_cons_succ]
  refine held_none (i := 21) 62 rfl rfl (by kernel_rfl) (by kernel_rfl) (by kernel_rfl) (fun _ _ _ h => h) hS (by rfl) ?_
  simp only [List.setIfInBounds_toArray, List.set_cons_zero, List.set_cons_succ]
  refine held_none (i := 22) 63 rfl rfl (by kernel_rfl) (by kernel_rfl) (by kernel_rfl) (fun _ _ _ h => h) hS (by rfl) ?_
  simp only [List.setIfInBounds_toArray, List.set_cons_zero, List.set_cons_succ]
  refine held_none (i := 23) 64 rfl rfl (by kernel_rfl) (by kernel_rfl) (by kernel_rfl) (fun _ _ _ h => h) hS (by rfl) ?_
  simp only [List.setIfInBounds_toArray, List.set_cons_zero, List.set_cons_succ]
  refine held_none (i := 24) 65 rfl rfl (by kernel_rfl) (by kernel_rfl) (by kernel_rfl) (fun _ _ _ h => h) hS (by rfl) ?_
  simp only [List.setIfInBounds_toArray, List.set_cons_zero, List.set_cons_succ]
  refine held_none (i := 25) 66 rfl rfl (by kernel_rfl) (by kernel_rfl) (by kernel_rfl) (fun _ _ _ h => h) hS (by rfl) ?_
  simp only [List.setIfInBounds_toArray, List.set_cons_zero, List.set_cons_succ]
  refine held_take (i := 26) 67 (v := ?va26x25) rfl rfl (by kernel_rfl) (by kernel_rfl) (by kernel_rfl) (fun _ _ _ h => h) hS (by rfl) ?ha26x25 ?ra26x25
  case ha26x25 =>
    intro w9 s9
    clear s9
    go_simp
    try (with_reducible rfl)
  simp only [List.setIfInBounds_toArray, List.set_cons_zero, List.set_cons_succ]
  refine held_take (i := 27) 68 (v := ?va27x26) rfl rfl (by kernel_rfl) (by kernel_rfl) (by kernel_rfl) (fun _ _ _ h => h) hS (by rfl) ?ha27x26 ?ra27x26
  case ha27x26 =>
    intro w9 s9
    clear s9
    go_simp
    try (with_reducible rfl)
  simp only [List.setIfInBounds_toArray, List.set_cons_zero, List.set_cons_succ]
  refine held_take (i := 28) 69 (v := ?va28x27) rfl rfl (by kernel_rfl) (by kernel_rfl) (by kernel_rfl) (fun _ _ _ h => h) hS (by rfl) ?ha28x27 ?ra28x27
  case ha28x27 =>
    intro w9 s9
    clear s9
    go_simp
    try (with_reducible rfl)
  simp only [List.setIfInBounds_toArray, List.set_cons_zero, List.set_cons_succ]
  refine held_take (i := 29) 70 (v := ?va29x28) rfl rfl (by kernel_rfl) (by kernel_rfl) (by kernel_rfl) (fun _ _ _ h => h) hS (by rfl) ?ha29x28 ?ra29x28
  case ha29x28 =>
    intro w9 s9
    obtain ⟨q0, q1, q2, q3, q4, q5, q6, q7, q8, q9⟩ := cells10 (kept X.out s9)
    clear s9
    go_simp
    try (with_reducible rfl)
  simp only [List.setIfInBounds_toArray, List.set_cons_zero, List.set_cons_succ]
  refine held_take (i := 30) 71 (v := ?va30x29) rfl rfl (by kernel_rfl) (by kernel_rfl) (by kernel_rfl) (fun _ _ _ h => h) hS (by rfl) ?ha30x29 ?ra30x29
  case ha30x29 =>
    intro w9 s9
    obtain ⟨q0, q1, q2, q3, q4, q5, q6, q7, q8, q9⟩ := cells10 (kept W.out s9)
    clear s9
    go_simp
    try (with_reducible rfl)
  simp only [List.setIfInBounds_toArray, List.set_cons_zero, List.set_cons_succ]
  refine held_take (i := 31) 72 (v := ?va31x30) rfl rfl (by kernel_rfl) (by kernel_rfl) (by kernel_rfl) (fun _ _ _ h => h) hS (by rfl) ?ha31x30 ?ra31x30
  case ha31x30 =>
    intro w9 s9
    clear s9
    go_simp
    try (with_reducible rfl)
  simp only [List.setIfInBounds_toArray, List.set_cons_zero, List.set_cons_succ]
  refine held_take (i := 32) 73 (v := ?va32x31) rfl rfl (by kernel_rfl) (by kernel_rfl) (by kernel_rfl) (fun _ _ _ h => h) hS (by rfl) ?ha32x31 ?ra32x31
  case ha32x31 =>
    intro w9 s9
    clear s9
    go_simp
    try (with_reducible rfl)
  simp only [List.setIfInBounds_toArray, List.set_cons_zero, List.set_cons_succ]
  refine held_take (i := 33) 74 (v := ?va33x32) rfl rfl (by kernel_rfl) (by kernel_rfl) (by kernel_rfl) (fun _ _ _ h => h) hS (by rfl) ?ha33x32 ?ra33x32
  case ha33x32 =>
    intro w9 s9
    clear s9
    go_simp
    try (with_reducible rfl)
  simp only [List.setIfInBounds_toArray, List.set_cons_zero, List.set_cons_succ]
  refine held_take (i := 34) 75 (v := ?va34x33) rfl rfl (by kernel_rfl) (by kernel_rfl) (by kernel_rfl) (fun _ _ _ h => h) hS (by rfl) ?ha34x33 ?ra34x33
  case ha34x33 =>
    intro w9 s9
    clear s9
    go_simp
    try (with_reducible rfl)
  simp only [List.setIfInBounds_toArray, List.set_cons_zero, List.set_cons_succ]
  refine held_take (i := 35) 76 (v := ?va35x34) rfl rfl (by kernel_rfl) (by kernel_rfl) (by kernel_rfl) (fun _ _ _ h => h) hS (by rfl) ?ha35x34 ?ra35x34
  case ha35x34 =>
    intro w9 s9
    clear s9
    go_simp
    try (with_reducible rfl)
  simp only [List.setIfInBounds_toArray, List.set_cons_zero, List.set_cons_succ]
  refine held_take (i := 36) 77 (v := ?va36x35) rfl rfl (by kernel_rfl) (by kernel_rfl) (by kernel_rfl) (fun _ _ _ h => h) hS (by rfl) ?ha36x35 ?ra36x35
  case ha36x35 =>
    intro w9 s9
    clear s9
    go_simp
    try (with_reducible rfl)
  simp only [List.setIfInBounds_toArray, List.set_cons_zero, List.set_cons_succ]
  refine held_take (i := 37) 78 (v := ?va37x36) rfl rfl (by kernel_rfl) (by kernel_rfl) (by kernel_rfl) (fun _ _ _ h => h) hS (by rfl) ?ha37x36 ?ra37x36
  case ha37x36 =>
    intro w9 s9
    clear s9
    go_simp
    try (with_reducible rfl)
  simp only [List.setIfInBounds_toArray, List.set_cons_zero, List.set_cons_succ]
  refine held_take (i := 38) 79 (v := ?va38x37) rfl rfl (by kernel_rfl) (by kernel_rfl) (by kernel_rfl) (fun _ _ _ h => h) hS (by rfl) ?ha38x37 ?ra38x37
  case ha38x37 =>
    intro w9 s9
    clear s9
    go_simp
    try (with_reducible rfl)
  simp only [List.setIfInBounds_toArray, List.set_cons_zero, List.set_cons_succ]
  refine held_take (i := 39) 80 (v := ?va39x38) rfl rfl (by kernel_rfl) (by kernel_rfl) (by kernel_rfl) (fun _ _ _ h => h) hS (by rfl) ?ha39x38 ?ra39x38
  case ha39x38 =>
    intro w9 s9
    clear s9
    go_simp
    try (with_reducible rfl)
  simp only [List.setIfInBounds_toArray, List.set_cons_zero, List.set_cons_succ]
  refine held_none (i := 40) 81 rfl rfl (by kernel_rfl) (by kernel_rfl) (by kernel_rfl) (fun _ _ _ h => h) hS (by rfl) ?_
  simp only [List.setIfInBounds_toArray, List.set_cons_zero, List.set_cons_succ]
  refine held_none (i := 41) 82 rfl rfl (by kernel_rfl) (by kernel_rfl) (by kernel_rfl) (fun _ _ _ h => h) hS (by rfl) ?_
  simp only [List.setIfInBounds_toArray, List.set_cons_zero, List.set_cons_succ]
  refine held_none (i := 42) 83 rfl rfl (by kernel_rfl) (by kernel_rfl) (by kernel_rfl) (fun _ _ _ h => h) hS (by rfl) ?_
  simp only [List.setIfInBounds_toArray, List.set_cons_zero, List.set_cons_succ]
  refine held_none (i := 43) 84 rfl rfl (by kernel_rfl) (by kernel_rfl) (by kernel_rfl) (fun _ _ _ h => h) hS (by rfl) ?_
  simp only [List.setIfInBounds_toArray, List.set_cons_zero, List.set_cons_succ]
  refine held_none (i := 44) 85 rfl rfl (by kernel_rfl) (by kernel_rfl) (by kernel_rfl) (fun _ _ _ h => h) hS (by rfl) ?_
  simp only [List.setIfInBounds_toArray, List.set_cons_zero, List.set_cons_succ]
  refine held_none (i := 45) 86 rfl rfl (by kernel_rfl) (by kernel_rfl) (by kernel_rfl) (fun _ _ _ h => h) hS (by rfl) ?_
  simp only [List.setIfInBounds_toArray, List.set_cons_zero, List.set_cons_succ]
  refine held_take (i := 46) 87 (v := ?va46x45) rfl rfl (by kernel_rfl) (by kernel_rfl) (by kernel_rfl) (fun _ _ _ h => h) hS (by rfl) ?ha46x45 ?ra46x45
  case ha46x45 =>
    intro w9 s9
    clear s9
    go_simp
    try (with_reducible rfl)
  simp only [List.setIfInBounds_toArray, List.set_cons_zero, List.set_cons_succ]
  refine held_take (i := 47) 88 (v := ?va47x46) rfl rfl (by kernel_rfl) (by kernel_rfl) (by kernel_rfl) (fun _ _ _ h => h) hS (by rfl) ?ha47x46 ?ra47x46
  case ha47x46 =>
    intro w9 s9
    clear s9
    go_simp
    try (with_reducible rfl)
  simp only [List.setIfInBounds_toArray, List.set_cons_zero, List.set_cons_succ]
  refine held_take (i := 48) 6 (v := ?va48x47) rfl rfl (by kernel_rfl) (by kernel_rfl) (by kernel_rfl) (fun _ _ _ h => h) hS (by rfl) ?ha48x47 ?ra48x47
  case ha48x47 =>
    intro w9 s9
    clear s9
    go_simp
    try (with_reducible rfl)
  simp only [List.setIfInBounds_toArray, List.set_cons_zero, List.set_cons_succ]
  refine wpAnyH_done (by kernel_rfl) ?_ _
  go_wp2_with fail
  go_ret
  exact ⟨rfl, chain B.out hS⟩
set_option maxHeartbeats 3200000 in
set_option maxRecDepth 20000 in
theorem recCaps_wtf (ci : Int) (pa : Int) (ob : Int) (ow : Int) (ri : Int) (ba : Int) (de : Int) (ex : Int) (cu : Int) (rv : Bool) (y0 : Int) (y1 : Int) (y2 : Int) (y3 : Int) (y4 : Int) (y5 : Int) (y6 : Int) (y7 : Int) (y8 : Int) (y9 : Bool) (id : Int) (s a : ByteArray) (w : World)
    (P1 : Hid (∀ w, Calls Try.prog 10 #[.agg #[.int .i64 ci, .int .i64 pa, .int .i64 ob, .int .i64 ow, .int .i64 ri, .int .i64 ba, .int .i64 de, .int .i64 ex, .int .i64 cu, .bool rv]] w fun e' w' => e' = .returned (.tuple #[.string a, .int .i64 0]) ∧ Below w.heap.size w w'))
    (P2 : Hid (∀ w, Calls Try.prog 11 #[.agg #[.int .i64 ci, .int .i64 pa, .int .i64 ob, .int .i64 ow, .int .i64 ri, .int .i64 ba, .int .i64 de, .int .i64 ex, .int .i64 cu, .bool rv]] w fun e' w' => e' = .returned (.tuple #[.string a, .bool true]) ∧ Below w.heap.size w w'))
    (T1 : Hid (∀ w, Calls Try.prog 12 #[.int .i64 id, .string s] w fun e' w' => e' = .returned (.tuple #[.agg #[.int .i64 y0, .int .i64 y1, .int .i64 y2, .int .i64 y3, .int .i64 y4, .int .i64 y5, .int .i64 y6, .int .i64 y7, .int .i64 y8, .bool y9], .int .i64 2]) ∧ Below w.heap.size w w'))
    (T2 : Hid (∀ w, Calls Try.prog 13 #[.int .i64 id, .string s] w fun e' w' => e' = .returned (.tuple #[.agg #[.int .i64 y0, .int .i64 y1, .int .i64 y2, .int .i64 y3, .int .i64 y4, .int .i64 y5, .int .i64 y6, .int .i64 y7, .int .i64 y8, .bool y9], .bool false]) ∧ Below w.heap.size w w'))
    (R1 : Hid (∀ w, Calls Try.prog 14 #[.agg #[.int .i64 ci, .int .i64 pa, .int .i64 ob, .int .i64 ow, .int .i64 ri, .int .i64 ba, .int .i64 de, .int .i64 ex, .int .i64 cu, .bool rv]] w fun e' w' => e' = .returned (.bool true) ∧ Below w.heap.size w w'))
    (R2 : Hid (∀ w, Calls Try.prog 15 #[.agg #[.int .i64 ci, .int .i64 pa, .int .i64 ob, .int .i64 ow, .int .i64 ri, .int .i64 ba, .int .i64 de, .int .i64 ex, .int .i64 cu, .bool rv]] w fun e' w' => e' = .returned (.bool true) ∧ Below w.heap.size w w'))
    :
    Calls Try.prog 3 #[.agg #[.int .i64 ci, .int .i64 pa, .int .i64 ob, .int .i64 ow, .int .i64 ri, .int .i64 ba, .int .i64 de, .int .i64 ex, .int .i64 cu, .bool rv], .int .i64 id, .string s] w fun e w' => e = .returned (.bool true) ∧ Below w.heap.size w w' := by
  go_enter Try.func3, Try.ntmps3
  try simp only [List.append_eq, List.cons_append, List.nil_append]
  go_wp2_with fail
  refine (examples_any _).mono ?_
  rintro e w1 ⟨rfl, b1⟩
  have K : Hid (w1.heap[w.heap.size]? = some (.cells #[.int .i64 ci, .int .i64 pa, .int .i64 ob, .int .i64 ow, .int .i64 ri, .int .i64 ba, .int .i64 de, .int .i64 ex, .int .i64 cu, .bool rv] 23)) := Lib.hid (kept1 b1)
  have B : Hid (Below w.heap.size w w1) := Lib.hid (((Below.refl _ _).alloc (Nat.le_refl _) _).trans (b1.mono (by simp)))
  clear b1
  obtain ⟨k0, k1, k2, k3, k4, k5, k6, k7, k8, k9⟩ := cells10 K.out
  go_wp2_with fail
  refine (P1.out _).mono ?_
  rintro e w2 ⟨rfl, b2⟩
  clear k0 k1 k2 k3 k4 k5 k6 k7 k8 k9
  replace K := Lib.hid (kept K.out b2)
  replace B := Lib.hid (chain B.out b2)
  clear b2
  obtain ⟨k0, k1, k2, k3, k4, k5, k6, k7, k8, k9⟩ := cells10 K.out
  go_wp2_with fail
  refine (P2.out _).mono ?_
  rintro e w3 ⟨rfl, b3⟩
  clear k0 k1 k2 k3 k4 k5 k6 k7 k8 k9
  replace K := Lib.hid (kept K.out b3)
  replace B := Lib.hid (chain B.out b3)
  clear b3
  go_wp2_with fail
  refine (T1.out _).mono ?_
  rintro e w4 ⟨rfl, b4⟩
  replace K := Lib.hid (kept K.out b4)
  replace B := Lib.hid (chain B.out b4)
  clear b4
  go_wp2_with fail
  refine (T2.out _).mono ?_
  rintro e w5 ⟨rfl, b5⟩
  have X := Lib.hid (kept1 b5)
  replace K := Lib.hid (kept2 K.out b5)
  replace B := Lib.hid (chain1 B.out b5)
  clear b5
  have W : Hid ((w5.alloc (.cells #[.int .i64 y0, .int .i64 y1, .int .i64 y2, .int .i64 y3, .int .i64 y4, .int .i64 y5, .int .i64 y6, .int .i64 y7, .int .i64 y8, .bool y9] 23)).heap[w5.heap.size]? = some (.cells #[.int .i64 y0, .int .i64 y1, .int .i64 y2, .int .i64 y3, .int .i64 y4, .int .i64 y5, .int .i64 y6, .int .i64 y7, .int .i64 y8, .bool y9] 23)) := Lib.hid (heap_alloc_new _ _)
  replace K := Lib.hid (kept0 K.out (.cells #[.int .i64 y0, .int .i64 y1, .int .i64 y2, .int .i64 y3, .int .i64 y4, .int .i64 y5, .int .i64 y6, .int .i64 y7, .int .i64 y8, .bool y9] 23))
  replace X := Lib.hid (kept0 X.out (.cells #[.int .i64 y0, .int .i64 y1, .int .i64 y2, .int .i64 y3, .int .i64 y4, .int .i64 y5, .int .i64 y6, .int .i64 y7, .int .i64 y8, .bool y9] 23))
  replace B : Hid (Below w.heap.size w (w5.alloc (.cells #[.int .i64 y0, .int .i64 y1, .int .i64 y2, .int .i64 y3, .int .i64 y4, .int .i64 y5, .int .i64 y6, .int .i64 y7, .int .i64 y8, .bool y9] 23))) := Lib.hid (B.out.alloc B.out.size _)
  go_wp2_with fail
  generalize w5.heap.size = g5 at *
  generalize w4.heap.size = g4 at *
  generalize w5.alloc (.cells #[.int .i64 y0, .int .i64 y1, .int .i64 y2, .int .i64 y3, .int .i64 y4, .int .i64 y5, .int .i64 y6, .int .i64 y7, .int .i64 y8, .bool y9] 23) = v5 at *
  clear P1 P2 T1 T2
  refine wp_region_held_drew (S := fun w' => Below v5.heap.size v5 w') (by kernel_rfl) (Below.refl _ _).drew (fun hS => ?_)
  refine held_take (i := 0) 41 (v := ?va0x1) rfl rfl (by kernel_rfl) (by kernel_rfl) (by kernel_rfl) (fun _ _ _ h => h) hS (by rfl) ?ha0x1 ?ra0x1
  case ha0x1 =>
    intro w9 s9
    clear s9
    go_simp
    try (with_reducible rfl)
  simp only [List.setIfInBounds_toArray, List.set_cons_zero, List.set_cons_succ]
  refine held_take (i := 1) 42 (v := ?va1x2) rfl rfl (by kernel_rfl) (by kernel_rfl) (by kernel_rfl) (fun _ _ _ h => h) hS (by rfl) ?ha1x2 ?ra1x2
  case ha1x2 =>
    intro w9 s9
    clear s9
    go_simp
    try (with_reducible rfl)
  simp only [List.setIfInBounds_toArray, List.set_cons_zero, List.set_cons_succ]
  refine held_take (i := 2) 43 (v := ?va2x3) rfl rfl (by kernel_rfl) (by kernel_rfl) (by kernel_rfl) (fun _ _ _ h => h) hS (by rfl) ?ha2x3 ?ra2x3
  case ha2x3 =>
    intro w9 s9
    obtain ⟨q0, q1, q2, q3, q4, q5, q6, q7, q8, q9⟩ := cells10 (kept K.out s9)
    clear s9
    go_simp
    try (with_reducible rfl)
  simp only [List.setIfInBounds_toArray, List.set_cons_zero, List.set_cons_succ]
  refine held_take (i := 4) 45 (v := ?va4x4) rfl rfl (by kernel_rfl) (by kernel_rfl) (by kernel_rfl) (fun _ _ _ h => h) hS (by rfl) ?ha4x4 ?ra4x4
  case ha4x4 =>
    intro w9 s9
    obtain ⟨q0, q1, q2, q3, q4, q5, q6, q7, q8, q9⟩ := cells10 (kept K.out s9)
    clear s9
    go_simp
    try (with_reducible rfl)
  simp only [List.setIfInBounds_toArray, List.set_cons_zero, List.set_cons_succ]
  refine held_step (i := 3) rfl (by kernel_rfl) (fun K hK => ?_)
  have HK := Lib.hid hK
  clear hK
  go_simp
  go_wp2_with fail
  refine (R1.out _).mono ?_
  rintro e v6 ⟨rfl, b6⟩
  refine HK.out _ _ ?_ ?_
  · exact chain hS b6
  clear HK K
  try simp only [Act.put, List.setIfInBounds_toArray, List.set_cons_zero, List.set_cons_succ]
  have hS9 := chain hS b6
  clear hS b6
  have hS := hS9
  clear hS9
  refine held_step (i := 5) rfl (by kernel_rfl) (fun K hK => ?_)
  have HK := Lib.hid hK
  clear hK
  go_simp
  go_wp2_with fail
  refine (R2.out _).mono ?_
  rintro e v7 ⟨rfl, b7⟩
  refine HK.out _ _ ?_ ?_
  · exact chain hS b7
  clear HK K
  try simp only [Act.put, List.setIfInBounds_toArray, List.set_cons_zero, List.set_cons_succ]
  have hS9 := chain hS b7
  clear hS b7
  have hS := hS9
  clear hS9
  refine held_take (i := 6) 47 (v := ?va6x5) rfl rfl (by kernel_rfl) (by kernel_rfl) (by kernel_rfl) (fun _ _ _ h => h) hS (by rfl) ?ha6x5 ?ra6x5
  case ha6x5 =>
    intro w9 s9
    clear s9
    go_simp
    try (with_reducible rfl)
  simp only [List.setIfInBounds_toArray, List.set_cons_zero, List.set_cons_succ]
  refine held_take (i := 7) 48 (v := ?va7x6) rfl rfl (by kernel_rfl) (by kernel_rfl) (by kernel_rfl) (fun _ _ _ h => h) hS (by rfl) ?ha7x6 ?ra7x6
  case ha7x6 =>
    intro w9 s9
    clear s9
    go_simp
    try (with_reducible rfl)
  simp only [List.setIfInBounds_toArray, List.set_cons_zero, List.set_cons_succ]
  refine held_take (i := 8) 49 (v := ?va8x7) rfl rfl (by kernel_rfl) (by kernel_rfl) (by kernel_rfl) (fun _ _ _ h => h) hS (by rfl) ?ha8x7 ?ra8x7
  case ha8x7 =>
    intro w9 s9
    clear s9
    go_simp
    try (with_reducible rfl)
  simp only [List.setIfInBounds_toArray, List.set_cons_zero, List.set_cons_succ]
  refine held_take (i := 9) 50 (v := ?va9x8) rfl rfl (by kernel_rfl) (by kernel_rfl) (by kernel_rfl) (fun _ _ _ h => h) hS (by rfl) ?ha9x8 ?ra9x8
  case ha9x8 =>
    intro w9 s9
    clear s9
    go_simp
    try (with_reducible rfl)
  simp only [List.setIfInBounds_toArray, List.set_cons_zero, List.set_cons_succ]
  refine held_take (i := 10) 51 (v := ?va10x9) rfl rfl (by kernel_rfl) (by kernel_rfl) (by kernel_rfl) (fun _ _ _ h => h) hS (by rfl) ?ha10x9 ?ra10x9
  case ha10x9 =>
    intro w9 s9
    clear s9
    go_simp
    try (with_reducible rfl)
  simp only [List.setIfInBounds_toArray, List.set_cons_zero, List.set_cons_succ]
  refine held_take (i := 11) 52 (v := ?va11x10) rfl rfl (by kernel_rfl) (by kernel_rfl) (by kernel_rfl) (fun _ _ _ h => h) hS (by rfl) ?ha11x10 ?ra11x10
  case ha11x10 =>
    intro w9 s9
    clear s9
    go_simp
    try (with_reducible rfl)
  simp only [List.setIfInBounds_toArray, List.set_cons_zero, List.set_cons_succ]
  refine held_take (i := 12) 53 (v := ?va12x11) rfl rfl (by kernel_rfl) (by kernel_rfl) (by kernel_rfl) (fun _ _ _ h => h) hS (by rfl) ?ha12x11 ?ra12x11
  case ha12x11 =>
    intro w9 s9
    clear s9
    go_simp
    try (with_reducible rfl)
  simp only [List.setIfInBounds_toArray, List.set_cons_zero, List.set_cons_succ]
  refine held_take (i := 13) 54 (v := ?va13x12) rfl rfl (by kernel_rfl) (by kernel_rfl) (by kernel_rfl) (fun _ _ _ h => h) hS (by rfl) ?ha13x12 ?ra13x12
  case ha13x12 =>
    intro w9 s9
    clear s9
    go_simp
    try (with_reducible rfl)
  simp only [List.setIfInBounds_toArray, List.set_cons_zero, List.set_cons_succ]
  refine held_take (i := 14) 55 (v := ?va14x13) rfl rfl (by kernel_rfl) (by kernel_rfl) (by kernel_rfl) (fun _ _ _ h => h) hS (by rfl) ?ha14x13 ?ra14x13
  case ha14x13 =>
    intro w9 s9
    clear s9
    go_simp
    try (with_reducible rfl)
  simp only [List.setIfInBounds_toArray, List.set_cons_zero, List.set_cons_succ]
  refine held_take (i := 15) 56 (v := ?va15x14) rfl rfl (by kernel_rfl) (by kernel_rfl) (by kernel_rfl) (fun _ _ _ h => h) hS (by rfl) ?ha15x14 ?ra15x14
  case ha15x14 =>
    intro w9 s9
    clear s9
    go_simp
    try (with_reducible rfl)
  simp only [List.setIfInBounds_toArray, List.set_cons_zero, List.set_cons_succ]
  refine held_take (i := 16) 57 (v := ?va16x15) rfl rfl (by kernel_rfl) (by kernel_rfl) (by kernel_rfl) (fun _ _ _ h => h) hS (by rfl) ?ha16x15 ?ra16x15
  case ha16x15 =>
    intro w9 s9
    clear s9
    go_simp
    try (with_reducible rfl)
  simp only [List.setIfInBounds_toArray, List.set_cons_zero, List.set_cons_succ]
  refine held_take (i := 17) 58 (v := ?va17x16) rfl rfl (by kernel_rfl) (by kernel_rfl) (by kernel_rfl) (fun _ _ _ h => h) hS (by rfl) ?ha17x16 ?ra17x16
  case ha17x16 =>
    intro w9 s9
    clear s9
    go_simp
    try (with_reducible rfl)
  simp only [List.setIfInBounds_toArray, List.set_cons_zero, List.set_cons_succ]
  refine held_take (i := 18) 59 (v := ?va18x17) rfl rfl (by kernel_rfl) (by kernel_rfl) (by kernel_rfl) (fun _ _ _ h => h) hS (by rfl) ?ha18x17 ?ra18x17
  case ha18x17 =>
    intro w9 s9
    clear s9
    go_simp
    try (with_reducible rfl)
  simp only [List.setIfInBounds_toArray, List.set_cons_zero, List.set_cons_succ]
  refine held_take (i := 19) 60 (v := ?va19x18) rfl rfl (by kernel_rfl) (by kernel_rfl) (by kernel_rfl) (fun _ _ _ h => h) hS (by rfl) ?ha19x18 ?ra19x18
  case ha19x18 =>
    intro w9 s9
    clear s9
    go_simp
    try (with_reducible rfl)
  simp only [List.setIfInBounds_toArray, List.set_cons_zero, List.set_cons_succ]
  refine held_none (i := 20) 61 rfl rfl (by kernel_rfl) (by kernel_rfl) (by kernel_rfl) (fun _ _ _ h => h) hS (by rfl) ?_
  simp only [List.setIfInBounds_toArray, List.set_cons_zero, List.set_cons_succ]
  refine held_none (i := 21) 62 rfl rfl (by kernel_rfl) (by kernel_rfl) (by kernel_rfl) (fun _ _ _ h => h) hS (by rfl) ?_
  simp only [List.setIfInBounds_toArray, List.set_cons_zero, List.set_cons_succ]
  refine held_none (i := 22) 63 rfl rfl (by kernel_rfl) (by kernel_rfl) (by kernel_rfl) (fun _ _ _ h => h) hS (by rfl) ?_
  simp only [List.setIfInBounds_toArray, List.set_cons_zero, List.set_cons_succ]
  refine held_none (i := 23) 64 rfl rfl (by kernel_rfl) (by kernel_rfl) (by kernel_rfl) (fun _ _ _ h => h) hS (by rfl) ?_
  simp only [List.setIfInBounds_toArray, List.set_cons_zero, List.set_cons_succ]
  refine held_none (i := 24) 65 rfl rfl (by kernel_rfl) (by kernel_rfl) (by kernel_rfl) (fun _ _ _ h => h) hS (by rfl) ?_
  simp only [List.setIfInBounds_toArray, List.set_cons_zero, List.set_cons_succ]
  refine held_none (i := 25) 66 rfl rfl (by kernel_rfl) (by kernel_rfl) (by kernel_rfl) (fun _ _ _ h => h) hS (by rfl) ?_
  simp only [List.setIfInBounds_toArray, List.set_cons_zero, List.set_cons_succ]
  refine held_take (i := 26) 67 (v := ?va26x25) rfl rfl (by kernel_rfl) (by kernel_rfl) (by kernel_rfl) (fun _ _ _ h => h) hS (by rfl) ?ha26x25 ?ra26x25
  case ha26x25 =>
    intro w9 s9
    clear s9
    go_simp
    try (with_reducible rfl)
  simp only [List.setIfInBounds_toArray, List.set_cons_zero, List.set_cons_succ]
  refine held_take (i := 27) 68 (v := ?va27x26) rfl rfl (by kernel_rfl) (by kernel_rfl) (by kernel_rfl) (fun _ _ _ h => h) hS (by rfl) ?ha27x26 ?ra27x26
  case ha27x26 =>
    intro w9 s9
    clear s9
    go_simp
    try (with_reducible rfl)
  simp only [List.setIfInBounds_toArray, List.set_cons_zero, List.set_cons_succ]
  refine held_take (i := 28) 69 (v := ?va28x27) rfl rfl (by kernel_rfl) (by kernel_rfl) (by kernel_rfl) (fun _ _ _ h => h) hS (by rfl) ?ha28x27 ?ra28x27
  case ha28x27 =>
    intro w9 s9
    clear s9
    go_simp
    try (with_reducible rfl)
  simp only [List.setIfInBounds_toArray, List.set_cons_zero, List.set_cons_succ]
  refine held_take (i := 29) 70 (v := ?va29x28) rfl rfl (by kernel_rfl) (by kernel_rfl) (by kernel_rfl) (fun _ _ _ h => h) hS (by rfl) ?ha29x28 ?ra29x28
  case ha29x28 =>
    intro w9 s9
    obtain ⟨q0, q1, q2, q3, q4, q5, q6, q7, q8, q9⟩ := cells10 (kept X.out s9)
    clear s9
    go_simp
    try (with_reducible rfl)
  simp only [List.setIfInBounds_toArray, List.set_cons_zero, List.set_cons_succ]
  refine held_take (i := 30) 71 (v := ?va30x29) rfl rfl (by kernel_rfl) (by kernel_rfl) (by kernel_rfl) (fun _ _ _ h => h) hS (by rfl) ?ha30x29 ?ra30x29
  case ha30x29 =>
    intro w9 s9
    obtain ⟨q0, q1, q2, q3, q4, q5, q6, q7, q8, q9⟩ := cells10 (kept W.out s9)
    clear s9
    go_simp
    try (with_reducible rfl)
  simp only [List.setIfInBounds_toArray, List.set_cons_zero, List.set_cons_succ]
  refine held_take (i := 31) 72 (v := ?va31x30) rfl rfl (by kernel_rfl) (by kernel_rfl) (by kernel_rfl) (fun _ _ _ h => h) hS (by rfl) ?ha31x30 ?ra31x30
  case ha31x30 =>
    intro w9 s9
    clear s9
    go_simp
    try (with_reducible rfl)
  simp only [List.setIfInBounds_toArray, List.set_cons_zero, List.set_cons_succ]
  refine held_take (i := 32) 73 (v := ?va32x31) rfl rfl (by kernel_rfl) (by kernel_rfl) (by kernel_rfl) (fun _ _ _ h => h) hS (by rfl) ?ha32x31 ?ra32x31
  case ha32x31 =>
    intro w9 s9
    clear s9
    go_simp
    try (with_reducible rfl)
  simp only [List.setIfInBounds_toArray, List.set_cons_zero, List.set_cons_succ]
  refine held_take (i := 33) 74 (v := ?va33x32) rfl rfl (by kernel_rfl) (by kernel_rfl) (by kernel_rfl) (fun _ _ _ h => h) hS (by rfl) ?ha33x32 ?ra33x32
  case ha33x32 =>
    intro w9 s9
    clear s9
    go_simp
    try (with_reducible rfl)
  simp only [List.setIfInBounds_toArray, List.set_cons_zero, List.set_cons_succ]
  refine held_take (i := 34) 75 (v := ?va34x33) rfl rfl (by kernel_rfl) (by kernel_rfl) (by kernel_rfl) (fun _ _ _ h => h) hS (by rfl) ?ha34x33 ?ra34x33
  case ha34x33 =>
    intro w9 s9
    clear s9
    go_simp
    try (with_reducible rfl)
  simp only [List.setIfInBounds_toArray, List.set_cons_zero, List.set_cons_succ]
  refine held_take (i := 35) 76 (v := ?va35x34) rfl rfl (by kernel_rfl) (by kernel_rfl) (by kernel_rfl) (fun _ _ _ h => h) hS (by rfl) ?ha35x34 ?ra35x34
  case ha35x34 =>
    intro w9 s9
    clear s9
    go_simp
    try (with_reducible rfl)
  simp only [List.setIfInBounds_toArray, List.set_cons_zero, List.set_cons_succ]
  refine held_none (i := 36) 77 rfl rfl (by kernel_rfl) (by kernel_rfl) (by kernel_rfl) (fun _ _ _ h => h) hS (by rfl) ?_
  simp only [List.setIfInBounds_toArray, List.set_cons_zero, List.set_cons_succ]
  refine held_none (i := 37) 78 rfl rfl (by kernel_rfl) (by kernel_rfl) (by kernel_rfl) (fun _ _ _ h => h) hS (by rfl) ?_
  simp only [List.setIfInBounds_toArray, List.set_cons_zero, List.set_cons_succ]
  refine held_take (i := 38) 79 (v := ?va38x37) rfl rfl (by kernel_rfl) (by kernel_rfl) (by kernel_rfl) (fun _ _ _ h => h) hS (by rfl) ?ha38x37 ?ra38x37
  case ha38x37 =>
    intro w9 s9
    clear s9
    go_simp
    try (with_reducible rfl)
  simp only [List.setIfInBounds_toArray, List.set_cons_zero, List.set_cons_succ]
  refine held_take (i := 39) 80 (v := ?va39x38) rfl rfl (by kernel_rfl) (by kernel_rfl) (by kernel_rfl) (fun _ _ _ h => h) hS (by rfl) ?ha39x38 ?ra39x38
  case ha39x38 =>
    intro w9 s9
    clear s9
    go_simp
    try (with_reducible rfl)
  simp only [List.setIfInBounds_toArray, List.set_cons_zero, List.set_cons_succ]
  refine held_take (i := 40) 81 (v := ?va40x39) rfl rfl (by kernel_rfl) (by kernel_rfl) (by kernel_rfl) (fun _ _ _ h => h) hS (by rfl) ?ha40x39 ?ra40x39
  case ha40x39 =>
    intro w9 s9
    clear s9
    go_simp
    try (with_reducible rfl)
  simp only [List.setIfInBounds_toArray, List.set_cons_zero, List.set_cons_succ]
  refine held_take (i := 41) 82 (v := ?va41x40) rfl rfl (by kernel_rfl) (by kernel_rfl) (by kernel_rfl) (fun _ _ _ h => h) hS (by rfl) ?ha41x40 ?ra41x40
  case ha41x40 =>
    intro w9 s9
    clear s9
    go_simp
    try (with_reducible rfl)
  simp only [List.setIfInBounds_toArray, List.set_cons_zero, List.set_cons_succ]
  refine held_take (i := 42) 83 (v := ?va42x41) rfl rfl (by kernel_rfl) (by kernel_rfl) (by kernel_rfl) (fun _ _ _ h => h) hS (by rfl) ?ha42x41 ?ra42x41
  case ha42x41 =>
    intro w9 s9
    clear s9
    go_simp
    try (with_reducible rfl)
  simp only [List.setIfInBounds_toArray, List.set_cons_zero, List.set_cons_succ]
  refine held_take (i := 43) 84 (v := ?va43x42) rfl rfl (by kernel_rfl) (by kernel_rfl) (by kernel_rfl) (fun _ _ _ h => h) hS (by rfl) ?ha43x42 ?ra43x42
  case ha43x42 =>
    intro w9 s9
    clear s9
    go_simp
    try (with_reducible rfl)
  simp only [List.setIfInBounds_toArray, List.set_cons_zero, List.set_cons_succ]
  refine held_take (i := 44) 85 (v := ?va44x43) rfl rfl (by kernel_rfl) (by kernel_rfl) (by kernel_rfl) (fun _ _ _ h => h) hS (by rfl) ?ha44x43 ?ra44x43
  case ha44x43 =>
    intro w9 s9
    clear s9
    go_simp
    try (with_reducible rfl)
  simp only [List.setIfInBounds_toArray, List.set_cons_zero, List.set_cons_succ]
  refine held_take (i := 45) 86 (v := ?va45x44) rfl rfl (by kernel_rfl) (by kernel_rfl) (by kernel_rfl) (fun _ _ _ h => h) hS (by rfl) ?ha45x44 ?ra45x44
  case ha45x44 =>
    intro w9 s9
    clear s9
    go_simp
    try (with_reducible rfl)
  simp only [List.setIfInBounds_toArray, List.set_cons_zero, List.set_cons_succ]
  refine held_take (i := 46) 87 (v := ?va46x45) rfl rfl (by kernel_rfl) (by kernel_rfl) (by kernel_rfl) (fun _ _ _ h => h) hS (by rfl) ?ha46x45 ?ra46x45
  case ha46x45 =>
    intro w9 s9
    clear s9
    go_simp
    try (with_reducible rfl)
  simp only [List.setIfInBounds_toArray, List.set_cons_zero, List.set_cons_succ]
  refine held_take (i := 47) 88 (v := ?va47x46) rfl rfl (by kernel_rfl) (by kernel_rfl) (by kernel_rfl) (fun _ _ _ h => h) hS (by rfl) ?ha47x46 ?ra47x46
  case ha47x46 =>
    intro w9 s9
    clear s9
    go_simp
    try (with_reducible rfl)
  simp only [List.setIfInBounds_toArray, List.set_cons_zero, List.set_cons_succ]
  refine held_take (i := 48) 6 (v := ?va48x47) rfl rfl (by kernel_rfl) (by kernel_rfl) (by kernel_rfl) (fun _ _ _ h => h) hS (by rfl) ?ha48x47 ?ra48x47
  case ha48x47 =>
    intro w9 s9
    clear s9
    go_simp
    try (with_reducible rfl)
  simp only [List.setIfInBounds_toArray, List.set_cons_zero, List.set_cons_succ]
  refine wpAnyH_done (by kernel_rfl) ?_ _
  go_wp2_with fail
  go_ret
  exact ⟨rfl, chain B.out hS⟩
set_option maxHeartbeats 3200000 in
set_option maxRecDepth 20000 in
theorem recCaps_wft (ci : Int) (pa : Int) (ob : Int) (ow : Int) (ri : Int) (ba : Int) (de : Int) (ex : Int) (cu : Int) (rv : Bool) (y0 : Int) (y1 : Int) (y2 : Int) (y3 : Int) (y4 : Int) (y5 : Int) (y6 : Int) (y7 : Int) (y8 : Int) (y9 : Bool) (id : Int) (s a : ByteArray) (w : World)
    (P1 : Hid (∀ w, Calls Try.prog 10 #[.agg #[.int .i64 ci, .int .i64 pa, .int .i64 ob, .int .i64 ow, .int .i64 ri, .int .i64 ba, .int .i64 de, .int .i64 ex, .int .i64 cu, .bool rv]] w fun e' w' => e' = .returned (.tuple #[.string a, .int .i64 1]) ∧ Below w.heap.size w w'))
    (P2 : Hid (∀ w, Calls Try.prog 11 #[.agg #[.int .i64 ci, .int .i64 pa, .int .i64 ob, .int .i64 ow, .int .i64 ri, .int .i64 ba, .int .i64 de, .int .i64 ex, .int .i64 cu, .bool rv]] w fun e' w' => e' = .returned (.tuple #[.string a, .bool false]) ∧ Below w.heap.size w w'))
    (T1 : Hid (∀ w, Calls Try.prog 12 #[.int .i64 id, .string s] w fun e' w' => e' = .returned (.tuple #[.agg #[.int .i64 y0, .int .i64 y1, .int .i64 y2, .int .i64 y3, .int .i64 y4, .int .i64 y5, .int .i64 y6, .int .i64 y7, .int .i64 y8, .bool y9], .int .i64 0]) ∧ Below w.heap.size w w'))
    (T2 : Hid (∀ w, Calls Try.prog 13 #[.int .i64 id, .string s] w fun e' w' => e' = .returned (.tuple #[.agg #[.int .i64 y0, .int .i64 y1, .int .i64 y2, .int .i64 y3, .int .i64 y4, .int .i64 y5, .int .i64 y6, .int .i64 y7, .int .i64 y8, .bool y9], .bool true]) ∧ Below w.heap.size w w'))
    (R1 : Hid (∀ w, Calls Try.prog 14 #[.agg #[.int .i64 ci, .int .i64 pa, .int .i64 ob, .int .i64 ow, .int .i64 ri, .int .i64 ba, .int .i64 de, .int .i64 ex, .int .i64 cu, .bool rv]] w fun e' w' => e' = .returned (.bool false) ∧ Below w.heap.size w w'))
    (R2 : Hid (∀ w, Calls Try.prog 15 #[.agg #[.int .i64 ci, .int .i64 pa, .int .i64 ob, .int .i64 ow, .int .i64 ri, .int .i64 ba, .int .i64 de, .int .i64 ex, .int .i64 cu, .bool rv]] w fun e' w' => e' = .returned (.bool false) ∧ Below w.heap.size w w'))
    :
    Calls Try.prog 3 #[.agg #[.int .i64 ci, .int .i64 pa, .int .i64 ob, .int .i64 ow, .int .i64 ri, .int .i64 ba, .int .i64 de, .int .i64 ex, .int .i64 cu, .bool rv], .int .i64 id, .string s] w fun e w' => e = .returned (.bool true) ∧ Below w.heap.size w w' := by
  go_enter Try.func3, Try.ntmps3
  try simp only [List.append_eq, List.cons_append, List.nil_append]
  go_wp2_with fail
  refine (examples_any _).mono ?_
  rintro e w1 ⟨rfl, b1⟩
  have K : Hid (w1.heap[w.heap.size]? = some (.cells #[.int .i64 ci, .int .i64 pa, .int .i64 ob, .int .i64 ow, .int .i64 ri, .int .i64 ba, .int .i64 de, .int .i64 ex, .int .i64 cu, .bool rv] 23)) := Lib.hid (kept1 b1)
  have B : Hid (Below w.heap.size w w1) := Lib.hid (((Below.refl _ _).alloc (Nat.le_refl _) _).trans (b1.mono (by simp)))
  clear b1
  obtain ⟨k0, k1, k2, k3, k4, k5, k6, k7, k8, k9⟩ := cells10 K.out
  go_wp2_with fail
  refine (P1.out _).mono ?_
  rintro e w2 ⟨rfl, b2⟩
  clear k0 k1 k2 k3 k4 k5 k6 k7 k8 k9
  replace K := Lib.hid (kept K.out b2)
  replace B := Lib.hid (chain B.out b2)
  clear b2
  obtain ⟨k0, k1, k2, k3, k4, k5, k6, k7, k8, k9⟩ := cells10 K.out
  go_wp2_with fail
  refine (P2.out _).mono ?_
  rintro e w3 ⟨rfl, b3⟩
  clear k0 k1 k2 k3 k4 k5 k6 k7 k8 k9
  replace K := Lib.hid (kept K.out b3)
  replace B := Lib.hid (chain B.out b3)
  clear b3
  go_wp2_with fail
  refine (T1.out _).mono ?_
  rintro e w4 ⟨rfl, b4⟩
  replace K := Lib.hid (kept K.out b4)
  replace B := Lib.hid (chain B.out b4)
  clear b4
  go_wp2_with fail
  refine (T2.out _).mono ?_
  rintro e w5 ⟨rfl, b5⟩
  have X := Lib.hid (kept1 b5)
  replace K := Lib.hid (kept2 K.out b5)
  replace B := Lib.hid (chain1 B.out b5)
  clear b5
  have W : Hid ((w5.alloc (.cells #[.int .i64 y0, .int .i64 y1, .int .i64 y2, .int .i64 y3, .int .i64 y4, .int .i64 y5, .int .i64 y6, .int .i64 y7, .int .i64 y8, .bool y9] 23)).heap[w5.heap.size]? = some (.cells #[.int .i64 y0, .int .i64 y1, .int .i64 y2, .int .i64 y3, .int .i64 y4, .int .i64 y5, .int .i64 y6, .int .i64 y7, .int .i64 y8, .bool y9] 23)) := Lib.hid (heap_alloc_new _ _)
  replace K := Lib.hid (kept0 K.out (.cells #[.int .i64 y0, .int .i64 y1, .int .i64 y2, .int .i64 y3, .int .i64 y4, .int .i64 y5, .int .i64 y6, .int .i64 y7, .int .i64 y8, .bool y9] 23))
  replace X := Lib.hid (kept0 X.out (.cells #[.int .i64 y0, .int .i64 y1, .int .i64 y2, .int .i64 y3, .int .i64 y4, .int .i64 y5, .int .i64 y6, .int .i64 y7, .int .i64 y8, .bool y9] 23))
  replace B : Hid (Below w.heap.size w (w5.alloc (.cells #[.int .i64 y0, .int .i64 y1, .int .i64 y2, .int .i64 y3, .int .i64 y4, .int .i64 y5, .int .i64 y6, .int .i64 y7, .int .i64 y8, .bool y9] 23))) := Lib.hid (B.out.alloc B.out.size _)
  go_wp2_with fail
  generalize w5.heap.size = g5 at *
  generalize w4.heap.size = g4 at *
  generalize w5.alloc (.cells #[.int .i64 y0, .int .i64 y1, .int .i64 y2, .int .i64 y3, .int .i64 y4, .int .i64 y5, .int .i64 y6, .int .i64 y7, .int .i64 y8, .bool y9] 23) = v5 at *
  clear P1 P2 T1 T2
  refine wp_region_held_drew (S := fun w' => Below v5.heap.size v5 w') (by kernel_rfl) (Below.refl _ _).drew (fun hS => ?_)
  refine held_take (i := 0) 41 (v := ?va0x1) rfl rfl (by kernel_rfl) (by kernel_rfl) (by kernel_rfl) (fun _ _ _ h => h) hS (by rfl) ?ha0x1 ?ra0x1
  case ha0x1 =>
    intro w9 s9
    clear s9
    go_simp
    try (with_reducible rfl)
  simp only [List.setIfInBounds_toArray, List.set_cons_zero, List.set_cons_succ]
  refine held_take (i := 1) 42 (v := ?va1x2) rfl rfl (by kernel_rfl) (by kernel_rfl) (by kernel_rfl) (fun _ _ _ h => h) hS (by rfl) ?ha1x2 ?ra1x2
  case ha1x2 =>
    intro w9 s9
    clear s9
    go_simp
    try (with_reducible rfl)
  simp only [List.setIfInBounds_toArray, List.set_cons_zero, List.set_cons_succ]
  refine held_take (i := 2) 43 (v := ?va2x3) rfl rfl (by kernel_rfl) (by kernel_rfl) (by kernel_rfl) (fun _ _ _ h => h) hS (by rfl) ?ha2x3 ?ra2x3
  case ha2x3 =>
    intro w9 s9
    obtain ⟨q0, q1, q2, q3, q4, q5, q6, q7, q8, q9⟩ := cells10 (kept K.out s9)
    clear s9
    go_simp
    try (with_reducible rfl)
  simp only [List.setIfInBounds_toArray, List.set_cons_zero, List.set_cons_succ]
  refine held_take (i := 4) 45 (v := ?va4x4) rfl rfl (by kernel_rfl) (by kernel_rfl) (by kernel_rfl) (fun _ _ _ h => h) hS (by rfl) ?ha4x4 ?ra4x4
  case ha4x4 =>
    intro w9 s9
    obtain ⟨q0, q1, q2, q3, q4, q5, q6, q7, q8, q9⟩ := cells10 (kept K.out s9)
    clear s9
    go_simp
    try (with_reducible rfl)
  simp only [List.setIfInBounds_toArray, List.set_cons_zero, List.set_cons_succ]
  refine held_step (i := 3) rfl (by kernel_rfl) (fun K hK => ?_)
  have HK := Lib.hid hK
  clear hK
  go_simp
  go_wp2_with fail
  refine (R1.out _).mono ?_
  rintro e v6 ⟨rfl, b6⟩
  refine HK.out _ _ ?_ ?_
  · exact chain hS b6
  clear HK K
  try simp only [Act.put, List.setIfInBounds_toArray, List.set_cons_zero, List.set_cons_succ]
  have hS9 := chain hS b6
  clear hS b6
  have hS := hS9
  clear hS9
  refine held_step (i := 5) rfl (by kernel_rfl) (fun K hK => ?_)
  have HK := Lib.hid hK
  clear hK
  go_simp
  go_wp2_with fail
  refine (R2.out _).mono ?_
  rintro e v7 ⟨rfl, b7⟩
  refine HK.out _ _ ?_ ?_
  · exact chain hS b7
  clear HK K
  try simp only [Act.put, List.setIfInBounds_toArray, List.set_cons_zero, List.set_cons_succ]
  have hS9 := chain hS b7
  clear hS b7
  have hS := hS9
  clear hS9
  refine held_take (i := 6) 47 (v := ?va6x5) rfl rfl (by kernel_rfl) (by kernel_rfl) (by kernel_rfl) (fun _ _ _ h => h) hS (by rfl) ?ha6x5 ?ra6x5
  case ha6x5 =>
    intro w9 s9
    clear s9
    go_simp
    try (with_reducible rfl)
  simp only [List.setIfInBounds_toArray, List.set_cons_zero, List.set_cons_succ]
  refine held_take (i := 7) 48 (v := ?va7x6) rfl rfl (by kernel_rfl) (by kernel_rfl) (by kernel_rfl) (fun _ _ _ h => h) hS (by rfl) ?ha7x6 ?ra7x6
  case ha7x6 =>
    intro w9 s9
    clear s9
    go_simp
    try (with_reducible rfl)
  simp only [List.setIfInBounds_toArray, List.set_cons_zero, List.set_cons_succ]
  refine held_take (i := 8) 49 (v := ?va8x7) rfl rfl (by kernel_rfl) (by kernel_rfl) (by kernel_rfl) (fun _ _ _ h => h) hS (by rfl) ?ha8x7 ?ra8x7
  case ha8x7 =>
    intro w9 s9
    clear s9
    go_simp
    try (with_reducible rfl)
  simp only [List.setIfInBounds_toArray, List.set_cons_zero, List.set_cons_succ]
  refine held_take (i := 9) 50 (v := ?va9x8) rfl rfl (by kernel_rfl) (by kernel_rfl) (by kernel_rfl) (fun _ _ _ h => h) hS (by rfl) ?ha9x8 ?ra9x8
  case ha9x8 =>
    intro w9 s9
    clear s9
    go_simp
    try (with_reducible rfl)
  simp only [List.setIfInBounds_toArray, List.set_cons_zero, List.set_cons_succ]
  refine held_take (i := 10) 51 (v := ?va10x9) rfl rfl (by kernel_rfl) (by kernel_rfl) (by kernel_rfl) (fun _ _ _ h => h) hS (by rfl) ?ha10x9 ?ra10x9
  case ha10x9 =>
    intro w9 s9
    clear s9
    go_simp
    try (with_reducible rfl)
  simp only [List.setIfInBounds_toArray, List.set_cons_zero, List.set_cons_succ]
  refine held_take (i := 11) 52 (v := ?va11x10) rfl rfl (by kernel_rfl) (by kernel_rfl) (by kernel_rfl) (fun _ _ _ h => h) hS (by rfl) ?ha11x10 ?ra11x10
  case ha11x10 =>
    intro w9 s9
    clear s9
    go_simp
    try (with_reducible rfl)
  simp only [List.setIfInBounds_toArray, List.set_cons_zero, List.set_cons_succ]
  refine held_take (i := 12) 53 (v := ?va12x11) rfl rfl (by kernel_rfl) (by kernel_rfl) (by kernel_rfl) (fun _ _ _ h => h) hS (by rfl) ?ha12x11 ?ra12x11
  case ha12x11 =>
    intro w9 s9
    clear s9
    go_simp
    try (with_reducible rfl)
  simp only [List.setIfInBounds_toArray, List.set_cons_zero, List.set_cons_succ]
  refine held_take (i := 13) 54 (v := ?va13x12) rfl rfl (by kernel_rfl) (by kernel_rfl) (by kernel_rfl) (fun _ _ _ h => h) hS (by rfl) ?ha13x12 ?ra13x12
  case ha13x12 =>
    intro w9 s9
    clear s9
    go_simp
    try (with_reducible rfl)
  simp only [List.setIfInBounds_toArray, List.set_cons_zero, List.set_cons_succ]
  refine held_take (i := 14) 55 (v := ?va14x13) rfl rfl (by kernel_rfl) (by kernel_rfl) (by kernel_rfl) (fun _ _ _ h => h) hS (by rfl) ?ha14x13 ?ra14x13
  case ha14x13 =>
    intro w9 s9
    clear s9
    go_simp
    try (with_reducible rfl)
  simp only [List.setIfInBounds_toArray, List.set_cons_zero, List.set_cons_succ]
  refine held_take (i := 15) 56 (v := ?va15x14) rfl rfl (by kernel_rfl) (by kernel_rfl) (by kernel_rfl) (fun _ _ _ h => h) hS (by rfl) ?ha15x14 ?ra15x14
  case ha15x14 =>
    intro w9 s9
    clear s9
    go_simp
    try (with_reducible rfl)
  simp only [List.setIfInBounds_toArray, List.set_cons_zero, List.set_cons_succ]
  refine held_none (i := 16) 57 rfl rfl (by kernel_rfl) (by kernel_rfl) (by kernel_rfl) (fun _ _ _ h => h) hS (by rfl) ?_
  simp only [List.setIfInBounds_toArray, List.set_cons_zero, List.set_cons_succ]
  refine held_none (i := 17) 58 rfl rfl (by kernel_rfl) (by kernel_rfl) (by kernel_rfl) (fun _ _ _ h => h) hS (by rfl) ?_
  simp only [List.setIfInBounds_toArray, List.set_cons_zero, List.set_cons_succ]
  refine held_take (i := 18) 59 (v := ?va18x17) rfl rfl (by kernel_rfl) (by kernel_rfl) (by kernel_rfl) (fun _ _ _ h => h) hS (by rfl) ?ha18x17 ?ra18x17
  case ha18x17 =>
    intro w9 s9
    clear s9
    go_simp
    try (with_reducible rfl)
  simp only [List.setIfInBounds_toArray, List.set_cons_zero, List.set_cons_succ]
  refine held_take (i := 19) 60 (v := ?va19x18) rfl rfl (by kernel_rfl) (by kernel_rfl) (by kernel_rfl) (fun _ _ _ h => h) hS (by rfl) ?ha19x18 ?ra19x18
  case ha19x18 =>
    intro w9 s9
    clear s9
    go_simp
    try (with_reducible rfl)
  simp only [List.setIfInBounds_toArray, List.set_cons_zero, List.set_cons_succ]
  refine held_take (i := 20) 61 (v := ?va20x19) rfl rfl (by kernel_rfl) (by kernel_rfl) (by kernel_rfl) (fun _ _ _ h => h) hS (by rfl) ?ha20x19 ?ra20x19
  case ha20x19 =>
    intro w9 s9
    clear s9
    go_simp
    try (with_reducible rfl)
  simp only [List.setIfInBounds_toArray, List.set_cons_zero, List.set_cons_succ]
  refine held_take (i := 21) 62 (v := ?va21x20) rfl rfl (by kernel_rfl) (by kernel_rfl) (by kernel_rfl) (fun _ _ _ h => h) hS (by rfl) ?ha21x20 ?ra21x20
  case ha21x20 =>
    intro w9 s9
    clear s9
    go_simp
    try (with_reducible rfl)
  simp only [List.setIfInBounds_toArray, List.set_cons_zero, List.set_cons_succ]
  refine held_take (i := 22) 63 (v := ?va22x21) rfl rfl (by kernel_rfl) (by kernel_rfl) (by kernel_rfl) (fun _ _ _ h => h) hS (by rfl) ?ha22x21 ?ra22x21
  case ha22x21 =>
    intro w9 s9
    clear s9
    go_simp
    try (with_reducible rfl)
  simp only [List.setIfInBounds_toArray, List.set_cons_zero, List.set_cons_succ]
  refine held_take (i := 23) 64 (v := ?va23x22) rfl rfl (by kernel_rfl) (by kernel_rfl) (by kernel_rfl) (fun _ _ _ h => h) hS (by rfl) ?ha23x22 ?ra23x22
  case ha23x22 =>
    intro w9 s9
    clear s9
    go_simp
    try (with_reducible rfl)
  simp only [List.setIfInBounds_toArray, List.set_cons_zero, List.set_cons_succ]
  refine held_take (i := 24) 65 (v := ?va24x23) rfl rfl (by kernel_rfl) (by kernel_rfl) (by kernel_rfl) (fun _ _ _ h => h) hS (by rfl) ?ha24x23 ?ra24x23
  case ha24x23 =>
    intro w9 s9
    clear s9
    go_simp
    try (with_reducible rfl)
  simp only [List.setIfInBounds_toArray, List.set_cons_zero, List.set_cons_succ]
  refine held_take (i := 25) 66 (v := ?va25x24) rfl rfl (by kernel_rfl) (by kernel_rfl) (by kernel_rfl) (fun _ _ _ h => h) hS (by rfl) ?ha25x24 ?ra25x24
  case ha25x24 =>
    intro w9 s9
    clear s9
    go_simp
    try (with_reducible rfl)
  simp only [List.setIfInBounds_toArray, List.set_cons_zero, List.set_cons_succ]
  refine held_take (i := 26) 67 (v := ?va26x25) rfl rfl (by kernel_rfl) (by kernel_rfl) (by kernel_rfl) (fun _ _ _ h => h) hS (by rfl) ?ha26x25 ?ra26x25
  case ha26x25 =>
    intro w9 s9
    clear s9
    go_simp
    try (with_reducible rfl)
  simp only [List.setIfInBounds_toArray, List.set_cons_zero, List.set_cons_succ]
  refine held_take (i := 27) 68 (v := ?va27x26) rfl rfl (by kernel_rfl) (by kernel_rfl) (by kernel_rfl) (fun _ _ _ h => h) hS (by rfl) ?ha27x26 ?ra27x26
  case ha27x26 =>
    intro w9 s9
    clear s9
    go_simp
    try (with_reducible rfl)
  simp only [List.setIfInBounds_toArray, List.set_cons_zero, List.set_cons_succ]
  refine held_take (i := 28) 69 (v := ?va28x27) rfl rfl (by kernel_rfl) (by kernel_rfl) (by kernel_rfl) (fun _ _ _ h => h) hS (by rfl) ?ha28x27 ?ra28x27
  case ha28x27 =>
    intro w9 s9
    clear s9
    go_simp
    try (with_reducible rfl)
  simp only [List.setIfInBounds_toArray, List.set_cons_zero, List.set_cons_succ]
  refine held_take (i := 29) 70 (v := ?va29x28) rfl rfl (by kernel_rfl) (by kernel_rfl) (by kernel_rfl) (fun _ _ _ h => h) hS (by rfl) ?ha29x28 ?ra29x28
  case ha29x28 =>
    intro w9 s9
    obtain ⟨q0, q1, q2, q3, q4, q5, q6, q7, q8, q9⟩ := cells10 (kept X.out s9)
    clear s9
    go_simp
    try (with_reducible rfl)
  simp only [List.setIfInBounds_toArray, List.set_cons_zero, List.set_cons_succ]
  refine held_take (i := 30) 71 (v := ?va30x29) rfl rfl (by kernel_rfl) (by kernel_rfl) (by kernel_rfl) (fun _ _ _ h => h) hS (by rfl) ?ha30x29 ?ra30x29
  case ha30x29 =>
    intro w9 s9
    obtain ⟨q0, q1, q2, q3, q4, q5, q6, q7, q8, q9⟩ := cells10 (kept W.out s9)
    clear s9
    go_simp
    try (with_reducible rfl)
  simp only [List.setIfInBounds_toArray, List.set_cons_zero, List.set_cons_succ]
  refine held_take (i := 31) 72 (v := ?va31x30) rfl rfl (by kernel_rfl) (by kernel_rfl) (by kernel_rfl) (fun _ _ _ h => h) hS (by rfl) ?ha31x30 ?ra31x30
  case ha31x30 =>
    intro w9 s9
    clear s9
    go_simp
    try (with_reducible rfl)
  simp only [List.setIfInBounds_toArray, List.set_cons_zero, List.set_cons_succ]
  refine held_take (i := 32) 73 (v := ?va32x31) rfl rfl (by kernel_rfl) (by kernel_rfl) (by kernel_rfl) (fun _ _ _ h => h) hS (by rfl) ?ha32x31 ?ra32x31
  case ha32x31 =>
    intro w9 s9
    clear s9
    go_simp
    try (with_reducible rfl)
  simp only [List.setIfInBounds_toArray, List.set_cons_zero, List.set_cons_succ]
  refine held_take (i := 33) 74 (v := ?va33x32) rfl rfl (by kernel_rfl) (by kernel_rfl) (by kernel_rfl) (fun _ _ _ h => h) hS (by rfl) ?ha33x32 ?ra33x32
  case ha33x32 =>
    intro w9 s9
    clear s9
    go_simp
    try (with_reducible rfl)
  simp only [List.setIfInBounds_toArray, List.set_cons_zero, List.set_cons_succ]
  refine held_take (i := 34) 75 (v := ?va34x33) rfl rfl (by kernel_rfl) (by kernel_rfl) (by kernel_rfl) (fun _ _ _ h => h) hS (by rfl) ?ha34x33 ?ra34x33
  case ha34x33 =>
    intro w9 s9
    clear s9
    go_simp
    try (with_reducible rfl)
  simp only [List.setIfInBounds_toArray, List.set_cons_zero, List.set_cons_succ]
  refine held_take (i := 35) 76 (v := ?va35x34) rfl rfl (by kernel_rfl) (by kernel_rfl) (by kernel_rfl) (fun _ _ _ h => h) hS (by rfl) ?ha35x34 ?ra35x34
  case ha35x34 =>
    intro w9 s9
    clear s9
    go_simp
    try (with_reducible rfl)
  simp only [List.setIfInBounds_toArray, List.set_cons_zero, List.set_cons_succ]
  refine held_take (i := 36) 77 (v := ?va36x35) rfl rfl (by kernel_rfl) (by kernel_rfl) (by kernel_rfl) (fun _ _ _ h => h) hS (by rfl) ?ha36x35 ?ra36x35
  case ha36x35 =>
    intro w9 s9
    clear s9
    go_simp
    try (with_reducible rfl)
  simp only [List.setIfInBounds_toArray, List.set_cons_zero, List.set_cons_succ]
  refine held_take (i := 37) 78 (v := ?va37x36) rfl rfl (by kernel_rfl) (by kernel_rfl) (by kernel_rfl) (fun _ _ _ h => h) hS (by rfl) ?ha37x36 ?ra37x36
  case ha37x36 =>
    intro w9 s9
    clear s9
    go_simp
    try (with_reducible rfl)
  simp only [List.setIfInBounds_toArray, List.set_cons_zero, List.set_cons_succ]
  refine held_take (i := 38) 79 (v := ?va38x37) rfl rfl (by kernel_rfl) (by kernel_rfl) (by kernel_rfl) (fun _ _ _ h => h) hS (by rfl) ?ha38x37 ?ra38x37
  case ha38x37 =>
    intro w9 s9
    clear s9
    go_simp
    try (with_reducible rfl)
  simp only [List.setIfInBounds_toArray, List.set_cons_zero, List.set_cons_succ]
  refine held_take (i := 39) 80 (v := ?va39x38) rfl rfl (by kernel_rfl) (by kernel_rfl) (by kernel_rfl) (fun _ _ _ h => h) hS (by rfl) ?ha39x38 ?ra39x38
  case ha39x38 =>
    intro w9 s9
    clear s9
    go_simp
    try (with_reducible rfl)
  simp only [List.setIfInBounds_toArray, List.set_cons_zero, List.set_cons_succ]
  refine held_none (i := 40) 81 rfl rfl (by kernel_rfl) (by kernel_rfl) (by kernel_rfl) (fun _ _ _ h => h) hS (by rfl) ?_
  simp only [List.setIfInBounds_toArray, List.set_cons_zero, List.set_cons_succ]
  refine held_none (i := 41) 82 rfl rfl (by kernel_rfl) (by kernel_rfl) (by kernel_rfl) (fun _ _ _ h => h) hS (by rfl) ?_
  simp only [List.setIfInBounds_toArray, List.set_cons_zero, List.set_cons_succ]
  refine held_none (i := 42) 83 rfl rfl (by kernel_rfl) (by kernel_rfl) (by kernel_rfl) (fun _ _ _ h => h) hS (by rfl) ?_
  simp only [List.setIfInBounds_toArray, List.set_cons_zero, List.set_cons_succ]
  refine held_none (i := 43) 84 rfl rfl (by kernel_rfl) (by kernel_rfl) (by kernel_rfl) (fun _ _ _ h => h) hS (by rfl) ?_
  simp only [List.setIfInBounds_toArray, List.set_cons_zero, List.set_cons_succ]
  refine held_none (i := 44) 85 rfl rfl (by kernel_rfl) (by kernel_rfl) (by kernel_rfl) (fun _ _ _ h => h) hS (by rfl) ?_
  simp only [List.setIfInBounds_toArray, List.set_cons_zero, List.set_cons_succ]
  refine held_none (i := 45) 86 rfl rfl (by kernel_rfl) (by kernel_rfl) (by kernel_rfl) (fun _ _ _ h => h) hS (by rfl) ?_
  simp only [List.setIfInBounds_toArray, List.set_cons_zero, List.set_cons_succ]
  refine held_take (i := 46) 87 (v := ?va46x45) rfl rfl (by kernel_rfl) (by kernel_rfl) (by kernel_rfl) (fun _ _ _ h => h) hS (by rfl) ?ha46x45 ?ra46x45
  case ha46x45 =>
    intro w9 s9
    clear s9
    go_simp
    try (with_reducible rfl)
  simp only [List.setIfInBounds_toArray, List.set_cons_zero, List.set_cons_succ]
  refine held_take (i := 47) 88 (v := ?va47x46) rfl rfl (by kernel_rfl) (by kernel_rfl) (by kernel_rfl) (fun _ _ _ h => h) hS (by rfl) ?ha47x46 ?ra47x46
  case ha47x46 =>
    intro w9 s9
    clear s9
    go_simp
    try (with_reducible rfl)
  simp only [List.setIfInBounds_toArray, List.set_cons_zero, List.set_cons_succ]
  refine held_take (i := 48) 6 (v := ?va48x47) rfl rfl (by kernel_rfl) (by kernel_rfl) (by kernel_rfl) (fun _ _ _ h => h) hS (by rfl) ?ha48x47 ?ra48x47
  case ha48x47 =>
    intro w9 s9
    clear s9
    go_simp
    try (with_reducible rfl)
  simp only [List.setIfInBounds_toArray, List.set_cons_zero, List.set_cons_succ]
  refine wpAnyH_done (by kernel_rfl) ?_ _
  go_wp2_with fail
  go_ret
  exact ⟨rfl, chain B.out hS⟩
set_option maxHeartbeats 3200000 in
set_option maxRecDepth 20000 in
theorem recCaps_wff (ci : Int) (pa : Int) (ob : Int) (ow : Int) (ri : Int) (ba : Int) (de : Int) (ex : Int) (cu : Int) (rv : Bool) (y0 : Int) (y1 : Int) (y2 : Int) (y3 : Int) (y4 : Int) (y5 : Int) (y6 : Int) (y7 : Int) (y8 : Int) (y9 : Bool) (id : Int) (s a : ByteArray) (w : World)
    (P1 : Hid (∀ w, Calls Try.prog 10 #[.agg #[.int .i64 ci, .int .i64 pa, .int .i64 ob, .int .i64 ow, .int .i64 ri, .int .i64 ba, .int .i64 de, .int .i64 ex, .int .i64 cu, .bool rv]] w fun e' w' => e' = .returned (.tuple #[.string a, .int .i64 1]) ∧ Below w.heap.size w w'))
    (P2 : Hid (∀ w, Calls Try.prog 11 #[.agg #[.int .i64 ci, .int .i64 pa, .int .i64 ob, .int .i64 ow, .int .i64 ri, .int .i64 ba, .int .i64 de, .int .i64 ex, .int .i64 cu, .bool rv]] w fun e' w' => e' = .returned (.tuple #[.string a, .bool false]) ∧ Below w.heap.size w w'))
    (T1 : Hid (∀ w, Calls Try.prog 12 #[.int .i64 id, .string s] w fun e' w' => e' = .returned (.tuple #[.agg #[.int .i64 y0, .int .i64 y1, .int .i64 y2, .int .i64 y3, .int .i64 y4, .int .i64 y5, .int .i64 y6, .int .i64 y7, .int .i64 y8, .bool y9], .int .i64 2]) ∧ Below w.heap.size w w'))
    (T2 : Hid (∀ w, Calls Try.prog 13 #[.int .i64 id, .string s] w fun e' w' => e' = .returned (.tuple #[.agg #[.int .i64 y0, .int .i64 y1, .int .i64 y2, .int .i64 y3, .int .i64 y4, .int .i64 y5, .int .i64 y6, .int .i64 y7, .int .i64 y8, .bool y9], .bool false]) ∧ Below w.heap.size w w'))
    (R1 : Hid (∀ w, Calls Try.prog 14 #[.agg #[.int .i64 ci, .int .i64 pa, .int .i64 ob, .int .i64 ow, .int .i64 ri, .int .i64 ba, .int .i64 de, .int .i64 ex, .int .i64 cu, .bool rv]] w fun e' w' => e' = .returned (.bool false) ∧ Below w.heap.size w w'))
    (R2 : Hid (∀ w, Calls Try.prog 15 #[.agg #[.int .i64 ci, .int .i64 pa, .int .i64 ob, .int .i64 ow, .int .i64 ri, .int .i64 ba, .int .i64 de, .int .i64 ex, .int .i64 cu, .bool rv]] w fun e' w' => e' = .returned (.bool false) ∧ Below w.heap.size w w'))
    :
    Calls Try.prog 3 #[.agg #[.int .i64 ci, .int .i64 pa, .int .i64 ob, .int .i64 ow, .int .i64 ri, .int .i64 ba, .int .i64 de, .int .i64 ex, .int .i64 cu, .bool rv], .int .i64 id, .string s] w fun e w' => e = .returned (.bool true) ∧ Below w.heap.size w w' := by
  go_enter Try.func3, Try.ntmps3
  try simp only [List.append_eq, List.cons_append, List.nil_append]
  go_wp2_with fail
  refine (examples_any _).mono ?_
  rintro e w1 ⟨rfl, b1⟩
  have K : Hid (w1.heap[w.heap.size]? = some (.cells #[.int .i64 ci, .int .i64 pa, .int .i64 ob, .int .i64 ow, .int .i64 ri, .int .i64 ba, .int .i64 de, .int .i64 ex, .int .i64 cu, .bool rv] 23)) := Lib.hid (kept1 b1)
  have B : Hid (Below w.heap.size w w1) := Lib.hid (((Below.refl _ _).alloc (Nat.le_refl _) _).trans (b1.mono (by simp)))
  clear b1
  obtain ⟨k0, k1, k2, k3, k4, k5, k6, k7, k8, k9⟩ := cells10 K.out
  go_wp2_with fail
  refine (P1.out _).mono ?_
  rintro e w2 ⟨rfl, b2⟩
  clear k0 k1 k2 k3 k4 k5 k6 k7 k8 k9
  replace K := Lib.hid (kept K.out b2)
  replace B := Lib.hid (chain B.out b2)
  clear b2
  obtain ⟨k0, k1, k2, k3, k4, k5, k6, k7, k8, k9⟩ := cells10 K.out
  go_wp2_with fail
  refine (P2.out _).mono ?_
  rintro e w3 ⟨rfl, b3⟩
  clear k0 k1 k2 k3 k4 k5 k6 k7 k8 k9
  replace K := Lib.hid (kept K.out b3)
  replace B := Lib.hid (chain B.out b3)
  clear b3
  go_wp2_with fail
  refine (T1.out _).mono ?_
  rintro e w4 ⟨rfl, b4⟩
  replace K := Lib.hid (kept K.out b4)
  replace B := Lib.hid (chain B.out b4)
  clear b4
  go_wp2_with fail
  refine (T2.out _).mono ?_
  rintro e w5 ⟨rfl, b5⟩
  have X := Lib.hid (kept1 b5)
  replace K := Lib.hid (kept2 K.out b5)
  replace B := Lib.hid (chain1 B.out b5)
  clear b5
  have W : Hid ((w5.alloc (.cells #[.int .i64 y0, .int .i64 y1, .int .i64 y2, .int .i64 y3, .int .i64 y4, .int .i64 y5, .int .i64 y6, .int .i64 y7, .int .i64 y8, .bool y9] 23)).heap[w5.heap.size]? = some (.cells #[.int .i64 y0, .int .i64 y1, .int .i64 y2, .int .i64 y3, .int .i64 y4, .int .i64 y5, .int .i64 y6, .int .i64 y7, .int .i64 y8, .bool y9] 23)) := Lib.hid (heap_alloc_new _ _)
  replace K := Lib.hid (kept0 K.out (.cells #[.int .i64 y0, .int .i64 y1, .int .i64 y2, .int .i64 y3, .int .i64 y4, .int .i64 y5, .int .i64 y6, .int .i64 y7, .int .i64 y8, .bool y9] 23))
  replace X := Lib.hid (kept0 X.out (.cells #[.int .i64 y0, .int .i64 y1, .int .i64 y2, .int .i64 y3, .int .i64 y4, .int .i64 y5, .int .i64 y6, .int .i64 y7, .int .i64 y8, .bool y9] 23))
  replace B : Hid (Below w.heap.size w (w5.alloc (.cells #[.int .i64 y0, .int .i64 y1, .int .i64 y2, .int .i64 y3, .int .i64 y4, .int .i64 y5, .int .i64 y6, .int .i64 y7, .int .i64 y8, .bool y9] 23))) := Lib.hid (B.out.alloc B.out.size _)
  go_wp2_with fail
  generalize w5.heap.size = g5 at *
  generalize w4.heap.size = g4 at *
  generalize w5.alloc (.cells #[.int .i64 y0, .int .i64 y1, .int .i64 y2, .int .i64 y3, .int .i64 y4, .int .i64 y5, .int .i64 y6, .int .i64 y7, .int .i64 y8, .bool y9] 23) = v5 at *
  clear P1 P2 T1 T2
  refine wp_region_held_drew (S := fun w' => Below v5.heap.size v5 w') (by kernel_rfl) (Below.refl _ _).drew (fun hS => ?_)
  refine held_take (i := 0) 41 (v := ?va0x1) rfl rfl (by kernel_rfl) (by kernel_rfl) (by kernel_rfl) (fun _ _ _ h => h) hS (by rfl) ?ha0x1 ?ra0x1
  case ha0x1 =>
    intro w9 s9
    clear s9
    go_simp
    try (with_reducible rfl)
  simp only [List.setIfInBounds_toArray, List.set_cons_zero, List.set_cons_succ]
  refine held_take (i := 1) 42 (v := ?va1x2) rfl rfl (by kernel_rfl) (by kernel_rfl) (by kernel_rfl) (fun _ _ _ h => h) hS (by rfl) ?ha1x2 ?ra1x2
  case ha1x2 =>
    intro w9 s9
    clear s9
    go_simp
    try (with_reducible rfl)
  simp only [List.setIfInBounds_toArray, List.set_cons_zero, List.set_cons_succ]
  refine held_take (i := 2) 43 (v := ?va2x3) rfl rfl (by kernel_rfl) (by kernel_rfl) (by kernel_rfl) (fun _ _ _ h => h) hS (by rfl) ?ha2x3 ?ra2x3
  case ha2x3 =>
    intro w9 s9
    obtain ⟨q0, q1, q2, q3, q4, q5, q6, q7, q8, q9⟩ := cells10 (kept K.out s9)
    clear s9
    go_simp
    try (with_reducible rfl)
  simp only [List.setIfInBounds_toArray, List.set_cons_zero, List.set_cons_succ]
  refine held_take (i := 4) 45 (v := ?va4x4) rfl rfl (by kernel_rfl) (by kernel_rfl) (by kernel_rfl) (fun _ _ _ h => h) hS (by rfl) ?ha4x4 ?ra4x4
  case ha4x4 =>
    intro w9 s9
    obtain ⟨q0, q1, q2, q3, q4, q5, q6, q7, q8, q9⟩ := cells10 (kept K.out s9)
    clear s9
    go_simp
    try (with_reducible rfl)
  simp only [List.setIfInBounds_toArray, List.set_cons_zero, List.set_cons_succ]
  refine held_step (i := 3) rfl (by kernel_rfl) (fun K hK => ?_)
  have HK := Lib.hid hK
  clear hK
  go_simp
  go_wp2_with fail
  refine (R1.out _).mono ?_
  rintro e v6 ⟨rfl, b6⟩
  refine HK.out _ _ ?_ ?_
  · exact chain hS b6
  clear HK K
  try simp only [Act.put, List.setIfInBounds_toArray, List.set_cons_zero, List.set_cons_succ]
  have hS9 := chain hS b6
  clear hS b6
  have hS := hS9
  clear hS9
  refine held_step (i := 5) rfl (by kernel_rfl) (fun K hK => ?_)
  have HK := Lib.hid hK
  clear hK
  go_simp
  go_wp2_with fail
  refine (R2.out _).mono ?_
  rintro e v7 ⟨rfl, b7⟩
  refine HK.out _ _ ?_ ?_
  · exact chain hS b7
  clear HK K
  try simp only [Act.put, List.setIfInBounds_toArray, List.set_cons_zero, List.set_cons_succ]
  have hS9 := chain hS b7
  clear hS b7
  have hS := hS9
  clear hS9
  refine held_take (i := 6) 47 (v := ?va6x5) rfl rfl (by kernel_rfl) (by kernel_rfl) (by kernel_rfl) (fun _ _ _ h => h) hS (by rfl) ?ha6x5 ?ra6x5
  case ha6x5 =>
    intro w9 s9
    clear s9
    go_simp
    try (with_reducible rfl)
  simp only [List.setIfInBounds_toArray, List.set_cons_zero, List.set_cons_succ]
  refine held_take (i := 7) 48 (v := ?va7x6) rfl rfl (by kernel_rfl) (by kernel_rfl) (by kernel_rfl) (fun _ _ _ h => h) hS (by rfl) ?ha7x6 ?ra7x6
  case ha7x6 =>
    intro w9 s9
    clear s9
    go_simp
    try (with_reducible rfl)
  simp only [List.setIfInBounds_toArray, List.set_cons_zero, List.set_cons_succ]
  refine held_take (i := 8) 49 (v := ?va8x7) rfl rfl (by kernel_rfl) (by kernel_rfl) (by kernel_rfl) (fun _ _ _ h => h) hS (by rfl) ?ha8x7 ?ra8x7
  case ha8x7 =>
    intro w9 s9
    clear s9
    go_simp
    try (with_reducible rfl)
  simp only [List.setIfInBounds_toArray, List.set_cons_zero, List.set_cons_succ]
  refine held_take (i := 9) 50 (v := ?va9x8) rfl rfl (by kernel_rfl) (by kernel_rfl) (by kernel_rfl) (fun _ _ _ h => h) hS (by rfl) ?ha9x8 ?ra9x8
  case ha9x8 =>
    intro w9 s9
    clear s9
    go_simp
    try (with_reducible rfl)
  simp only [List.setIfInBounds_toArray, List.set_cons_zero, List.set_cons_succ]
  refine held_take (i := 10) 51 (v := ?va10x9) rfl rfl (by kernel_rfl) (by kernel_rfl) (by kernel_rfl) (fun _ _ _ h => h) hS (by rfl) ?ha10x9 ?ra10x9
  case ha10x9 =>
    intro w9 s9
    clear s9
    go_simp
    try (with_reducible rfl)
  simp only [List.setIfInBounds_toArray, List.set_cons_zero, List.set_cons_succ]
  refine held_take (i := 11) 52 (v := ?va11x10) rfl rfl (by kernel_rfl) (by kernel_rfl) (by kernel_rfl) (fun _ _ _ h => h) hS (by rfl) ?ha11x10 ?ra11x10
  case ha11x10 =>
    intro w9 s9
    clear s9
    go_simp
    try (with_reducible rfl)
  simp only [List.setIfInBounds_toArray, List.set_cons_zero, List.set_cons_succ]
  refine held_take (i := 12) 53 (v := ?va12x11) rfl rfl (by kernel_rfl) (by kernel_rfl) (by kernel_rfl) (fun _ _ _ h => h) hS (by rfl) ?ha12x11 ?ra12x11
  case ha12x11 =>
    intro w9 s9
    clear s9
    go_simp
    try (with_reducible rfl)
  simp only [List.setIfInBounds_toArray, List.set_cons_zero, List.set_cons_succ]
  refine held_take (i := 13) 54 (v := ?va13x12) rfl rfl (by kernel_rfl) (by kernel_rfl) (by kernel_rfl) (fun _ _ _ h => h) hS (by rfl) ?ha13x12 ?ra13x12
  case ha13x12 =>
    intro w9 s9
    clear s9
    go_simp
    try (with_reducible rfl)
  simp only [List.setIfInBounds_toArray, List.set_cons_zero, List.set_cons_succ]
  refine held_take (i := 14) 55 (v := ?va14x13) rfl rfl (by kernel_rfl) (by kernel_rfl) (by kernel_rfl) (fun _ _ _ h => h) hS (by rfl) ?ha14x13 ?ra14x13
  case ha14x13 =>
    intro w9 s9
    clear s9
    go_simp
    try (with_reducible rfl)
  simp only [List.setIfInBounds_toArray, List.set_cons_zero, List.set_cons_succ]
  refine held_take (i := 15) 56 (v := ?va15x14) rfl rfl (by kernel_rfl) (by kernel_rfl) (by kernel_rfl) (fun _ _ _ h => h) hS (by rfl) ?ha15x14 ?ra15x14
  case ha15x14 =>
    intro w9 s9
    clear s9
    go_simp
    try (with_reducible rfl)
  simp only [List.setIfInBounds_toArray, List.set_cons_zero, List.set_cons_succ]
  refine held_none (i := 16) 57 rfl rfl (by kernel_rfl) (by kernel_rfl) (by kernel_rfl) (fun _ _ _ h => h) hS (by rfl) ?_
  simp only [List.setIfInBounds_toArray, List.set_cons_zero, List.set_cons_succ]
  refine held_none (i := 17) 58 rfl rfl (by kernel_rfl) (by kernel_rfl) (by kernel_rfl) (fun _ _ _ h => h) hS (by rfl) ?_
  simp only [List.setIfInBounds_toArray, List.set_cons_zero, List.set_cons_succ]
  refine held_take (i := 18) 59 (v := ?va18x17) rfl rfl (by kernel_rfl) (by kernel_rfl) (by kernel_rfl) (fun _ _ _ h => h) hS (by rfl) ?ha18x17 ?ra18x17
  case ha18x17 =>
    intro w9 s9
    clear s9
    go_simp
    try (with_reducible rfl)
  simp only [List.setIfInBounds_toArray, List.set_cons_zero, List.set_cons_succ]
  refine held_take (i := 19) 60 (v := ?va19x18) rfl rfl (by kernel_rfl) (by kernel_rfl) (by kernel_rfl) (fun _ _ _ h => h) hS (by rfl) ?ha19x18 ?ra19x18
  case ha19x18 =>
    intro w9 s9
    clear s9
    go_simp
    try (with_reducible rfl)
  simp only [List.setIfInBounds_toArray, List.set_cons_zero, List.set_cons_succ]
  refine held_take (i := 20) 61 (v := ?va20x19) rfl rfl (by kernel_rfl) (by kernel_rfl) (by kernel_rfl) (fun _ _ _ h => h) hS (by rfl) ?ha20x19 ?ra20x19
  case ha20x19 =>
    intro w9 s9
    clear s9
    go_simp
    try (with_reducible rfl)
  simp only [List.setIfInBounds_toArray, List.set_cons_zero, List.set_cons_succ]
  refine held_take (i := 21) 62 (v := ?va21x20) rfl rfl (by kernel_rfl) (by kernel_rfl) (by kernel_rfl) (fun _ _ _ h => h) hS (by rfl) ?ha21x20 ?ra21x20
  case ha21x20 =>
    intro w9 s9
    clear s9
    go_simp
    try (with_reducible rfl)
  simp only [List.setIfInBounds_toArray, List.set_cons_zero, List.set_cons_succ]
  refine held_take (i := 22) 63 (v := ?va22x21) rfl rfl (by kernel_rfl) (by kernel_rfl) (by kernel_rfl) (fun _ _ _ h => h) hS (by rfl) ?ha22x21 ?ra22x21
  case ha22x21 =>
    intro w9 s9
    clear s9
    go_simp
    try (with_reducible rfl)
  simp only [List.setIfInBounds_toArray, List.set_cons_zero, List.set_cons_succ]
  refine held_take (i := 23) 64 (v := ?va23x22) rfl rfl (by kernel_rfl) (by kernel_rfl) (by kernel_rfl) (fun _ _ _ h => h) hS (by rfl) ?ha23x22 ?ra23x22
  case ha23x22 =>
    intro w9 s9
    clear s9
    go_simp
    try (with_reducible rfl)
  simp only [List.setIfInBounds_toArray, List.set_cons_zero, List.set_cons_succ]
  refine held_take (i := 24) 65 (v := ?va24x23) rfl rfl (by kernel_rfl) (by kernel_rfl) (by kernel_rfl) (fun _ _ _ h => h) hS (by rfl) ?ha24x23 ?ra24x23
  case ha24x23 =>
    intro w9 s9
    clear s9
    go_simp
    try (with_reducible rfl)
  simp only [List.setIfInBounds_toArray, List.set_cons_zero, List.set_cons_succ]
  refine held_take (i := 25) 66 (v := ?va25x24) rfl rfl (by kernel_rfl) (by kernel_rfl) (by kernel_rfl) (fun _ _ _ h => h) hS (by rfl) ?ha25x24 ?ra25x24
  case ha25x24 =>
    intro w9 s9
    clear s9
    go_simp
    try (with_reducible rfl)
  simp only [List.setIfInBounds_toArray, List.set_cons_zero, List.set_cons_succ]
  refine held_take (i := 26) 67 (v := ?va26x25) rfl rfl (by kernel_rfl) (by kernel_rfl) (by kernel_rfl) (fun _ _ _ h => h) hS (by rfl) ?ha26x25 ?ra26x25
  case ha26x25 =>
    intro w9 s9
    clear s9
    go_simp
    try (with_reducible rfl)
  simp only [List.setIfInBounds_toArray, List.set_cons_zero, List.set_cons_succ]
  refine held_take (i := 27) 68 (v := ?va27x26) rfl rfl (by kernel_rfl) (by kernel_rfl) (by kernel_rfl) (fun _ _ _ h => h) hS (by rfl) ?ha27x26 ?ra27x26
  case ha27x26 =>
    intro w9 s9
    clear s9
    go_simp
    try (with_reducible rfl)
  simp only [List.setIfInBounds_toArray, List.set_cons_zero, List.set_cons_succ]
  refine held_take (i := 28) 69 (v := ?va28x27) rfl rfl (by kernel_rfl) (by kernel_rfl) (by kernel_rfl) (fun _ _ _ h => h) hS (by rfl) ?ha28x27 ?ra28x27
  case ha28x27 =>
    intro w9 s9
    clear s9
    go_simp
    try (with_reducible rfl)
  simp only [List.setIfInBounds_toArray, List.set_cons_zero, List.set_cons_succ]
  refine held_take (i := 29) 70 (v := ?va29x28) rfl rfl (by kernel_rfl) (by kernel_rfl) (by kernel_rfl) (fun _ _ _ h => h) hS (by rfl) ?ha29x28 ?ra29x28
  case ha29x28 =>
    intro w9 s9
    obtain ⟨q0, q1, q2, q3, q4, q5, q6, q7, q8, q9⟩ := cells10 (kept X.out s9)
    clear s9
    go_simp
    try (with_reducible rfl)
  simp only [List.setIfInBounds_toArray, List.set_cons_zero, List.set_cons_succ]
  refine held_take (i := 30) 71 (v := ?va30x29) rfl rfl (by kernel_rfl) (by kernel_rfl) (by kernel_rfl) (fun _ _ _ h => h) hS (by rfl) ?ha30x29 ?ra30x29
  case ha30x29 =>
    intro w9 s9
    obtain ⟨q0, q1, q2, q3, q4, q5, q6, q7, q8, q9⟩ := cells10 (kept W.out s9)
    clear s9
    go_simp
    try (with_reducible rfl)
  simp only [List.setIfInBounds_toArray, List.set_cons_zero, List.set_cons_succ]
  refine held_take (i := 31) 72 (v := ?va31x30) rfl rfl (by kernel_rfl) (by kernel_rfl) (by kernel_rfl) (fun _ _ _ h => h) hS (by rfl) ?ha31x30 ?ra31x30
  case ha31x30 =>
    intro w9 s9
    clear s9
    go_simp
    try (with_reducible rfl)
  simp only [List.setIfInBounds_toArray, List.set_cons_zero, List.set_cons_succ]
  refine held_take (i := 32) 73 (v := ?va32x31) rfl rfl (by kernel_rfl) (by kernel_rfl) (by kernel_rfl) (fun _ _ _ h => h) hS (by rfl) ?ha32x31 ?ra32x31
  case ha32x31 =>
    intro w9 s9
    clear s9
    go_simp
    try (with_reducible rfl)
  simp only [List.setIfInBounds_toArray, List.set_cons_zero, List.set_cons_succ]
  refine held_take (i := 33) 74 (v := ?va33x32) rfl rfl (by kernel_rfl) (by kernel_rfl) (by kernel_rfl) (fun _ _ _ h => h) hS (by rfl) ?ha33x32 ?ra33x32
  case ha33x32 =>
    intro w9 s9
    clear s9
    go_simp
    try (with_reducible rfl)
  simp only [List.setIfInBounds_toArray, List.set_cons_zero, List.set_cons_succ]
  refine held_take (i := 34) 75 (v := ?va34x33) rfl rfl (by kernel_rfl) (by kernel_rfl) (by kernel_rfl) (fun _ _ _ h => h) hS (by rfl) ?ha34x33 ?ra34x33
  case ha34x33 =>
    intro w9 s9
    clear s9
    go_simp
    try (with_reducible rfl)
  simp only [List.setIfInBounds_toArray, List.set_cons_zero, List.set_cons_succ]
  refine held_take (i := 35) 76 (v := ?va35x34) rfl rfl (by kernel_rfl) (by kernel_rfl) (by kernel_rfl) (fun _ _ _ h => h) hS (by rfl) ?ha35x34 ?ra35x34
  case ha35x34 =>
    intro w9 s9
    clear s9
    go_simp
    try (with_reducible rfl)
  simp only [List.setIfInBounds_toArray, List.set_cons_zero, List.set_cons_succ]
  refine held_none (i := 36) 77 rfl rfl (by kernel_rfl) (by kernel_rfl) (by kernel_rfl) (fun _ _ _ h => h) hS (by rfl) ?_
  simp only [List.setIfInBounds_toArray, List.set_cons_zero, List.set_cons_succ]
  refine held_none (i := 37) 78 rfl rfl (by kernel_rfl) (by kernel_rfl) (by kernel_rfl) (fun _ _ _ h => h) hS (by rfl) ?_
  simp only [List.setIfInBounds_toArray, List.set_cons_zero, List.set_cons_succ]
  refine held_take (i := 38) 79 (v := ?va38x37) rfl rfl (by kernel_rfl) (by kernel_rfl) (by kernel_rfl) (fun _ _ _ h => h) hS (by rfl) ?ha38x37 ?ra38x37
  case ha38x37 =>
    intro w9 s9
    clear s9
    go_simp
    try (with_reducible rfl)
  simp only [List.setIfInBounds_toArray, List.set_cons_zero, List.set_cons_succ]
  refine held_take (i := 39) 80 (v := ?va39x38) rfl rfl (by kernel_rfl) (by kernel_rfl) (by kernel_rfl) (fun _ _ _ h => h) hS (by rfl) ?ha39x38 ?ra39x38
  case ha39x38 =>
    intro w9 s9
    clear s9
    go_simp
    try (with_reducible rfl)
  simp only [List.setIfInBounds_toArray, List.set_cons_zero, List.set_cons_succ]
  refine held_take (i := 40) 81 (v := ?va40x39) rfl rfl (by kernel_rfl) (by kernel_rfl) (by kernel_rfl) (fun _ _ _ h => h) hS (by rfl) ?ha40x39 ?ra40x39
  case ha40x39 =>
    intro w9 s9
    clear s9
    go_simp
    try (with_reducible rfl)
  simp only [List.setIfInBounds_toArray, List.set_cons_zero, List.set_cons_succ]
  refine held_take (i := 41) 82 (v := ?va41x40) rfl rfl (by kernel_rfl) (by kernel_rfl) (by kernel_rfl) (fun _ _ _ h => h) hS (by rfl) ?ha41x40 ?ra41x40
  case ha41x40 =>
    intro w9 s9
    clear s9
    go_simp
    try (with_reducible rfl)
  simp only [List.setIfInBounds_toArray, List.set_cons_zero, List.set_cons_succ]
  refine held_take (i := 42) 83 (v := ?va42x41) rfl rfl (by kernel_rfl) (by kernel_rfl) (by kernel_rfl) (fun _ _ _ h => h) hS (by rfl) ?ha42x41 ?ra42x41
  case ha42x41 =>
    intro w9 s9
    clear s9
    go_simp
    try (with_reducible rfl)
  simp only [List.setIfInBounds_toArray, List.set_cons_zero, List.set_cons_succ]
  refine held_take (i := 43) 84 (v := ?va43x42) rfl rfl (by kernel_rfl) (by kernel_rfl) (by kernel_rfl) (fun _ _ _ h => h) hS (by rfl) ?ha43x42 ?ra43x42
  case ha43x42 =>
    intro w9 s9
    clear s9
    go_simp
    try (with_reducible rfl)
  simp only [List.setIfInBounds_toArray, List.set_cons_zero, List.set_cons_succ]
  refine held_take (i := 44) 85 (v := ?va44x43) rfl rfl (by kernel_rfl) (by kernel_rfl) (by kernel_rfl) (fun _ _ _ h => h) hS (by rfl) ?ha44x43 ?ra44x43
  case ha44x43 =>
    intro w9 s9
    clear s9
    go_simp
    try (with_reducible rfl)
  simp only [List.setIfInBounds_toArray, List.set_cons_zero, List.set_cons_succ]
  refine held_take (i := 45) 86 (v := ?va45x44) rfl rfl (by kernel_rfl) (by kernel_rfl) (by kernel_rfl) (fun _ _ _ h => h) hS (by rfl) ?ha45x44 ?ra45x44
  case ha45x44 =>
    intro w9 s9
    clear s9
    go_simp
    try (with_reducible rfl)
  simp only [List.setIfInBounds_toArray, List.set_cons_zero, List.set_cons_succ]
  refine held_take (i := 46) 87 (v := ?va46x45) rfl rfl (by kernel_rfl) (by kernel_rfl) (by kernel_rfl) (fun _ _ _ h => h) hS (by rfl) ?ha46x45 ?ra46x45
  case ha46x45 =>
    intro w9 s9
    clear s9
    go_simp
    try (with_reducible rfl)
  simp only [List.setIfInBounds_toArray, List.set_cons_zero, List.set_cons_succ]
  refine held_take (i := 47) 88 (v := ?va47x46) rfl rfl (by kernel_rfl) (by kernel_rfl) (by kernel_rfl) (fun _ _ _ h => h) hS (by rfl) ?ha47x46 ?ra47x46
  case ha47x46 =>
    intro w9 s9
    clear s9
    go_simp
    try (with_reducible rfl)
  simp only [List.setIfInBounds_toArray, List.set_cons_zero, List.set_cons_succ]
  refine held_take (i := 48) 6 (v := ?va48x47) rfl rfl (by kernel_rfl) (by kernel_rfl) (by kernel_rfl) (fun _ _ _ h => h) hS (by rfl) ?ha48x47 ?ra48x47
  case ha48x47 =>
    intro w9 s9
    clear s9
    go_simp
    try (with_reducible rfl)
  simp only [List.setIfInBounds_toArray, List.set_cons_zero, List.set_cons_succ]
  refine wpAnyH_done (by kernel_rfl) ?_ _
  go_wp2_with fail
  go_ret
  exact ⟨rfl, chain B.out hS⟩
theorem recCaps_law (ci : Int) (pa : Int) (ob : Int) (ow : Int) (ri : Int) (ba : Int) (de : Int) (ex : Int) (cu : Int) (rv : Bool) (id : Int) (s : ByteArray) (w : World) (wci : (Lit.int .i64 ci).wf = true) (wpa : (Lit.int .i64 pa).wf = true) (wob : (Lit.int .i64 ob).wf = true) (wow : (Lit.int .i64 ow).wf = true) (wri : (Lit.int .i64 ri).wf = true) (wba : (Lit.int .i64 ba).wf = true) (wde : (Lit.int .i64 de).wf = true) (wex : (Lit.int .i64 ex).wf = true) (wcu : (Lit.int .i64 cu).wf = true) (wid : (Lit.int .i64 id).wf = true) (zs : s.size ≤ 140737488351232) :
    Calls Try.prog 3 #[.agg #[.int .i64 ci, .int .i64 pa, .int .i64 ob, .int .i64 ow, .int .i64 ri, .int .i64 ba, .int .i64 de, .int .i64 ex, .int .i64 cu, .bool rv], .int .i64 id, .string s] w fun e w' => e = .returned (.bool true) ∧ Below w.heap.size w w' := by
  cases h1 : capOk ci pa ob ow ri ba de ex cu
  all_goals cases h2 : tcapOk id s
  · refine recCaps_wff _ _ _ _ _ _ _ _ _ _ _ _ _ _ _ _ _ _ _ _ id s (capP ci pa ob ow ri ba de ex cu rv) w (Lib.hid fun w => ?_) (Lib.hid fun w => ?_) (Lib.hid fun w => takeCap_no id s w h2) (Lib.hid fun w => ?_) (Lib.hid fun w => ?_) (Lib.hid fun w => refCapRight_is ci pa ob ow ri ba de ex cu rv _ w h1)
    · have := putCap_any ci pa ob ow ri ba de ex cu rv w
      rw [h1] at this; exact this
    · have := refPutCap_any ci pa ob ow ri ba de ex cu rv w
      rw [h1] at this; exact this
    · have := refTakeCap_any id s w
      unfold tcapV at this; rw [h2] at this; exact this
    · have := capRight_any ci pa ob ow ri ba de ex cu rv w
      rw [h1] at this; exact this
  · refine recCaps_wft _ _ _ _ _ _ _ _ _ _ _ _ _ _ _ _ _ _ _ _ id s (capP ci pa ob ow ri ba de ex cu rv) w (Lib.hid fun w => ?_) (Lib.hid fun w => ?_) (Lib.hid fun w => takeCap_yes id s w h2) (Lib.hid fun w => ?_) (Lib.hid fun w => ?_) (Lib.hid fun w => refCapRight_is ci pa ob ow ri ba de ex cu rv _ w h1)
    · have := putCap_any ci pa ob ow ri ba de ex cu rv w
      rw [h1] at this; exact this
    · have := refPutCap_any ci pa ob ow ri ba de ex cu rv w
      rw [h1] at this; exact this
    · have := refTakeCap_any id s w
      unfold tcapV at this; rw [h2] at this; exact this
    · have := capRight_any ci pa ob ow ri ba de ex cu rv w
      rw [h1] at this; exact this
  · refine recCaps_wtf _ _ _ _ _ _ _ _ _ _ _ _ _ _ _ _ _ _ _ _ id s (capP ci pa ob ow ri ba de ex cu rv) w (Lib.hid fun w => ?_) (Lib.hid fun w => ?_) (Lib.hid fun w => takeCap_no id s w h2) (Lib.hid fun w => ?_) (Lib.hid fun w => ?_) (Lib.hid fun w => refCapRight_is ci pa ob ow ri ba de ex cu rv _ w h1)
    · have := putCap_any ci pa ob ow ri ba de ex cu rv w
      rw [h1] at this; exact this
    · have := refPutCap_any ci pa ob ow ri ba de ex cu rv w
      rw [h1] at this; exact this
    · have := refTakeCap_any id s w
      unfold tcapV at this; rw [h2] at this; exact this
    · have := capRight_any ci pa ob ow ri ba de ex cu rv w
      rw [h1] at this; exact this
  · refine recCaps_wtt _ _ _ _ _ _ _ _ _ _ _ _ _ _ _ _ _ _ _ _ id s (capP ci pa ob ow ri ba de ex cu rv) w (Lib.hid fun w => ?_) (Lib.hid fun w => ?_) (Lib.hid fun w => takeCap_yes id s w h2) (Lib.hid fun w => ?_) (Lib.hid fun w => ?_) (Lib.hid fun w => refCapRight_is ci pa ob ow ri ba de ex cu rv _ w h1)
    · have := putCap_any ci pa ob ow ri ba de ex cu rv w
      rw [h1] at this; exact this
    · have := refPutCap_any ci pa ob ow ri ba de ex cu rv w
      rw [h1] at this; exact this
    · have := refTakeCap_any id s w
      unfold tcapV at this; rw [h2] at this; exact this
    · have := capRight_any ci pa ob ow ri ba de ex cu rv w
      rw [h1] at this; exact this
end Go.Proofs.Ytlbnakoaflladaa
