import Derived.Test.YtlbnakoaflladaaRef14O
import Derived.Deep.RegionHeld
namespace Go.Proofs.Ytlbnakoaflladaa
open Go.RowKit
set_option linter.unusedVariables false
set_option linter.unusedSimpArgs false
set_option maxHeartbeats 3200000 in
set_option maxRecDepth 20000 in
theorem recOwners_wtt (oi : Int) (nm : ByteArray) (li : Int) (ha : Int) (y0 : Int) (y1 : ByteArray) (y2 : Int) (y3 : Int) (id : Int) (s a : ByteArray) (w : World)
    (P1 : Hid (∀ w, Calls Try.prog 16 #[.agg #[.int .i64 oi, .string nm, .int .i64 li, .int .i64 ha]] w fun e' w' => e' = .returned (.tuple #[.string a, .int .i64 0]) ∧ Below w.heap.size w w'))
    (P2 : Hid (∀ w, Calls Try.prog 17 #[.agg #[.int .i64 oi, .string nm, .int .i64 li, .int .i64 ha]] w fun e' w' => e' = .returned (.tuple #[.string a, .bool true]) ∧ Below w.heap.size w w'))
    (T1 : Hid (∀ w, Calls Try.prog 18 #[.int .i64 id, .string s] w fun e' w' => e' = .returned (.tuple #[.agg #[.int .i64 y0, .string y1, .int .i64 y2, .int .i64 y3], .int .i64 0]) ∧ Below w.heap.size w w'))
    (T2 : Hid (∀ w, Calls Try.prog 19 #[.int .i64 id, .string s] w fun e' w' => e' = .returned (.tuple #[.agg #[.int .i64 y0, .string y1, .int .i64 y2, .int .i64 y3], .bool true]) ∧ Below w.heap.size w w'))
    (R1 : Hid (∀ w, Calls Try.prog 20 #[.agg #[.int .i64 oi, .string nm, .int .i64 li, .int .i64 ha]] w fun e' w' => e' = .returned (.bool true) ∧ Below w.heap.size w w'))
    (R2 : Hid (∀ w, Calls Try.prog 21 #[.agg #[.int .i64 oi, .string nm, .int .i64 li, .int .i64 ha]] w fun e' w' => e' = .returned (.bool true) ∧ Below w.heap.size w w'))
    :
    Calls Try.prog 4 #[.agg #[.int .i64 oi, .string nm, .int .i64 li, .int .i64 ha], .int .i64 id, .string s] w fun e w' => e = .returned (.bool true) ∧ Below w.heap.size w w' := by
  go_enter Try.func4, Try.ntmps4
  try simp only [List.append_eq, List.cons_append, List.nil_append]
  go_wp2_with fail
  refine (examples_any _).mono ?_
  rintro e w1 ⟨rfl, b1⟩
  have K : Hid (w1.heap[w.heap.size]? = some (.cells #[.int .i64 oi, .string nm, .int .i64 li, .int .i64 ha] 37)) := Lib.hid (kept1 b1)
  have B : Hid (Below w.heap.size w w1) := Lib.hid (((Below.refl _ _).alloc (Nat.le_refl _) _).trans (b1.mono (by simp)))
  clear b1
  obtain ⟨k0, k1, k2, k3⟩ := cells4 K.out
  go_wp2_with fail
  refine (P1.out _).mono ?_
  rintro e w2 ⟨rfl, b2⟩
  clear k0 k1 k2 k3
  replace K := Lib.hid (kept K.out b2)
  replace B := Lib.hid (chain B.out b2)
  clear b2
  obtain ⟨k0, k1, k2, k3⟩ := cells4 K.out
  go_wp2_with fail
  refine (P2.out _).mono ?_
  rintro e w3 ⟨rfl, b3⟩
  clear k0 k1 k2 k3
  replace K := Lib.hid (kept K.out b3)
  replace B := Lib.hid (chain B.out b3)
  clear b3
  go_wp2_with fail
  refine (T1.out _).mono ?_
  rintro e w4 ⟨rfl, b4⟩
  replace K := Lib.hid (kept K.out b4)
  replace B := Lib.hid (chain B.out b4)
  clear b4
  go_wp2_with fail
  refine (T2.out _).mono ?_
  rintro e w5 ⟨rfl, b5⟩
  have X := Lib.hid (kept1 b5)
  replace K := Lib.hid (kept2 K.out b5)
  replace B := Lib.hid (chain1 B.out b5)
  clear b5
  have W : Hid ((w5.alloc (.cells #[.int .i64 y0, .string y1, .int .i64 y2, .int .i64 y3] 37)).heap[w5.heap.size]? = some (.cells #[.int .i64 y0, .string y1, .int .i64 y2, .int .i64 y3] 37)) := Lib.hid (heap_alloc_new _ _)
  replace K := Lib.hid (kept0 K.out (.cells #[.int .i64 y0, .string y1, .int .i64 y2, .int .i64 y3] 37))
  replace X := Lib.hid (kept0 X.out (.cells #[.int .i64 y0, .string y1, .int .i64 y2, .int .i64 y3] 37))
  replace B : Hid (Below w.heap.size w (w5.alloc (.cells #[.int .i64 y0, .string y1, .int .i64 y2, .int .i64 y3] 37))) := Lib.hid (B.out.alloc B.out.size _)
  go_wp2_with fail
  generalize w5.heap.size = g5 at *
  generalize w4.heap.size = g4 at *
  generalize w5.alloc (.cells #[.int .i64 y0, .string y1, .int .i64 y2, .int .i64 y3] 37) = v5 at *
  have CC : Hid (∀ w', Below v5.heap.size v5 w' → w'.cell? ⟨w.heap.size, 0, none⟩ = some (.int .i64 oi) ∧ w'.cell? ⟨w.heap.size, 1, none⟩ = some (.string nm) ∧ w'.cell? ⟨w.heap.size, 2, none⟩ = some (.int .i64 li) ∧ w'.cell? ⟨w.heap.size, 3, none⟩ = some (.int .i64 ha) ∧ w'.cell? ⟨g4, 0, none⟩ = some (.int .i64 y0) ∧ w'.cell? ⟨g4, 1, none⟩ = some (.string y1) ∧ w'.cell? ⟨g4, 2, none⟩ = some (.int .i64 y2) ∧ w'.cell? ⟨g4, 3, none⟩ = some (.int .i64 y3) ∧ w'.cell? ⟨g5, 0, none⟩ = some (.int .i64 y0) ∧ w'.cell? ⟨g5, 1, none⟩ = some (.string y1) ∧ w'.cell? ⟨g5, 2, none⟩ = some (.int .i64 y2) ∧ w'.cell? ⟨g5, 3, none⟩ = some (.int .i64 y3)) := Lib.hid fun w' h => ⟨(cells4 (kept K.out h)).1, (cells4 (kept K.out h)).2.1, (cells4 (kept K.out h)).2.2.1, (cells4 (kept K.out h)).2.2.2, (cells4 (kept X.out h)).1, (cells4 (kept X.out h)).2.1, (cells4 (kept X.out h)).2.2.1, (cells4 (kept X.out h)).2.2.2, (cells4 (kept W.out h)).1, (cells4 (kept W.out h)).2.1, (cells4 (kept W.out h)).2.2.1, (cells4 (kept W.out h)).2.2.2⟩
  have B0 : Below v5.heap.size v5 v5 := Below.refl _ _
  have C0 := CC.out v5 B0
  clear P1 P2 T1 T2
  have hun : undef = Value.tuple #[] := rfl
  first | (go_region_held (fun w' => Below v5.heap.size v5 w' ∧ w'.cell? ⟨w.heap.size, 0, none⟩ = some (.int .i64 oi) ∧ w'.cell? ⟨w.heap.size, 1, none⟩ = some (.string nm) ∧ w'.cell? ⟨w.heap.size, 2, none⟩ = some (.int .i64 li) ∧ w'.cell? ⟨w.heap.size, 3, none⟩ = some (.int .i64 ha) ∧ w'.cell? ⟨g4, 0, none⟩ = some (.int .i64 y0) ∧ w'.cell? ⟨g4, 1, none⟩ = some (.string y1) ∧ w'.cell? ⟨g4, 2, none⟩ = some (.int .i64 y2) ∧ w'.cell? ⟨g4, 3, none⟩ = some (.int .i64 y3) ∧ w'.cell? ⟨g5, 0, none⟩ = some (.int .i64 y0) ∧ w'.cell? ⟨g5, 1, none⟩ = some (.string y1) ∧ w'.cell? ⟨g5, 2, none⟩ = some (.int .i64 y2) ∧ w'.cell? ⟨g5, 3, none⟩ = some (.int .i64 y3)) (first | assumption | exact ⟨B0.drew, CC.out _ B0.drew⟩ | exact keepN CC.out ⟨B0.drew, CC.out _ B0.drew⟩ b9 | exact keepN CC.out (by assumption) b9) ((first | (go_at_call 20; refine (R1.out _).mono ?_; rintro e w9 ⟨rfl, b9⟩) | (go_at_call 21; refine (R2.out _).mono ?_; rintro e w9 ⟨rfl, b9⟩)))) | fail
  rename_i hH
  go_wp2_with fail
  go_ret
  exact ⟨rfl, chain B.out hH.1⟩
set_option maxHeartbeats 3200000 in
set_option maxRecDepth 20000 in
theorem recOwners_wtf (oi : Int) (nm : ByteArray) (li : Int) (ha : Int) (y0 : Int) (y1 : ByteArray) (y2 : Int) (y3 : Int) (id : Int) (s a : ByteArray) (w : World)
    (P1 : Hid (∀ w, Calls Try.prog 16 #[.agg #[.int .i64 oi, .string nm, .int .i64 li, .int .i64 ha]] w fun e' w' => e' = .returned (.tuple #[.string a, .int .i64 0]) ∧ Below w.heap.size w w'))
    (P2 : Hid (∀ w, Calls Try.prog 17 #[.agg #[.int .i64 oi, .string nm, .int .i64 li, .int .i64 ha]] w fun e' w' => e' = .returned (.tuple #[.string a, .bool true]) ∧ Below w.heap.size w w'))
    (T1 : Hid (∀ w, Calls Try.prog 18 #[.int .i64 id, .string s] w fun e' w' => e' = .returned (.tuple #[.agg #[.int .i64 y0, .string y1, .int .i64 y2, .int .i64 y3], .int .i64 2]) ∧ Below w.heap.size w w'))
    (T2 : Hid (∀ w, Calls Try.prog 19 #[.int .i64 id, .string s] w fun e' w' => e' = .returned (.tuple #[.agg #[.int .i64 y0, .string y1, .int .i64 y2, .int .i64 y3], .bool false]) ∧ Below w.heap.size w w'))
    (R1 : Hid (∀ w, Calls Try.prog 20 #[.agg #[.int .i64 oi, .string nm, .int .i64 li, .int .i64 ha]] w fun e' w' => e' = .returned (.bool true) ∧ Below w.heap.size w w'))
    (R2 : Hid (∀ w, Calls Try.prog 21 #[.agg #[.int .i64 oi, .string nm, .int .i64 li, .int .i64 ha]] w fun e' w' => e' = .returned (.bool true) ∧ Below w.heap.size w w'))
    :
    Calls Try.prog 4 #[.agg #[.int .i64 oi, .string nm, .int .i64 li, .int .i64 ha], .int .i64 id, .string s] w fun e w' => e = .returned (.bool true) ∧ Below w.heap.size w w' := by
  go_enter Try.func4, Try.ntmps4
  try simp only [List.append_eq, List.cons_append, List.nil_append]
  go_wp2_with fail
  refine (examples_any _).mono ?_
  rintro e w1 ⟨rfl, b1⟩
  have K : Hid (w1.heap[w.heap.size]? = some (.cells #[.int .i64 oi, .string nm, .int .i64 li, .int .i64 ha] 37)) := Lib.hid (kept1 b1)
  have B : Hid (Below w.heap.size w w1) := Lib.hid (((Below.refl _ _).alloc (Nat.le_refl _) _).trans (b1.mono (by simp)))
  clear b1
  obtain ⟨k0, k1, k2, k3⟩ := cells4 K.out
  go_wp2_with fail
  refine (P1.out _).mono ?_
  rintro e w2 ⟨rfl, b2⟩
  clear k0 k1 k2 k3
  replace K := Lib.hid (kept K.out b2)
  replace B := Lib.hid (chain B.out b2)
  clear b2
  obtain ⟨k0, k1, k2, k3⟩ := cells4 K.out
  go_wp2_with fail
  refine (P2.out _).mono ?_
  rintro e w3 ⟨rfl, b3⟩
  clear k0 k1 k2 k3
  replace K := Lib.hid (kept K.out b3)
  replace B := Lib.hid (chain B.out b3)
  clear b3
  go_wp2_with fail
  refine (T1.out _).mono ?_
  rintro e w4 ⟨rfl, b4⟩
  replace K := Lib.hid (kept K.out b4)
  replace B := Lib.hid (chain B.out b4)
  clear b4
  go_wp2_with fail
  refine (T2.out _).mono ?_
  rintro e w5 ⟨rfl, b5⟩
  have X := Lib.hid (kept1 b5)
  replace K := Lib.hid (kept2 K.out b5)
  replace B := Lib.hid (chain1 B.out b5)
  clear b5
  have W : Hid ((w5.alloc (.cells #[.int .i64 y0, .string y1, .int .i64 y2, .int .i64 y3] 37)).heap[w5.heap.size]? = some (.cells #[.int .i64 y0, .string y1, .int .i64 y2, .int .i64 y3] 37)) := Lib.hid (heap_alloc_new _ _)
  replace K := Lib.hid (kept0 K.out (.cells #[.int .i64 y0, .string y1, .int .i64 y2, .int .i64 y3] 37))
  replace X := Lib.hid (kept0 X.out (.cells #[.int .i64 y0, .string y1, .int .i64 y2, .int .i64 y3] 37))
  replace B : Hid (Below w.heap.size w (w5.alloc (.cells #[.int .i64 y0, .string y1, .int .i64 y2, .int .i64 y3] 37))) := Lib.hid (B.out.alloc B.out.size _)
  go_wp2_with fail
  generalize w5.heap.size = g5 at *
  generalize w4.heap.size = g4 at *
  generalize w5.alloc (.cells #[.int .i64 y0, .string y1, .int .i64 y2, .int .i64 y3] 37) = v5 at *
  have CC : Hid (∀ w', Below v5.heap.size v5 w' → w'.cell? ⟨w.heap.size, 0, none⟩ = some (.int .i64 oi) ∧ w'.cell? ⟨w.heap.size, 1, none⟩ = some (.string nm) ∧ w'.cell? ⟨w.heap.size, 2, none⟩ = some (.int .i64 li) ∧ w'.cell? ⟨w.heap.size, 3, none⟩ = some (.int .i64 ha) ∧ w'.cell? ⟨g4, 0, none⟩ = some (.int .i64 y0) ∧ w'.cell? ⟨g4, 1, none⟩ = some (.string y1) ∧ w'.cell? ⟨g4, 2, none⟩ = some (.int .i64 y2) ∧ w'.cell? ⟨g4, 3, none⟩ = some (.int .i64 y3) ∧ w'.cell? ⟨g5, 0, none⟩ = some (.int .i64 y0) ∧ w'.cell? ⟨g5, 1, none⟩ = some (.string y1) ∧ w'.cell? ⟨g5, 2, none⟩ = some (.int .i64 y2) ∧ w'.cell? ⟨g5, 3, none⟩ = some (.int .i64 y3)) := Lib.hid fun w' h => ⟨(cells4 (kept K.out h)).1, (cells4 (kept K.out h)).2.1, (cells4 (kept K.out h)).2.2.1, (cells4 (kept K.out h)).2.2.2, (cells4 (kept X.out h)).1, (cells4 (kept X.out h)).2.1, (cells4 (kept X.out h)).2.2.1, (cells4 (kept X.out h)).2.2.2, (cells4 (kept W.out h)).1, (cells4 (kept W.out h)).2.1, (cells4 (kept W.out h)).2.2.1, (cells4 (kept W.out h)).2.2.2⟩
  have B0 : Below v5.heap.size v5 v5 := Below.refl _ _
  have C0 := CC.out v5 B0
  clear P1 P2 T1 T2
  have hun : undef = Value.tuple #[] := rfl
  first | (go_region_held (fun w' => Below v5.heap.size v5 w' ∧ w'.cell? ⟨w.heap.size, 0, none⟩ = some (.int .i64 oi) ∧ w'.cell? ⟨w.heap.size, 1, none⟩ = some (.string nm) ∧ w'.cell? ⟨w.heap.size, 2, none⟩ = some (.int .i64 li) ∧ w'.cell? ⟨w.heap.size, 3, none⟩ = some (.int .i64 ha) ∧ w'.cell? ⟨g4, 0, none⟩ = some (.int .i64 y0) ∧ w'.cell? ⟨g4, 1, none⟩ = some (.string y1) ∧ w'.cell? ⟨g4, 2, none⟩ = some (.int .i64 y2) ∧ w'.cell? ⟨g4, 3, none⟩ = some (.int .i64 y3) ∧ w'.cell? ⟨g5, 0, none⟩ = some (.int .i64 y0) ∧ w'.cell? ⟨g5, 1, none⟩ = some (.string y1) ∧ w'.cell? ⟨g5, 2, none⟩ = some (.int .i64 y2) ∧ w'.cell? ⟨g5, 3, none⟩ = some (.int .i64 y3)) (first | assumption | exact ⟨B0.drew, CC.out _ B0.drew⟩ | exact keepN CC.out ⟨B0.drew, CC.out _ B0.drew⟩ b9 | exact keepN CC.out (by assumption) b9) ((first | (go_at_call 20; refine (R1.out _).mono ?_; rintro e w9 ⟨rfl, b9⟩) | (go_at_call 21; refine (R2.out _).mono ?_; rintro e w9 ⟨rfl, b9⟩)))) | fail
  rename_i hH
  go_wp2_with fail
  go_ret
  exact ⟨rfl, chain B.out hH.1⟩
set_option maxHeartbeats 3200000 in
set_option maxRecDepth 20000 in
theorem recOwners_wft (oi : Int) (nm : ByteArray) (li : Int) (ha : Int) (y0 : Int) (y1 : ByteArray) (y2 : Int) (y3 : Int) (id : Int) (s a : ByteArray) (w : World)
    (P1 : Hid (∀ w, Calls Try.prog 16 #[.agg #[.int .i64 oi, .string nm, .int .i64 li, .int .i64 ha]] w fun e' w' => e' = .returned (.tuple #[.string a, .int .i64 1]) ∧ Below w.heap.size w w'))
    (P2 : Hid (∀ w, Calls Try.prog 17 #[.agg #[.int .i64 oi, .string nm, .int .i64 li, .int .i64 ha]] w fun e' w' => e' = .returned (.tuple #[.string a, .bool false]) ∧ Below w.heap.size w w'))
    (T1 : Hid (∀ w, Calls Try.prog 18 #[.int .i64 id, .string s] w fun e' w' => e' = .returned (.tuple #[.agg #[.int .i64 y0, .string y1, .int .i64 y2, .int .i64 y3], .int .i64 0]) ∧ Below w.heap.size w w'))
    (T2 : Hid (∀ w, Calls Try.prog 19 #[.int .i64 id, .string s] w fun e' w' => e' = .returned (.tuple #[.agg #[.int .i64 y0, .string y1, .int .i64 y2, .int .i64 y3], .bool true]) ∧ Below w.heap.size w w'))
    (R1 : Hid (∀ w, Calls Try.prog 20 #[.agg #[.int .i64 oi, .string nm, .int .i64 li, .int .i64 ha]] w fun e' w' => e' = .returned (.bool false) ∧ Below w.heap.size w w'))
    (R2 : Hid (∀ w, Calls Try.prog 21 #[.agg #[.int .i64 oi, .string nm, .int .i64 li, .int .i64 ha]] w fun e' w' => e' = .returned (.bool false) ∧ Below w.heap.size w w'))
    :
    Calls Try.prog 4 #[.agg #[.int .i64 oi, .string nm, .int .i64 li, .int .i64 ha], .int .i64 id, .string s] w fun e w' => e = .returned (.bool true) ∧ Below w.heap.size w w' := by
  go_enter Try.func4, Try.ntmps4
  try simp only [List.append_eq, List.cons_append, List.nil_append]
  go_wp2_with fail
  refine (examples_any _).mono ?_
  rintro e w1 ⟨rfl, b1⟩
  have K : Hid (w1.heap[w.heap.size]? = some (.cells #[.int .i64 oi, .string nm, .int .i64 li, .int .i64 ha] 37)) := Lib.hid (kept1 b1)
  have B : Hid (Below w.heap.size w w1) := Lib.hid (((Below.refl _ _).alloc (Nat.le_refl _) _).trans (b1.mono (by simp)))
  clear b1
  obtain ⟨k0, k1, k2, k3⟩ := cells4 K.out
  go_wp2_with fail
  refine (P1.out _).mono ?_
  rintro e w2 ⟨rfl, b2⟩
  clear k0 k1 k2 k3
  replace K := Lib.hid (kept K.out b2)
  replace B := Lib.hid (chain B.out b2)
  clear b2
  obtain ⟨k0, k1, k2, k3⟩ := cells4 K.out
  go_wp2_with fail
  refine (P2.out _).mono ?_
  rintro e w3 ⟨rfl, b3⟩
  clear k0 k1 k2 k3
  replace K := Lib.hid (kept K.out b3)
  replace B := Lib.hid (chain B.out b3)
  clear b3
  go_wp2_with fail
  refine (T1.out _).mono ?_
  rintro e w4 ⟨rfl, b4⟩
  replace K := Lib.hid (kept K.out b4)
  replace B := Lib.hid (chain B.out b4)
  clear b4
  go_wp2_with fail
  refine (T2.out _).mono ?_
  rintro e w5 ⟨rfl, b5⟩
  have X := Lib.hid (kept1 b5)
  replace K := Lib.hid (kept2 K.out b5)
  replace B := Lib.hid (chain1 B.out b5)
  clear b5
  have W : Hid ((w5.alloc (.cells #[.int .i64 y0, .string y1, .int .i64 y2, .int .i64 y3] 37)).heap[w5.heap.size]? = some (.cells #[.int .i64 y0, .string y1, .int .i64 y2, .int .i64 y3] 37)) := Lib.hid (heap_alloc_new _ _)
  replace K := Lib.hid (kept0 K.out (.cells #[.int .i64 y0, .string y1, .int .i64 y2, .int .i64 y3] 37))
  replace X := Lib.hid (kept0 X.out (.cells #[.int .i64 y0, .string y1, .int .i64 y2, .int .i64 y3] 37))
  replace B : Hid (Below w.heap.size w (w5.alloc (.cells #[.int .i64 y0, .string y1, .int .i64 y2, .int .i64 y3] 37))) := Lib.hid (B.out.alloc B.out.size _)
  go_wp2_with fail
  generalize w5.heap.size = g5 at *
  generalize w4.heap.size = g4 at *
  generalize w5.alloc (.cells #[.int .i64 y0, .string y1, .int .i64 y2, .int .i64 y3] 37) = v5 at *
  have CC : Hid (∀ w', Below v5.heap.size v5 w' → w'.cell? ⟨w.heap.size, 0, none⟩ = some (.int .i64 oi) ∧ w'.cell? ⟨w.heap.size, 1, none⟩ = some (.string nm) ∧ w'.cell? ⟨w.heap.size, 2, none⟩ = some (.int .i64 li) ∧ w'.cell? ⟨w.heap.size, 3, none⟩ = some (.int .i64 ha) ∧ w'.cell? ⟨g4, 0, none⟩ = some (.int .i64 y0) ∧ w'.cell? ⟨g4, 1, none⟩ = some (.string y1) ∧ w'.cell? ⟨g4, 2, none⟩ = some (.int .i64 y2) ∧ w'.cell? ⟨g4, 3, none⟩ = some (.int .i64 y3) ∧ w'.cell? ⟨g5, 0, none⟩ = some (.int .i64 y0) ∧ w'.cell? ⟨g5, 1, none⟩ = some (.string y1) ∧ w'.cell? ⟨g5, 2, none⟩ = some (.int .i64 y2) ∧ w'.cell? ⟨g5, 3, none⟩ = some (.int .i64 y3)) := Lib.hid fun w' h => ⟨(cells4 (kept K.out h)).1, (cells4 (kept K.out h)).2.1, (cells4 (kept K.out h)).2.2.1, (cells4 (kept K.out h)).2.2.2, (cells4 (kept X.out h)).1, (cells4 (kept X.out h)).2.1, (cells4 (kept X.out h)).2.2.1, (cells4 (kept X.out h)).2.2.2, (cells4 (kept W.out h)).1, (cells4 (kept W.out h)).2.1, (cells4 (kept W.out h)).2.2.1, (cells4 (kept W.out h)).2.2.2⟩
  have B0 : Below v5.heap.size v5 v5 := Below.refl _ _
  have C0 := CC.out v5 B0
  clear P1 P2 T1 T2
  have hun : undef = Value.tuple #[] := rfl
  first | (go_region_held (fun w' => Below v5.heap.size v5 w' ∧ w'.cell? ⟨w.heap.size, 0, none⟩ = some (.int .i64 oi) ∧ w'.cell? ⟨w.heap.size, 1, none⟩ = some (.string nm) ∧ w'.cell? ⟨w.heap.size, 2, none⟩ = some (.int .i64 li) ∧ w'.cell? ⟨w.heap.size, 3, none⟩ = some (.int .i64 ha) ∧ w'.cell? ⟨g4, 0, none⟩ = some (.int .i64 y0) ∧ w'.cell? ⟨g4, 1, none⟩ = some (.string y1) ∧ w'.cell? ⟨g4, 2, none⟩ = some (.int .i64 y2) ∧ w'.cell? ⟨g4, 3, none⟩ = some (.int .i64 y3) ∧ w'.cell? ⟨g5, 0, none⟩ = some (.int .i64 y0) ∧ w'.cell? ⟨g5, 1, none⟩ = some (.string y1) ∧ w'.cell? ⟨g5, 2, none⟩ = some (.int .i64 y2) ∧ w'.cell? ⟨g5, 3, none⟩ = some (.int .i64 y3)) (first | assumption | exact ⟨B0.drew, CC.out _ B0.drew⟩ | exact keepN CC.out ⟨B0.drew, CC.out _ B0.drew⟩ b9 | exact keepN CC.out (by assumption) b9) ((first | (go_at_call 20; refine (R1.out _).mono ?_; rintro e w9 ⟨rfl, b9⟩) | (go_at_call 21; refine (R2.out _).mono ?_; rintro e w9 ⟨rfl, b9⟩)))) | fail
  rename_i hH
  go_wp2_with fail
  go_ret
  exact ⟨rfl, chain B.out hH.1⟩
set_option maxHeartbeats 3200000 in
set_option maxRecDepth 20000 in
theorem recOwners_wff (oi : Int) (nm : ByteArray) (li : Int) (ha : Int) (y0 : Int) (y1 : ByteArray) (y2 : Int) (y3 : Int) (id : Int) (s a : ByteArray) (w : World)
    (P1 : Hid (∀ w, Calls Try.prog 16 #[.agg #[.int .i64 oi, .string nm, .int .i64 li, .int .i64 ha]] w fun e' w' => e' = .returned (.tuple #[.string a, .int .i64 1]) ∧ Below w.heap.size w w'))
    (P2 : Hid (∀ w, Calls Try.prog 17 #[.agg #[.int .i64 oi, .string nm, .int .i64 li, .int .i64 ha]] w fun e' w' => e' = .returned (.tuple #[.string a, .bool false]) ∧ Below w.heap.size w w'))
    (T1 : Hid (∀ w, Calls Try.prog 18 #[.int .i64 id, .string s] w fun e' w' => e' = .returned (.tuple #[.agg #[.int .i64 y0, .string y1, .int .i64 y2, .int .i64 y3], .int .i64 2]) ∧ Below w.heap.size w w'))
    (T2 : Hid (∀ w, Calls Try.prog 19 #[.int .i64 id, .string s] w fun e' w' => e' = .returned (.tuple #[.agg #[.int .i64 y0, .string y1, .int .i64 y2, .int .i64 y3], .bool false]) ∧ Below w.heap.size w w'))
    (R1 : Hid (∀ w, Calls Try.prog 20 #[.agg #[.int .i64 oi, .string nm, .int .i64 li, .int .i64 ha]] w fun e' w' => e' = .returned (.bool false) ∧ Below w.heap.size w w'))
    (R2 : Hid (∀ w, Calls Try.prog 21 #[.agg #[.int .i64 oi, .string nm, .int .i64 li, .int .i64 ha]] w fun e' w' => e' = .returned (.bool false) ∧ Below w.heap.size w w'))
    :
    Calls Try.prog 4 #[.agg #[.int .i64 oi, .string nm, .int .i64 li, .int .i64 ha], .int .i64 id, .string s] w fun e w' => e = .returned (.bool true) ∧ Below w.heap.size w w' := by
  go_enter Try.func4, Try.ntmps4
  try simp only [List.append_eq, List.cons_append, List.nil_append]
  go_wp2_with fail
  refine (examples_any _).mono ?_
  rintro e w1 ⟨rfl, b1⟩
  have K : Hid (w1.heap[w.heap.size]? = some (.cells #[.int .i64 oi, .string nm, .int .i64 li, .int .i64 ha] 37)) := Lib.hid (kept1 b1)
  have B : Hid (Below w.heap.size w w1) := Lib.hid (((Below.refl _ _).alloc (Nat.le_refl _) _).trans (b1.mono (by simp)))
  clear b1
  obtain ⟨k0, k1, k2, k3⟩ := cells4 K.out
  go_wp2_with fail
  refine (P1.out _).mono ?_
  rintro e w2 ⟨rfl, b2⟩
  clear k0 k1 k2 k3
  replace K := Lib.hid (kept K.out b2)
  replace B := Lib.hid (chain B.out b2)
  clear b2
  obtain ⟨k0, k1, k2, k3⟩ := cells4 K.out
  go_wp2_with fail
  refine (P2.out _).mono ?_
  rintro e w3 ⟨rfl, b3⟩
  clear k0 k1 k2 k3
  replace K := Lib.hid (kept K.out b3)
  replace B := Lib.hid (chain B.out b3)
  clear b3
  go_wp2_with fail
  refine (T1.out _).mono ?_
  rintro e w4 ⟨rfl, b4⟩
  replace K := Lib.hid (kept K.out b4)
  replace B := Lib.hid (chain B.out b4)
  clear b4
  go_wp2_with fail
  refine (T2.out _).mono ?_
  rintro e w5 ⟨rfl, b5⟩
  have X := Lib.hid (kept1 b5)
  replace K := Lib.hid (kept2 K.out b5)
  replace B := Lib.hid (chain1 B.out b5)
  clear b5
  have W : Hid ((w5.alloc (.cells #[.int .i64 y0, .string y1, .int .i64 y2, .int .i64 y3] 37)).heap[w5.heap.size]? = some (.cells #[.int .i64 y0, .string y1, .int .i64 y2, .int .i64 y3] 37)) := Lib.hid (heap_alloc_new _ _)
  replace K := Lib.hid (kept0 K.out (.cells #[.int .i64 y0, .string y1, .int .i64 y2, .int .i64 y3] 37))
  replace X := Lib.hid (kept0 X.out (.cells #[.int .i64 y0, .string y1, .int .i64 y2, .int .i64 y3] 37))
  replace B : Hid (Below w.heap.size w (w5.alloc (.cells #[.int .i64 y0, .string y1, .int .i64 y2, .int .i64 y3] 37))) := Lib.hid (B.out.alloc B.out.size _)
  go_wp2_with fail
  generalize w5.heap.size = g5 at *
  generalize w4.heap.size = g4 at *
  generalize w5.alloc (.cells #[.int .i64 y0, .string y1, .int .i64 y2, .int .i64 y3] 37) = v5 at *
  have CC : Hid (∀ w', Below v5.heap.size v5 w' → w'.cell? ⟨w.heap.size, 0, none⟩ = some (.int .i64 oi) ∧ w'.cell? ⟨w.heap.size, 1, none⟩ = some (.string nm) ∧ w'.cell? ⟨w.heap.size, 2, none⟩ = some (.int .i64 li) ∧ w'.cell? ⟨w.heap.size, 3, none⟩ = some (.int .i64 ha) ∧ w'.cell? ⟨g4, 0, none⟩ = some (.int .i64 y0) ∧ w'.cell? ⟨g4, 1, none⟩ = some (.string y1) ∧ w'.cell? ⟨g4, 2, none⟩ = some (.int .i64 y2) ∧ w'.cell? ⟨g4, 3, none⟩ = some (.int .i64 y3) ∧ w'.cell? ⟨g5, 0, none⟩ = some (.int .i64 y0) ∧ w'.cell? ⟨g5, 1, none⟩ = some (.string y1) ∧ w'.cell? ⟨g5, 2, none⟩ = some (.int .i64 y2) ∧ w'.cell? ⟨g5, 3, none⟩ = some (.int .i64 y3)) := Lib.hid fun w' h => ⟨(cells4 (kept K.out h)).1, (cells4 (kept K.out h)).2.1, (cells4 (kept K.out h)).2.2.1, (cells4 (kept K.out h)).2.2.2, (cells4 (kept X.out h)).1, (cells4 (kept X.out h)).2.1, (cells4 (kept X.out h)).2.2.1, (cells4 (kept X.out h)).2.2.2, (cells4 (kept W.out h)).1, (cells4 (kept W.out h)).2.1, (cells4 (kept W.out h)).2.2.1, (cells4 (kept W.out h)).2.2.2⟩
  have B0 : Below v5.heap.size v5 v5 := Below.refl _ _
  have C0 := CC.out v5 B0
  clear P1 P2 T1 T2
  have hun : undef = Value.tuple #[] := rfl
  first | (go_region_held (fun w' => Below v5.heap.size v5 w' ∧ w'.cell? ⟨w.heap.size, 0, none⟩ = some (.int .i64 oi) ∧ w'.cell? ⟨w.heap.size, 1, none⟩ = some (.string nm) ∧ w'.cell? ⟨w.heap.size, 2, none⟩ = some (.int .i64 li) ∧ w'.cell? ⟨w.heap.size, 3, none⟩ = some (.int .i64 ha) ∧ w'.cell? ⟨g4, 0, none⟩ = some (.int .i64 y0) ∧ w'.cell? ⟨g4, 1, none⟩ = some (.string y1) ∧ w'.cell? ⟨g4, 2, none⟩ = some (.int .i64 y2) ∧ w'.cell? ⟨g4, 3, none⟩ = some (.int .i64 y3) ∧ w'.cell? ⟨g5, 0, none⟩ = some (.int .i64 y0) ∧ w'.cell? ⟨g5, 1, none⟩ = some (.string y1) ∧ w'.cell? ⟨g5, 2, none⟩ = some (.int .i64 y2) ∧ w'.cell? ⟨g5, 3, none⟩ = some (.int .i64 y3)) (first | assumption | exact ⟨B0.drew, CC.out _ B0.drew⟩ | exact keepN CC.out ⟨B0.drew, CC.out _ B0.drew⟩ b9 | exact keepN CC.out (by assumption) b9) ((first | (go_at_call 20; refine (R1.out _).mono ?_; rintro e w9 ⟨rfl, b9⟩) | (go_at_call 21; refine (R2.out _).mono ?_; rintro e w9 ⟨rfl, b9⟩)))) | fail
  rename_i hH
  go_wp2_with fail
  go_ret
  exact ⟨rfl, chain B.out hH.1⟩
theorem recOwners_law (oi : Int) (nm : ByteArray) (li : Int) (ha : Int) (id : Int) (s : ByteArray) (w : World) (woi : (Lit.int .i64 oi).wf = true) (znm : nm.size ≤ 1048576) (wli : (Lit.int .i64 li).wf = true) (wha : (Lit.int .i64 ha).wf = true) (wid : (Lit.int .i64 id).wf = true) (zs : s.size ≤ 1048576) :
    Calls Try.prog 4 #[.agg #[.int .i64 oi, .string nm, .int .i64 li, .int .i64 ha], .int .i64 id, .string s] w fun e w' => e = .returned (.bool true) ∧ Below w.heap.size w w' := by
  cases h1 : ownerOk oi nm li ha
  all_goals cases h2 : townerOk id s
  · refine recOwners_wff _ _ _ _ _ _ _ _ id s (ownerP oi nm li ha) w (Lib.hid fun w => ?_) (Lib.hid fun w => ?_) (Lib.hid fun w => takeOwner_no id s w (by omega) h2) (Lib.hid fun w => ?_) (Lib.hid fun w => ?_) (Lib.hid fun w => refOwnerRight_is oi nm li ha _ w (by omega) h1)
    · have := putOwner_any oi nm li ha w (by omega)
      rw [h1] at this; exact this
    · have := refPutOwner_any oi nm li ha w (by omega)
      rw [h1] at this; exact this
    · have := refTakeOwner_any id s w (by omega)
      unfold townerV at this; rw [h2] at this; exact this
    · have := ownerRight_any oi nm li ha w (by omega)
      rw [h1] at this; exact this
  · refine recOwners_wft _ _ _ _ _ _ _ _ id s (ownerP oi nm li ha) w (Lib.hid fun w => ?_) (Lib.hid fun w => ?_) (Lib.hid fun w => takeOwner_yes id s w (by omega) h2) (Lib.hid fun w => ?_) (Lib.hid fun w => ?_) (Lib.hid fun w => refOwnerRight_is oi nm li ha _ w (by omega) h1)
    · have := putOwner_any oi nm li ha w (by omega)
      rw [h1] at this; exact this
    · have := refPutOwner_any oi nm li ha w (by omega)
      rw [h1] at this; exact this
    · have := refTakeOwner_any id s w (by omega)
      unfold townerV at this; rw [h2] at this; exact this
    · have := ownerRight_any oi nm li ha w (by omega)
      rw [h1] at this; exact this
  · refine recOwners_wtf _ _ _ _ _ _ _ _ id s (ownerP oi nm li ha) w (Lib.hid fun w => ?_) (Lib.hid fun w => ?_) (Lib.hid fun w => takeOwner_no id s w (by omega) h2) (Lib.hid fun w => ?_) (Lib.hid fun w => ?_) (Lib.hid fun w => refOwnerRight_is oi nm li ha _ w (by omega) h1)
    · have := putOwner_any oi nm li ha w (by omega)
      rw [h1] at this; exact this
    · have := refPutOwner_any oi nm li ha w (by omega)
      rw [h1] at this; exact this
    · have := refTakeOwner_any id s w (by omega)
      unfold townerV at this; rw [h2] at this; exact this
    · have := ownerRight_any oi nm li ha w (by omega)
      rw [h1] at this; exact this
  · refine recOwners_wtt _ _ _ _ _ _ _ _ id s (ownerP oi nm li ha) w (Lib.hid fun w => ?_) (Lib.hid fun w => ?_) (Lib.hid fun w => takeOwner_yes id s w (by omega) h2) (Lib.hid fun w => ?_) (Lib.hid fun w => ?_) (Lib.hid fun w => refOwnerRight_is oi nm li ha _ w (by omega) h1)
    · have := putOwner_any oi nm li ha w (by omega)
      rw [h1] at this; exact this
    · have := refPutOwner_any oi nm li ha w (by omega)
      rw [h1] at this; exact this
    · have := refTakeOwner_any id s w (by omega)
      unfold townerV at this; rw [h2] at this; exact this
    · have := ownerRight_any oi nm li ha w (by omega)
      rw [h1] at this; exact this
end Go.Proofs.Ytlbnakoaflladaa
