import Derived.Test.YtlbnakoaflladaaEx14
import Derived.Outline
namespace Go.Proofs.Ytlbnakoaflladaa
open Go.RowKit
set_option linter.unusedVariables false
set_option linter.unusedSimpArgs false
theorem slot_again (id : Int) (s : ByteArray) : ∃ (i c e n : Int) (q f : Int) (p : ByteArray) (r : Bool),
    Hid (∀ w, Calls Try.prog 24 #[.int .i64 id, .string s] w fun e' w' => e' = .returned (.tuple #[.agg #[.int .i64 i, .int .i64 c, .int .i64 e, .int .u64 n], .int .i64 q]) ∧ Below w.heap.size w w') ∧
    Hid (∀ w, Calls Try.prog 22 #[.agg #[.int .i64 i, .int .i64 c, .int .i64 e, .int .u64 n]] w fun e' w' => e' = .returned (.tuple #[.string p, .int .i64 f]) ∧ Below w.heap.size w w') ∧
    Hid (∀ w, Calls Try.prog 26 #[.agg #[.int .i64 i, .int .i64 c, .int .i64 e, .int .u64 n]] w fun e' w' => e' = .returned (.bool r) ∧ Below w.heap.size w w') ∧
    (q = 2 ∨ (q = 0 ∧ f = 0 ∧ p = s ∧ r = true ∧ i = id)) := by
  cases h : tsOk id s
  · exact ⟨0, 0, 0, 0, _, _, _, _, Lib.hid fun w => takeSlot_no id s w h, Lib.hid fun w => putSlot_any _ _ _ _ w (by decide), Lib.hid fun w => slotRight_any _ _ _ _ w, .inl rfl⟩
  · have h' : slotOk id (tsC s) (tsE s) = true ∧ slotB (tsC s) (tsE s) (tsN s) = s := by simpa [tsOk, slotW] using h
    refine ⟨id, tsC s, tsE s, tsN s, _, _, _, _, Lib.hid fun w => takeSlot_yes id s w h, Lib.hid fun w => putSlot_any _ _ _ _ w (by unfold tsN takeN; split <;> omega), Lib.hid fun w => slotRight_any _ _ _ _ w, .inr ⟨rfl, ?_, ?_, ?_, rfl⟩⟩
    · rw [h'.1]; rfl
    · unfold slotP; rw [h'.1]; exact h'.2
    · exact h'.1
theorem owner_again (id : Int) (s : ByteArray) (hs : s.size ≤ 140737488351232) : ∃ (i : Int) (nm : ByteArray) (l h : Int) (q f : Int) (p : ByteArray) (r : Bool),
    Hid (∀ w, Calls Try.prog 18 #[.int .i64 id, .string s] w fun e' w' => e' = .returned (.tuple #[.agg #[.int .i64 i, .string nm, .int .i64 l, .int .i64 h], .int .i64 q]) ∧ Below w.heap.size w w') ∧
    Hid (∀ w, Calls Try.prog 16 #[.agg #[.int .i64 i, .string nm, .int .i64 l, .int .i64 h]] w fun e' w' => e' = .returned (.tuple #[.string p, .int .i64 f]) ∧ Below w.heap.size w w') ∧
    Hid (∀ w, Calls Try.prog 20 #[.agg #[.int .i64 i, .string nm, .int .i64 l, .int .i64 h]] w fun e' w' => e' = .returned (.bool r) ∧ Below w.heap.size w w') ∧
    (q = 2 ∨ (q = 0 ∧ f = 0 ∧ p = s ∧ r = true ∧ i = id)) := by
  cases h : townerOk id s
  · exact ⟨0, ⟨#[]⟩, 0, 0, _, _, _, _, Lib.hid fun w => takeOwner_no id s w hs h, Lib.hid fun w => putOwner_any _ _ _ _ w (by decide), Lib.hid fun w => ownerRight_any _ _ _ _ w (by decide), .inl rfl⟩
  · have hn : (towner2 s).size ≤ 140737488351232 := Nat.le_trans (ttS_size _) (Nat.le_trans (takeR_size _ _) (Nat.le_trans (takeR_size _ _) hs))
    have h' : ownerOk id (towner2 s) (towner0 s) (towner1 s) = true ∧ ownerB (towner2 s) (towner0 s) (towner1 s) = s := by simpa [townerOk, ownerW] using h
    refine ⟨id, towner2 s, towner0 s, towner1 s, _, _, _, _, Lib.hid fun w => takeOwner_yes id s w hs h, Lib.hid fun w => putOwner_any _ _ _ _ w hn, Lib.hid fun w => ownerRight_any _ _ _ _ w hn, .inr ⟨rfl, ?_, ?_, ?_, rfl⟩⟩
    · rw [h'.1]; rfl
    · unfold ownerP; rw [h'.1]; exact h'.2
    · exact h'.1
theorem cap_again (id : Int) (s : ByteArray) : ∃ (i pa ob ow ri ba de ex cu : Int) (rv : Bool) (q f : Int) (p : ByteArray) (r : Bool),
    Hid (∀ w, Calls Try.prog 12 #[.int .i64 id, .string s] w fun e' w' => e' = .returned (.tuple #[.agg #[.int .i64 i, .int .i64 pa, .int .i64 ob, .int .i64 ow, .int .i64 ri, .int .i64 ba, .int .i64 de, .int .i64 ex, .int .i64 cu, .bool rv], .int .i64 q]) ∧ Below w.heap.size w w') ∧
    Hid (∀ w, Calls Try.prog 10 #[.agg #[.int .i64 i, .int .i64 pa, .int .i64 ob, .int .i64 ow, .int .i64 ri, .int .i64 ba, .int .i64 de, .int .i64 ex, .int .i64 cu, .bool rv]] w fun e' w' => e' = .returned (.tuple #[.string p, .int .i64 f]) ∧ Below w.heap.size w w') ∧
    Hid (∀ w, Calls Try.prog 14 #[.agg #[.int .i64 i, .int .i64 pa, .int .i64 ob, .int .i64 ow, .int .i64 ri, .int .i64 ba, .int .i64 de, .int .i64 ex, .int .i64 cu, .bool rv]] w fun e' w' => e' = .returned (.bool r) ∧ Below w.heap.size w w') ∧
    (q = 2 ∨ (q = 0 ∧ f = 0 ∧ p = s ∧ r = true ∧ i = id)) := by
  cases h : tcapOk id s
  · exact ⟨0, 0, 0, 0, 0, 0, 0, 0, 0, false, _, _, _, _, Lib.hid fun w => takeCap_no id s w h, Lib.hid fun w => putCap_any _ _ _ _ _ _ _ _ _ _ w, Lib.hid fun w => capRight_any _ _ _ _ _ _ _ _ _ _ w, .inl rfl⟩
  · have h' : capOk id (tcap0 s) (tcap1 s) (tcap2 s) (tcap3 s) (tcap4 s) (tcap5 s) (tcap6 s) (tcap7 s) = true ∧ capB (tcap0 s) (tcap1 s) (tcap2 s) (tcap3 s) (tcap4 s) (tcap5 s) (tcap6 s) (tcap7 s) (tcap8 s == 1) = s := by simpa only [tcapOk, capW, Bool.and_eq_true, decide_eq_true_eq] using h
    refine ⟨id, tcap0 s, tcap1 s, tcap2 s, tcap3 s, tcap4 s, tcap5 s, tcap6 s, tcap7 s, (tcap8 s == 1), _, _, _, _, Lib.hid fun w => takeCap_yes id s w h, Lib.hid fun w => putCap_any _ _ _ _ _ _ _ _ _ _ w, Lib.hid fun w => capRight_any _ _ _ _ _ _ _ _ _ _ w, .inr ⟨rfl, ?_, ?_, ?_, rfl⟩⟩
    · rw [h'.1]; rfl
    · unfold capP; rw [h'.1]; exact h'.2
    · exact h'.1
/-- A block that a call does not reach. -/
theorem kept {w w' : World} {g : Nat} {o : Obj} (h : w.heap[g]? = some o) (b : Below w.heap.size w w') : w'.heap[g]? = some o := by
  rw [b.block g (Array.getElem?_eq_some_iff.1 h).1]; exact h
theorem kept1 {w w' : World} {o : Obj} (b : Below (w.alloc o).heap.size (w.alloc o) w') : w'.heap[w.heap.size]? = some o := kept (heap_alloc_new w o) b
theorem kept2 {w w' : World} {g : Nat} {o p : Obj} (h : w.heap[g]? = some o) (b : Below (w.alloc p).heap.size (w.alloc p) w') : w'.heap[g]? = some o :=
  kept (by rw [heap_alloc_old w p (Array.getElem?_eq_some_iff.1 h).1]; exact h) b
theorem chain1 {w a b : World} {o : Obj} (h : Below w.heap.size w a) (k : Below (a.alloc o).heap.size (a.alloc o) b) : Below w.heap.size w b := chain (h.alloc h.size o) (by exact k)
theorem cells4 {w : World} {g : Nat} {v0 v1 v2 v3 : Value} {t : TypeId} {fr : Nat × Nat} (h : w.heap[g]? = some (.cells #[v0, v1, v2, v3] t fr)) : w.cell? ⟨g, 0, none⟩ = some v0 ∧ w.cell? ⟨g, 1, none⟩ = some v1 ∧ w.cell? ⟨g, 2, none⟩ = some v2 ∧ w.cell? ⟨g, 3, none⟩ = some v3 := by
  refine ⟨?_, ?_, ?_, ?_⟩ <;> (rw [Go.Joins.cell_of_block h]; rfl)
theorem cells10 {w : World} {g : Nat} {v0 v1 v2 v3 v4 v5 v6 v7 v8 v9 : Value} {t : TypeId} {fr : Nat × Nat} (h : w.heap[g]? = some (.cells #[v0, v1, v2, v3, v4, v5, v6, v7, v8, v9] t fr)) : w.cell? ⟨g, 0, none⟩ = some v0 ∧ w.cell? ⟨g, 1, none⟩ = some v1 ∧ w.cell? ⟨g, 2, none⟩ = some v2 ∧ w.cell? ⟨g, 3, none⟩ = some v3 ∧ w.cell? ⟨g, 4, none⟩ = some v4 ∧ w.cell? ⟨g, 5, none⟩ = some v5 ∧ w.cell? ⟨g, 6, none⟩ = some v6 ∧ w.cell? ⟨g, 7, none⟩ = some v7 ∧ w.cell? ⟨g, 8, none⟩ = some v8 ∧ w.cell? ⟨g, 9, none⟩ = some v9 := by
  refine ⟨?_, ?_, ?_, ?_, ?_, ?_, ?_, ?_, ?_, ?_⟩ <;> (rw [Go.Joins.cell_of_block h]; rfl)
set_option maxHeartbeats 3200000 in
set_option maxRecDepth 20000 in
theorem again_000 (a0 : Int) (a1 : ByteArray) (w : World) (i1 pa ob ow ri ba de ex cu q1 f1 i2 li ha q2 f2 i3 c3 e3 n3 q3 f3 : Int) (rv r1 r2 r3 : Bool) (p1 p2 p3 nm : ByteArray)
    (tc : Hid (∀ w, Calls Try.prog 12 #[.int .i64 a0, .string a1] w fun e' w' => e' = .returned (.tuple #[.agg #[.int .i64 i1, .int .i64 pa, .int .i64 ob, .int .i64 ow, .int .i64 ri, .int .i64 ba, .int .i64 de, .int .i64 ex, .int .i64 cu, .bool rv], .int .i64 2]) ∧ Below w.heap.size w w')) (pc : Hid (∀ w, Calls Try.prog 10 #[.agg #[.int .i64 i1, .int .i64 pa, .int .i64 ob, .int .i64 ow, .int .i64 ri, .int .i64 ba, .int .i64 de, .int .i64 ex, .int .i64 cu, .bool rv]] w fun e' w' => e' = .returned (.tuple #[.string p1, .int .i64 f1]) ∧ Below w.heap.size w w')) (rc : Hid (∀ w, Calls Try.prog 14 #[.agg #[.int .i64 i1, .int .i64 pa, .int .i64 ob, .int .i64 ow, .int .i64 ri, .int .i64 ba, .int .i64 de, .int .i64 ex, .int .i64 cu, .bool rv]] w fun e' w' => e' = .returned (.bool r1) ∧ Below w.heap.size w w'))
    (tO : Hid (∀ w, Calls Try.prog 18 #[.int .i64 a0, .string a1] w fun e' w' => e' = .returned (.tuple #[.agg #[.int .i64 i2, .string nm, .int .i64 li, .int .i64 ha], .int .i64 2]) ∧ Below w.heap.size w w')) (pO : Hid (∀ w, Calls Try.prog 16 #[.agg #[.int .i64 i2, .string nm, .int .i64 li, .int .i64 ha]] w fun e' w' => e' = .returned (.tuple #[.string p2, .int .i64 f2]) ∧ Below w.heap.size w w')) (rO : Hid (∀ w, Calls Try.prog 20 #[.agg #[.int .i64 i2, .string nm, .int .i64 li, .int .i64 ha]] w fun e' w' => e' = .returned (.bool r2) ∧ Below w.heap.size w w'))
    (tS : Hid (∀ w, Calls Try.prog 24 #[.int .i64 a0, .string a1] w fun e' w' => e' = .returned (.tuple #[.agg #[.int .i64 i3, .int .i64 c3, .int .i64 e3, .int .u64 n3], .int .i64 2]) ∧ Below w.heap.size w w')) (pS : Hid (∀ w, Calls Try.prog 22 #[.agg #[.int .i64 i3, .int .i64 c3, .int .i64 e3, .int .u64 n3]] w fun e' w' => e' = .returned (.tuple #[.string p3, .int .i64 f3]) ∧ Below w.heap.size w w')) (rS : Hid (∀ w, Calls Try.prog 26 #[.agg #[.int .i64 i3, .int .i64 c3, .int .i64 e3, .int .u64 n3]] w fun e' w' => e' = .returned (.bool r3) ∧ Below w.heap.size w w')) :
    Calls Try.prog 7 #[.int .i64 a0, .string a1] w fun e w' => e = .returned (.bool true) ∧ Below w.heap.size w w' := by
  go_enter Try.func7, Try.ntmps7
  try simp only [List.append_eq, List.cons_append, List.nil_append]
  go_wp2_with fail
  refine (examples_any _).mono ?_
  rintro e w1 ⟨rfl, b1⟩
  have B1 := Lib.hid b1
  clear b1
  go_wp2_with fail
  refine (tc.out _).mono ?_
  rintro e w2 ⟨rfl, b2⟩
  have B2 := Lib.hid (chain B1.out b2)
  clear b2 B1
  go_wp2_with fail
  refine (pc.out _).mono ?_
  rintro e w3 ⟨rfl, b3⟩
  have R3 := Lib.hid (kept1 b3)
  have B3 := Lib.hid (chain1 B2.out b3)
  clear b3 B2
  go_wp2_with fail
  refine (tO.out _).mono ?_
  rintro e w4 ⟨rfl, b4⟩
  have R4 := Lib.hid (kept R3.out b4)
  have B4 := Lib.hid (chain B3.out b4)
  clear b4 B3 R3
  go_wp2_with fail
  refine (pO.out _).mono ?_
  rintro e w5 ⟨rfl, b5⟩
  have R5 := Lib.hid (kept2 R4.out b5)
  have O5 := Lib.hid (kept1 b5)
  have B5 := Lib.hid (chain1 B4.out b5)
  clear b5 B4 R4
  go_wp2_with fail
  refine (tS.out _).mono ?_
  rintro e w6 ⟨rfl, b6⟩
  have R6 := Lib.hid (kept R5.out b6)
  have O6 := Lib.hid (kept O5.out b6)
  have B6 := Lib.hid (chain B5.out b6)
  clear b6 B5 R5 O5
  go_wp2_with fail
  refine (pS.out _).mono ?_
  rintro e w7 ⟨rfl, b7⟩
  have R7 := Lib.hid (kept2 R6.out b7)
  have O7 := Lib.hid (kept2 O6.out b7)
  have S7 := Lib.hid (kept1 b7)
  have B7 := Lib.hid (chain1 B6.out b7)
  clear b7 B6 R6 O6
  obtain ⟨x0, x1, x2, x3, x4, x5, x6, x7, x8, x9⟩ := cells10 R7.out
  obtain ⟨y0, y1, y2, y3⟩ := cells4 O7.out
  obtain ⟨z0, z1, z2, z3⟩ := cells4 S7.out
  go_wp2_with fail
  go_ret
  exact ⟨rfl, B7.out⟩
set_option maxHeartbeats 3200000 in
set_option maxRecDepth 20000 in
theorem again_001 (a0 : Int) (a1 : ByteArray) (w : World) (i1 pa ob ow ri ba de ex cu q1 f1 i2 li ha q2 f2 i3 c3 e3 n3 q3 f3 : Int) (rv r1 r2 r3 : Bool) (p1 p2 p3 nm : ByteArray)
    (tc : Hid (∀ w, Calls Try.prog 12 #[.int .i64 a0, .string a1] w fun e' w' => e' = .returned (.tuple #[.agg #[.int .i64 i1, .int .i64 pa, .int .i64 ob, .int .i64 ow, .int .i64 ri, .int .i64 ba, .int .i64 de, .int .i64 ex, .int .i64 cu, .bool rv], .int .i64 2]) ∧ Below w.heap.size w w')) (pc : Hid (∀ w, Calls Try.prog 10 #[.agg #[.int .i64 i1, .int .i64 pa, .int .i64 ob, .int .i64 ow, .int .i64 ri, .int .i64 ba, .int .i64 de, .int .i64 ex, .int .i64 cu, .bool rv]] w fun e' w' => e' = .returned (.tuple #[.string p1, .int .i64 f1]) ∧ Below w.heap.size w w')) (rc : Hid (∀ w, Calls Try.prog 14 #[.agg #[.int .i64 i1, .int .i64 pa, .int .i64 ob, .int .i64 ow, .int .i64 ri, .int .i64 ba, .int .i64 de, .int .i64 ex, .int .i64 cu, .bool rv]] w fun e' w' => e' = .returned (.bool r1) ∧ Below w.heap.size w w'))
    (tO : Hid (∀ w, Calls Try.prog 18 #[.int .i64 a0, .string a1] w fun e' w' => e' = .returned (.tuple #[.agg #[.int .i64 i2, .string nm, .int .i64 li, .int .i64 ha], .int .i64 2]) ∧ Below w.heap.size w w')) (pO : Hid (∀ w, Calls Try.prog 16 #[.agg #[.int .i64 i2, .string nm, .int .i64 li, .int .i64 ha]] w fun e' w' => e' = .returned (.tuple #[.string p2, .int .i64 f2]) ∧ Below w.heap.size w w')) (rO : Hid (∀ w, Calls Try.prog 20 #[.agg #[.int .i64 i2, .string nm, .int .i64 li, .int .i64 ha]] w fun e' w' => e' = .returned (.bool r2) ∧ Below w.heap.size w w'))
    (tS : Hid (∀ w, Calls Try.prog 24 #[.int .i64 a0, .string a1] w fun e' w' => e' = .returned (.tuple #[.agg #[.int .i64 a0, .int .i64 c3, .int .i64 e3, .int .u64 n3], .int .i64 0]) ∧ Below w.heap.size w w')) (pS : Hid (∀ w, Calls Try.prog 22 #[.agg #[.int .i64 a0, .int .i64 c3, .int .i64 e3, .int .u64 n3]] w fun e' w' => e' = .returned (.tuple #[.string a1, .int .i64 0]) ∧ Below w.heap.size w w')) (rS : Hid (∀ w, Calls Try.prog 26 #[.agg #[.int .i64 a0, .int .i64 c3, .int .i64 e3, .int .u64 n3]] w fun e' w' => e' = .returned (.bool true) ∧ Below w.heap.size w w')) :
    Calls Try.prog 7 #[.int .i64 a0, .string a1] w fun e w' => e = .returned (.bool true) ∧ Below w.heap.size w w' := by
  go_enter Try.func7, Try.ntmps7
  try simp only [List.append_eq, List.cons_append, List.nil_append]
  go_wp2_with fail
  refine (examples_any _).mono ?_
  rintro e w1 ⟨rfl, b1⟩
  have B1 := Lib.hid b1
  clear b1
  go_wp2_with fail
  refine (tc.out _).mono ?_
  rintro e w2 ⟨rfl, b2⟩
  have B2 := Lib.hid (chain B1.out b2)
  clear b2 B1
  go_wp2_with fail
  refine (pc.out _).mono ?_
  rintro e w3 ⟨rfl, b3⟩
  have R3 := Lib.hid (kept1 b3)
  have B3 := Lib.hid (chain1 B2.out b3)
  clear b3 B2
  go_wp2_with fail
  refine (tO.out _).mono ?_
  rintro e w4 ⟨rfl, b4⟩
  have R4 := Lib.hid (kept R3.out b4)
  have B4 := Lib.hid (chain B3.out b4)
  clear b4 B3 R3
  go_wp2_with fail
  refine (pO.out _).mono ?_
  rintro e w5 ⟨rfl, b5⟩
  have R5 := Lib.hid (kept2 R4.out b5)
  have O5 := Lib.hid (kept1 b5)
  have B5 := Lib.hid (chain1 B4.out b5)
  clear b5 B4 R4
  go_wp2_with fail
  refine (tS.out _).mono ?_
  rintro e w6 ⟨rfl, b6⟩
  have R6 := Lib.hid (kept R5.out b6)
  have O6 := Lib.hid (kept O5.out b6)
  have B6 := Lib.hid (chain B5.out b6)
  clear b6 B5 R5 O5
  go_wp2_with fail
  refine (pS.out _).mono ?_
  rintro e w7 ⟨rfl, b7⟩
  have R7 := Lib.hid (kept2 R6.out b7)
  have O7 := Lib.hid (kept2 O6.out b7)
  have S7 := Lib.hid (kept1 b7)
  have B7 := Lib.hid (chain1 B6.out b7)
  clear b7 B6 R6 O6
  obtain ⟨x0, x1, x2, x3, x4, x5, x6, x7, x8, x9⟩ := cells10 R7.out
  obtain ⟨y0, y1, y2, y3⟩ := cells4 O7.out
  obtain ⟨z0, z1, z2, z3⟩ := cells4 S7.out
  go_wp2_with fail
  refine (rS.out _).mono ?_
  rintro e w8 ⟨rfl, b8⟩
  have R8 := Lib.hid (kept R7.out b8)
  have O8 := Lib.hid (kept O7.out b8)
  have S8 := Lib.hid (kept S7.out b8)
  have B8 := Lib.hid (chain B7.out b8)
  clear b8 B7 R7 O7 S7 x0 x1 x2 x3 x4 x5 x6 x7 x8 x9 y0 y1 y2 y3 z0 z1 z2 z3
  obtain ⟨x0, x1, x2, x3, x4, x5, x6, x7, x8, x9⟩ := cells10 R8.out
  obtain ⟨y0, y1, y2, y3⟩ := cells4 O8.out
  obtain ⟨z0, z1, z2, z3⟩ := cells4 S8.out
  go_wp2_with fail
  go_ret
  exact ⟨rfl, B8.out⟩
set_option maxHeartbeats 3200000 in
set_option maxRecDepth 20000 in
theorem again_010 (a0 : Int) (a1 : ByteArray) (w : World) (i1 pa ob ow ri ba de ex cu q1 f1 i2 li ha q2 f2 i3 c3 e3 n3 q3 f3 : Int) (rv r1 r2 r3 : Bool) (p1 p2 p3 nm : ByteArray)
    (tc : Hid (∀ w, Calls Try.prog 12 #[.int .i64 a0, .string a1] w fun e' w' => e' = .returned (.tuple #[.agg #[.int .i64 i1, .int .i64 pa, .int .i64 ob, .int .i64 ow, .int .i64 ri, .int .i64 ba, .int .i64 de, .int .i64 ex, .int .i64 cu, .bool rv], .int .i64 2]) ∧ Below w.heap.size w w')) (pc : Hid (∀ w, Calls Try.prog 10 #[.agg #[.int .i64 i1, .int .i64 pa, .int .i64 ob, .int .i64 ow, .int .i64 ri, .int .i64 ba, .int .i64 de, .int .i64 ex, .int .i64 cu, .bool rv]] w fun e' w' => e' = .returned (.tuple #[.string p1, .int .i64 f1]) ∧ Below w.heap.size w w')) (rc : Hid (∀ w, Calls Try.prog 14 #[.agg #[.int .i64 i1, .int .i64 pa, .int .i64 ob, .int .i64 ow, .int .i64 ri, .int .i64 ba, .int .i64 de, .int .i64 ex, .int .i64 cu, .bool rv]] w fun e' w' => e' = .returned (.bool r1) ∧ Below w.heap.size w w'))
    (tO : Hid (∀ w, Calls Try.prog 18 #[.int .i64 a0, .string a1] w fun e' w' => e' = .returned (.tuple #[.agg #[.int .i64 a0, .string nm, .int .i64 li, .int .i64 ha], .int .i64 0]) ∧ Below w.heap.size w w')) (pO : Hid (∀ w, Calls Try.prog 16 #[.agg #[.int .i64 a0, .string nm, .int .i64 li, .int .i64 ha]] w fun e' w' => e' = .returned (.tuple #[.string a1, .int .i64 0]) ∧ Below w.heap.size w w')) (rO : Hid (∀ w, Calls Try.prog 20 #[.agg #[.int .i64 a0, .string nm, .int .i64 li, .int .i64 ha]] w fun e' w' => e' = .returned (.bool true) ∧ Below w.heap.size w w'))
    (tS : Hid (∀ w, Calls Try.prog 24 #[.int .i64 a0, .string a1] w fun e' w' => e' = .returned (.tuple #[.agg #[.int .i64 i3, .int .i64 c3, .int .i64 e3, .int .u64 n3], .int .i64 2]) ∧ Below w.heap.size w w')) (pS : Hid (∀ w, Calls Try.prog 22 #[.agg #[.int .i64 i3, .int .i64 c3, .int .i64 e3, .int .u64 n3]] w fun e' w' => e' = .returned (.tuple #[.string p3, .int .i64 f3]) ∧ Below w.heap.size w w')) (rS : Hid (∀ w, Calls Try.prog 26 #[.agg #[.int .i64 i3, .int .i64 c3, .int .i64 e3, .int .u64 n3]] w fun e' w' => e' = .returned (.bool r3) ∧ Below w.heap.size w w')) :
    Calls Try.prog 7 #[.int .i64 a0, .string a1] w fun e w' => e = .returned (.bool true) ∧ Below w.heap.size w w' := by
  go_enter Try.func7, Try.ntmps7
  try simp only [List.append_eq, List.cons_append, List.nil_append]
  go_wp2_with fail
  refine (examples_any _).mono ?_
  rintro e w1 ⟨rfl, b1⟩
  have B1 := Lib.hid b1
  clear b1
  go_wp2_with fail
  refine (tc.out _).mono ?_
  rintro e w2 ⟨rfl, b2⟩
  have B2 := Lib.hid (chain B1.out b2)
  clear b2 B1
  go_wp2_with fail
  refine (pc.out _).mono ?_
  rintro e w3 ⟨rfl, b3⟩
  have R3 := Lib.hid (kept1 b3)
  have B3 := Lib.hid (chain1 B2.out b3)
  clear b3 B2
  go_wp2_with fail
  refine (tO.out _).mono ?_
  rintro e w4 ⟨rfl, b4⟩
  have R4 := Lib.hid (kept R3.out b4)
  have B4 := Lib.hid (chain B3.out b4)
  clear b4 B3 R3
  go_wp2_with fail
  refine (pO.out _).mono ?_
  rintro e w5 ⟨rfl, b5⟩
  have R5 := Lib.hid (kept2 R4.out b5)
  have O5 := Lib.hid (kept1 b5)
  have B5 := Lib.hid (chain1 B4.out b5)
  clear b5 B4 R4
  go_wp2_with fail
  refine (tS.out _).mono ?_
  rintro e w6 ⟨rfl, b6⟩
  have R6 := Lib.hid (kept R5.out b6)
  have O6 := Lib.hid (kept O5.out b6)
  have B6 := Lib.hid (chain B5.out b6)
  clear b6 B5 R5 O5
  go_wp2_with fail
  refine (pS.out _).mono ?_
  rintro e w7 ⟨rfl, b7⟩
  have R7 := Lib.hid (kept2 R6.out b7)
  have O7 := Lib.hid (kept2 O6.out b7)
  have S7 := Lib.hid (kept1 b7)
  have B7 := Lib.hid (chain1 B6.out b7)
  clear b7 B6 R6 O6
  obtain ⟨x0, x1, x2, x3, x4, x5, x6, x7, x8, x9⟩ := cells10 R7.out
  obtain ⟨y0, y1, y2, y3⟩ := cells4 O7.out
  obtain ⟨z0, z1, z2, z3⟩ := cells4 S7.out
  go_wp2_with fail
  refine (rO.out _).mono ?_
  rintro e w8 ⟨rfl, b8⟩
  have R8 := Lib.hid (kept R7.out b8)
  have O8 := Lib.hid (kept O7.out b8)
  have S8 := Lib.hid (kept S7.out b8)
  have B8 := Lib.hid (chain B7.out b8)
  clear b8 B7 R7 O7 S7 x0 x1 x2 x3 x4 x5 x6 x7 x8 x9 y0 y1 y2 y3 z0 z1 z2 z3
  obtain ⟨x0, x1, x2, x3, x4, x5, x6, x7, x8, x9⟩ := cells10 R8.out
  obtain ⟨y0, y1, y2, y3⟩ := cells4 O8.out
  obtain ⟨z0, z1, z2, z3⟩ := cells4 S8.out
  go_wp2_with fail
  go_ret
  exact ⟨rfl, B8.out⟩
set_option maxHeartbeats 3200000 in
set_option maxRecDepth 20000 in
theorem again_011 (a0 : Int) (a1 : ByteArray) (w : World) (i1 pa ob ow ri ba de ex cu q1 f1 i2 li ha q2 f2 i3 c3 e3 n3 q3 f3 : Int) (rv r1 r2 r3 : Bool) (p1 p2 p3 nm : ByteArray)
    (tc : Hid (∀ w, Calls Try.prog 12 #[.int .i64 a0, .string a1] w fun e' w' => e' = .returned (.tuple #[.agg #[.int .i64 i1, .int .i64 pa, .int .i64 ob, .int .i64 ow, .int .i64 ri, .int .i64 ba, .int .i64 de, .int .i64 ex, .int .i64 cu, .bool rv], .int .i64 2]) ∧ Below w.heap.size w w')) (pc : Hid (∀ w, Calls Try.prog 10 #[.agg #[.int .i64 i1, .int .i64 pa, .int .i64 ob, .int .i64 ow, .int .i64 ri, .int .i64 ba, .int .i64 de, .int .i64 ex, .int .i64 cu, .bool rv]] w fun e' w' => e' = .returned (.tuple #[.string p1, .int .i64 f1]) ∧ Below w.heap.size w w')) (rc : Hid (∀ w, Calls Try.prog 14 #[.agg #[.int .i64 i1, .int .i64 pa, .int .i64 ob, .int .i64 ow, .int .i64 ri, .int .i64 ba, .int .i64 de, .int .i64 ex, .int .i64 cu, .bool rv]] w fun e' w' => e' = .returned (.bool r1) ∧ Below w.heap.size w w'))
    (tO : Hid (∀ w, Calls Try.prog 18 #[.int .i64 a0, .string a1] w fun e' w' => e' = .returned (.tuple #[.agg #[.int .i64 a0, .string nm, .int .i64 li, .int .i64 ha], .int .i64 0]) ∧ Below w.heap.size w w')) (pO : Hid (∀ w, Calls Try.prog 16 #[.agg #[.int .i64 a0, .string nm, .int .i64 li, .int .i64 ha]] w fun e' w' => e' = .returned (.tuple #[.string a1, .int .i64 0]) ∧ Below w.heap.size w w')) (rO : Hid (∀ w, Calls Try.prog 20 #[.agg #[.int .i64 a0, .string nm, .int .i64 li, .int .i64 ha]] w fun e' w' => e' = .returned (.bool true) ∧ Below w.heap.size w w'))
    (tS : Hid (∀ w, Calls Try.prog 24 #[.int .i64 a0, .string a1] w fun e' w' => e' = .returned (.tuple #[.agg #[.int .i64 a0, .int .i64 c3, .int .i64 e3, .int .u64 n3], .int .i64 0]) ∧ Below w.heap.size w w')) (pS : Hid (∀ w, Calls Try.prog 22 #[.agg #[.int .i64 a0, .int .i64 c3, .int .i64 e3, .int .u64 n3]] w fun e' w' => e' = .returned (.tuple #[.string a1, .int .i64 0]) ∧ Below w.heap.size w w')) (rS : Hid (∀ w, Calls Try.prog 26 #[.agg #[.int .i64 a0, .int .i64 c3, .int .i64 e3, .int .u64 n3]] w fun e' w' => e' = .returned (.bool true) ∧ Below w.heap.size w w')) :
    Calls Try.prog 7 #[.int .i64 a0, .string a1] w fun e w' => e = .returned (.bool true) ∧ Below w.heap.size w w' := by
  go_enter Try.func7, Try.ntmps7
  try simp only [List.append_eq, List.cons_append, List.nil_append]
  go_wp2_with fail
  refine (examples_any _).mono ?_
  rintro e w1 ⟨rfl, b1⟩
  have B1 := Lib.hid b1
  clear b1
  go_wp2_with fail
  refine (tc.out _).mono ?_
  rintro e w2 ⟨rfl, b2⟩
  have B2 := Lib.hid (chain B1.out b2)
  clear b2 B1
  go_wp2_with fail
  refine (pc.out _).mono ?_
  rintro e w3 ⟨rfl, b3⟩
  have R3 := Lib.hid (kept1 b3)
  have B3 := Lib.hid (chain1 B2.out b3)
  clear b3 B2
  go_wp2_with fail
  refine (tO.out _).mono ?_
  rintro e w4 ⟨rfl, b4⟩
  have R4 := Lib.hid (kept R3.out b4)
  have B4 := Lib.hid (chain B3.out b4)
  clear b4 B3 R3
  go_wp2_with fail
  refine (pO.out _).mono ?_
  rintro e w5 ⟨rfl, b5⟩
  have R5 := Lib.hid (kept2 R4.out b5)
  have O5 := Lib.hid (kept1 b5)
  have B5 := Lib.hid (chain1 B4.out b5)
  clear b5 B4 R4
  go_wp2_with fail
  refine (tS.out _).mono ?_
  rintro e w6 ⟨rfl, b6⟩
  have R6 := Lib.hid (kept R5.out b6)
  have O6 := Lib.hid (kept O5.out b6)
  have B6 := Lib.hid (chain B5.out b6)
  clear b6 B5 R5 O5
  go_wp2_with fail
  refine (pS.out _).mono ?_
  rintro e w7 ⟨rfl, b7⟩
  have R7 := Lib.hid (kept2 R6.out b7)
  have O7 := Lib.hid (kept2 O6.out b7)
  have S7 := Lib.hid (kept1 b7)
  have B7 := Lib.hid (chain1 B6.out b7)
  clear b7 B6 R6 O6
  obtain ⟨x0, x1, x2, x3, x4, x5, x6, x7, x8, x9⟩ := cells10 R7.out
  obtain ⟨y0, y1, y2, y3⟩ := cells4 O7.out
  obtain ⟨z0, z1, z2, z3⟩ := cells4 S7.out
  go_wp2_with fail
  refine (rO.out _).mono ?_
  rintro e w8 ⟨rfl, b8⟩
  have R8 := Lib.hid (kept R7.out b8)
  have O8 := Lib.hid (kept O7.out b8)
  have S8 := Lib.hid (kept S7.out b8)
  have B8 := Lib.hid (chain B7.out b8)
  clear b8 B7 R7 O7 S7 x0 x1 x2 x3 x4 x5 x6 x7 x8 x9 y0 y1 y2 y3 z0 z1 z2 z3
  obtain ⟨x0, x1, x2, x3, x4, x5, x6, x7, x8, x9⟩ := cells10 R8.out
  obtain ⟨y0, y1, y2, y3⟩ := cells4 O8.out
  obtain ⟨z0, z1, z2, z3⟩ := cells4 S8.out
  go_wp2_with fail
  refine (rS.out _).mono ?_
  rintro e w9 ⟨rfl, b9⟩
  have R9 := Lib.hid (kept R8.out b9)
  have O9 := Lib.hid (kept O8.out b9)
  have S9 := Lib.hid (kept S8.out b9)
  have B9 := Lib.hid (chain B8.out b9)
  clear b9 B8 R8 O8 S8 x0 x1 x2 x3 x4 x5 x6 x7 x8 x9 y0 y1 y2 y3 z0 z1 z2 z3
  obtain ⟨x0, x1, x2, x3, x4, x5, x6, x7, x8, x9⟩ := cells10 R9.out
  obtain ⟨y0, y1, y2, y3⟩ := cells4 O9.out
  obtain ⟨z0, z1, z2, z3⟩ := cells4 S9.out
  go_wp2_with fail
  go_ret
  exact ⟨rfl, B9.out⟩
set_option maxHeartbeats 3200000 in
set_option maxRecDepth 20000 in
theorem again_100 (a0 : Int) (a1 : ByteArray) (w : World) (i1 pa ob ow ri ba de ex cu q1 f1 i2 li ha q2 f2 i3 c3 e3 n3 q3 f3 : Int) (rv r1 r2 r3 : Bool) (p1 p2 p3 nm : ByteArray)
    (tc : Hid (∀ w, Calls Try.prog 12 #[.int .i64 a0, .string a1] w fun e' w' => e' = .returned (.tuple #[.agg #[.int .i64 a0, .int .i64 pa, .int .i64 ob, .int .i64 ow, .int .i64 ri, .int .i64 ba, .int .i64 de, .int .i64 ex, .int .i64 cu, .bool rv], .int .i64 0]) ∧ Below w.heap.size w w')) (pc : Hid (∀ w, Calls Try.prog 10 #[.agg #[.int .i64 a0, .int .i64 pa, .int .i64 ob, .int .i64 ow, .int .i64 ri, .int .i64 ba, .int .i64 de, .int .i64 ex, .int .i64 cu, .bool rv]] w fun e' w' => e' = .returned (.tuple #[.string a1, .int .i64 0]) ∧ Below w.heap.size w w')) (rc : Hid (∀ w, Calls Try.prog 14 #[.agg #[.int .i64 a0, .int .i64 pa, .int .i64 ob, .int .i64 ow, .int .i64 ri, .int .i64 ba, .int .i64 de, .int .i64 ex, .int .i64 cu, .bool rv]] w fun e' w' => e' = .returned (.bool true) ∧ Below w.heap.size w w'))
    (tO : Hid (∀ w, Calls Try.prog 18 #[.int .i64 a0, .string a1] w fun e' w' => e' = .returned (.tuple #[.agg #[.int .i64 i2, .string nm, .int .i64 li, .int .i64 ha], .int .i64 2]) ∧ Below w.heap.size w w')) (pO : Hid (∀ w, Calls Try.prog 16 #[.agg #[.int .i64 i2, .string nm, .int .i64 li, .int .i64 ha]] w fun e' w' => e' = .returned (.tuple #[.string p2, .int .i64 f2]) ∧ Below w.heap.size w w')) (rO : Hid (∀ w, Calls Try.prog 20 #[.agg #[.int .i64 i2, .string nm, .int .i64 li, .int .i64 ha]] w fun e' w' => e' = .returned (.bool r2) ∧ Below w.heap.size w w'))
    (tS : Hid (∀ w, Calls Try.prog 24 #[.int .i64 a0, .string a1] w fun e' w' => e' = .returned (.tuple #[.agg #[.int .i64 i3, .int .i64 c3, .int .i64 e3, .int .u64 n3], .int .i64 2]) ∧ Below w.heap.size w w')) (pS : Hid (∀ w, Calls Try.prog 22 #[.agg #[.int .i64 i3, .int .i64 c3, .int .i64 e3, .int .u64 n3]] w fun e' w' => e' = .returned (.tuple #[.string p3, .int .i64 f3]) ∧ Below w.heap.size w w')) (rS : Hid (∀ w, Calls Try.prog 26 #[.agg #[.int .i64 i3, .int .i64 c3, .int .i64 e3, .int .u64 n3]] w fun e' w' => e' = .returned (.bool r3) ∧ Below w.heap.size w w')) :
    Calls Try.prog 7 #[.int .i64 a0, .string a1] w fun e w' => e = .returned (.bool true) ∧ Below w.heap.size w w' := by
  go_enter Try.func7, Try.ntmps7
  try simp only [List.append_eq, List.cons_append, List.nil_append]
  go_wp2_with fail
  refine (examples_any _).mono ?_
  rintro e w1 ⟨rfl, b1⟩
  have B1 := Lib.hid b1
  clear b1
  go_wp2_with fail
  refine (tc.out _).mono ?_
  rintro e w2 ⟨rfl, b2⟩
  have B2 := Lib.hid (chain B1.out b2)
  clear b2 B1
  go_wp2_with fail
  refine (pc.out _).mono ?_
  rintro e w3 ⟨rfl, b3⟩
  have R3 := Lib.hid (kept1 b3)
  have B3 := Lib.hid (chain1 B2.out b3)
  clear b3 B2
  go_wp2_with fail
  refine (tO.out _).mono ?_
  rintro e w4 ⟨rfl, b4⟩
  have R4 := Lib.hid (kept R3.out b4)
  have B4 := Lib.hid (chain B3.out b4)
  clear b4 B3 R3
  go_wp2_with fail
  refine (pO.out _).mono ?_
  rintro e w5 ⟨rfl, b5⟩
  have R5 := Lib.hid (kept2 R4.out b5)
  have O5 := Lib.hid (kept1 b5)
  have B5 := Lib.hid (chain1 B4.out b5)
  clear b5 B4 R4
  go_wp2_with fail
  refine (tS.out _).mono ?_
  rintro e w6 ⟨rfl, b6⟩
  have R6 := Lib.hid (kept R5.out b6)
  have O6 := Lib.hid (kept O5.out b6)
  have B6 := Lib.hid (chain B5.out b6)
  clear b6 B5 R5 O5
  go_wp2_with fail
  refine (pS.out _).mono ?_
  rintro e w7 ⟨rfl, b7⟩
  have R7 := Lib.hid (kept2 R6.out b7)
  have O7 := Lib.hid (kept2 O6.out b7)
  have S7 := Lib.hid (kept1 b7)
  have B7 := Lib.hid (chain1 B6.out b7)
  clear b7 B6 R6 O6
  obtain ⟨x0, x1, x2, x3, x4, x5, x6, x7, x8, x9⟩ := cells10 R7.out
  obtain ⟨y0, y1, y2, y3⟩ := cells4 O7.out
  obtain ⟨z0, z1, z2, z3⟩ := cells4 S7.out
  go_wp2_with fail
  refine (rc.out _).mono ?_
  rintro e w8 ⟨rfl, b8⟩
  have R8 := Lib.hid (kept R7.out b8)
  have O8 := Lib.hid (kept O7.out b8)
  have S8 := Lib.hid (kept S7.out b8)
  have B8 := Lib.hid (chain B7.out b8)
  clear b8 B7 R7 O7 S7 x0 x1 x2 x3 x4 x5 x6 x7 x8 x9 y0 y1 y2 y3 z0 z1 z2 z3
  obtain ⟨x0, x1, x2, x3, x4, x5, x6, x7, x8, x9⟩ := cells10 R8.out
  obtain ⟨y0, y1, y2, y3⟩ := cells4 O8.out
  obtain ⟨z0, z1, z2, z3⟩ := cells4 S8.out
  go_wp2_with fail
  go_ret
  exact ⟨rfl, B8.out⟩
set_option maxHeartbeats 3200000 in
set_option maxRecDepth 20000 in
theorem again_101 (a0 : Int) (a1 : ByteArray) (w : World) (i1 pa ob ow ri ba de ex cu q1 f1 i2 li ha q2 f2 i3 c3 e3 n3 q3 f3 : Int) (rv r1 r2 r3 : Bool) (p1 p2 p3 nm : ByteArray)
    (tc : Hid (∀ w, Calls Try.prog 12 #[.int .i64 a0, .string a1] w fun e' w' => e' = .returned (.tuple #[.agg #[.int .i64 a0, .int .i64 pa, .int .i64 ob, .int .i64 ow, .int .i64 ri, .int .i64 ba, .int .i64 de, .int .i64 ex, .int .i64 cu, .bool rv], .int .i64 0]) ∧ Below w.heap.size w w')) (pc : Hid (∀ w, Calls Try.prog 10 #[.agg #[.int .i64 a0, .int .i64 pa, .int .i64 ob, .int .i64 ow, .int .i64 ri, .int .i64 ba, .int .i64 de, .int .i64 ex, .int .i64 cu, .bool rv]] w fun e' w' => e' = .returned (.tuple #[.string a1, .int .i64 0]) ∧ Below w.heap.size w w')) (rc : Hid (∀ w, Calls Try.prog 14 #[.agg #[.int .i64 a0, .int .i64 pa, .int .i64 ob, .int .i64 ow, .int .i64 ri, .int .i64 ba, .int .i64 de, .int .i64 ex, .int .i64 cu, .bool rv]] w fun e' w' => e' = .returned (.bool true) ∧ Below w.heap.size w w'))
    (tO : Hid (∀ w, Calls Try.prog 18 #[.int .i64 a0, .string a1] w fun e' w' => e' = .returned (.tuple #[.agg #[.int .i64 i2, .string nm, .int .i64 li, .int .i64 ha], .int .i64 2]) ∧ Below w.heap.size w w')) (pO : Hid (∀ w, Calls Try.prog 16 #[.agg #[.int .i64 i2, .string nm, .int .i64 li, .int .i64 ha]] w fun e' w' => e' = .returned (.tuple #[.string p2, .int .i64 f2]) ∧ Below w.heap.size w w')) (rO : Hid (∀ w, Calls Try.prog 20 #[.agg #[.int .i64 i2, .string nm, .int .i64 li, .int .i64 ha]] w fun e' w' => e' = .returned (.bool r2) ∧ Below w.heap.size w w'))
    (tS : Hid (∀ w, Calls Try.prog 24 #[.int .i64 a0, .string a1] w fun e' w' => e' = .returned (.tuple #[.agg #[.int .i64 a0, .int .i64 c3, .int .i64 e3, .int .u64 n3], .int .i64 0]) ∧ Below w.heap.size w w')) (pS : Hid (∀ w, Calls Try.prog 22 #[.agg #[.int .i64 a0, .int .i64 c3, .int .i64 e3, .int .u64 n3]] w fun e' w' => e' = .returned (.tuple #[.string a1, .int .i64 0]) ∧ Below w.heap.size w w')) (rS : Hid (∀ w, Calls Try.prog 26 #[.agg #[.int .i64 a0, .int .i64 c3, .int .i64 e3, .int .u64 n3]] w fun e' w' => e' = .returned (.bool true) ∧ Below w.heap.size w w')) :
    Calls Try.prog 7 #[.int .i64 a0, .string a1] w fun e w' => e = .returned (.bool true) ∧ Below w.heap.size w w' := by
  go_enter Try.func7, Try.ntmps7
  try simp only [List.append_eq, List.cons_append, List.nil_append]
  go_wp2_with fail
  refine (examples_any _).mono ?_
  rintro e w1 ⟨rfl, b1⟩
  have B1 := Lib.hid b1
  clear b1
  go_wp2_with fail
  refine (tc.out _).mono ?_
  rintro e w2 ⟨rfl, b2⟩
  have B2 := Lib.hid (chain B1.out b2)
  clear b2 B1
  go_wp2_with fail
  refine (pc.out _).mono ?_
  rintro e w3 ⟨rfl, b3⟩
  have R3 := Lib.hid (kept1 b3)
  have B3 := Lib.hid (chain1 B2.out b3)
  clear b3 B2
  go_wp2_with fail
  refine (tO.out _).mono ?_
  rintro e w4 ⟨rfl, b4⟩
  have R4 := Lib.hid (kept R3.out b4)
  have B4 := Lib.hid (chain B3.out b4)
  clear b4 B3 R3
  go_wp2_with fail
  refine (pO.out _).mono ?_
  rintro e w5 ⟨rfl, b5⟩
  have R5 := Lib.hid (kept2 R4.out b5)
  have O5 := Lib.hid (kept1 b5)
  have B5 := Lib.hid (chain1 B4.out b5)
  clear b5 B4 R4
  go_wp2_with fail
  refine (tS.out _).mono ?_
  rintro e w6 ⟨rfl, b6⟩
  have R6 := Lib.hid (kept R5.out b6)
  have O6 := Lib.hid (kept O5.out b6)
  have B6 := Lib.hid (chain B5.out b6)
  clear b6 B5 R5 O5
  go_wp2_with fail
  refine (pS.out _).mono ?_
  rintro e w7 ⟨rfl, b7⟩
  have R7 := Lib.hid (kept2 R6.out b7)
  have O7 := Lib.hid (kept2 O6.out b7)
  have S7 := Lib.hid (kept1 b7)
  have B7 := Lib.hid (chain1 B6.out b7)
  clear b7 B6 R6 O6
  obtain ⟨x0, x1, x2, x3, x4, x5, x6, x7, x8, x9⟩ := cells10 R7.out
  obtain ⟨y0, y1, y2, y3⟩ := cells4 O7.out
  obtain ⟨z0, z1, z2, z3⟩ := cells4 S7.out
  go_wp2_with fail
  refine (rc.out _).mono ?_
  rintro e w8 ⟨rfl, b8⟩
  have R8 := Lib.hid (kept R7.out b8)
  have O8 := Lib.hid (kept O7.out b8)
  have S8 := Lib.hid (kept S7.out b8)
  have B8 := Lib.hid (chain B7.out b8)
  clear b8 B7 R7 O7 S7 x0 x1 x2 x3 x4 x5 x6 x7 x8 x9 y0 y1 y2 y3 z0 z1 z2 z3
  obtain ⟨x0, x1, x2, x3, x4, x5, x6, x7, x8, x9⟩ := cells10 R8.out
  obtain ⟨y0, y1, y2, y3⟩ := cells4 O8.out
  obtain ⟨z0, z1, z2, z3⟩ := cells4 S8.out
  go_wp2_with fail
  refine (rS.out _).mono ?_
  rintro e w9 ⟨rfl, b9⟩
  have R9 := Lib.hid (kept R8.out b9)
  have O9 := Lib.hid (kept O8.out b9)
  have S9 := Lib.hid (kept S8.out b9)
  have B9 := Lib.hid (chain B8.out b9)
  clear b9 B8 R8 O8 S8 x0 x1 x2 x3 x4 x5 x6 x7 x8 x9 y0 y1 y2 y3 z0 z1 z2 z3
  obtain ⟨x0, x1, x2, x3, x4, x5, x6, x7, x8, x9⟩ := cells10 R9.out
  obtain ⟨y0, y1, y2, y3⟩ := cells4 O9.out
  obtain ⟨z0, z1, z2, z3⟩ := cells4 S9.out
  go_wp2_with fail
  go_ret
  exact ⟨rfl, B9.out⟩
set_option maxHeartbeats 3200000 in
set_option maxRecDepth 20000 in
theorem again_110 (a0 : Int) (a1 : ByteArray) (w : World) (i1 pa ob ow ri ba de ex cu q1 f1 i2 li ha q2 f2 i3 c3 e3 n3 q3 f3 : Int) (rv r1 r2 r3 : Bool) (p1 p2 p3 nm : ByteArray)
    (tc : Hid (∀ w, Calls Try.prog 12 #[.int .i64 a0, .string a1] w fun e' w' => e' = .returned (.tuple #[.agg #[.int .i64 a0, .int .i64 pa, .int .i64 ob, .int .i64 ow, .int .i64 ri, .int .i64 ba, .int .i64 de, .int .i64 ex, .int .i64 cu, .bool rv], .int .i64 0]) ∧ Below w.heap.size w w')) (pc : Hid (∀ w, Calls Try.prog 10 #[.agg #[.int .i64 a0, .int .i64 pa, .int .i64 ob, .int .i64 ow, .int .i64 ri, .int .i64 ba, .int .i64 de, .int .i64 ex, .int .i64 cu, .bool rv]] w fun e' w' => e' = .returned (.tuple #[.string a1, .int .i64 0]) ∧ Below w.heap.size w w')) (rc : Hid (∀ w, Calls Try.prog 14 #[.agg #[.int .i64 a0, .int .i64 pa, .int .i64 ob, .int .i64 ow, .int .i64 ri, .int .i64 ba, .int .i64 de, .int .i64 ex, .int .i64 cu, .bool rv]] w fun e' w' => e' = .returned (.bool true) ∧ Below w.heap.size w w'))
    (tO : Hid (∀ w, Calls Try.prog 18 #[.int .i64 a0, .string a1] w fun e' w' => e' = .returned (.tuple #[.agg #[.int .i64 a0, .string nm, .int .i64 li, .int .i64 ha], .int .i64 0]) ∧ Below w.heap.size w w')) (pO : Hid (∀ w, Calls Try.prog 16 #[.agg #[.int .i64 a0, .string nm, .int .i64 li, .int .i64 ha]] w fun e' w' => e' = .returned (.tuple #[.string a1, .int .i64 0]) ∧ Below w.heap.size w w')) (rO : Hid (∀ w, Calls Try.prog 20 #[.agg #[.int .i64 a0, .string nm, .int .i64 li, .int .i64 ha]] w fun e' w' => e' = .returned (.bool true) ∧ Below w.heap.size w w'))
    (tS : Hid (∀ w, Calls Try.prog 24 #[.int .i64 a0, .string a1] w fun e' w' => e' = .returned (.tuple #[.agg #[.int .i64 i3, .int .i64 c3, .int .i64 e3, .int .u64 n3], .int .i64 2]) ∧ Below w.heap.size w w')) (pS : Hid (∀ w, Calls Try.prog 22 #[.agg #[.int .i64 i3, .int .i64 c3, .int .i64 e3, .int .u64 n3]] w fun e' w' => e' = .returned (.tuple #[.string p3, .int .i64 f3]) ∧ Below w.heap.size w w')) (rS : Hid (∀ w, Calls Try.prog 26 #[.agg #[.int .i64 i3, .int .i64 c3, .int .i64 e3, .int .u64 n3]] w fun e' w' => e' = .returned (.bool r3) ∧ Below w.heap.size w w')) :
    Calls Try.prog 7 #[.int .i64 a0, .string a1] w fun e w' => e = .returned (.bool true) ∧ Below w.heap.size w w' := by
  go_enter Try.func7, Try.ntmps7
  try simp only [List.append_eq, List.cons_append, List.nil_append]
  go_wp2_with fail
  refine (examples_any _).mono ?_
  rintro e w1 ⟨rfl, b1⟩
  have B1 := Lib.hid b1
  clear b1
  go_wp2_with fail
  refine (tc.out _).mono ?_
  rintro e w2 ⟨rfl, b2⟩
  have B2 := Lib.hid (chain B1.out b2)
  clear b2 B1
  go_wp2_with fail
  refine (pc.out _).mono ?_
  rintro e w3 ⟨rfl, b3⟩
  have R3 := Lib.hid (kept1 b3)
  have B3 := Lib.hid (chain1 B2.out b3)
  clear b3 B2
  go_wp2_with fail
  refine (tO.out _).mono ?_
  rintro e w4 ⟨rfl, b4⟩
  have R4 := Lib.hid (kept R3.out b4)
  have B4 := Lib.hid (chain B3.out b4)
  clear b4 B3 R3
  go_wp2_with fail
  refine (pO.out _).mono ?_
  rintro e w5 ⟨rfl, b5⟩
  have R5 := Lib.hid (kept2 R4.out b5)
  have O5 := Lib.hid (kept1 b5)
  have B5 := Lib.hid (chain1 B4.out b5)
  clear b5 B4 R4
  go_wp2_with fail
  refine (tS.out _).mono ?_
  rintro e w6 ⟨rfl, b6⟩
  have R6 := Lib.hid (kept R5.out b6)
  have O6 := Lib.hid (kept O5.out b6)
  have B6 := Lib.hid (chain B5.out b6)
  clear b6 B5 R5 O5
  go_wp2_with fail
  refine (pS.out _).mono ?_
  rintro e w7 ⟨rfl, b7⟩
  have R7 := Lib.hid (kept2 R6.out b7)
  have O7 := Lib.hid (kept2 O6.out b7)
  have S7 := Lib.hid (kept1 b7)
  have B7 := Lib.hid (chain1 B6.out b7)
  clear b7 B6 R6 O6
  obtain ⟨x0, x1, x2, x3, x4, x5, x6, x7, x8, x9⟩ := cells10 R7.out
  obtain ⟨y0, y1, y2, y3⟩ := cells4 O7.out
  obtain ⟨z0, z1, z2, z3⟩ := cells4 S7.out
  go_wp2_with fail
  refine (rc.out _).mono ?_
  rintro e w8 ⟨rfl, b8⟩
  have R8 := Lib.hid (kept R7.out b8)
  have O8 := Lib.hid (kept O7.out b8)
  have S8 := Lib.hid (kept S7.out b8)
  have B8 := Lib.hid (chain B7.out b8)
  clear b8 B7 R7 O7 S7 x0 x1 x2 x3 x4 x5 x6 x7 x8 x9 y0 y1 y2 y3 z0 z1 z2 z3
  obtain ⟨x0, x1, x2, x3, x4, x5, x6, x7, x8, x9⟩ := cells10 R8.out
  obtain ⟨y0, y1, y2, y3⟩ := cells4 O8.out
  obtain ⟨z0, z1, z2, z3⟩ := cells4 S8.out
  go_wp2_with fail
  refine (rO.out _).mono ?_
  rintro e w9 ⟨rfl, b9⟩
  have R9 := Lib.hid (kept R8.out b9)
  have O9 := Lib.hid (kept O8.out b9)
  have S9 := Lib.hid (kept S8.out b9)
  have B9 := Lib.hid (chain B8.out b9)
  clear b9 B8 R8 O8 S8 x0 x1 x2 x3 x4 x5 x6 x7 x8 x9 y0 y1 y2 y3 z0 z1 z2 z3
  obtain ⟨x0, x1, x2, x3, x4, x5, x6, x7, x8, x9⟩ := cells10 R9.out
  obtain ⟨y0, y1, y2, y3⟩ := cells4 O9.out
  obtain ⟨z0, z1, z2, z3⟩ := cells4 S9.out
  go_wp2_with fail
  go_ret
  exact ⟨rfl, B9.out⟩
set_option maxHeartbeats 3200000 in
set_option maxRecDepth 20000 in
theorem again_111 (a0 : Int) (a1 : ByteArray) (w : World) (i1 pa ob ow ri ba de ex cu q1 f1 i2 li ha q2 f2 i3 c3 e3 n3 q3 f3 : Int) (rv r1 r2 r3 : Bool) (p1 p2 p3 nm : ByteArray)
    (tc : Hid (∀ w, Calls Try.prog 12 #[.int .i64 a0, .string a1] w fun e' w' => e' = .returned (.tuple #[.agg #[.int .i64 a0, .int .i64 pa, .int .i64 ob, .int .i64 ow, .int .i64 ri, .int .i64 ba, .int .i64 de, .int .i64 ex, .int .i64 cu, .bool rv], .int .i64 0]) ∧ Below w.heap.size w w')) (pc : Hid (∀ w, Calls Try.prog 10 #[.agg #[.int .i64 a0, .int .i64 pa, .int .i64 ob, .int .i64 ow, .int .i64 ri, .int .i64 ba, .int .i64 de, .int .i64 ex, .int .i64 cu, .bool rv]] w fun e' w' => e' = .returned (.tuple #[.string a1, .int .i64 0]) ∧ Below w.heap.size w w')) (rc : Hid (∀ w, Calls Try.prog 14 #[.agg #[.int .i64 a0, .int .i64 pa, .int .i64 ob, .int .i64 ow, .int .i64 ri, .int .i64 ba, .int .i64 de, .int .i64 ex, .int .i64 cu, .bool rv]] w fun e' w' => e' = .returned (.bool true) ∧ Below w.heap.size w w'))
    (tO : Hid (∀ w, Calls Try.prog 18 #[.int .i64 a0, .string a1] w fun e' w' => e' = .returned (.tuple #[.agg #[.int .i64 a0, .string nm, .int .i64 li, .int .i64 ha], .int .i64 0]) ∧ Below w.heap.size w w')) (pO : Hid (∀ w, Calls Try.prog 16 #[.agg #[.int .i64 a0, .string nm, .int .i64 li, .int .i64 ha]] w fun e' w' => e' = .returned (.tuple #[.string a1, .int .i64 0]) ∧ Below w.heap.size w w')) (rO : Hid (∀ w, Calls Try.prog 20 #[.agg #[.int .i64 a0, .string nm, .int .i64 li, .int .i64 ha]] w fun e' w' => e' = .returned (.bool true) ∧ Below w.heap.size w w'))
    (tS : Hid (∀ w, Calls Try.prog 24 #[.int .i64 a0, .string a1] w fun e' w' => e' = .returned (.tuple #[.agg #[.int .i64 a0, .int .i64 c3, .int .i64 e3, .int .u64 n3], .int .i64 0]) ∧ Below w.heap.size w w')) (pS : Hid (∀ w, Calls Try.prog 22 #[.agg #[.int .i64 a0, .int .i64 c3, .int .i64 e3, .int .u64 n3]] w fun e' w' => e' = .returned (.tuple #[.string a1, .int .i64 0]) ∧ Below w.heap.size w w')) (rS : Hid (∀ w, Calls Try.prog 26 #[.agg #[.int .i64 a0, .int .i64 c3, .int .i64 e3, .int .u64 n3]] w fun e' w' => e' = .returned (.bool true) ∧ Below w.heap.size w w')) :
    Calls Try.prog 7 #[.int .i64 a0, .string a1] w fun e w' => e = .returned (.bool true) ∧ Below w.heap.size w w' := by
  go_enter Try.func7, Try.ntmps7
  try simp only [List.append_eq, List.cons_append, List.nil_append]
  go_wp2_with fail
  refine (examples_any _).mono ?_
  rintro e w1 ⟨rfl, b1⟩
  have B1 := Lib.hid b1
  clear b1
  go_wp2_with fail
  refine (tc.out _).mono ?_
  rintro e w2 ⟨rfl, b2⟩
  have B2 := Lib.hid (chain B1.out b2)
  clear b2 B1
  go_wp2_with fail
  refine (pc.out _).mono ?_
  rintro e w3 ⟨rfl, b3⟩
  have R3 := Lib.hid (kept1 b3)
  have B3 := Lib.hid (chain1 B2.out b3)
  clear b3 B2
  go_wp2_with fail
  refine (tO.out _).mono ?_
  rintro e w4 ⟨rfl, b4⟩
  have R4 := Lib.hid (kept R3.out b4)
  have B4 := Lib.hid (chain B3.out b4)
  clear b4 B3 R3
  go_wp2_with fail
  refine (pO.out _).mono ?_
  rintro e w5 ⟨rfl, b5⟩
  have R5 := Lib.hid (kept2 R4.out b5)
  have O5 := Lib.hid (kept1 b5)
  have B5 := Lib.hid (chain1 B4.out b5)
  clear b5 B4 R4
  go_wp2_with fail
  refine (tS.out _).mono ?_
  rintro e w6 ⟨rfl, b6⟩
  have R6 := Lib.hid (kept R5.out b6)
  have O6 := Lib.hid (kept O5.out b6)
  have B6 := Lib.hid (chain B5.out b6)
  clear b6 B5 R5 O5
  go_wp2_with fail
  refine (pS.out _).mono ?_
  rintro e w7 ⟨rfl, b7⟩
  have R7 := Lib.hid (kept2 R6.out b7)
  have O7 := Lib.hid (kept2 O6.out b7)
  have S7 := Lib.hid (kept1 b7)
  have B7 := Lib.hid (chain1 B6.out b7)
  clear b7 B6 R6 O6
  obtain ⟨x0, x1, x2, x3, x4, x5, x6, x7, x8, x9⟩ := cells10 R7.out
  obtain ⟨y0, y1, y2, y3⟩ := cells4 O7.out
  obtain ⟨z0, z1, z2, z3⟩ := cells4 S7.out
  go_wp2_with fail
  refine (rc.out _).mono ?_
  rintro e w8 ⟨rfl, b8⟩
  have R8 := Lib.hid (kept R7.out b8)
  have O8 := Lib.hid (kept O7.out b8)
  have S8 := Lib.hid (kept S7.out b8)
  have B8 := Lib.hid (chain B7.out b8)
  clear b8 B7 R7 O7 S7 x0 x1 x2 x3 x4 x5 x6 x7 x8 x9 y0 y1 y2 y3 z0 z1 z2 z3
  obtain ⟨x0, x1, x2, x3, x4, x5, x6, x7, x8, x9⟩ := cells10 R8.out
  obtain ⟨y0, y1, y2, y3⟩ := cells4 O8.out
  obtain ⟨z0, z1, z2, z3⟩ := cells4 S8.out
  go_wp2_with fail
  refine (rO.out _).mono ?_
  rintro e w9 ⟨rfl, b9⟩
  have R9 := Lib.hid (kept R8.out b9)
  have O9 := Lib.hid (kept O8.out b9)
  have S9 := Lib.hid (kept S8.out b9)
  have B9 := Lib.hid (chain B8.out b9)
  clear b9 B8 R8 O8 S8 x0 x1 x2 x3 x4 x5 x6 x7 x8 x9 y0 y1 y2 y3 z0 z1 z2 z3
  obtain ⟨x0, x1, x2, x3, x4, x5, x6, x7, x8, x9⟩ := cells10 R9.out
  obtain ⟨y0, y1, y2, y3⟩ := cells4 O9.out
  obtain ⟨z0, z1, z2, z3⟩ := cells4 S9.out
  go_wp2_with fail
  refine (rS.out _).mono ?_
  rintro e w10 ⟨rfl, b10⟩
  have R10 := Lib.hid (kept R9.out b10)
  have O10 := Lib.hid (kept O9.out b10)
  have S10 := Lib.hid (kept S9.out b10)
  have B10 := Lib.hid (chain B9.out b10)
  clear b10 B9 R9 O9 S9 x0 x1 x2 x3 x4 x5 x6 x7 x8 x9 y0 y1 y2 y3 z0 z1 z2 z3
  obtain ⟨x0, x1, x2, x3, x4, x5, x6, x7, x8, x9⟩ := cells10 R10.out
  obtain ⟨y0, y1, y2, y3⟩ := cells4 O10.out
  obtain ⟨z0, z1, z2, z3⟩ := cells4 S10.out
  go_wp2_with fail
  go_ret
  exact ⟨rfl, B10.out⟩
theorem recAgain_law (a0 : Int) (a1 : ByteArray) (w : World) (h0 : (Lit.int .i64 a0).wf = true) (z1 : a1.size ≤ 140737488351232) :
    Calls Try.prog 7 #[.int .i64 a0, .string a1] w fun e w' => e = .returned (.bool true) ∧ Below w.heap.size w w' := by
  obtain ⟨i1, pa, ob, ow, ri, ba, de, ex, cu, rv, q1, f1, p1, r1, tc, pc, rc, hc⟩ := cap_again a0 a1
  obtain ⟨i2, nm, li, ha, q2, f2, p2, r2, tO, pO, rO, hO⟩ := owner_again a0 a1 z1
  obtain ⟨i3, c3, e3, n3, q3, f3, p3, r3, tS, pS, rS, hS⟩ := slot_again a0 a1
  rcases hc with hc | ⟨hc1, hc2, hc3, hc4, hc5⟩
  all_goals rcases hO with hO | ⟨hO1, hO2, hO3, hO4, hO5⟩
  all_goals rcases hS with hS | ⟨hS1, hS2, hS3, hS4, hS5⟩
  · rw [hc] at tc
    rw [hO] at tO
    rw [hS] at tS
    exact again_000 a0 a1 w i1 pa ob ow ri ba de ex cu q1 f1 i2 li ha q2 f2 i3 c3 e3 n3 q3 f3 rv r1 r2 r3 p1 p2 p3 nm tc pc rc tO pO rO tS pS rS
  · rw [hc] at tc
    rw [hO] at tO
    rw [hS1, hS5] at tS
    rw [hS2, hS3, hS5] at pS
    rw [hS4, hS5] at rS
    exact again_001 a0 a1 w i1 pa ob ow ri ba de ex cu q1 f1 i2 li ha q2 f2 i3 c3 e3 n3 q3 f3 rv r1 r2 r3 p1 p2 p3 nm tc pc rc tO pO rO tS pS rS
  · rw [hc] at tc
    rw [hO1, hO5] at tO
    rw [hO2, hO3, hO5] at pO
    rw [hO4, hO5] at rO
    rw [hS] at tS
    exact again_010 a0 a1 w i1 pa ob ow ri ba de ex cu q1 f1 i2 li ha q2 f2 i3 c3 e3 n3 q3 f3 rv r1 r2 r3 p1 p2 p3 nm tc pc rc tO pO rO tS pS rS
  · rw [hc] at tc
    rw [hO1, hO5] at tO
    rw [hO2, hO3, hO5] at pO
    rw [hO4, hO5] at rO
    rw [hS1, hS5] at tS
    rw [hS2, hS3, hS5] at pS
    rw [hS4, hS5] at rS
    exact again_011 a0 a1 w i1 pa ob ow ri ba de ex cu q1 f1 i2 li ha q2 f2 i3 c3 e3 n3 q3 f3 rv r1 r2 r3 p1 p2 p3 nm tc pc rc tO pO rO tS pS rS
  · rw [hc1, hc5] at tc
    rw [hc2, hc3, hc5] at pc
    rw [hc4, hc5] at rc
    rw [hO] at tO
    rw [hS] at tS
    exact again_100 a0 a1 w i1 pa ob ow ri ba de ex cu q1 f1 i2 li ha q2 f2 i3 c3 e3 n3 q3 f3 rv r1 r2 r3 p1 p2 p3 nm tc pc rc tO pO rO tS pS rS
  · rw [hc1, hc5] at tc
    rw [hc2, hc3, hc5] at pc
    rw [hc4, hc5] at rc
    rw [hO] at tO
    rw [hS1, hS5] at tS
    rw [hS2, hS3, hS5] at pS
    rw [hS4, hS5] at rS
    exact again_101 a0 a1 w i1 pa ob ow ri ba de ex cu q1 f1 i2 li ha q2 f2 i3 c3 e3 n3 q3 f3 rv r1 r2 r3 p1 p2 p3 nm tc pc rc tO pO rO tS pS rS
  · rw [hc1, hc5] at tc
    rw [hc2, hc3, hc5] at pc
    rw [hc4, hc5] at rc
    rw [hO1, hO5] at tO
    rw [hO2, hO3, hO5] at pO
    rw [hO4, hO5] at rO
    rw [hS] at tS
    exact again_110 a0 a1 w i1 pa ob ow ri ba de ex cu q1 f1 i2 li ha q2 f2 i3 c3 e3 n3 q3 f3 rv r1 r2 r3 p1 p2 p3 nm tc pc rc tO pO rO tS pS rS
  · rw [hc1, hc5] at tc
    rw [hc2, hc3, hc5] at pc
    rw [hc4, hc5] at rc
    rw [hO1, hO5] at tO
    rw [hO2, hO3, hO5] at pO
    rw [hO4, hO5] at rO
    rw [hS1, hS5] at tS
    rw [hS2, hS3, hS5] at pS
    rw [hS4, hS5] at rS
    exact again_111 a0 a1 w i1 pa ob ow ri ba de ex cu q1 f1 i2 li ha q2 f2 i3 c3 e3 n3 q3 f3 rv r1 r2 r3 p1 p2 p3 nm tc pc rc tO pO rO tS pS rS
end Go.Proofs.Ytlbnakoaflladaa
