import Derived.Test.YtlbnakoaflladaaRecKit
namespace Go.Proofs.Ytlbnakoaflladaa
open Go.RowKit
set_option linter.unusedVariables false
set_option linter.unusedSimpArgs false
set_option maxHeartbeats 1600000 in
set_option maxRecDepth 20000 in
theorem recNames_walk (name f p1 p2 : ByteArray) (ci pa ob ow ri ba de ex cu xi xc xe xn e1 e2 : Int) (rv ok same top last : Bool) (w : World)
    (FO : Hid (∀ w, Calls Try.prog 28 #[.string name] w fun e w' => e = .returned (.tuple #[.string f, .bool ok]) ∧ Below w.heap.size w w'))
    (P1 : Hid (∀ w, Calls Try.prog 16 #[.agg #[.int .i64 1, .string name, .int .i64 3, .int .i64 0]] w fun e w' => e = .returned (.tuple #[.string p1, .int .i64 e1]) ∧ Below w.heap.size w w'))
    (P2 : Hid (∀ w, Calls Try.prog 16 #[.agg #[.int .i64 1, .string f, .int .i64 3, .int .i64 0]] w fun e w' => e = .returned (.tuple #[.string p2, .int .i64 e2]) ∧ Below w.heap.size w w'))
    (R1 : Hid (∀ w, Calls Try.prog 14 #[.agg #[.int .i64 ci, .int .i64 0, .int .i64 ob, .int .i64 ow, .int .i64 ri, .int .i64 ba, .int .i64 1, .int .i64 ex, .int .i64 cu, .bool rv]] w fun e w' => e = .returned (.bool top) ∧ Below w.heap.size w w'))
    (R2 : Hid (∀ w, Calls Try.prog 14 #[.agg #[.int .i64 ci, .int .i64 0, .int .i64 ob, .int .i64 ow, .int .i64 ri, .int .i64 ba, .int .i64 2, .int .i64 ex, .int .i64 cu, .bool rv]] w fun e w' => e = .returned (.bool false) ∧ Below w.heap.size w w'))
    (R3 : Hid (∀ w, Calls Try.prog 26 #[.agg #[.int .i64 xi, .int .i64 xc, .int .i64 16, .int .u64 xn]] w fun e w' => e = .returned (.bool last) ∧ Below w.heap.size w w'))
    (hs : (f.toList == name.toList) = same) (h1 : (ok = false ∧ e1 = 1 ∧ e2 = 1) ∨ (ok = true ∧ same = true ∧ e1 = 0 ∧ e2 = 0) ∨ (ok = true ∧ same = false ∧ e1 = 1 ∧ e2 = 0)) (h2 : top = true → 1 ≤ ci ∧ 1 ≤ ob) (h3 : last = true → xc = 0) :
    Calls Try.prog 8 #[.string name, .agg #[.int .i64 ci, .int .i64 pa, .int .i64 ob, .int .i64 ow, .int .i64 ri, .int .i64 ba, .int .i64 de, .int .i64 ex, .int .i64 cu, .bool rv], .agg #[.int .i64 xi, .int .i64 xc, .int .i64 xe, .int .u64 xn]] w fun e w' => e = .returned (.bool true) ∧ Below w.heap.size w w' := by
  have HS := Lib.hid hs
  have H1 := Lib.hid h1
  have H2 := Lib.hid h2
  have H3 := Lib.hid h3
  clear hs h1 h2 h3
  go_enter Try.func8, Try.ntmps8
  try simp only [List.append_eq, List.cons_append, List.nil_append]
  go_wp2_with fail
  refine (examples_any _).mono ?_
  rintro e w1 ⟨rfl, b1⟩
  have K : Hid (w1.heap[w.heap.size]? = some (.cells #[.int .i64 ci, .int .i64 pa, .int .i64 ob, .int .i64 ow, .int .i64 ri, .int .i64 ba, .int .i64 de, .int .i64 ex, .int .i64 cu, .bool rv] 23)) := Lib.hid (kept (heap_alloc2_old _ _ _) b1)
  have X : Hid (w1.heap[w.heap.size + 1]? = some (.cells #[.int .i64 xi, .int .i64 xc, .int .i64 xe, .int .u64 xn] 48)) := Lib.hid (kept (heap_alloc2_new _ _ _) b1)
  have B : Hid (Below w.heap.size w w1) := Lib.hid ((((Below.refl _ _).alloc (Nat.le_refl _) _).alloc (by simp) _).trans (b1.mono (by simp; try omega)))
  clear b1
  go_wp2_with fail
  refine (FO.out _).mono ?_
  rintro e w2 ⟨rfl, b2⟩
  replace K := Lib.hid (kept K.out b2)
  replace X := Lib.hid (kept X.out b2)
  replace B := Lib.hid (chain B.out b2)
  clear b2
  go_wp2_with fail
  refine (P1.out _).mono ?_
  rintro e w3 ⟨rfl, b3⟩
  replace K := Lib.hid (kept K.out b3)
  replace X := Lib.hid (kept X.out b3)
  replace B := Lib.hid (chain B.out b3)
  clear b3
  go_wp2_with fail
  refine (P2.out _).mono ?_
  rintro e w4 ⟨rfl, b4⟩
  replace K := Lib.hid (kept K.out b4)
  replace X := Lib.hid (kept X.out b4)
  replace B := Lib.hid (chain B.out b4)
  clear b4
  obtain ⟨x0, x1, x2, x3, x4, x5, x6, x7, x8, x9⟩ := cells10 K.out
  have f1 := Go.Joins.unfrozen_of_block K.out 1
  have f6 := Go.Joins.unfrozen_of_block K.out 6
  replace K : Hid (((w4.setCell ⟨w.heap.size, 6, none⟩ (.int .i64 1)).setCell ⟨w.heap.size, 1, none⟩ (.int .i64 0)).heap[w.heap.size]? = some (.cells #[.int .i64 ci, .int .i64 0, .int .i64 ob, .int .i64 ow, .int .i64 ri, .int .i64 ba, .int .i64 1, .int .i64 ex, .int .i64 cu, .bool rv] 23)) := Lib.hid (by have := stored (i := 1) (stored (i := 6) K.out (.int .i64 1)) (.int .i64 0); exact this)
  replace X : Hid (((w4.setCell ⟨w.heap.size, 6, none⟩ (.int .i64 1)).setCell ⟨w.heap.size, 1, none⟩ (.int .i64 0)).heap[w.heap.size + 1]? = _) := Lib.hid (stored_other (stored_other X.out _ (by omega)) _ (by omega))
  replace B : Hid (Below w.heap.size w ((w4.setCell ⟨w.heap.size, 6, none⟩ (.int .i64 1)).setCell ⟨w.heap.size, 1, none⟩ (.int .i64 0))) := Lib.hid ((B.out.setCell (Nat.le_refl _) _).setCell (Nat.le_refl _) _)
  go_wp2_with fail
  refine (R1.out _).mono ?_
  rintro e w5 ⟨rfl, b5⟩
  clear x0 x1 x2 x3 x4 x5 x6 x7 x8 x9 f1 f6
  replace K := Lib.hid (kept K.out b5)
  replace X := Lib.hid (kept X.out b5)
  replace B := Lib.hid (chain B.out b5)
  clear b5
  obtain ⟨x0, x1, x2, x3, x4, x5, x6, x7, x8, x9⟩ := cells10 K.out
  have f6 := Go.Joins.unfrozen_of_block K.out 6
  replace K : Hid ((w5.setCell ⟨w.heap.size, 6, none⟩ (.int .i64 2)).heap[w.heap.size]? = some (.cells #[.int .i64 ci, .int .i64 0, .int .i64 ob, .int .i64 ow, .int .i64 ri, .int .i64 ba, .int .i64 2, .int .i64 ex, .int .i64 cu, .bool rv] 23)) := Lib.hid (by have := stored (i := 6) K.out (.int .i64 2); exact this)
  replace X : Hid ((w5.setCell ⟨w.heap.size, 6, none⟩ (.int .i64 2)).heap[w.heap.size + 1]? = _) := Lib.hid (stored_other X.out _ (by omega))
  replace B : Hid (Below w.heap.size w (w5.setCell ⟨w.heap.size, 6, none⟩ (.int .i64 2))) := Lib.hid (B.out.setCell (Nat.le_refl _) _)
  go_wp2_with fail
  refine (R2.out _).mono ?_
  rintro e w6 ⟨rfl, b6⟩
  clear x0 x1 x2 x3 x4 x5 x6 x7 x8 x9 f6
  replace K := Lib.hid (kept K.out b6)
  replace X := Lib.hid (kept X.out b6)
  replace B := Lib.hid (chain B.out b6)
  clear b6
  obtain ⟨y0, y1, y2, y3⟩ := cells4 X.out
  have f2 := Go.Joins.unfrozen_of_block X.out 2
  replace X : Hid ((w6.setCell ⟨w.heap.size + 1, 2, none⟩ (.int .i64 16)).heap[w.heap.size + 1]? = some (.cells #[.int .i64 xi, .int .i64 xc, .int .i64 16, .int .u64 xn] 48)) := Lib.hid (by have := stored (i := 2) X.out (.int .i64 16); exact this)
  replace K : Hid ((w6.setCell ⟨w.heap.size + 1, 2, none⟩ (.int .i64 16)).heap[w.heap.size]? = _) := Lib.hid (stored_other K.out _ (by omega))
  replace B : Hid (Below w.heap.size w (w6.setCell ⟨w.heap.size + 1, 2, none⟩ (.int .i64 16))) := Lib.hid (B.out.setCell (Nat.le_succ _) _)
  go_wp2_with fail
  refine (R3.out _).mono ?_
  rintro e w7 ⟨rfl, b7⟩
  clear y0 y1 y2 y3 f2
  replace K := Lib.hid (kept K.out b7)
  replace X := Lib.hid (kept X.out b7)
  replace B := Lib.hid (chain B.out b7)
  clear b7
  obtain ⟨x0, x1, x2, x3, x4, x5, x6, x7, x8, x9⟩ := cells10 K.out
  obtain ⟨y0, y1, y2, y3⟩ := cells4 X.out
  have h1 := H1.out
  have h2 := H2.out
  have h3 := H3.out
  have hs := HS.out
  rcases h1 with ⟨rfl, rfl, rfl⟩ | ⟨rfl, rfl, rfl, rfl⟩ | ⟨rfl, rfl, rfl, rfl⟩
  all_goals
    cases top
    all_goals cases last
    all_goals
      simp only [true_implies, reduceCtorEq, false_implies] at h2 h3
      go_wp2_with fail
      go_ret
      exact ⟨by first | rfl | (apply ret_true; simp; done) | (apply ret_true; simp; omega), B.out⟩
theorem recNames_law (a0 : ByteArray) (ci pa ob ow ri ba de ex cu : Int) (rv : Bool) (xi xc xe xn : Int) (w : World) (z0 : a0.size ≤ 140737488351232)
    (_ : (Lit.int .i64 ci).wf = true) (_ : (Lit.int .i64 pa).wf = true) (_ : (Lit.int .i64 ob).wf = true) (_ : (Lit.int .i64 ow).wf = true) (_ : (Lit.int .i64 ri).wf = true) (_ : (Lit.int .i64 ba).wf = true) (_ : (Lit.int .i64 de).wf = true) (_ : (Lit.int .i64 ex).wf = true) (_ : (Lit.int .i64 cu).wf = true)
    (_ : (Lit.int .i64 xi).wf = true) (_ : (Lit.int .i64 xc).wf = true) (_ : (Lit.int .i64 xe).wf = true) (_ : (Lit.int .u64 xn).wf = true) :
    Calls Try.prog 8 #[.string a0, .agg #[.int .i64 ci, .int .i64 pa, .int .i64 ob, .int .i64 ow, .int .i64 ri, .int .i64 ba, .int .i64 de, .int .i64 ex, .int .i64 cu, .bool rv], .agg #[.int .i64 xi, .int .i64 xc, .int .i64 xe, .int .u64 xn]] w fun e w' => e = .returned (.bool true) ∧ Below w.heap.size w w' := by
  have e1 : ownerOk 1 a0 3 0 = (rightB a0 && ((foldB a0).toList == a0.toList)) := by
    unfold ownerOk
    simp [inB]
  have e2 : ownerOk 1 (foldB a0) 3 0 = rightB a0 := by
    cases h : rightB a0
    · rw [foldB_no a0 h]; decide +kernel
    · have F := folded a0 h
      unfold ownerOk
      rw [F.right, F.again]
      simp [inB]
  have hz : (foldB a0).size ≤ 140737488351232 := by
    cases h : rightB a0
    · rw [foldB_no a0 h]; decide
    · rw [(folded a0 h).size]; exact z0
  have hd : capOk ci 0 ob ow ri ba 2 ex cu = false := by
    unfold capOk
    simp
  have ht : capOk ci 0 ob ow ri ba 1 ex cu = true → 1 ≤ ci ∧ 1 ≤ ob := by
    unfold capOk
    simp only [Bool.and_eq_true, inB_iff]
    omega
  have hl : slotOk xi xc 16 = true → xc = 0 := by
    unfold slotOk
    simp
  refine recNames_walk a0 (foldB a0) (ownerP 1 a0 3 0) (ownerP 1 (foldB a0) 3 0) ci pa ob ow ri ba de ex cu xi xc xe xn (okE (ownerOk 1 a0 3 0) 1) (okE (ownerOk 1 (foldB a0) 3 0) 1) rv (rightB a0) _ (capOk ci 0 ob ow ri ba 1 ex cu) (slotOk xi xc 16) w
    (Lib.hid fun w => fold_any a0 w z0) (Lib.hid fun w => putOwner_any _ _ _ _ w z0) (Lib.hid fun w => putOwner_any _ _ _ _ w hz) (Lib.hid fun w => capRight_any _ _ _ _ _ _ _ _ _ _ w) (Lib.hid fun w => by rw [← hd]; exact capRight_any _ _ _ _ _ _ _ _ _ _ w) (Lib.hid fun w => slotRight_any _ _ _ _ w) rfl ?_ ht hl
  rw [e1, e2]
  cases rightB a0 <;> cases ((foldB a0).toList == a0.toList) <;> simp [okE]
end Go.Proofs.Ytlbnakoaflladaa
