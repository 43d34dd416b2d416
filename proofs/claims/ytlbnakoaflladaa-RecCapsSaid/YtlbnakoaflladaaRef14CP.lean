/-
  Package bailiwickref14: caps (made by tools/gen14d.py).
-/
import Derived.Test.YtlbnakoaflladaaRef14T
import Derived.Test.YtlbnakoaflladaaRecCap
import Derived.Test.YtlbnakoaflladaaFlowKit
namespace Go.Proofs.Ytlbnakoaflladaa
open Go.RowKit
set_option linter.unusedVariables false
set_option linter.unusedSimpArgs false
theorem refsub_is (a b : Int) (v : Bool) (w : World) (hv : subB a b = v) :
    Calls Try.prog 36 #[.int .i64 a, .int .i64 b] w fun e w' => e = .returned (.bool v) ∧ w = w' := by
  subst hv
  exact refSub_any a b w
theorem capOk_turn (id pa ob ow ri ba de ex cu : Int) : capOk id pa ob ow ri ba de ex cu = (inB 1 16777215 id && inB 0 16777215 pa && ((pa == 0) == (de == 1)) && inB 1 16777215 ob && inB 1 16777215 ow && subB ri ri && inB 0 4294967295 ba && inB 1 8 de && inB 0 268435455 ex && inB 0 16777215 cu && (pa != id)) := by
  unfold capOk
  generalize inB 1 16777215 id = a1
  generalize inB 0 16777215 pa = a2
  generalize (pa != id) = a3
  generalize inB 1 16777215 ob = a4
  generalize inB 1 16777215 ow = a5
  generalize subB ri ri = a6
  generalize inB 0 4294967295 ba = a7
  generalize inB 1 8 de = a8
  generalize ((pa == 0) == (de == 1)) = a9
  generalize inB 0 268435455 ex = aa
  generalize inB 0 16777215 cu = ab
  cases a3 <;> cases a9 <;> simp
set_option maxRecDepth 20000 in
set_option maxHeartbeats 1600000 in
theorem refCapRight_is (id pa ob ow ri ba de ex cu : Int) (rv : Bool) (v : Bool) (w : World) (hv : capOk id pa ob ow ri ba de ex cu = v) :
    Calls Try.prog 15 #[.agg #[.int .i64 id, .int .i64 pa, .int .i64 ob, .int .i64 ow, .int .i64 ri, .int .i64 ba, .int .i64 de, .int .i64 ex, .int .i64 cu, .bool rv]] w fun e w' => e = .returned (.bool v) ∧ Below w.heap.size w w' := by
  have hf : v = (inB 1 16777215 id && inB 0 16777215 pa && ((pa == 0) == (de == 1)) && inB 1 16777215 ob && inB 1 16777215 ow && subB ri ri && inB 0 4294967295 ba && inB 1 8 de && inB 0 268435455 ex && inB 0 16777215 cu && (pa != id)) := by rw [← hv]; exact capOk_turn _ _ _ _ _ _ _ _ _
  clear hv
  rcases cap_first (inB 1 16777215 id) (inB 0 16777215 pa) ((pa == 0) == (de == 1)) (inB 1 16777215 ob) (inB 1 16777215 ow) (subB ri ri) (inB 0 4294967295 ba) (inB 1 8 de) (inB 0 268435455 ex) (inB 0 16777215 cu) (pa != id) with h0 | ⟨h0, h1⟩ | ⟨h0, h1, h2⟩ | ⟨h0, h1, h2, h3⟩ | ⟨h0, h1, h2, h3, h4⟩ | ⟨h0, h1, h2, h3, h4, h5⟩ | ⟨h0, h1, h2, h3, h4, h5, h6⟩ | ⟨h0, h1, h2, h3, h4, h5, h6, h7⟩ | ⟨h0, h1, h2, h3, h4, h5, h6, h7, h8⟩ | ⟨h0, h1, h2, h3, h4, h5, h6, h7, h8, h9⟩ | ⟨h0, h1, h2, h3, h4, h5, h6, h7, h8, h9, h10⟩ | ⟨h0, h1, h2, h3, h4, h5, h6, h7, h8, h9, h10⟩
  · rw [h0] at hf
    simp only [Bool.and_true, Bool.and_false, Bool.true_and, Bool.false_and] at hf
    have HF := Lib.hid hf
    have H0 := Lib.hid h0
    clear hf h0
    go_enter Try.func15, Try.ntmps15
    go_wp2_with (first | (go_at_call 35; refine (refIn_is _ _ _ _ _ (by first | exact H0.out)).mono ?_; rintro e w9 ⟨rfl, rfl⟩))
    go_ret
    exact ⟨by rw [HF.out]; rfl, (Below.refl _ _).alloc (Nat.le_refl _) _⟩
  · rw [h0, h1] at hf
    simp only [Bool.and_true, Bool.and_false, Bool.true_and, Bool.false_and] at hf
    have HF := Lib.hid hf
    have H0 := Lib.hid h0
    have H1 := Lib.hid h1
    clear hf h0 h1
    go_enter Try.func15, Try.ntmps15
    go_wp2_with (first | (go_at_call 35; refine (refIn_is _ _ _ _ _ (by first | exact H0.out | exact H1.out)).mono ?_; rintro e w9 ⟨rfl, rfl⟩))
    go_ret
    exact ⟨by rw [HF.out]; rfl, (Below.refl _ _).alloc (Nat.le_refl _) _⟩
  · rw [h0, h1, h2] at hf
    simp only [Bool.and_true, Bool.and_false, Bool.true_and, Bool.false_and] at hf
    have HF := Lib.hid hf
    have H0 := Lib.hid h0
    have H1 := Lib.hid h1
    clear hf h0 h1
    go_enter Try.func15, Try.ntmps15
    go_wp2_with (first | (go_at_call 35; refine (refIn_is _ _ _ _ _ (by first | exact H0.out | exact H1.out)).mono ?_; rintro e w9 ⟨rfl, rfl⟩))
    go_ret
    exact ⟨by rw [HF.out]; rfl, (Below.refl _ _).alloc (Nat.le_refl _) _⟩
  · rw [h0, h1, h2, h3] at hf
    simp only [Bool.and_true, Bool.and_false, Bool.true_and, Bool.false_and] at hf
    have HF := Lib.hid hf
    have H0 := Lib.hid h0
    have H1 := Lib.hid h1
    have H3 := Lib.hid h3
    clear hf h0 h1 h3
    go_enter Try.func15, Try.ntmps15
    go_wp2_with (first | (go_at_call 35; refine (refIn_is _ _ _ _ _ (by first | exact H0.out | exact H1.out | exact H3.out)).mono ?_; rintro e w9 ⟨rfl, rfl⟩))
    go_ret
    exact ⟨by rw [HF.out]; rfl, (Below.refl _ _).alloc (Nat.le_refl _) _⟩
  · rw [h0, h1, h2, h3, h4] at hf
    simp only [Bool.and_true, Bool.and_false, Bool.true_and, Bool.false_and] at hf
    have HF := Lib.hid hf
    have H0 := Lib.hid h0
    have H1 := Lib.hid h1
    have H3 := Lib.hid h3
    have H4 := Lib.hid h4
    clear hf h0 h1 h3 h4
    go_enter Try.func15, Try.ntmps15
    go_wp2_with (first | (go_at_call 35; refine (refIn_is _ _ _ _ _ (by first | exact H0.out | exact H1.out | exact H3.out | exact H4.out)).mono ?_; rintro e w9 ⟨rfl, rfl⟩))
    go_ret
    exact ⟨by rw [HF.out]; rfl, (Below.refl _ _).alloc (Nat.le_refl _) _⟩
  · rw [h0, h1, h2, h3, h4, h5] at hf
    simp only [Bool.and_true, Bool.and_false, Bool.true_and, Bool.false_and] at hf
    have HF := Lib.hid hf
    have H0 := Lib.hid h0
    have H1 := Lib.hid h1
    have H3 := Lib.hid h3
    have H4 := Lib.hid h4
    have H5 := Lib.hid h5
    clear hf h0 h1 h3 h4 h5
    go_enter Try.func15, Try.ntmps15
    go_wp2_with (first | (go_at_call 35; refine (refIn_is _ _ _ _ _ (by first | exact H0.out | exact H1.out | exact H3.out | exact H4.out)).mono ?_; rintro e w9 ⟨rfl, rfl⟩) | (go_at_call 36; refine (refsub_is _ _ _ _ (by exact H5.out)).mono ?_; rintro e w9 ⟨rfl, rfl⟩))
    go_ret
    exact ⟨by rw [HF.out]; rfl, (Below.refl _ _).alloc (Nat.le_refl _) _⟩
  · rw [h0, h1, h2, h3, h4, h5, h6] at hf
    simp only [Bool.and_true, Bool.and_false, Bool.true_and, Bool.false_and] at hf
    have HF := Lib.hid hf
    have H0 := Lib.hid h0
    have H1 := Lib.hid h1
    have H3 := Lib.hid h3
    have H4 := Lib.hid h4
    have H5 := Lib.hid h5
    have H6 := Lib.hid h6
    clear hf h0 h1 h3 h4 h5 h6
    go_enter Try.func15, Try.ntmps15
    go_wp2_with (first | (go_at_call 35; refine (refIn_is _ _ _ _ _ (by first | exact H0.out | exact H1.out | exact H3.out | exact H4.out | exact H6.out)).mono ?_; rintro e w9 ⟨rfl, rfl⟩) | (go_at_call 36; refine (refsub_is _ _ _ _ (by exact H5.out)).mono ?_; rintro e w9 ⟨rfl, rfl⟩))
    go_ret
    exact ⟨by rw [HF.out]; rfl, (Below.refl _ _).alloc (Nat.le_refl _) _⟩
  · rw [h0, h1, h2, h3, h4, h5, h6, h7] at hf
    simp only [Bool.and_true, Bool.and_false, Bool.true_and, Bool.false_and] at hf
    have HF := Lib.hid hf
    have H0 := Lib.hid h0
    have H1 := Lib.hid h1
    have H3 := Lib.hid h3
    have H4 := Lib.hid h4
    have H5 := Lib.hid h5
    have H6 := Lib.hid h6
    have H7 := Lib.hid h7
    clear hf h0 h1 h3 h4 h5 h6 h7
    go_enter Try.func15, Try.ntmps15
    go_wp2_with (first | (go_at_call 35; refine (refIn_is _ _ _ _ _ (by first | exact H0.out | exact H1.out | exact H3.out | exact H4.out | exact H6.out | exact H7.out)).mono ?_; rintro e w9 ⟨rfl, rfl⟩) | (go_at_call 36; refine (refsub_is _ _ _ _ (by exact H5.out)).mono ?_; rintro e w9 ⟨rfl, rfl⟩))
    go_ret
    exact ⟨by rw [HF.out]; rfl, (Below.refl _ _).alloc (Nat.le_refl _) _⟩
  · rw [h0, h1, h2, h3, h4, h5, h6, h7, h8] at hf
    simp only [Bool.and_true, Bool.and_false, Bool.true_and, Bool.false_and] at hf
    have HF := Lib.hid hf
    have H0 := Lib.hid h0
    have H1 := Lib.hid h1
    have H3 := Lib.hid h3
    have H4 := Lib.hid h4
    have H5 := Lib.hid h5
    have H6 := Lib.hid h6
    have H7 := Lib.hid h7
    have H8 := Lib.hid h8
    clear hf h0 h1 h3 h4 h5 h6 h7 h8
    go_enter Try.func15, Try.ntmps15
    go_wp2_with (first | (go_at_call 35; refine (refIn_is _ _ _ _ _ (by first | exact H0.out | exact H1.out | exact H3.out | exact H4.out | exact H6.out | exact H7.out | exact H8.out)).mono ?_; rintro e w9 ⟨rfl, rfl⟩) | (go_at_call 36; refine (refsub_is _ _ _ _ (by exact H5.out)).mono ?_; rintro e w9 ⟨rfl, rfl⟩))
    go_ret
    exact ⟨by rw [HF.out]; rfl, (Below.refl _ _).alloc (Nat.le_refl _) _⟩
  · rw [h0, h1, h2, h3, h4, h5, h6, h7, h8, h9] at hf
    simp only [Bool.and_true, Bool.and_false, Bool.true_and, Bool.false_and] at hf
    have HF := Lib.hid hf
    have H0 := Lib.hid h0
    have H1 := Lib.hid h1
    have H3 := Lib.hid h3
    have H4 := Lib.hid h4
    have H5 := Lib.hid h5
    have H6 := Lib.hid h6
    have H7 := Lib.hid h7
    have H8 := Lib.hid h8
    have H9 := Lib.hid h9
    clear hf h0 h1 h3 h4 h5 h6 h7 h8 h9
    go_enter Try.func15, Try.ntmps15
    go_wp2_with (first | (go_at_call 35; refine (refIn_is _ _ _ _ _ (by first | exact H0.out | exact H1.out | exact H3.out | exact H4.out | exact H6.out | exact H7.out | exact H8.out | exact H9.out)).mono ?_; rintro e w9 ⟨rfl, rfl⟩) | (go_at_call 36; refine (refsub_is _ _ _ _ (by exact H5.out)).mono ?_; rintro e w9 ⟨rfl, rfl⟩))
    go_ret
    exact ⟨by rw [HF.out]; rfl, (Below.refl _ _).alloc (Nat.le_refl _) _⟩
  · rw [h0, h1, h2, h3, h4, h5, h6, h7, h8, h9, h10] at hf
    simp only [Bool.and_true, Bool.and_false, Bool.true_and, Bool.false_and] at hf
    have HF := Lib.hid hf
    have H0 := Lib.hid h0
    have H1 := Lib.hid h1
    have H3 := Lib.hid h3
    have H4 := Lib.hid h4
    have H5 := Lib.hid h5
    have H6 := Lib.hid h6
    have H7 := Lib.hid h7
    have H8 := Lib.hid h8
    have H9 := Lib.hid h9
    clear hf h0 h1 h3 h4 h5 h6 h7 h8 h9
    go_enter Try.func15, Try.ntmps15
    go_wp2_with (first | (go_at_call 35; refine (refIn_is _ _ _ _ _ (by first | exact H0.out | exact H1.out | exact H3.out | exact H4.out | exact H6.out | exact H7.out | exact H8.out | exact H9.out)).mono ?_; rintro e w9 ⟨rfl, rfl⟩) | (go_at_call 36; refine (refsub_is _ _ _ _ (by exact H5.out)).mono ?_; rintro e w9 ⟨rfl, rfl⟩))
    go_ret
    exact ⟨by rw [HF.out]; rfl, (Below.refl _ _).alloc (Nat.le_refl _) _⟩
  · rw [h0, h1, h2, h3, h4, h5, h6, h7, h8, h9, h10] at hf
    simp only [Bool.and_true, Bool.and_false, Bool.true_and, Bool.false_and] at hf
    have HF := Lib.hid hf
    have H0 := Lib.hid h0
    have H1 := Lib.hid h1
    have H3 := Lib.hid h3
    have H4 := Lib.hid h4
    have H5 := Lib.hid h5
    have H6 := Lib.hid h6
    have H7 := Lib.hid h7
    have H8 := Lib.hid h8
    have H9 := Lib.hid h9
    clear hf h0 h1 h3 h4 h5 h6 h7 h8 h9
    go_enter Try.func15, Try.ntmps15
    go_wp2_with (first | (go_at_call 35; refine (refIn_is _ _ _ _ _ (by first | exact H0.out | exact H1.out | exact H3.out | exact H4.out | exact H6.out | exact H7.out | exact H8.out | exact H9.out)).mono ?_; rintro e w9 ⟨rfl, rfl⟩) | (go_at_call 36; refine (refsub_is _ _ _ _ (by exact H5.out)).mono ?_; rintro e w9 ⟨rfl, rfl⟩))
    go_ret
    exact ⟨by rw [HF.out]; rfl, (Below.refl _ _).alloc (Nat.le_refl _) _⟩
set_option maxRecDepth 20000 in
set_option maxHeartbeats 800000 in
theorem refPutCap_no (id pa ob ow ri ba de ex cu : Int) (rv : Bool) (w : World) (hv : capOk id pa ob ow ri ba de ex cu = false) :
    Calls Try.prog 11 #[.agg #[.int .i64 id, .int .i64 pa, .int .i64 ob, .int .i64 ow, .int .i64 ri, .int .i64 ba, .int .i64 de, .int .i64 ex, .int .i64 cu, .bool rv]] w fun e w' => e = .returned (.tuple #[.string ⟨#[]⟩, .bool false]) ∧ Below w.heap.size w w' := by
  have H := Lib.hid hv
  clear hv
  go_enter Try.func11, Try.ntmps11
  go_wp2_with fail
  refine (refCapRight_is _ _ _ _ _ _ _ _ _ _ false _ H.out).mono ?_
  rintro e w1 ⟨rfl, b1⟩
  go_wp2_with fail
  go_ret2
  exact ⟨rfl, ((Below.refl _ _).alloc (Nat.le_refl _) _).trans (b1.mono (by simp))⟩
set_option maxRecDepth 20000 in
set_option maxHeartbeats 3200000 in
theorem refPutCap_yf (id pa ob ow ri ba de ex cu : Int) (x1 x2 x3 x4 x5 x6 x7 x8 : ByteArray) (w : World) (hv : capOk id pa ob ow ri ba de ex cu = true) (hx1 : Hid (Str (putL pa 3) = x1)) (hx2 : Hid (Str (putL ob 3) = x2)) (hx3 : Hid (Str (putL ow 3) = x3)) (hx4 : Hid (Str (putL ri 2) = x4)) (hx5 : Hid (Str (putL ba 4) = x5)) (hx6 : Hid (Str (putL de 1) = x6)) (hx7 : Hid (Str (putL ex 4) = x7)) (hx8 : Hid (Str (putL cu 3) = x8)) (z1 : x1.size ≤ 8) (z2 : x2.size ≤ 8) (z3 : x3.size ≤ 8) (z4 : x4.size ≤ 8) (z5 : x5.size ≤ 8) (z6 : x6.size ≤ 8) (z7 : x7.size ≤ 8) (z8 : x8.size ≤ 8) :
    Calls Try.prog 11 #[.agg #[.int .i64 id, .int .i64 pa, .int .i64 ob, .int .i64 ow, .int .i64 ri, .int .i64 ba, .int .i64 de, .int .i64 ex, .int .i64 cu, .bool false]] w fun e w' => e = .returned (.tuple #[.string (x1 ++ x2 ++ x3 ++ x4 ++ x5 ++ x6 ++ x7 ++ x8 ++ ⟨#[0]⟩), .bool true]) ∧ Below w.heap.size w w' := by
  have H := Lib.hid hv
  obtain ⟨⟨a1, b1⟩, ⟨a2, b2⟩, ⟨a3, b3⟩, ⟨a4, b4⟩, ⟨a5, b5⟩, ⟨a6, b6⟩, ⟨a7, b7⟩, ⟨a8, b8⟩⟩ := capOk_in hv
  clear hv
  have s2 : (9223372036854775807 < x1.size + x2.size) = False := by rw [eq_iff_iff, iff_false]; omega
  have s3 : (9223372036854775807 < x1.size + x2.size + x3.size) = False := by rw [eq_iff_iff, iff_false]; omega
  have s4 : (9223372036854775807 < x1.size + x2.size + x3.size + x4.size) = False := by rw [eq_iff_iff, iff_false]; omega
  have s5 : (9223372036854775807 < x1.size + x2.size + x3.size + x4.size + x5.size) = False := by rw [eq_iff_iff, iff_false]; omega
  have s6 : (9223372036854775807 < x1.size + x2.size + x3.size + x4.size + x5.size + x6.size) = False := by rw [eq_iff_iff, iff_false]; omega
  have s7 : (9223372036854775807 < x1.size + x2.size + x3.size + x4.size + x5.size + x6.size + x7.size) = False := by rw [eq_iff_iff, iff_false]; omega
  have s8 : (9223372036854775807 < x1.size + x2.size + x3.size + x4.size + x5.size + x6.size + x7.size + x8.size) = False := by rw [eq_iff_iff, iff_false]; omega
  have s9 : (9223372036854775807 < x1.size + x2.size + x3.size + x4.size + x5.size + x6.size + x7.size + x8.size + 1) = False := by rw [eq_iff_iff, iff_false]; omega
  clear z1 z2 z3 z4 z5 z6 z7 z8
  go_enter Try.func11, Try.ntmps11
  go_wp2_with fail
  refine (refCapRight_is _ _ _ _ _ _ _ _ _ _ true _ H.out).mono ?_
  rintro e w1 ⟨rfl, b1⟩
  have K := Lib.hid (kept1 b1)
  have B : Hid (Below w.heap.size w w1) := Lib.hid (((Below.refl _ _).alloc (Nat.le_refl _) _).trans (b1.mono (by simp)))
  have lt0 : w.heap.size < w1.heap.size := (Array.getElem?_eq_some_iff.1 K.out).1
  clear b1
  obtain ⟨c0, c1, c2, c3, c4, c5, c6, c7, c8, c9⟩ := cells10 K.out
  go_wp2_with fail
  refine region_kit 99 45 [eqV (.pointer (some ⟨w.heap.size, 1, none⟩)), eqV (.int .i64 pa), eqV (.string x1), eqV (.pointer (some ⟨w.heap.size, 2, none⟩)), eqV (.int .i64 ob), eqV (.string x2), eqV (.string (x1 ++ x2)), eqV (.pointer (some ⟨w.heap.size, 3, none⟩)), eqV (.int .i64 ow), eqV (.string x3), eqV (.string (x1 ++ x2 ++ x3)), eqV (.pointer (some ⟨w.heap.size, 4, none⟩)), eqV (.int .i64 ri), eqV (.string x4), eqV (.string (x1 ++ x2 ++ x3 ++ x4)), eqV (.pointer (some ⟨w.heap.size, 5, none⟩)), eqV (.int .i64 ba), eqV (.string x5), eqV (.string (x1 ++ x2 ++ x3 ++ x4 ++ x5)), eqV (.pointer (some ⟨w.heap.size, 6, none⟩)), eqV (.int .i64 de), eqV (.string x6), eqV (.string (x1 ++ x2 ++ x3 ++ x4 ++ x5 ++ x6)), eqV (.pointer (some ⟨w.heap.size, 7, none⟩)), eqV (.int .i64 ex), eqV (.string x7), eqV (.string (x1 ++ x2 ++ x3 ++ x4 ++ x5 ++ x6 ++ x7)), eqV (.pointer (some ⟨w.heap.size, 8, none⟩)), eqV (.int .i64 cu), eqV (.string x8), eqV (.string (x1 ++ x2 ++ x3 ++ x4 ++ x5 ++ x6 ++ x7 ++ x8)), eqV (.string ⟨#[0]⟩), eqV (.string (x1 ++ x2 ++ x3 ++ x4 ++ x5 ++ x6 ++ x7 ++ x8 ++ ⟨#[0]⟩)), eqV (.string (x1 ++ x2 ++ x3 ++ x4 ++ x5 ++ x6 ++ x7 ++ x8 ++ ⟨#[0]⟩)), eqV (.bool true)] (by kernel_rfl) (by kernel_rfl) (by rfl) ?owes ?ends
  case owes =>
    refine OwesAll.cons (k := 0) ?_ ?_
    · intro o ho a wx hS hold hdep K hK
      simp only [List.getElem?_toArray, List.getElem?_cons_succ, List.getElem?_cons_zero, Option.some.injEq] at ho
      subst ho
      have HK := Lib.hid hK
      clear hK
      have d1 : a.tmps.getD 1 undef = .pointer (some ⟨w.heap.size, 0, none⟩) := hold 1 (unset_of (by kernel_rfl))
      clear hold hdep
      rw [Array.getD_eq_getD_getElem?] at d1
      rw [if_pos (by rfl)]
      go_simp
      exact HK.out _ _ rfl (Below.refl _ _)
    refine OwesAll.cons (k := 1) ?_ ?_
    · intro o ho a wx hS hold hdep K hK
      simp only [List.getElem?_toArray, List.getElem?_cons_succ, List.getElem?_cons_zero, Option.some.injEq] at ho
      subst ho
      have HK := Lib.hid hK
      clear hK
      have d12 : a.tmps.getD 12 undef = .pointer (some ⟨w.heap.size, 1, none⟩) := dep_at hdep 0 rfl rfl (by kernel_rfl)
      clear hold hdep
      rw [Array.getD_eq_getD_getElem?] at d12
      rw [if_pos (by rfl)]
      have c0 : wx.cell? ⟨w.heap.size, 1, none⟩ = some (.int .i64 pa) := (hS.cell (p := ⟨w.heap.size, 1, none⟩) lt0).trans c1
      go_simp
      exact HK.out _ _ rfl (Below.refl _ _)
    refine OwesAll.cons (k := 2) ?_ ?_
    · intro o ho a wx hS hold hdep K hK
      simp only [List.getElem?_toArray, List.getElem?_cons_succ, List.getElem?_cons_zero, Option.some.injEq] at ho
      subst ho
      have HK := Lib.hid hK
      clear hK
      have d13 : a.tmps.getD 13 undef = .int .i64 pa := dep_at hdep 1 rfl rfl (by kernel_rfl)
      clear hold hdep
      rw [Array.getD_eq_getD_getElem?] at d13
      rw [if_pos (by rfl)]
      go_simp
      go_wp2_with fail
      refine (refput_is _ _ x1 _ (by omega) (by omega) hx1.out).mono ?_
      rintro e w9 ⟨rfl, b9⟩
      exact HK.out _ _ rfl b9
    refine OwesAll.cons (k := 3) ?_ ?_
    · intro o ho a wx hS hold hdep K hK
      simp only [List.getElem?_toArray, List.getElem?_cons_succ, List.getElem?_cons_zero, Option.some.injEq] at ho
      subst ho
      have HK := Lib.hid hK
      clear hK
      have d1 : a.tmps.getD 1 undef = .pointer (some ⟨w.heap.size, 0, none⟩) := hold 1 (unset_of (by kernel_rfl))
      clear hold hdep
      rw [Array.getD_eq_getD_getElem?] at d1
      rw [if_pos (by rfl)]
      go_simp
      exact HK.out _ _ rfl (Below.refl _ _)
    refine OwesAll.cons (k := 4) ?_ ?_
    · intro o ho a wx hS hold hdep K hK
      simp only [List.getElem?_toArray, List.getElem?_cons_succ, List.getElem?_cons_zero, Option.some.injEq] at ho
      subst ho
      have HK := Lib.hid hK
      clear hK
      have d15 : a.tmps.getD 15 undef = .pointer (some ⟨w.heap.size, 2, none⟩) := dep_at hdep 3 rfl rfl (by kernel_rfl)
      clear hold hdep
      rw [Array.getD_eq_getD_getElem?] at d15
      rw [if_pos (by rfl)]
      have c0 : wx.cell? ⟨w.heap.size, 2, none⟩ = some (.int .i64 ob) := (hS.cell (p := ⟨w.heap.size, 2, none⟩) lt0).trans c2
      go_simp
      exact HK.out _ _ rfl (Below.refl _ _)
    refine OwesAll.cons (k := 5) ?_ ?_
    · intro o ho a wx hS hold hdep K hK
      simp only [List.getElem?_toArray, List.getElem?_cons_succ, List.getElem?_cons_zero, Option.some.injEq] at ho
      subst ho
      have HK := Lib.hid hK
      clear hK
      have d16 : a.tmps.getD 16 undef = .int .i64 ob := dep_at hdep 4 rfl rfl (by kernel_rfl)
      clear hold hdep
      rw [Array.getD_eq_getD_getElem?] at d16
      rw [if_pos (by rfl)]
      go_simp
      go_wp2_with fail
      refine (refput_is _ _ x2 _ (by omega) (by omega) hx2.out).mono ?_
      rintro e w9 ⟨rfl, b9⟩
      exact HK.out _ _ rfl b9
    refine OwesAll.cons (k := 6) ?_ ?_
    · intro o ho a wx hS hold hdep K hK
      simp only [List.getElem?_toArray, List.getElem?_cons_succ, List.getElem?_cons_zero, Option.some.injEq] at ho
      subst ho
      have HK := Lib.hid hK
      clear hK
      have d14 : a.tmps.getD 14 undef = .string x1 := dep_at hdep 2 rfl rfl (by kernel_rfl)
      have d17 : a.tmps.getD 17 undef = .string x2 := dep_at hdep 5 rfl rfl (by kernel_rfl)
      clear hold hdep
      rw [Array.getD_eq_getD_getElem?] at d14
      rw [Array.getD_eq_getD_getElem?] at d17
      rw [if_pos (by rfl)]
      go_simp
      exact HK.out _ _ rfl (Below.refl _ _)
    refine OwesAll.cons (k := 7) ?_ ?_
    · intro o ho a wx hS hold hdep K hK
      simp only [List.getElem?_toArray, List.getElem?_cons_succ, List.getElem?_cons_zero, Option.some.injEq] at ho
      subst ho
      have HK := Lib.hid hK
      clear hK
      have d1 : a.tmps.getD 1 undef = .pointer (some ⟨w.heap.size, 0, none⟩) := hold 1 (unset_of (by kernel_rfl))
      clear hold hdep
      rw [Array.getD_eq_getD_getElem?] at d1
      rw [if_pos (by rfl)]
      go_simp
      exact HK.out _ _ rfl (Below.refl _ _)
    refine OwesAll.cons (k := 8) ?_ ?_
    · intro o ho a wx hS hold hdep K hK
      simp only [List.getElem?_toArray, List.getElem?_cons_succ, List.getElem?_cons_zero, Option.some.injEq] at ho
      subst ho
      have HK := Lib.hid hK
      clear hK
      have d19 : a.tmps.getD 19 undef = .pointer (some ⟨w.heap.size, 3, none⟩) := dep_at hdep 7 rfl rfl (by kernel_rfl)
      clear hold hdep
      rw [Array.getD_eq_getD_getElem?] at d19
      rw [if_pos (by rfl)]
      have c0 : wx.cell? ⟨w.heap.size, 3, none⟩ = some (.int .i64 ow) := (hS.cell (p := ⟨w.heap.size, 3, none⟩) lt0).trans c3
      go_simp
      exact HK.out _ _ rfl (Below.refl _ _)
    refine OwesAll.cons (k := 9) ?_ ?_
    · intro o ho a wx hS hold hdep K hK
      simp only [List.getElem?_toArray, List.getElem?_cons_succ, List.getElem?_cons_zero, Option.some.injEq] at ho
      subst ho
      have HK := Lib.hid hK
      clear hK
      have d20 : a.tmps.getD 20 undef = .int .i64 ow := dep_at hdep 8 rfl rfl (by kernel_rfl)
      clear hold hdep
      rw [Array.getD_eq_getD_getElem?] at d20
      rw [if_pos (by rfl)]
      go_simp
      go_wp2_with fail
      refine (refput_is _ _ x3 _ (by omega) (by omega) hx3.out).mono ?_
      rintro e w9 ⟨rfl, b9⟩
      exact HK.out _ _ rfl b9
    refine OwesAll.cons (k := 10) ?_ ?_
    · intro o ho a wx hS hold hdep K hK
      simp only [List.getElem?_toArray, List.getElem?_cons_succ, List.getElem?_cons_zero, Option.some.injEq] at ho
      subst ho
      have HK := Lib.hid hK
      clear hK
      have d18 : a.tmps.getD 18 undef = .string (x1 ++ x2) := dep_at hdep 6 rfl rfl (by kernel_rfl)
      have d21 : a.tmps.getD 21 undef = .string x3 := dep_at hdep 9 rfl rfl (by kernel_rfl)
      clear hold hdep
      rw [Array.getD_eq_getD_getElem?] at d18
      rw [Array.getD_eq_getD_getElem?] at d21
      rw [if_pos (by rfl)]
      go_simp
      exact HK.out _ _ rfl (Below.refl _ _)
    refine OwesAll.cons (k := 11) ?_ ?_
    · intro o ho a wx hS hold hdep K hK
      simp only [List.getElem?_toArray, List.getElem?_cons_succ, List.getElem?_cons_zero, Option.some.injEq] at ho
      subst ho
      have HK := Lib.hid hK
      clear hK
      have d1 : a.tmps.getD 1 undef = .pointer (some ⟨w.heap.size, 0, none⟩) := hold 1 (unset_of (by kernel_rfl))
      clear hold hdep
      rw [Array.getD_eq_getD_getElem?] at d1
      rw [if_pos (by rfl)]
      go_simp
      exact HK.out _ _ rfl (Below.refl _ _)
    refine OwesAll.cons (k := 12) ?_ ?_
    · intro o ho a wx hS hold hdep K hK
      simp only [List.getElem?_toArray, List.getElem?_cons_succ, List.getElem?_cons_zero, Option.some.injEq] at ho
      subst ho
      have HK := Lib.hid hK
      clear hK
      have d23 : a.tmps.getD 23 undef = .pointer (some ⟨w.heap.size, 4, none⟩) := dep_at hdep 11 rfl rfl (by kernel_rfl)
      clear hold hdep
      rw [Array.getD_eq_getD_getElem?] at d23
      rw [if_pos (by rfl)]
      have c0 : wx.cell? ⟨w.heap.size, 4, none⟩ = some (.int .i64 ri) := (hS.cell (p := ⟨w.heap.size, 4, none⟩) lt0).trans c4
      go_simp
      exact HK.out _ _ rfl (Below.refl _ _)
    refine OwesAll.cons (k := 13) ?_ ?_
    · intro o ho a wx hS hold hdep K hK
      simp only [List.getElem?_toArray, List.getElem?_cons_succ, List.getElem?_cons_zero, Option.some.injEq] at ho
      subst ho
      have HK := Lib.hid hK
      clear hK
      have d24 : a.tmps.getD 24 undef = .int .i64 ri := dep_at hdep 12 rfl rfl (by kernel_rfl)
      clear hold hdep
      rw [Array.getD_eq_getD_getElem?] at d24
      rw [if_pos (by rfl)]
      go_simp
      go_wp2_with fail
      refine (refput_is _ _ x4 _ (by omega) (by omega) hx4.out).mono ?_
      rintro e w9 ⟨rfl, b9⟩
      exact HK.out _ _ rfl b9
    refine OwesAll.cons (k := 14) ?_ ?_
    · intro o ho a wx hS hold hdep K hK
      simp only [List.getElem?_toArray, List.getElem?_cons_succ, List.getElem?_cons_zero, Option.some.injEq] at ho
      subst ho
      have HK := Lib.hid hK
      clear hK
      have d22 : a.tmps.getD 22 undef = .string (x1 ++ x2 ++ x3) := dep_at hdep 10 rfl rfl (by kernel_rfl)
      have d25 : a.tmps.getD 25 undef = .string x4 := dep_at hdep 13 rfl rfl (by kernel_rfl)
      clear hold hdep
      rw [Array.getD_eq_getD_getElem?] at d22
      rw [Array.getD_eq_getD_getElem?] at d25
      rw [if_pos (by rfl)]
      go_simp
      exact HK.out _ _ rfl (Below.refl _ _)
    refine OwesAll.cons (k := 15) ?_ ?_
    · intro o ho a wx hS hold hdep K hK
      simp only [List.getElem?_toArray, List.getElem?_cons_succ, List.getElem?_cons_zero, Option.some.injEq] at ho
      subst ho
      have HK := Lib.hid hK
      clear hK
      have d1 : a.tmps.getD 1 undef = .pointer (some ⟨w.heap.size, 0, none⟩) := hold 1 (unset_of (by kernel_rfl))
      clear hold hdep
      rw [Array.getD_eq_getD_getElem?] at d1
      rw [if_pos (by rfl)]
      go_simp
      exact HK.out _ _ rfl (Below.refl _ _)
    refine OwesAll.cons (k := 16) ?_ ?_
    · intro o ho a wx hS hold hdep K hK
      simp only [List.getElem?_toArray, List.getElem?_cons_succ, List.getElem?_cons_zero, Option.some.injEq] at ho
      subst ho
      have HK := Lib.hid hK
      clear hK
      have d27 : a.tmps.getD 27 undef = .pointer (some ⟨w.heap.size, 5, none⟩) := dep_at hdep 15 rfl rfl (by kernel_rfl)
      clear hold hdep
      rw [Array.getD_eq_getD_getElem?] at d27
      rw [if_pos (by rfl)]
      have c0 : wx.cell? ⟨w.heap.size, 5, none⟩ = some (.int .i64 ba) := (hS.cell (p := ⟨w.heap.size, 5, none⟩) lt0).trans c5
      go_simp
      exact HK.out _ _ rfl (Below.refl _ _)
    refine OwesAll.cons (k := 17) ?_ ?_
    · intro o ho a wx hS hold hdep K hK
      simp only [List.getElem?_toArray, List.getElem?_cons_succ, List.getElem?_cons_zero, Option.some.injEq] at ho
      subst ho
      have HK := Lib.hid hK
      clear hK
      have d28 : a.tmps.getD 28 undef = .int .i64 ba := dep_at hdep 16 rfl rfl (by kernel_rfl)
      clear hold hdep
      rw [Array.getD_eq_getD_getElem?] at d28
      rw [if_pos (by rfl)]
      go_simp
      go_wp2_with fail
      refine (refput_is _ _ x5 _ (by omega) (by omega) hx5.out).mono ?_
      rintro e w9 ⟨rfl, b9⟩
      exact HK.out _ _ rfl b9
    refine OwesAll.cons (k := 18) ?_ ?_
    · intro o ho a wx hS hold hdep K hK
      simp only [List.getElem?_toArray, List.getElem?_cons_succ, List.getElem?_cons_zero, Option.some.injEq] at ho
      subst ho
      have HK := Lib.hid hK
      clear hK
      have d26 : a.tmps.getD 26 undef = .string (x1 ++ x2 ++ x3 ++ x4) := dep_at hdep 14 rfl rfl (by kernel_rfl)
      have d29 : a.tmps.getD 29 undef = .string x5 := dep_at hdep 17 rfl rfl (by kernel_rfl)
      clear hold hdep
      rw [Array.getD_eq_getD_getElem?] at d26
      rw [Array.getD_eq_getD_getElem?] at d29
      rw [if_pos (by rfl)]
      go_simp
      exact HK.out _ _ rfl (Below.refl _ _)
    refine OwesAll.cons (k := 19) ?_ ?_
    · intro o ho a wx hS hold hdep K hK
      simp only [List.getElem?_toArray, List.getElem?_cons_succ, List.getElem?_cons_zero, Option.some.injEq] at ho
      subst ho
      have HK := Lib.hid hK
      clear hK
      have d1 : a.tmps.getD 1 undef = .pointer (some ⟨w.heap.size, 0, none⟩) := hold 1 (unset_of (by kernel_rfl))
      clear hold hdep
      rw [Array.getD_eq_getD_getElem?] at d1
      rw [if_pos (by rfl)]
      go_simp
      exact HK.out _ _ rfl (Below.refl _ _)
    refine OwesAll.cons (k := 20) ?_ ?_
    · intro o ho a wx hS hold hdep K hK
      simp only [List.getElem?_toArray, List.getElem?_cons_succ, List.getElem?_cons_zero, Option.some.injEq] at ho
      subst ho
      have HK := Lib.hid hK
      clear hK
      have d31 : a.tmps.getD 31 undef = .pointer (some ⟨w.heap.size, 6, none⟩) := dep_at hdep 19 rfl rfl (by kernel_rfl)
      clear hold hdep
      rw [Array.getD_eq_getD_getElem?] at d31
      rw [if_pos (by rfl)]
      have c0 : wx.cell? ⟨w.heap.size, 6, none⟩ = some (.int .i64 de) := (hS.cell (p := ⟨w.heap.size, 6, none⟩) lt0).trans c6
      go_simp
      exact HK.out _ _ rfl (Below.refl _ _)
    refine OwesAll.cons (k := 21) ?_ ?_
    · intro o ho a wx hS hold hdep K hK
      simp only [List.getElem?_toArray, List.getElem?_cons_succ, List.getElem?_cons_zero, Option.some.injEq] at ho
      subst ho
      have HK := Lib.hid hK
      clear hK
      have d32 : a.tmps.getD 32 undef = .int .i64 de := dep_at hdep 20 rfl rfl (by kernel_rfl)
      clear hold hdep
      rw [Array.getD_eq_getD_getElem?] at d32
      rw [if_pos (by rfl)]
      go_simp
      go_wp2_with fail
      refine (refput_is _ _ x6 _ (by omega) (by omega) hx6.out).mono ?_
      rintro e w9 ⟨rfl, b9⟩
      exact HK.out _ _ rfl b9
    refine OwesAll.cons (k := 22) ?_ ?_
    · intro o ho a wx hS hold hdep K hK
      simp only [List.getElem?_toArray, List.getElem?_cons_succ, List.getElem?_cons_zero, Option.some.injEq] at ho
      subst ho
      have HK := Lib.hid hK
      clear hK
      have d30 : a.tmps.getD 30 undef = .string (x1 ++ x2 ++ x3 ++ x4 ++ x5) := dep_at hdep 18 rfl rfl (by kernel_rfl)
      have d33 : a.tmps.getD 33 undef = .string x6 := dep_at hdep 21 rfl rfl (by kernel_rfl)
      clear hold hdep
      rw [Array.getD_eq_getD_getElem?] at d30
      rw [Array.getD_eq_getD_getElem?] at d33
      rw [if_pos (by rfl)]
      go_simp
      exact HK.out _ _ rfl (Below.refl _ _)
    refine OwesAll.cons (k := 23) ?_ ?_
    · intro o ho a wx hS hold hdep K hK
      simp only [List.getElem?_toArray, List.getElem?_cons_succ, List.getElem?_cons_zero, Option.some.injEq] at ho
      subst ho
      have HK := Lib.hid hK
      clear hK
      have d1 : a.tmps.getD 1 undef = .pointer (some ⟨w.heap.size, 0, none⟩) := hold 1 (unset_of (by kernel_rfl))
      clear hold hdep
      rw [Array.getD_eq_getD_getElem?] at d1
      rw [if_pos (by rfl)]
      go_simp
      exact HK.out _ _ rfl (Below.refl _ _)
    refine OwesAll.cons (k := 24) ?_ ?_
    · intro o ho a wx hS hold hdep K hK
      simp only [List.getElem?_toArray, List.getElem?_cons_succ, List.getElem?_cons_zero, Option.some.injEq] at ho
      subst ho
      have HK := Lib.hid hK
      clear hK
      have d35 : a.tmps.getD 35 undef = .pointer (some ⟨w.heap.size, 7, none⟩) := dep_at hdep 23 rfl rfl (by kernel_rfl)
      clear hold hdep
      rw [Array.getD_eq_getD_getElem?] at d35
      rw [if_pos (by rfl)]
      have c0 : wx.cell? ⟨w.heap.size, 7, none⟩ = some (.int .i64 ex) := (hS.cell (p := ⟨w.heap.size, 7, none⟩) lt0).trans c7
      go_simp
      exact HK.out _ _ rfl (Below.refl _ _)
    refine OwesAll.cons (k := 25) ?_ ?_
    · intro o ho a wx hS hold hdep K hK
      simp only [List.getElem?_toArray, List.getElem?_cons_succ, List.getElem?_cons_zero, Option.some.injEq] at ho
      subst ho
      have HK := Lib.hid hK
      clear hK
      have d36 : a.tmps.getD 36 undef = .int .i64 ex := dep_at hdep 24 rfl rfl (by kernel_rfl)
      clear hold hdep
      rw [Array.getD_eq_getD_getElem?] at d36
      rw [if_pos (by rfl)]
      go_simp
      go_wp2_with fail
      refine (refput_is _ _ x7 _ (by omega) (by omega) hx7.out).mono ?_
      rintro e w9 ⟨rfl, b9⟩
      exact HK.out _ _ rfl b9
    refine OwesAll.cons (k := 26) ?_ ?_
    · intro o ho a wx hS hold hdep K hK
      simp only [List.getElem?_toArray, List.getElem?_cons_succ, List.getElem?_cons_zero, Option.some.injEq] at ho
      subst ho
      have HK := Lib.hid hK
      clear hK
      have d34 : a.tmps.getD 34 undef = .string (x1 ++ x2 ++ x3 ++ x4 ++ x5 ++ x6) := dep_at hdep 22 rfl rfl (by kernel_rfl)
      have d37 : a.tmps.getD 37 undef = .string x7 := dep_at hdep 25 rfl rfl (by kernel_rfl)
      clear hold hdep
      rw [Array.getD_eq_getD_getElem?] at d34
      rw [Array.getD_eq_getD_getElem?] at d37
      rw [if_pos (by rfl)]
      go_simp
      exact HK.out _ _ rfl (Below.refl _ _)
    refine OwesAll.cons (k := 27) ?_ ?_
    · intro o ho a wx hS hold hdep K hK
      simp only [List.getElem?_toArray, List.getElem?_cons_succ, List.getElem?_cons_zero, Option.some.injEq] at ho
      subst ho
      have HK := Lib.hid hK
      clear hK
      have d1 : a.tmps.getD 1 undef = .pointer (some ⟨w.heap.size, 0, none⟩) := hold 1 (unset_of (by kernel_rfl))
      clear hold hdep
      rw [Array.getD_eq_getD_getElem?] at d1
      rw [if_pos (by rfl)]
      go_simp
      exact HK.out _ _ rfl (Below.refl _ _)
    refine OwesAll.cons (k := 28) ?_ ?_
    · intro o ho a wx hS hold hdep K hK
      simp only [List.getElem?_toArray, List.getElem?_cons_succ, List.getElem?_cons_zero, Option.some.injEq] at ho
      subst ho
      have HK := Lib.hid hK
      clear hK
      have d39 : a.tmps.getD 39 undef = .pointer (some ⟨w.heap.size, 8, none⟩) := dep_at hdep 27 rfl rfl (by kernel_rfl)
      clear hold hdep
      rw [Array.getD_eq_getD_getElem?] at d39
      rw [if_pos (by rfl)]
      have c0 : wx.cell? ⟨w.heap.size, 8, none⟩ = some (.int .i64 cu) := (hS.cell (p := ⟨w.heap.size, 8, none⟩) lt0).trans c8
      go_simp
      exact HK.out _ _ rfl (Below.refl _ _)
    refine OwesAll.cons (k := 29) ?_ ?_
    · intro o ho a wx hS hold hdep K hK
      simp only [List.getElem?_toArray, List.getElem?_cons_succ, List.getElem?_cons_zero, Option.some.injEq] at ho
      subst ho
      have HK := Lib.hid hK
      clear hK
      have d40 : a.tmps.getD 40 undef = .int .i64 cu := dep_at hdep 28 rfl rfl (by kernel_rfl)
      clear hold hdep
      rw [Array.getD_eq_getD_getElem?] at d40
      rw [if_pos (by rfl)]
      go_simp
      go_wp2_with fail
      refine (refput_is _ _ x8 _ (by omega) (by omega) hx8.out).mono ?_
      rintro e w9 ⟨rfl, b9⟩
      exact HK.out _ _ rfl b9
    refine OwesAll.cons (k := 30) ?_ ?_
    · intro o ho a wx hS hold hdep K hK
      simp only [List.getElem?_toArray, List.getElem?_cons_succ, List.getElem?_cons_zero, Option.some.injEq] at ho
      subst ho
      have HK := Lib.hid hK
      clear hK
      have d38 : a.tmps.getD 38 undef = .string (x1 ++ x2 ++ x3 ++ x4 ++ x5 ++ x6 ++ x7) := dep_at hdep 26 rfl rfl (by kernel_rfl)
      have d41 : a.tmps.getD 41 undef = .string x8 := dep_at hdep 29 rfl rfl (by kernel_rfl)
      clear hold hdep
      rw [Array.getD_eq_getD_getElem?] at d38
      rw [Array.getD_eq_getD_getElem?] at d41
      rw [if_pos (by rfl)]
      go_simp
      exact HK.out _ _ rfl (Below.refl _ _)
    refine OwesAll.cons (k := 31) ?_ ?_
    · intro o ho a wx hS hold hdep K hK
      simp only [List.getElem?_toArray, List.getElem?_cons_succ, List.getElem?_cons_zero, Option.some.injEq] at ho
      subst ho
      have HK := Lib.hid hK
      clear hK
      have d5 : a.tmps.getD 5 undef = .string ⟨#[0]⟩ := hold 5 (unset_of (by kernel_rfl))
      clear hold hdep
      rw [Array.getD_eq_getD_getElem?] at d5
      rw [if_pos (by rfl)]
      go_simp
      exact HK.out _ _ rfl (Below.refl _ _)
    refine OwesAll.cons (k := 32) ?_ ?_
    · intro o ho a wx hS hold hdep K hK
      simp only [List.getElem?_toArray, List.getElem?_cons_succ, List.getElem?_cons_zero, Option.some.injEq] at ho
      subst ho
      have HK := Lib.hid hK
      clear hK
      have d42 : a.tmps.getD 42 undef = .string (x1 ++ x2 ++ x3 ++ x4 ++ x5 ++ x6 ++ x7 ++ x8) := dep_at hdep 30 rfl rfl (by kernel_rfl)
      have d43 : a.tmps.getD 43 undef = .string ⟨#[0]⟩ := dep_at hdep 31 rfl rfl (by kernel_rfl)
      clear hold hdep
      rw [Array.getD_eq_getD_getElem?] at d42
      rw [Array.getD_eq_getD_getElem?] at d43
      rw [if_pos (by rfl)]
      go_simp
      exact HK.out _ _ rfl (Below.refl _ _)
    refine OwesAll.cons (k := 33) ?_ ?_
    · intro o ho a wx hS hold hdep K hK
      simp only [List.getElem?_toArray, List.getElem?_cons_succ, List.getElem?_cons_zero, Option.some.injEq] at ho
      subst ho
      have HK := Lib.hid hK
      clear hK
      have d44 : a.tmps.getD 44 undef = .string (x1 ++ x2 ++ x3 ++ x4 ++ x5 ++ x6 ++ x7 ++ x8 ++ ⟨#[0]⟩) := dep_at hdep 32 rfl rfl (by kernel_rfl)
      clear hold hdep
      rw [Array.getD_eq_getD_getElem?] at d44
      rw [if_pos (by rfl)]
      go_simp
      exact HK.out _ _ rfl (Below.refl _ _)
    refine OwesAll.cons (k := 34) ?_ ?_
    · intro o ho a wx hS hold hdep K hK
      simp only [List.getElem?_toArray, List.getElem?_cons_succ, List.getElem?_cons_zero, Option.some.injEq] at ho
      subst ho
      have HK := Lib.hid hK
      clear hK
      clear hold hdep
      rw [if_pos (by rfl)]
      go_simp
      exact HK.out _ _ rfl (Below.refl _ _)
    exact OwesAll.nil
  case ends =>
    intro a wx hS hsz hdf hold hdone
    simp only [List.getElem?_toArray, List.getElem?_cons_succ, List.getElem?_cons_zero, List.getElem?_nil]
    have hsz' : a.tmps.size = 45 := hsz
    have hdf' : a.defers = [] := hdf
    have ha := act_lit hsz' hdf'
    have e0 := hold 0 (unset_of (by kernel_rfl))
    have e1 := hold 1 (unset_of (by kernel_rfl))
    have e4 := hold 4 (unset_of (by kernel_rfl))
    have e5 := hold 5 (unset_of (by kernel_rfl))
    have e6 := hold 6 (unset_of (by kernel_rfl))
    have e7 := hold 7 (unset_of (by kernel_rfl))
    have e8 := hold 8 (unset_of (by kernel_rfl))
    have e9 := hold 9 (unset_of (by kernel_rfl))
    have e10 := hold 10 (unset_of (by kernel_rfl))
    have e11 := hold 11 (unset_of (by kernel_rfl))
    have d2 : a.tmps.getD 2 undef = .string (x1 ++ x2 ++ x3 ++ x4 ++ x5 ++ x6 ++ x7 ++ x8 ++ ⟨#[0]⟩) := hdone 33 _ 2 rfl (by decide) rfl
    have d3 : a.tmps.getD 3 undef = .bool true := hdone 34 _ 3 rfl (by decide) rfl
    clear hold hdone hsz hdf hsz' hdf'
    simp only [Array.getD_eq_getD_getElem?, List.getElem?_toArray, List.getElem?_cons_succ, List.getElem?_cons_zero, Option.getD_some] at e0 e1 e4 e5 e6 e7 e8 e9 e10 e11 d2 d3
    simp only [show (List.range 45) = [0, 1, 2, 3, 4, 5, 6, 7, 8, 9, 10, 11, 12, 13, 14, 15, 16, 17, 18, 19, 20, 21, 22, 23, 24, 25, 26, 27, 28, 29, 30, 31, 32, 33, 34, 35, 36, 37, 38, 39, 40, 41, 42, 43, 44] from rfl, List.map_cons, List.map_nil] at ha
    simp only [e0, e1, e4, e5, e6, e7, e8, e9, e10, e11, d2, d3] at ha
    clear e0 e1 e4 e5 e6 e7 e8 e9 e10 e11 d2 d3
    generalize a.tmps[12]?.getD undef = u12 at ha
    generalize a.tmps[13]?.getD undef = u13 at ha
    generalize a.tmps[14]?.getD undef = u14 at ha
    generalize a.tmps[15]?.getD undef = u15 at ha
    generalize a.tmps[16]?.getD undef = u16 at ha
    generalize a.tmps[17]?.getD undef = u17 at ha
    generalize a.tmps[18]?.getD undef = u18 at ha
    generalize a.tmps[19]?.getD undef = u19 at ha
    generalize a.tmps[20]?.getD undef = u20 at ha
    generalize a.tmps[21]?.getD undef = u21 at ha
    generalize a.tmps[22]?.getD undef = u22 at ha
    generalize a.tmps[23]?.getD undef = u23 at ha
    generalize a.tmps[24]?.getD undef = u24 at ha
    generalize a.tmps[25]?.getD undef = u25 at ha
    generalize a.tmps[26]?.getD undef = u26 at ha
    generalize a.tmps[27]?.getD undef = u27 at ha
    generalize a.tmps[28]?.getD undef = u28 at ha
    generalize a.tmps[29]?.getD undef = u29 at ha
    generalize a.tmps[30]?.getD undef = u30 at ha
    generalize a.tmps[31]?.getD undef = u31 at ha
    generalize a.tmps[32]?.getD undef = u32 at ha
    generalize a.tmps[33]?.getD undef = u33 at ha
    generalize a.tmps[34]?.getD undef = u34 at ha
    generalize a.tmps[35]?.getD undef = u35 at ha
    generalize a.tmps[36]?.getD undef = u36 at ha
    generalize a.tmps[37]?.getD undef = u37 at ha
    generalize a.tmps[38]?.getD undef = u38 at ha
    generalize a.tmps[39]?.getD undef = u39 at ha
    generalize a.tmps[40]?.getD undef = u40 at ha
    generalize a.tmps[41]?.getD undef = u41 at ha
    generalize a.tmps[42]?.getD undef = u42 at ha
    generalize a.tmps[43]?.getD undef = u43 at ha
    generalize a.tmps[44]?.getD undef = u44 at ha
    subst ha
    go_wp2_with fail
    go_ret2
    exact ⟨rfl, chain B.out hS⟩
set_option maxRecDepth 20000 in
set_option maxHeartbeats 3200000 in
theorem refPutCap_yt (id pa ob ow ri ba de ex cu : Int) (x1 x2 x3 x4 x5 x6 x7 x8 : ByteArray) (w : World) (hv : capOk id pa ob ow ri ba de ex cu = true) (hx1 : Hid (Str (putL pa 3) = x1)) (hx2 : Hid (Str (putL ob 3) = x2)) (hx3 : Hid (Str (putL ow 3) = x3)) (hx4 : Hid (Str (putL ri 2) = x4)) (hx5 : Hid (Str (putL ba 4) = x5)) (hx6 : Hid (Str (putL de 1) = x6)) (hx7 : Hid (Str (putL ex 4) = x7)) (hx8 : Hid (Str (putL cu 3) = x8)) (z1 : x1.size ≤ 8) (z2 : x2.size ≤ 8) (z3 : x3.size ≤ 8) (z4 : x4.size ≤ 8) (z5 : x5.size ≤ 8) (z6 : x6.size ≤ 8) (z7 : x7.size ≤ 8) (z8 : x8.size ≤ 8) :
    Calls Try.prog 11 #[.agg #[.int .i64 id, .int .i64 pa, .int .i64 ob, .int .i64 ow, .int .i64 ri, .int .i64 ba, .int .i64 de, .int .i64 ex, .int .i64 cu, .bool true]] w fun e w' => e = .returned (.tuple #[.string (x1 ++ x2 ++ x3 ++ x4 ++ x5 ++ x6 ++ x7 ++ x8 ++ ⟨#[1]⟩), .bool true]) ∧ Below w.heap.size w w' := by
  have H := Lib.hid hv
  obtain ⟨⟨a1, b1⟩, ⟨a2, b2⟩, ⟨a3, b3⟩, ⟨a4, b4⟩, ⟨a5, b5⟩, ⟨a6, b6⟩, ⟨a7, b7⟩, ⟨a8, b8⟩⟩ := capOk_in hv
  clear hv
  have s2 : (9223372036854775807 < x1.size + x2.size) = False := by rw [eq_iff_iff, iff_false]; omega
  have s3 : (9223372036854775807 < x1.size + x2.size + x3.size) = False := by rw [eq_iff_iff, iff_false]; omega
  have s4 : (9223372036854775807 < x1.size + x2.size + x3.size + x4.size) = False := by rw [eq_iff_iff, iff_false]; omega
  have s5 : (9223372036854775807 < x1.size + x2.size + x3.size + x4.size + x5.size) = False := by rw [eq_iff_iff, iff_false]; omega
  have s6 : (9223372036854775807 < x1.size + x2.size + x3.size + x4.size + x5.size + x6.size) = False := by rw [eq_iff_iff, iff_false]; omega
  have s7 : (9223372036854775807 < x1.size + x2.size + x3.size + x4.size + x5.size + x6.size + x7.size) = False := by rw [eq_iff_iff, iff_false]; omega
  have s8 : (9223372036854775807 < x1.size + x2.size + x3.size + x4.size + x5.size + x6.size + x7.size + x8.size) = False := by rw [eq_iff_iff, iff_false]; omega
  have s9 : (9223372036854775807 < x1.size + x2.size + x3.size + x4.size + x5.size + x6.size + x7.size + x8.size + 1) = False := by rw [eq_iff_iff, iff_false]; omega
  clear z1 z2 z3 z4 z5 z6 z7 z8
  go_enter Try.func11, Try.ntmps11
  go_wp2_with fail
  refine (refCapRight_is _ _ _ _ _ _ _ _ _ _ true _ H.out).mono ?_
  rintro e w1 ⟨rfl, b1⟩
  have K := Lib.hid (kept1 b1)
  have B : Hid (Below w.heap.size w w1) := Lib.hid (((Below.refl _ _).alloc (Nat.le_refl _) _).trans (b1.mono (by simp)))
  have lt0 : w.heap.size < w1.heap.size := (Array.getElem?_eq_some_iff.1 K.out).1
  clear b1
  obtain ⟨c0, c1, c2, c3, c4, c5, c6, c7, c8, c9⟩ := cells10 K.out
  go_wp2_with fail
  refine region_kit 99 45 [eqV (.pointer (some ⟨w.heap.size, 1, none⟩)), eqV (.int .i64 pa), eqV (.string x1), eqV (.pointer (some ⟨w.heap.size, 2, none⟩)), eqV (.int .i64 ob), eqV (.string x2), eqV (.string (x1 ++ x2)), eqV (.pointer (some ⟨w.heap.size, 3, none⟩)), eqV (.int .i64 ow), eqV (.string x3), eqV (.string (x1 ++ x2 ++ x3)), eqV (.pointer (some ⟨w.heap.size, 4, none⟩)), eqV (.int .i64 ri), eqV (.string x4), eqV (.string (x1 ++ x2 ++ x3 ++ x4)), eqV (.pointer (some ⟨w.heap.size, 5, none⟩)), eqV (.int .i64 ba), eqV (.string x5), eqV (.string (x1 ++ x2 ++ x3 ++ x4 ++ x5)), eqV (.pointer (some ⟨w.heap.size, 6, none⟩)), eqV (.int .i64 de), eqV (.string x6), eqV (.string (x1 ++ x2 ++ x3 ++ x4 ++ x5 ++ x6)), eqV (.pointer (some ⟨w.heap.size, 7, none⟩)), eqV (.int .i64 ex), eqV (.string x7), eqV (.string (x1 ++ x2 ++ x3 ++ x4 ++ x5 ++ x6 ++ x7)), eqV (.pointer (some ⟨w.heap.size, 8, none⟩)), eqV (.int .i64 cu), eqV (.string x8), eqV (.string (x1 ++ x2 ++ x3 ++ x4 ++ x5 ++ x6 ++ x7 ++ x8)), eqV (.string ⟨#[1]⟩), eqV (.string (x1 ++ x2 ++ x3 ++ x4 ++ x5 ++ x6 ++ x7 ++ x8 ++ ⟨#[1]⟩)), eqV (.string (x1 ++ x2 ++ x3 ++ x4 ++ x5 ++ x6 ++ x7 ++ x8 ++ ⟨#[1]⟩)), eqV (.bool true)] (by kernel_rfl) (by kernel_rfl) (by rfl) ?owes ?ends
  case owes =>
    refine OwesAll.cons (k := 0) ?_ ?_
    · intro o ho a wx hS hold hdep K hK
      simp only [List.getElem?_toArray, List.getElem?_cons_succ, List.getElem?_cons_zero, Option.some.injEq] at ho
      subst ho
      have HK := Lib.hid hK
      clear hK
      have d1 : a.tmps.getD 1 undef = .pointer (some ⟨w.heap.size, 0, none⟩) := hold 1 (unset_of (by kernel_rfl))
      clear hold hdep
      rw [Array.getD_eq_getD_getElem?] at d1
      rw [if_pos (by rfl)]
      go_simp
      exact HK.out _ _ rfl (Below.refl _ _)
    refine OwesAll.cons (k := 1) ?_ ?_
    · intro o ho a wx hS hold hdep K hK
      simp only [List.getElem?_toArray, List.getElem?_cons_succ, List.getElem?_cons_zero, Option.some.injEq] at ho
      subst ho
      have HK := Lib.hid hK
      clear hK
      have d12 : a.tmps.getD 12 undef = .pointer (some ⟨w.heap.size, 1, none⟩) := dep_at hdep 0 rfl rfl (by kernel_rfl)
      clear hold hdep
      rw [Array.getD_eq_getD_getElem?] at d12
      rw [if_pos (by rfl)]
      have c0 : wx.cell? ⟨w.heap.size, 1, none⟩ = some (.int .i64 pa) := (hS.cell (p := ⟨w.heap.size, 1, none⟩) lt0).trans c1
      go_simp
      exact HK.out _ _ rfl (Below.refl _ _)
    refine OwesAll.cons (k := 2) ?_ ?_
    · intro o ho a wx hS hold hdep K hK
      simp only [List.getElem?_toArray, List.getElem?_cons_succ, List.getElem?_cons_zero, Option.some.injEq] at ho
      subst ho
      have HK := Lib.hid hK
      clear hK
      have d13 : a.tmps.getD 13 undef = .int .i64 pa := dep_at hdep 1 rfl rfl (by kernel_rfl)
      clear hold hdep
      rw [Array.getD_eq_getD_getElem?] at d13
      rw [if_pos (by rfl)]
      go_simp
      go_wp2_with fail
      refine (refput_is _ _ x1 _ (by omega) (by omega) hx1.out).mono ?_
      rintro e w9 ⟨rfl, b9⟩
      exact HK.out _ _ rfl b9
    refine OwesAll.cons (k := 3) ?_ ?_
    · intro o ho a wx hS hold hdep K hK
      simp only [List.getElem?_toArray, List.getElem?_cons_succ, List.getElem?_cons_zero, Option.some.injEq] at ho
      subst ho
      have HK := Lib.hid hK
      clear hK
      have d1 : a.tmps.getD 1 undef = .pointer (some ⟨w.heap.size, 0, none⟩) := hold 1 (unset_of (by kernel_rfl))
      clear hold hdep
      rw [Array.getD_eq_getD_getElem?] at d1
      rw [if_pos (by rfl)]
      go_simp
      exact HK.out _ _ rfl (Below.refl _ _)
    refine OwesAll.cons (k := 4) ?_ ?_
    · intro o ho a wx hS hold hdep K hK
      simp only [List.getElem?_toArray, List.getElem?_cons_succ, List.getElem?_cons_zero, Option.some.injEq] at ho
      subst ho
      have HK := Lib.hid hK
      clear hK
      have d15 : a.tmps.getD 15 undef = .pointer (some ⟨w.heap.size, 2, none⟩) := dep_at hdep 3 rfl rfl (by kernel_rfl)
      clear hold hdep
      rw [Array.getD_eq_getD_getElem?] at d15
      rw [if_pos (by rfl)]
      have c0 : wx.cell? ⟨w.heap.size, 2, none⟩ = some (.int .i64 ob) := (hS.cell (p := ⟨w.heap.size, 2, none⟩) lt0).trans c2
      go_simp
      exact HK.out _ _ rfl (Below.refl _ _)
    refine OwesAll.cons (k := 5) ?_ ?_
    · intro o ho a wx hS hold hdep K hK
      simp only [List.getElem?_toArray, List.getElem?_cons_succ, List.getElem?_cons_zero, Option.some.injEq] at ho
      subst ho
      have HK := Lib.hid hK
      clear hK
      have d16 : a.tmps.getD 16 undef = .int .i64 ob := dep_at hdep 4 rfl rfl (by kernel_rfl)
      clear hold hdep
      rw [Array.getD_eq_getD_getElem?] at d16
      rw [if_pos (by rfl)]
      go_simp
      go_wp2_with fail
      refine (refput_is _ _ x2 _ (by omega) (by omega) hx2.out).mono ?_
      rintro e w9 ⟨rfl, b9⟩
      exact HK.out _ _ rfl b9
    refine OwesAll.cons (k := 6) ?_ ?_
    · intro o ho a wx hS hold hdep K hK
      simp only [List.getElem?_toArray, List.getElem?_cons_succ, List.getElem?_cons_zero, Option.some.injEq] at ho
      subst ho
      have HK := Lib.hid hK
      clear hK
      have d14 : a.tmps.getD 14 undef = .string x1 := dep_at hdep 2 rfl rfl (by kernel_rfl)
      have d17 : a.tmps.getD 17 undef = .string x2 := dep_at hdep 5 rfl rfl (by kernel_rfl)
      clear hold hdep
      rw [Array.getD_eq_getD_getElem?] at d14
      rw [Array.getD_eq_getD_getElem?] at d17
      rw [if_pos (by rfl)]
      go_simp
      exact HK.out _ _ rfl (Below.refl _ _)
    refine OwesAll.cons (k := 7) ?_ ?_
    · intro o ho a wx hS hold hdep K hK
      simp only [List.getElem?_toArray, List.getElem?_cons_succ, List.getElem?_cons_zero, Option.some.injEq] at ho
      subst ho
      have HK := Lib.hid hK
      clear hK
      have d1 : a.tmps.getD 1 undef = .pointer (some ⟨w.heap.size, 0, none⟩) := hold 1 (unset_of (by kernel_rfl))
      clear hold hdep
      rw [Array.getD_eq_getD_getElem?] at d1
      rw [if_pos (by rfl)]
      go_simp
      exact HK.out _ _ rfl (Below.refl _ _)
    refine OwesAll.cons (k := 8) ?_ ?_
    · intro o ho a wx hS hold hdep K hK
      simp only [List.getElem?_toArray, List.getElem?_cons_succ, List.getElem?_cons_zero, Option.some.injEq] at ho
      subst ho
      have HK := Lib.hid hK
      clear hK
      have d19 : a.tmps.getD 19 undef = .pointer (some ⟨w.heap.size, 3, none⟩) := dep_at hdep 7 rfl rfl (by kernel_rfl)
      clear hold hdep
      rw [Array.getD_eq_getD_getElem?] at d19
      rw [if_pos (by rfl)]
      have c0 : wx.cell? ⟨w.heap.size, 3, none⟩ = some (.int .i64 ow) := (hS.cell (p := ⟨w.heap.size, 3, none⟩) lt0).trans c3
      go_simp
      exact HK.out _ _ rfl (Below.refl _ _)
    refine OwesAll.cons (k := 9) ?_ ?_
    · intro o ho a wx hS hold hdep K hK
      simp only [List.getElem?_toArray, List.getElem?_cons_succ, List.getElem?_cons_zero, Option.some.injEq] at ho
      subst ho
      have HK := Lib.hid hK
      clear hK
      have d20 : a.tmps.getD 20 undef = .int .i64 ow := dep_at hdep 8 rfl rfl (by kernel_rfl)
      clear hold hdep
      rw [Array.getD_eq_getD_getElem?] at d20
      rw [if_pos (by rfl)]
      go_simp
      go_wp2_with fail
      refine (refput_is _ _ x3 _ (by omega) (by omega) hx3.out).mono ?_
      rintro e w9 ⟨rfl, b9⟩
      exact HK.out _ _ rfl b9
    refine OwesAll.cons (k := 10) ?_ ?_
    · intro o ho a wx hS hold hdep K hK
      simp only [List.getElem?_toArray, List.getElem?_cons_succ, List.getElem?_cons_zero, Option.some.injEq] at ho
      subst ho
      have HK := Lib.hid hK
      clear hK
      have d18 : a.tmps.getD 18 undef = .string (x1 ++ x2) := dep_at hdep 6 rfl rfl (by kernel_rfl)
      have d21 : a.tmps.getD 21 undef = .string x3 := dep_at hdep 9 rfl rfl (by kernel_rfl)
      clear hold hdep
      rw [Array.getD_eq_getD_getElem?] at d18
      rw [Array.getD_eq_getD_getElem?] at d21
      rw [if_pos (by rfl)]
      go_simp
      exact HK.out _ _ rfl (Below.refl _ _)
    refine OwesAll.cons (k := 11) ?_ ?_
    · intro o ho a wx hS hold hdep K hK
      simp only [List.getElem?_toArray, List.getElem?_cons_succ, List.getElem?_cons_zero, Option.some.injEq] at ho
      subst ho
      have HK := Lib.hid hK
      clear hK
      have d1 : a.tmps.getD 1 undef = .pointer (some ⟨w.heap.size, 0, none⟩) := hold 1 (unset_of (by kernel_rfl))
      clear hold hdep
      rw [Array.getD_eq_getD_getElem?] at d1
      rw [if_pos (by rfl)]
      go_simp
      exact HK.out _ _ rfl (Below.refl _ _)
    refine OwesAll.cons (k := 12) ?_ ?_
    · intro o ho a wx hS hold hdep K hK
      simp only [List.getElem?_toArray, List.getElem?_cons_succ, List.getElem?_cons_zero, Option.some.injEq] at ho
      subst ho
      have HK := Lib.hid hK
      clear hK
      have d23 : a.tmps.getD 23 undef = .pointer (some ⟨w.heap.size, 4, none⟩) := dep_at hdep 11 rfl rfl (by kernel_rfl)
      clear hold hdep
      rw [Array.getD_eq_getD_getElem?] at d23
      rw [if_pos (by rfl)]
      have c0 : wx.cell? ⟨w.heap.size, 4, none⟩ = some (.int .i64 ri) := (hS.cell (p := ⟨w.heap.size, 4, none⟩) lt0).trans c4
      go_simp
      exact HK.out _ _ rfl (Below.refl _ _)
    refine OwesAll.cons (k := 13) ?_ ?_
    · intro o ho a wx hS hold hdep K hK
      simp only [List.getElem?_toArray, List.getElem?_cons_succ, List.getElem?_cons_zero, Option.some.injEq] at ho
      subst ho
      have HK := Lib.hid hK
      clear hK
      have d24 : a.tmps.getD 24 undef = .int .i64 ri := dep_at hdep 12 rfl rfl (by kernel_rfl)
      clear hold hdep
      rw [Array.getD_eq_getD_getElem?] at d24
      rw [if_pos (by rfl)]
      go_simp
      go_wp2_with fail
      refine (refput_is _ _ x4 _ (by omega) (by omega) hx4.out).mono ?_
      rintro e w9 ⟨rfl, b9⟩
      exact HK.out _ _ rfl b9
    refine OwesAll.cons (k := 14) ?_ ?_
    · intro o ho a wx hS hold hdep K hK
      simp only [List.getElem?_toArray, List.getElem?_cons_succ, List.getElem?_cons_zero, Option.some.injEq] at ho
      subst ho
      have HK := Lib.hid hK
      clear hK
      have d22 : a.tmps.getD 22 undef = .string (x1 ++ x2 ++ x3) := dep_at hdep 10 rfl rfl (by kernel_rfl)
      have d25 : a.tmps.getD 25 undef = .string x4 := dep_at hdep 13 rfl rfl (by kernel_rfl)
      clear hold hdep
      rw [Array.getD_eq_getD_getElem?] at d22
      rw [Array.getD_eq_getD_getElem?] at d25
      rw [if_pos (by rfl)]
      go_simp
      exact HK.out _ _ rfl (Below.refl _ _)
    refine OwesAll.cons (k := 15) ?_ ?_
    · intro o ho a wx hS hold hdep K hK
      simp only [List.getElem?_toArray, List.getElem?_cons_succ, List.getElem?_cons_zero, Option.some.injEq] at ho
      subst ho
      have HK := Lib.hid hK
      clear hK
      have d1 : a.tmps.getD 1 undef = .pointer (some ⟨w.heap.size, 0, none⟩) := hold 1 (unset_of (by kernel_rfl))
      clear hold hdep
      rw [Array.getD_eq_getD_getElem?] at d1
      rw [if_pos (by rfl)]
      go_simp
      exact HK.out _ _ rfl (Below.refl _ _)
    refine OwesAll.cons (k := 16) ?_ ?_
    · intro o ho a wx hS hold hdep K hK
      simp only [List.getElem?_toArray, List.getElem?_cons_succ, List.getElem?_cons_zero, Option.some.injEq] at ho
      subst ho
      have HK := Lib.hid hK
      clear hK
      have d27 : a.tmps.getD 27 undef = .pointer (some ⟨w.heap.size, 5, none⟩) := dep_at hdep 15 rfl rfl (by kernel_rfl)
      clear hold hdep
      rw [Array.getD_eq_getD_getElem?] at d27
      rw [if_pos (by rfl)]
      have c0 : wx.cell? ⟨w.heap.size, 5, none⟩ = some (.int .i64 ba) := (hS.cell (p := ⟨w.heap.size, 5, none⟩) lt0).trans c5
      go_simp
      exact HK.out _ _ rfl (Below.refl _ _)
    refine OwesAll.cons (k := 17) ?_ ?_
    · intro o ho a wx hS hold hdep K hK
      simp only [List.getElem?_toArray, List.getElem?_cons_succ, List.getElem?_cons_zero, Option.some.injEq] at ho
      subst ho
      have HK := Lib.hid hK
      clear hK
      have d28 : a.tmps.getD 28 undef = .int .i64 ba := dep_at hdep 16 rfl rfl (by kernel_rfl)
      clear hold hdep
      rw [Array.getD_eq_getD_getElem?] at d28
      rw [if_pos (by rfl)]
      go_simp
      go_wp2_with fail
      refine (refput_is _ _ x5 _ (by omega) (by omega) hx5.out).mono ?_
      rintro e w9 ⟨rfl, b9⟩
      exact HK.out _ _ rfl b9
    refine OwesAll.cons (k := 18) ?_ ?_
    · intro o ho a wx hS hold hdep K hK
      simp only [List.getElem?_toArray, List.getElem?_cons_succ, List.getElem?_cons_zero, Option.some.injEq] at ho
      subst ho
      have HK := Lib.hid hK
      clear hK
      have d26 : a.tmps.getD 26 undef = .string (x1 ++ x2 ++ x3 ++ x4) := dep_at hdep 14 rfl rfl (by kernel_rfl)
      have d29 : a.tmps.getD 29 undef = .string x5 := dep_at hdep 17 rfl rfl (by kernel_rfl)
      clear hold hdep
      rw [Array.getD_eq_getD_getElem?] at d26
      rw [Array.getD_eq_getD_getElem?] at d29
      rw [if_pos (by rfl)]
      go_simp
      exact HK.out _ _ rfl (Below.refl _ _)
    refine OwesAll.cons (k := 19) ?_ ?_
    · intro o ho a wx hS hold hdep K hK
      simp only [List.getElem?_toArray, List.getElem?_cons_succ, List.getElem?_cons_zero, Option.some.injEq] at ho
      subst ho
      have HK := Lib.hid hK
      clear hK
      have d1 : a.tmps.getD 1 undef = .pointer (some ⟨w.heap.size, 0, none⟩) := hold 1 (unset_of (by kernel_rfl))
      clear hold hdep
      rw [Array.getD_eq_getD_getElem?] at d1
      rw [if_pos (by rfl)]
      go_simp
      exact HK.out _ _ rfl (Below.refl _ _)
    refine OwesAll.cons (k := 20) ?_ ?_
    · intro o ho a wx hS hold hdep K hK
      simp only [List.getElem?_toArray, List.getElem?_cons_succ, List.getElem?_cons_zero, Option.some.injEq] at ho
      subst ho
      have HK := Lib.hid hK
      clear hK
      have d31 : a.tmps.getD 31 undef = .pointer (some ⟨w.heap.size, 6, none⟩) := dep_at hdep 19 rfl rfl (by kernel_rfl)
      clear hold hdep
      rw [Array.getD_eq_getD_getElem?] at d31
      rw [if_pos (by rfl)]
      have c0 : wx.cell? ⟨w.heap.size, 6, none⟩ = some (.int .i64 de) := (hS.cell (p := ⟨w.heap.size, 6, none⟩) lt0).trans c6
      go_simp
      exact HK.out _ _ rfl (Below.refl _ _)
    refine OwesAll.cons (k := 21) ?_ ?_
    · intro o ho a wx hS hold hdep K hK
      simp only [List.getElem?_toArray, List.getElem?_cons_succ, List.getElem?_cons_zero, Option.some.injEq] at ho
      subst ho
      have HK := Lib.hid hK
      clear hK
      have d32 : a.tmps.getD 32 undef = .int .i64 de := dep_at hdep 20 rfl rfl (by kernel_rfl)
      clear hold hdep
      rw [Array.getD_eq_getD_getElem?] at d32
      rw [if_pos (by rfl)]
      go_simp
      go_wp2_with fail
      refine (refput_is _ _ x6 _ (by omega) (by omega) hx6.out).mono ?_
      rintro e w9 ⟨rfl, b9⟩
      exact HK.out _ _ rfl b9
    refine OwesAll.cons (k := 22) ?_ ?_
    · intro o ho a wx hS hold hdep K hK
      simp only [List.getElem?_toArray, List.getElem?_cons_succ, List.getElem?_cons_zero, Option.some.injEq] at ho
      subst ho
      have HK := Lib.hid hK
      clear hK
      have d30 : a.tmps.getD 30 undef = .string (x1 ++ x2 ++ x3 ++ x4 ++ x5) := dep_at hdep 18 rfl rfl (by kernel_rfl)
      have d33 : a.tmps.getD 33 undef = .string x6 := dep_at hdep 21 rfl rfl (by kernel_rfl)
      clear hold hdep
      rw [Array.getD_eq_getD_getElem?] at d30
      rw [Array.getD_eq_getD_getElem?] at d33
      rw [if_pos (by rfl)]
      go_simp
      exact HK.out _ _ rfl (Below.refl _ _)
    refine OwesAll.cons (k := 23) ?_ ?_
    · intro o ho a wx hS hold hdep K hK
      simp only [List.getElem?_toArray, List.getElem?_cons_succ, List.getElem?_cons_zero, Option.some.injEq] at ho
      subst ho
      have HK := Lib.hid hK
      clear hK
      have d1 : a.tmps.getD 1 undef = .pointer (some ⟨w.heap.size, 0, none⟩) := hold 1 (unset_of (by kernel_rfl))
      clear hold hdep
      rw [Array.getD_eq_getD_getElem?] at d1
      rw [if_pos (by rfl)]
      go_simp
      exact HK.out _ _ rfl (Below.refl _ _)
    refine OwesAll.cons (k := 24) ?_ ?_
    · intro o ho a wx hS hold hdep K hK
      simp only [List.getElem?_toArray, List.getElem?_cons_succ, List.getElem?_cons_zero, Option.some.injEq] at ho
      subst ho
      have HK := Lib.hid hK
      clear hK
      have d35 : a.tmps.getD 35 undef = .pointer (some ⟨w.heap.size, 7, none⟩) := dep_at hdep 23 rfl rfl (by kernel_rfl)
      clear hold hdep
      rw [Array.getD_eq_getD_getElem?] at d35
      rw [if_pos (by rfl)]
      have c0 : wx.cell? ⟨w.heap.size, 7, none⟩ = some (.int .i64 ex) := (hS.cell (p := ⟨w.heap.size, 7, none⟩) lt0).trans c7
      go_simp
      exact HK.out _ _ rfl (Below.refl _ _)
    refine OwesAll.cons (k := 25) ?_ ?_
    · intro o ho a wx hS hold hdep K hK
      simp only [List.getElem?_toArray, List.getElem?_cons_succ, List.getElem?_cons_zero, Option.some.injEq] at ho
      subst ho
      have HK := Lib.hid hK
      clear hK
      have d36 : a.tmps.getD 36 undef = .int .i64 ex := dep_at hdep 24 rfl rfl (by kernel_rfl)
      clear hold hdep
      rw [Array.getD_eq_getD_getElem?] at d36
      rw [if_pos (by rfl)]
      go_simp
      go_wp2_with fail
      refine (refput_is _ _ x7 _ (by omega) (by omega) hx7.out).mono ?_
      rintro e w9 ⟨rfl, b9⟩
      exact HK.out _ _ rfl b9
    refine OwesAll.cons (k := 26) ?_ ?_
    · intro o ho a wx hS hold hdep K hK
      simp only [List.getElem?_toArray, List.getElem?_cons_succ, List.getElem?_cons_zero, Option.some.injEq] at ho
      subst ho
      have HK := Lib.hid hK
      clear hK
      have d34 : a.tmps.getD 34 undef = .string (x1 ++ x2 ++ x3 ++ x4 ++ x5 ++ x6) := dep_at hdep 22 rfl rfl (by kernel_rfl)
      have d37 : a.tmps.getD 37 undef = .string x7 := dep_at hdep 25 rfl rfl (by kernel_rfl)
      clear hold hdep
      rw [Array.getD_eq_getD_getElem?] at d34
      rw [Array.getD_eq_getD_getElem?] at d37
      rw [if_pos (by rfl)]
      go_simp
      exact HK.out _ _ rfl (Below.refl _ _)
    refine OwesAll.cons (k := 27) ?_ ?_
    · intro o ho a wx hS hold hdep K hK
      simp only [List.getElem?_toArray, List.getElem?_cons_succ, List.getElem?_cons_zero, Option.some.injEq] at ho
      subst ho
      have HK := Lib.hid hK
      clear hK
      have d1 : a.tmps.getD 1 undef = .pointer (some ⟨w.heap.size, 0, none⟩) := hold 1 (unset_of (by kernel_rfl))
      clear hold hdep
      rw [Array.getD_eq_getD_getElem?] at d1
      rw [if_pos (by rfl)]
      go_simp
      exact HK.out _ _ rfl (Below.refl _ _)
    refine OwesAll.cons (k := 28) ?_ ?_
    · intro o ho a wx hS hold hdep K hK
      simp only [List.getElem?_toArray, List.getElem?_cons_succ, List.getElem?_cons_zero, Option.some.injEq] at ho
      subst ho
      have HK := Lib.hid hK
      clear hK
      have d39 : a.tmps.getD 39 undef = .pointer (some ⟨w.heap.size, 8, none⟩) := dep_at hdep 27 rfl rfl (by kernel_rfl)
      clear hold hdep
      rw [Array.getD_eq_getD_getElem?] at d39
      rw [if_pos (by rfl)]
      have c0 : wx.cell? ⟨w.heap.size, 8, none⟩ = some (.int .i64 cu) := (hS.cell (p := ⟨w.heap.size, 8, none⟩) lt0).trans c8
      go_simp
      exact HK.out _ _ rfl (Below.refl _ _)
    refine OwesAll.cons (k := 29) ?_ ?_
    · intro o ho a wx hS hold hdep K hK
      simp only [List.getElem?_toArray, List.getElem?_cons_succ, List.getElem?_cons_zero, Option.some.injEq] at ho
      subst ho
      have HK := Lib.hid hK
      clear hK
      have d40 : a.tmps.getD 40 undef = .int .i64 cu := dep_at hdep 28 rfl rfl (by kernel_rfl)
      clear hold hdep
      rw [Array.getD_eq_getD_getElem?] at d40
      rw [if_pos (by rfl)]
      go_simp
      go_wp2_with fail
      refine (refput_is _ _ x8 _ (by omega) (by omega) hx8.out).mono ?_
      rintro e w9 ⟨rfl, b9⟩
      exact HK.out _ _ rfl b9
    refine OwesAll.cons (k := 30) ?_ ?_
    · intro o ho a wx hS hold hdep K hK
      simp only [List.getElem?_toArray, List.getElem?_cons_succ, List.getElem?_cons_zero, Option.some.injEq] at ho
      subst ho
      have HK := Lib.hid hK
      clear hK
      have d38 : a.tmps.getD 38 undef = .string (x1 ++ x2 ++ x3 ++ x4 ++ x5 ++ x6 ++ x7) := dep_at hdep 26 rfl rfl (by kernel_rfl)
      have d41 : a.tmps.getD 41 undef = .string x8 := dep_at hdep 29 rfl rfl (by kernel_rfl)
      clear hold hdep
      rw [Array.getD_eq_getD_getElem?] at d38
      rw [Array.getD_eq_getD_getElem?] at d41
      rw [if_pos (by rfl)]
      go_simp
      exact HK.out _ _ rfl (Below.refl _ _)
    refine OwesAll.cons (k := 31) ?_ ?_
    · intro o ho a wx hS hold hdep K hK
      simp only [List.getElem?_toArray, List.getElem?_cons_succ, List.getElem?_cons_zero, Option.some.injEq] at ho
      subst ho
      have HK := Lib.hid hK
      clear hK
      have d5 : a.tmps.getD 5 undef = .string ⟨#[1]⟩ := hold 5 (unset_of (by kernel_rfl))
      clear hold hdep
      rw [Array.getD_eq_getD_getElem?] at d5
      rw [if_pos (by rfl)]
      go_simp
      exact HK.out _ _ rfl (Below.refl _ _)
    refine OwesAll.cons (k := 32) ?_ ?_
    · intro o ho a wx hS hold hdep K hK
      simp only [List.getElem?_toArray, List.getElem?_cons_succ, List.getElem?_cons_zero, Option.some.injEq] at ho
      subst ho
      have HK := Lib.hid hK
      clear hK
      have d42 : a.tmps.getD 42 undef = .string (x1 ++ x2 ++ x3 ++ x4 ++ x5 ++ x6 ++ x7 ++ x8) := dep_at hdep 30 rfl rfl (by kernel_rfl)
      have d43 : a.tmps.getD 43 undef = .string ⟨#[1]⟩ := dep_at hdep 31 rfl rfl (by kernel_rfl)
      clear hold hdep
      rw [Array.getD_eq_getD_getElem?] at d42
      rw [Array.getD_eq_getD_getElem?] at d43
      rw [if_pos (by rfl)]
      go_simp
      exact HK.out _ _ rfl (Below.refl _ _)
    refine OwesAll.cons (k := 33) ?_ ?_
    · intro o ho a wx hS hold hdep K hK
      simp only [List.getElem?_toArray, List.getElem?_cons_succ, List.getElem?_cons_zero, Option.some.injEq] at ho
      subst ho
      have HK := Lib.hid hK
      clear hK
      have d44 : a.tmps.getD 44 undef = .string (x1 ++ x2 ++ x3 ++ x4 ++ x5 ++ x6 ++ x7 ++ x8 ++ ⟨#[1]⟩) := dep_at hdep 32 rfl rfl (by kernel_rfl)
      clear hold hdep
      rw [Array.getD_eq_getD_getElem?] at d44
      rw [if_pos (by rfl)]
      go_simp
      exact HK.out _ _ rfl (Below.refl _ _)
    refine OwesAll.cons (k := 34) ?_ ?_
    · intro o ho a wx hS hold hdep K hK
      simp only [List.getElem?_toArray, List.getElem?_cons_succ, List.getElem?_cons_zero, Option.some.injEq] at ho
      subst ho
      have HK := Lib.hid hK
      clear hK
      clear hold hdep
      rw [if_pos (by rfl)]
      go_simp
      exact HK.out _ _ rfl (Below.refl _ _)
    exact OwesAll.nil
  case ends =>
    intro a wx hS hsz hdf hold hdone
    simp only [List.getElem?_toArray, List.getElem?_cons_succ, List.getElem?_cons_zero, List.getElem?_nil]
    have hsz' : a.tmps.size = 45 := hsz
    have hdf' : a.defers = [] := hdf
    have ha := act_lit hsz' hdf'
    have e0 := hold 0 (unset_of (by kernel_rfl))
    have e1 := hold 1 (unset_of (by kernel_rfl))
    have e4 := hold 4 (unset_of (by kernel_rfl))
    have e5 := hold 5 (unset_of (by kernel_rfl))
    have e6 := hold 6 (unset_of (by kernel_rfl))
    have e7 := hold 7 (unset_of (by kernel_rfl))
    have e8 := hold 8 (unset_of (by kernel_rfl))
    have e9 := hold 9 (unset_of (by kernel_rfl))
    have e10 := hold 10 (unset_of (by kernel_rfl))
    have e11 := hold 11 (unset_of (by kernel_rfl))
    have d2 : a.tmps.getD 2 undef = .string (x1 ++ x2 ++ x3 ++ x4 ++ x5 ++ x6 ++ x7 ++ x8 ++ ⟨#[1]⟩) := hdone 33 _ 2 rfl (by decide) rfl
    have d3 : a.tmps.getD 3 undef = .bool true := hdone 34 _ 3 rfl (by decide) rfl
    clear hold hdone hsz hdf hsz' hdf'
    simp only [Array.getD_eq_getD_getElem?, List.getElem?_toArray, List.getElem?_cons_succ, List.getElem?_cons_zero, Option.getD_some] at e0 e1 e4 e5 e6 e7 e8 e9 e10 e11 d2 d3
    simp only [show (List.range 45) = [0, 1, 2, 3, 4, 5, 6, 7, 8, 9, 10, 11, 12, 13, 14, 15, 16, 17, 18, 19, 20, 21, 22, 23, 24, 25, 26, 27, 28, 29, 30, 31, 32, 33, 34, 35, 36, 37, 38, 39, 40, 41, 42, 43, 44] from rfl, List.map_cons, List.map_nil] at ha
    simp only [e0, e1, e4, e5, e6, e7, e8, e9, e10, e11, d2, d3] at ha
    clear e0 e1 e4 e5 e6 e7 e8 e9 e10 e11 d2 d3
    generalize a.tmps[12]?.getD undef = u12 at ha
    generalize a.tmps[13]?.getD undef = u13 at ha
    generalize a.tmps[14]?.getD undef = u14 at ha
    generalize a.tmps[15]?.getD undef = u15 at ha
    generalize a.tmps[16]?.getD undef = u16 at ha
    generalize a.tmps[17]?.getD undef = u17 at ha
    generalize a.tmps[18]?.getD undef = u18 at ha
    generalize a.tmps[19]?.getD undef = u19 at ha
    generalize a.tmps[20]?.getD undef = u20 at ha
    generalize a.tmps[21]?.getD undef = u21 at ha
    generalize a.tmps[22]?.getD undef = u22 at ha
    generalize a.tmps[23]?.getD undef = u23 at ha
    generalize a.tmps[24]?.getD undef = u24 at ha
    generalize a.tmps[25]?.getD undef = u25 at ha
    generalize a.tmps[26]?.getD undef = u26 at ha
    generalize a.tmps[27]?.getD undef = u27 at ha
    generalize a.tmps[28]?.getD undef = u28 at ha
    generalize a.tmps[29]?.getD undef = u29 at ha
    generalize a.tmps[30]?.getD undef = u30 at ha
    generalize a.tmps[31]?.getD undef = u31 at ha
    generalize a.tmps[32]?.getD undef = u32 at ha
    generalize a.tmps[33]?.getD undef = u33 at ha
    generalize a.tmps[34]?.getD undef = u34 at ha
    generalize a.tmps[35]?.getD undef = u35 at ha
    generalize a.tmps[36]?.getD undef = u36 at ha
    generalize a.tmps[37]?.getD undef = u37 at ha
    generalize a.tmps[38]?.getD undef = u38 at ha
    generalize a.tmps[39]?.getD undef = u39 at ha
    generalize a.tmps[40]?.getD undef = u40 at ha
    generalize a.tmps[41]?.getD undef = u41 at ha
    generalize a.tmps[42]?.getD undef = u42 at ha
    generalize a.tmps[43]?.getD undef = u43 at ha
    generalize a.tmps[44]?.getD undef = u44 at ha
    subst ha
    go_wp2_with fail
    go_ret2
    exact ⟨rfl, chain B.out hS⟩
theorem refPutCap_any (id pa ob ow ri ba de ex cu : Int) (rv : Bool) (w : World) :
    Calls Try.prog 11 #[.agg #[.int .i64 id, .int .i64 pa, .int .i64 ob, .int .i64 ow, .int .i64 ri, .int .i64 ba, .int .i64 de, .int .i64 ex, .int .i64 cu, .bool rv]] w fun e w' => e = .returned (.tuple #[.string (capP id pa ob ow ri ba de ex cu rv), .bool (capOk id pa ob ow ri ba de ex cu)]) ∧ Below w.heap.size w w' := by
  cases h : capOk id pa ob ow ri ba de ex cu
  · have := refPutCap_no id pa ob ow ri ba de ex cu rv w h
    simpa only [capP, h, if_false, Bool.false_eq_true] using this
  · cases rv
    · have := refPutCap_yf id pa ob ow ri ba de ex cu _ _ _ _ _ _ _ _ w h (Lib.hid rfl) (Lib.hid rfl) (Lib.hid rfl) (Lib.hid rfl) (Lib.hid rfl) (Lib.hid rfl) (Lib.hid rfl) (Lib.hid rfl) (putL_size _ _ (by omega)) (putL_size _ _ (by omega)) (putL_size _ _ (by omega)) (putL_size _ _ (by omega)) (putL_size _ _ (by omega)) (putL_size _ _ (by omega)) (putL_size _ _ (by omega)) (putL_size _ _ (by omega))
      simpa only [capP, capB, h, if_true, show Str (putL (yesN false) 1) = ⟨#[0]⟩ from by decide +kernel] using this
    · have := refPutCap_yt id pa ob ow ri ba de ex cu _ _ _ _ _ _ _ _ w h (Lib.hid rfl) (Lib.hid rfl) (Lib.hid rfl) (Lib.hid rfl) (Lib.hid rfl) (Lib.hid rfl) (Lib.hid rfl) (Lib.hid rfl) (putL_size _ _ (by omega)) (putL_size _ _ (by omega)) (putL_size _ _ (by omega)) (putL_size _ _ (by omega)) (putL_size _ _ (by omega)) (putL_size _ _ (by omega)) (putL_size _ _ (by omega)) (putL_size _ _ (by omega))
      simpa only [capP, capB, h, if_true, show Str (putL (yesN true) 1) = ⟨#[1]⟩ from by decide +kernel] using this
end Go.Proofs.Ytlbnakoaflladaa
