/-
  Package rec: caps (made by tools/gen14.py).
-/
import Derived.Test.YtlbnakoaflladaaRecFld
namespace Go.Proofs.Ytlbnakoaflladaa
open Go.RowKit
set_option linter.unusedVariables false
set_option linter.unusedSimpArgs false

def yesN (b : Bool) : Int := if b = true then 1 else 0
theorem yesN_in (b : Bool) : 0 ≤ yesN b ∧ yesN b ≤ 9223372036854775807 := by cases b <;> decide
theorem maskOk_in {n : Int} : subB n n = true ↔ 0 ≤ n ∧ n ≤ 65535 := by
  have : subB n n = maskOk n := by unfold subB; simp
  rw [this, maskOk, decide_eq_true_eq]
set_option maxHeartbeats 400000 in
theorem yes_any (b : Bool) (w : World) :
    Calls Try.prog 59 #[.bool b] w fun e w' => e = .returned (.int .i64 (yesN b)) ∧ w = w' := by
  cases b
  all_goals
    go_enter Try.func59, Try.ntmps59
    go_wp2
    go_ret
    exact ⟨rfl, rfl⟩
theorem sub_is (a b : Int) (v : Bool) (w : World) (hv : subB a b = v) :
    Calls Try.prog 51 #[.int .i64 a, .int .i64 b] w fun e w' => e = .returned (.bool v) ∧ w = w' := by
  subst hv
  exact sub_any a b w
def capOk (id : Int) (pa : Int) (ob : Int) (ow : Int) (ri : Int) (ba : Int) (de : Int) (ex : Int) (cu : Int) : Bool := inB 1 16777215 id && inB 0 16777215 pa && (pa != id) && inB 1 16777215 ob && inB 1 16777215 ow && subB ri ri && inB 0 4294967295 ba && inB 1 8 de && ((pa == 0) == (de == 1)) && inB 0 268435455 ex && inB 0 16777215 cu
theorem cap_first (c0 : Bool) (c1 : Bool) (c2 : Bool) (c3 : Bool) (c4 : Bool) (c5 : Bool) (c6 : Bool) (c7 : Bool) (c8 : Bool) (c9 : Bool) (c10 : Bool) : (c0 = false) ∨ (c0 = true ∧ c1 = false) ∨ (c0 = true ∧ c1 = true ∧ c2 = false) ∨ (c0 = true ∧ c1 = true ∧ c2 = true ∧ c3 = false) ∨ (c0 = true ∧ c1 = true ∧ c2 = true ∧ c3 = true ∧ c4 = false) ∨ (c0 = true ∧ c1 = true ∧ c2 = true ∧ c3 = true ∧ c4 = true ∧ c5 = false) ∨ (c0 = true ∧ c1 = true ∧ c2 = true ∧ c3 = true ∧ c4 = true ∧ c5 = true ∧ c6 = false) ∨ (c0 = true ∧ c1 = true ∧ c2 = true ∧ c3 = true ∧ c4 = true ∧ c5 = true ∧ c6 = true ∧ c7 = false) ∨ (c0 = true ∧ c1 = true ∧ c2 = true ∧ c3 = true ∧ c4 = true ∧ c5 = true ∧ c6 = true ∧ c7 = true ∧ c8 = false) ∨ (c0 = true ∧ c1 = true ∧ c2 = true ∧ c3 = true ∧ c4 = true ∧ c5 = true ∧ c6 = true ∧ c7 = true ∧ c8 = true ∧ c9 = false) ∨ (c0 = true ∧ c1 = true ∧ c2 = true ∧ c3 = true ∧ c4 = true ∧ c5 = true ∧ c6 = true ∧ c7 = true ∧ c8 = true ∧ c9 = true ∧ c10 = false) ∨ (c0 = true ∧ c1 = true ∧ c2 = true ∧ c3 = true ∧ c4 = true ∧ c5 = true ∧ c6 = true ∧ c7 = true ∧ c8 = true ∧ c9 = true ∧ c10 = true) := by
  cases c0
  · exact .inl rfl
  cases c1
  · exact .inr (.inl ⟨rfl, rfl⟩)
  cases c2
  · exact .inr (.inr (.inl ⟨rfl, rfl, rfl⟩))
  cases c3
  · exact .inr (.inr (.inr (.inl ⟨rfl, rfl, rfl, rfl⟩)))
  cases c4
  · exact .inr (.inr (.inr (.inr (.inl ⟨rfl, rfl, rfl, rfl, rfl⟩))))
  cases c5
  · exact .inr (.inr (.inr (.inr (.inr (.inl ⟨rfl, rfl, rfl, rfl, rfl, rfl⟩)))))
  cases c6
  · exact .inr (.inr (.inr (.inr (.inr (.inr (.inl ⟨rfl, rfl, rfl, rfl, rfl, rfl, rfl⟩))))))
  cases c7
  · exact .inr (.inr (.inr (.inr (.inr (.inr (.inr (.inl ⟨rfl, rfl, rfl, rfl, rfl, rfl, rfl, rfl⟩)))))))
  cases c8
  · exact .inr (.inr (.inr (.inr (.inr (.inr (.inr (.inr (.inl ⟨rfl, rfl, rfl, rfl, rfl, rfl, rfl, rfl, rfl⟩))))))))
  cases c9
  · exact .inr (.inr (.inr (.inr (.inr (.inr (.inr (.inr (.inr (.inl ⟨rfl, rfl, rfl, rfl, rfl, rfl, rfl, rfl, rfl, rfl⟩)))))))))
  cases c10
  · exact .inr (.inr (.inr (.inr (.inr (.inr (.inr (.inr (.inr (.inr (.inl ⟨rfl, rfl, rfl, rfl, rfl, rfl, rfl, rfl, rfl, rfl, rfl⟩))))))))))
  exact .inr (.inr (.inr (.inr (.inr (.inr (.inr (.inr (.inr (.inr (.inr (⟨rfl, rfl, rfl, rfl, rfl, rfl, rfl, rfl, rfl, rfl, rfl⟩)))))))))))
set_option maxRecDepth 20000 in
set_option maxHeartbeats 1600000 in
theorem capRight_is (id : Int) (pa : Int) (ob : Int) (ow : Int) (ri : Int) (ba : Int) (de : Int) (ex : Int) (cu : Int) (rv : Bool) (v : Bool) (w : World) (hv : capOk id pa ob ow ri ba de ex cu = v) :
    Calls Try.prog 34 #[.agg #[.int .i64 id, .int .i64 pa, .int .i64 ob, .int .i64 ow, .int .i64 ri, .int .i64 ba, .int .i64 de, .int .i64 ex, .int .i64 cu, .bool rv]] w fun e w' => e = .returned (.bool v) ∧ Below w.heap.size w w' := by
  have hf : v = (inB 1 16777215 id && inB 0 16777215 pa && (pa != id) && inB 1 16777215 ob && inB 1 16777215 ow && subB ri ri && inB 0 4294967295 ba && inB 1 8 de && ((pa == 0) == (de == 1)) && inB 0 268435455 ex && inB 0 16777215 cu) := hv.symm
  clear hv
  rcases cap_first (inB 1 16777215 id) (inB 0 16777215 pa) (pa != id) (inB 1 16777215 ob) (inB 1 16777215 ow) (subB ri ri) (inB 0 4294967295 ba) (inB 1 8 de) ((pa == 0) == (de == 1)) (inB 0 268435455 ex) (inB 0 16777215 cu) with h0 | ⟨h0, h1⟩ | ⟨h0, h1, h2⟩ | ⟨h0, h1, h2, h3⟩ | ⟨h0, h1, h2, h3, h4⟩ | ⟨h0, h1, h2, h3, h4, h5⟩ | ⟨h0, h1, h2, h3, h4, h5, h6⟩ | ⟨h0, h1, h2, h3, h4, h5, h6, h7⟩ | ⟨h0, h1, h2, h3, h4, h5, h6, h7, h8⟩ | ⟨h0, h1, h2, h3, h4, h5, h6, h7, h8, h9⟩ | ⟨h0, h1, h2, h3, h4, h5, h6, h7, h8, h9, h10⟩ | ⟨h0, h1, h2, h3, h4, h5, h6, h7, h8, h9, h10⟩
  · rw [h0] at hf
    simp only [Bool.and_true, Bool.and_false, Bool.true_and, Bool.false_and] at hf
    have HF := Lib.hid hf
    have H0 := Lib.hid h0
    clear hf h0
    go_enter Try.func34, Try.ntmps34
    go_wp2_with (first | (go_at_call 49; refine (isID_is _ _ _ (by first | exact H0.out)).mono ?_; rintro e w9 ⟨rfl, rfl⟩))
    go_ret
    exact ⟨by rw [HF.out]; rfl, (Below.refl _ _).alloc (Nat.le_refl _) _⟩
  · rw [h0, h1] at hf
    simp only [Bool.and_true, Bool.and_false, Bool.true_and, Bool.false_and] at hf
    have HF := Lib.hid hf
    have H0 := Lib.hid h0
    have H1 := Lib.hid h1
    clear hf h0 h1
    go_enter Try.func34, Try.ntmps34
    go_wp2_with (first | (go_at_call 49; refine (isID_is _ _ _ (by first | exact H0.out)).mono ?_; rintro e w9 ⟨rfl, rfl⟩) | (go_at_call 50; refine (within_is _ _ _ _ _ (by first | exact H1.out)).mono ?_; rintro e w9 ⟨rfl, rfl⟩))
    go_ret
    exact ⟨by rw [HF.out]; rfl, (Below.refl _ _).alloc (Nat.le_refl _) _⟩
  · rw [h0, h1, h2] at hf
    simp only [Bool.and_true, Bool.and_false, Bool.true_and, Bool.false_and] at hf
    have HF := Lib.hid hf
    have H0 := Lib.hid h0
    have H1 := Lib.hid h1
    clear hf h0 h1
    go_enter Try.func34, Try.ntmps34
    go_wp2_with (first | (go_at_call 49; refine (isID_is _ _ _ (by first | exact H0.out)).mono ?_; rintro e w9 ⟨rfl, rfl⟩) | (go_at_call 50; refine (within_is _ _ _ _ _ (by first | exact H1.out)).mono ?_; rintro e w9 ⟨rfl, rfl⟩))
    go_ret
    exact ⟨by rw [HF.out]; rfl, (Below.refl _ _).alloc (Nat.le_refl _) _⟩
  · rw [h0, h1, h2, h3] at hf
    simp only [Bool.and_true, Bool.and_false, Bool.true_and, Bool.false_and] at hf
    have HF := Lib.hid hf
    have H0 := Lib.hid h0
    have H1 := Lib.hid h1
    have H3 := Lib.hid h3
    clear hf h0 h1 h3
    go_enter Try.func34, Try.ntmps34
    go_wp2_with (first | (go_at_call 49; refine (isID_is _ _ _ (by first | exact H0.out | exact H3.out)).mono ?_; rintro e w9 ⟨rfl, rfl⟩) | (go_at_call 50; refine (within_is _ _ _ _ _ (by first | exact H1.out)).mono ?_; rintro e w9 ⟨rfl, rfl⟩))
    go_ret
    exact ⟨by rw [HF.out]; rfl, (Below.refl _ _).alloc (Nat.le_refl _) _⟩
  · rw [h0, h1, h2, h3, h4] at hf
    simp only [Bool.and_true, Bool.and_false, Bool.true_and, Bool.false_and] at hf
    have HF := Lib.hid hf
    have H0 := Lib.hid h0
    have H1 := Lib.hid h1
    have H3 := Lib.hid h3
    have H4 := Lib.hid h4
    clear hf h0 h1 h3 h4
    go_enter Try.func34, Try.ntmps34
    go_wp2_with (first | (go_at_call 49; refine (isID_is _ _ _ (by first | exact H0.out | exact H3.out | exact H4.out)).mono ?_; rintro e w9 ⟨rfl, rfl⟩) | (go_at_call 50; refine (within_is _ _ _ _ _ (by first | exact H1.out)).mono ?_; rintro e w9 ⟨rfl, rfl⟩))
    go_ret
    exact ⟨by rw [HF.out]; rfl, (Below.refl _ _).alloc (Nat.le_refl _) _⟩
  · rw [h0, h1, h2, h3, h4, h5] at hf
    simp only [Bool.and_true, Bool.and_false, Bool.true_and, Bool.false_and] at hf
    have HF := Lib.hid hf
    have H0 := Lib.hid h0
    have H1 := Lib.hid h1
    have H3 := Lib.hid h3
    have H4 := Lib.hid h4
    have H5 := Lib.hid h5
    clear hf h0 h1 h3 h4 h5
    go_enter Try.func34, Try.ntmps34
    go_wp2_with (first | (go_at_call 49; refine (isID_is _ _ _ (by first | exact H0.out | exact H3.out | exact H4.out)).mono ?_; rintro e w9 ⟨rfl, rfl⟩) | (go_at_call 50; refine (within_is _ _ _ _ _ (by first | exact H1.out)).mono ?_; rintro e w9 ⟨rfl, rfl⟩) | (go_at_call 51; refine (sub_is _ _ _ _ (by first | exact H5.out)).mono ?_; rintro e w9 ⟨rfl, rfl⟩))
    go_ret
    exact ⟨by rw [HF.out]; rfl, (Below.refl _ _).alloc (Nat.le_refl _) _⟩
  · rw [h0, h1, h2, h3, h4, h5, h6] at hf
    simp only [Bool.and_true, Bool.and_false, Bool.true_and, Bool.false_and] at hf
    have HF := Lib.hid hf
    have H0 := Lib.hid h0
    have H1 := Lib.hid h1
    have H3 := Lib.hid h3
    have H4 := Lib.hid h4
    have H5 := Lib.hid h5
    have H6 := Lib.hid h6
    clear hf h0 h1 h3 h4 h5 h6
    go_enter Try.func34, Try.ntmps34
    go_wp2_with (first | (go_at_call 49; refine (isID_is _ _ _ (by first | exact H0.out | exact H3.out | exact H4.out)).mono ?_; rintro e w9 ⟨rfl, rfl⟩) | (go_at_call 50; refine (within_is _ _ _ _ _ (by first | exact H1.out | exact H6.out)).mono ?_; rintro e w9 ⟨rfl, rfl⟩) | (go_at_call 51; refine (sub_is _ _ _ _ (by first | exact H5.out)).mono ?_; rintro e w9 ⟨rfl, rfl⟩))
    go_ret
    exact ⟨by rw [HF.out]; rfl, (Below.refl _ _).alloc (Nat.le_refl _) _⟩
  · rw [h0, h1, h2, h3, h4, h5, h6, h7] at hf
    simp only [Bool.and_true, Bool.and_false, Bool.true_and, Bool.false_and] at hf
    have HF := Lib.hid hf
    have H0 := Lib.hid h0
    have H1 := Lib.hid h1
    have H3 := Lib.hid h3
    have H4 := Lib.hid h4
    have H5 := Lib.hid h5
    have H6 := Lib.hid h6
    have H7 := Lib.hid h7
    clear hf h0 h1 h3 h4 h5 h6 h7
    go_enter Try.func34, Try.ntmps34
    go_wp2_with (first | (go_at_call 49; refine (isID_is _ _ _ (by first | exact H0.out | exact H3.out | exact H4.out)).mono ?_; rintro e w9 ⟨rfl, rfl⟩) | (go_at_call 50; refine (within_is _ _ _ _ _ (by first | exact H1.out | exact H6.out | exact H7.out)).mono ?_; rintro e w9 ⟨rfl, rfl⟩) | (go_at_call 51; refine (sub_is _ _ _ _ (by first | exact H5.out)).mono ?_; rintro e w9 ⟨rfl, rfl⟩))
    go_ret
    exact ⟨by rw [HF.out]; rfl, (Below.refl _ _).alloc (Nat.le_refl _) _⟩
  · rw [h0, h1, h2, h3, h4, h5, h6, h7, h8] at hf
    simp only [Bool.and_true, Bool.and_false, Bool.true_and, Bool.false_and] at hf
    have HF := Lib.hid hf
    have H0 := Lib.hid h0
    have H1 := Lib.hid h1
    have H3 := Lib.hid h3
    have H4 := Lib.hid h4
    have H5 := Lib.hid h5
    have H6 := Lib.hid h6
    have H7 := Lib.hid h7
    clear hf h0 h1 h3 h4 h5 h6 h7
    go_enter Try.func34, Try.ntmps34
    go_wp2_with (first | (go_at_call 49; refine (isID_is _ _ _ (by first | exact H0.out | exact H3.out | exact H4.out)).mono ?_; rintro e w9 ⟨rfl, rfl⟩) | (go_at_call 50; refine (within_is _ _ _ _ _ (by first | exact H1.out | exact H6.out | exact H7.out)).mono ?_; rintro e w9 ⟨rfl, rfl⟩) | (go_at_call 51; refine (sub_is _ _ _ _ (by first | exact H5.out)).mono ?_; rintro e w9 ⟨rfl, rfl⟩))
    go_ret
    exact ⟨by rw [HF.out]; rfl, (Below.refl _ _).alloc (Nat.le_refl _) _⟩
  · rw [h0, h1, h2, h3, h4, h5, h6, h7, h8, h9] at hf
    simp only [Bool.and_true, Bool.and_false, Bool.true_and, Bool.false_and] at hf
    have HF := Lib.hid hf
    have H0 := Lib.hid h0
    have H1 := Lib.hid h1
    have H3 := Lib.hid h3
    have H4 := Lib.hid h4
    have H5 := Lib.hid h5
    have H6 := Lib.hid h6
    have H7 := Lib.hid h7
    have H9 := Lib.hid h9
    clear hf h0 h1 h3 h4 h5 h6 h7 h9
    go_enter Try.func34, Try.ntmps34
    go_wp2_with (first | (go_at_call 49; refine (isID_is _ _ _ (by first | exact H0.out | exact H3.out | exact H4.out)).mono ?_; rintro e w9 ⟨rfl, rfl⟩) | (go_at_call 50; refine (within_is _ _ _ _ _ (by first | exact H1.out | exact H6.out | exact H7.out | exact H9.out)).mono ?_; rintro e w9 ⟨rfl, rfl⟩) | (go_at_call 51; refine (sub_is _ _ _ _ (by first | exact H5.out)).mono ?_; rintro e w9 ⟨rfl, rfl⟩))
    go_ret
    exact ⟨by rw [HF.out]; rfl, (Below.refl _ _).alloc (Nat.le_refl _) _⟩
  · rw [h0, h1, h2, h3, h4, h5, h6, h7, h8, h9, h10] at hf
    simp only [Bool.and_true, Bool.and_false, Bool.true_and, Bool.false_and] at hf
    have HF := Lib.hid hf
    have H0 := Lib.hid h0
    have H1 := Lib.hid h1
    have H3 := Lib.hid h3
    have H4 := Lib.hid h4
    have H5 := Lib.hid h5
    have H6 := Lib.hid h6
    have H7 := Lib.hid h7
    have H9 := Lib.hid h9
    have H10 := Lib.hid h10
    clear hf h0 h1 h3 h4 h5 h6 h7 h9 h10
    go_enter Try.func34, Try.ntmps34
    go_wp2_with (first | (go_at_call 49; refine (isID_is _ _ _ (by first | exact H0.out | exact H3.out | exact H4.out)).mono ?_; rintro e w9 ⟨rfl, rfl⟩) | (go_at_call 50; refine (within_is _ _ _ _ _ (by first | exact H1.out | exact H6.out | exact H7.out | exact H9.out | exact H10.out)).mono ?_; rintro e w9 ⟨rfl, rfl⟩) | (go_at_call 51; refine (sub_is _ _ _ _ (by first | exact H5.out)).mono ?_; rintro e w9 ⟨rfl, rfl⟩))
    go_ret
    exact ⟨by rw [HF.out]; rfl, (Below.refl _ _).alloc (Nat.le_refl _) _⟩
  · rw [h0, h1, h2, h3, h4, h5, h6, h7, h8, h9, h10] at hf
    simp only [Bool.and_true, Bool.and_false, Bool.true_and, Bool.false_and] at hf
    have HF := Lib.hid hf
    have H0 := Lib.hid h0
    have H1 := Lib.hid h1
    have H3 := Lib.hid h3
    have H4 := Lib.hid h4
    have H5 := Lib.hid h5
    have H6 := Lib.hid h6
    have H7 := Lib.hid h7
    have H9 := Lib.hid h9
    have H10 := Lib.hid h10
    clear hf h0 h1 h3 h4 h5 h6 h7 h9 h10
    go_enter Try.func34, Try.ntmps34
    go_wp2_with (first | (go_at_call 49; refine (isID_is _ _ _ (by first | exact H0.out | exact H3.out | exact H4.out)).mono ?_; rintro e w9 ⟨rfl, rfl⟩) | (go_at_call 50; refine (within_is _ _ _ _ _ (by first | exact H1.out | exact H6.out | exact H7.out | exact H9.out | exact H10.out)).mono ?_; rintro e w9 ⟨rfl, rfl⟩) | (go_at_call 51; refine (sub_is _ _ _ _ (by first | exact H5.out)).mono ?_; rintro e w9 ⟨rfl, rfl⟩))
    go_ret
    exact ⟨by rw [HF.out]; rfl, (Below.refl _ _).alloc (Nat.le_refl _) _⟩
theorem method_cap (id : Int) (pa : Int) (ob : Int) (ow : Int) (ri : Int) (ba : Int) (de : Int) (ex : Int) (cu : Int) (rv : Bool) (w : World) : (method 217 62 (.agg #[.int .i64 id, .int .i64 pa, .int .i64 ob, .int .i64 ow, .int .i64 ri, .int .i64 ba, .int .i64 de, .int .i64 ex, .int .i64 cu, .bool rv]) "bailiwick/rec.right").run Try.prog w = .ok (34, .agg #[.int .i64 id, .int .i64 pa, .int .i64 ob, .int .i64 ow, .int .i64 ri, .int .i64 ba, .int .i64 de, .int .i64 ex, .int .i64 cu, .bool rv]) w := by kernel_rfl
theorem cap_ask_cap (v : Value) (w : World) : (Instr.typeAssert (.iface 62 v) 84 62 true).run Try.prog w = .ok (.tuple #[v, .bool true]) w := by kernel_rfl
def capBN (N : Int → Int → ByteArray) (x : ByteArray) (pa : Int) (ob : Int) (ow : Int) (ri : Int) (ba : Int) (de : Int) (ex : Int) (cu : Int) (rv : Bool) : ByteArray := N pa 3 ++ N ob 3 ++ N ow 3 ++ N ri 2 ++ N ba 4 ++ N de 1 ++ N ex 4 ++ N cu 3 ++ N (yesN rv) 1
set_option maxRecDepth 20000 in
set_option maxHeartbeats 3200000 in
theorem write_cap (N : Int → Int → ByteArray) (x : ByteArray) (id : Int) (pa : Int) (ob : Int) (ow : Int) (ri : Int) (ba : Int) (de : Int) (ex : Int) (cu : Int) (rv : Bool) (w : World) (g0 : 0 ≤ pa) (l0 : pa ≤ 9223372036854775807) (g1 : 0 ≤ ob) (l1 : ob ≤ 9223372036854775807) (g2 : 0 ≤ ow) (l2 : ow ≤ 9223372036854775807) (g3 : 0 ≤ ri) (l3 : ri ≤ 9223372036854775807) (g4 : 0 ≤ ba) (l4 : ba ≤ 9223372036854775807) (g5 : 0 ≤ de) (l5 : de ≤ 9223372036854775807) (g6 : 0 ≤ ex) (l6 : ex ≤ 9223372036854775807) (g7 : 0 ≤ cu) (l7 : cu ≤ 9223372036854775807)
    (HN : Hid (∀ (n size : Int) (w : World), 0 ≤ n → n ≤ 9223372036854775807 → Calls Try.prog 58 #[.int .i64 n, .int .i64 size] w fun e w' => e = .returned (.string (N n size)) ∧ Below w.heap.size w w')) (NS : Hid (∀ n size : Int, size ≤ 8 → (N n size).size ≤ 8)) :
    Calls Try.prog 48 #[.iface 62 (.agg #[.int .i64 id, .int .i64 pa, .int .i64 ob, .int .i64 ow, .int .i64 ri, .int .i64 ba, .int .i64 de, .int .i64 ex, .int .i64 cu, .bool rv])] w fun e w' => e = .returned (.string (N pa 3 ++ N ob 3 ++ N ow 3 ++ N ri 2 ++ N ba 4 ++ N de 1 ++ N ex 4 ++ N cu 3 ++ N (yesN rv) 1)) ∧ Below w.heap.size w w' := by
  have q1 := cap_ask_cap (.agg #[.int .i64 id, .int .i64 pa, .int .i64 ob, .int .i64 ow, .int .i64 ri, .int .i64 ba, .int .i64 de, .int .i64 ex, .int .i64 cu, .bool rv])
  have z0 := NS.out pa 3 (by omega)
  have z1 := NS.out ob 3 (by omega)
  have z2 := NS.out ow 3 (by omega)
  have z3 := NS.out ri 2 (by omega)
  have z4 := NS.out ba 4 (by omega)
  have z5 := NS.out de 1 (by omega)
  have z6 := NS.out ex 4 (by omega)
  have z7 := NS.out cu 3 (by omega)
  have z8 := NS.out (yesN rv) 1 (by omega)
  have s1 : (9223372036854775807 < (N pa 3).size + (N ob 3).size) = False := by rw [eq_iff_iff, iff_false]; omega
  have s2 : (9223372036854775807 < (N pa 3).size + (N ob 3).size + (N ow 3).size) = False := by rw [eq_iff_iff, iff_false]; omega
  have s3 : (9223372036854775807 < (N pa 3).size + (N ob 3).size + (N ow 3).size + (N ri 2).size) = False := by rw [eq_iff_iff, iff_false]; omega
  have s4 : (9223372036854775807 < (N pa 3).size + (N ob 3).size + (N ow 3).size + (N ri 2).size + (N ba 4).size) = False := by rw [eq_iff_iff, iff_false]; omega
  have s5 : (9223372036854775807 < (N pa 3).size + (N ob 3).size + (N ow 3).size + (N ri 2).size + (N ba 4).size + (N de 1).size) = False := by rw [eq_iff_iff, iff_false]; omega
  have s6 : (9223372036854775807 < (N pa 3).size + (N ob 3).size + (N ow 3).size + (N ri 2).size + (N ba 4).size + (N de 1).size + (N ex 4).size) = False := by rw [eq_iff_iff, iff_false]; omega
  have s7 : (9223372036854775807 < (N pa 3).size + (N ob 3).size + (N ow 3).size + (N ri 2).size + (N ba 4).size + (N de 1).size + (N ex 4).size + (N cu 3).size) = False := by rw [eq_iff_iff, iff_false]; omega
  have s8 : (9223372036854775807 < (N pa 3).size + (N ob 3).size + (N ow 3).size + (N ri 2).size + (N ba 4).size + (N de 1).size + (N ex 4).size + (N cu 3).size + (N (yesN rv) 1).size) = False := by rw [eq_iff_iff, iff_false]; omega
  clear z0 z1 z2 z3 z4 z5 z6 z7 z8
  go_enter Try.func48, Try.ntmps48
  go_wp2_with fail
  obtain ⟨w1, hw1⟩ : ∃ w1, w.alloc (.cells #[.int .i64 id, .int .i64 pa, .int .i64 ob, .int .i64 ow, .int .i64 ri, .int .i64 ba, .int .i64 de, .int .i64 ex, .int .i64 cu, .bool rv] 62) = w1 := ⟨_, rfl⟩
  have hlt : w.heap.size < w1.heap.size := by rw [← hw1]; simp
  have CC : Hid (∀ w', Below w1.heap.size w1 w' → w'.cell? ⟨w.heap.size, 1, none⟩ = some (.int .i64 pa) ∧ w'.cell? ⟨w.heap.size, 2, none⟩ = some (.int .i64 ob) ∧ w'.cell? ⟨w.heap.size, 3, none⟩ = some (.int .i64 ow) ∧ w'.cell? ⟨w.heap.size, 4, none⟩ = some (.int .i64 ri) ∧ w'.cell? ⟨w.heap.size, 5, none⟩ = some (.int .i64 ba) ∧ w'.cell? ⟨w.heap.size, 6, none⟩ = some (.int .i64 de) ∧ w'.cell? ⟨w.heap.size, 7, none⟩ = some (.int .i64 ex) ∧ w'.cell? ⟨w.heap.size, 8, none⟩ = some (.int .i64 cu) ∧ w'.cell? ⟨w.heap.size, 9, none⟩ = some (.bool rv)) := Lib.hid fun w' h => by
    refine ⟨?_, ?_, ?_, ?_, ?_, ?_, ?_, ?_, ?_⟩
    all_goals
      rw [h.cell hlt, ← hw1]
      simp
  have bb : Below w.heap.size w w1 := by rw [← hw1]; exact (Below.refl _ _).alloc (Nat.le_refl _) _
  rw [hw1]
  clear hw1 hlt q1
  have B0 : Below w1.heap.size w1 w1 := Below.refl _ _
  have C0 := CC.out w1 B0
  go_region_held3 (fun w' => Below w1.heap.size w1 w' ∧ w'.cell? ⟨w.heap.size, 1, none⟩ = some (.int .i64 pa) ∧ w'.cell? ⟨w.heap.size, 2, none⟩ = some (.int .i64 ob) ∧ w'.cell? ⟨w.heap.size, 3, none⟩ = some (.int .i64 ow) ∧ w'.cell? ⟨w.heap.size, 4, none⟩ = some (.int .i64 ri) ∧ w'.cell? ⟨w.heap.size, 5, none⟩ = some (.int .i64 ba) ∧ w'.cell? ⟨w.heap.size, 6, none⟩ = some (.int .i64 de) ∧ w'.cell? ⟨w.heap.size, 7, none⟩ = some (.int .i64 ex) ∧ w'.cell? ⟨w.heap.size, 8, none⟩ = some (.int .i64 cu) ∧ w'.cell? ⟨w.heap.size, 9, none⟩ = some (.bool rv)) (first | assumption | exact ⟨B0.drew, CC.out _ B0.drew⟩ | exact keepN CC.out ⟨B0.drew, CC.out _ B0.drew⟩ b9 | exact keepN CC.out (by assumption) b9) ((first | (go_at_call 58; refine (HN.out _ _ _ (by first | omega | exact (yesN_in _).1) (by first | omega | exact (yesN_in _).2)).mono ?_; rintro e w9 ⟨rfl, b9⟩) | (go_at_call 59; refine (yes_any _ _).mono ?_; rintro e w9 ⟨rfl, rfl⟩)))
  rename_i hH
  go_wp2_with fail
  go_ret
  exact ⟨rfl, chain bb hH.1⟩
/-- The bytes. -/
def capB (pa : Int) (ob : Int) (ow : Int) (ri : Int) (ba : Int) (de : Int) (ex : Int) (cu : Int) (rv : Bool) : ByteArray := Str (putL pa 3) ++ Str (putL ob 3) ++ Str (putL ow 3) ++ Str (putL ri 2) ++ Str (putL ba 4) ++ Str (putL de 1) ++ Str (putL ex 4) ++ Str (putL cu 3) ++ Str (putL (yesN rv) 1)
theorem capOk_in {id : Int} {pa : Int} {ob : Int} {ow : Int} {ri : Int} {ba : Int} {de : Int} {ex : Int} {cu : Int} (h : capOk id pa ob ow ri ba de ex cu = true) : (0 ≤ pa ∧ pa ≤ 9223372036854775807) ∧ (0 ≤ ob ∧ ob ≤ 9223372036854775807) ∧ (0 ≤ ow ∧ ow ≤ 9223372036854775807) ∧ (0 ≤ ri ∧ ri ≤ 9223372036854775807) ∧ (0 ≤ ba ∧ ba ≤ 9223372036854775807) ∧ (0 ≤ de ∧ de ≤ 9223372036854775807) ∧ (0 ≤ ex ∧ ex ≤ 9223372036854775807) ∧ (0 ≤ cu ∧ cu ≤ 9223372036854775807) := by
  unfold capOk at h
  simp only [Bool.and_eq_true, inB_iff, maskOk_in] at h
  omega
theorem wr_cap (id : Int) (pa : Int) (ob : Int) (ow : Int) (ri : Int) (ba : Int) (de : Int) (ex : Int) (cu : Int) (rv : Bool) (w : World) (h : capOk id pa ob ow ri ba de ex cu = true) :
    Calls Try.prog 48 #[.iface 62 (.agg #[.int .i64 id, .int .i64 pa, .int .i64 ob, .int .i64 ow, .int .i64 ri, .int .i64 ba, .int .i64 de, .int .i64 ex, .int .i64 cu, .bool rv])] w fun e w' => e = .returned (.string (capB pa ob ow ri ba de ex cu rv)) ∧ Below w.heap.size w w' := by
  have hi := capOk_in h
  obtain ⟨k0, k1, k2, k3, k4, k5, k6, k7⟩ := hi
  exact write_cap (fun n size => Str (putL n size)) ⟨#[]⟩ id pa ob ow ri ba de ex cu rv w k0.1 k0.2 k1.1 k1.2 k2.1 k2.2 k3.1 k3.2 k4.1 k4.2 k5.1 k5.2 k6.1 k6.2 k7.1 k7.2 (Lib.hid fun n size w h0 h1 => number_any n size w h0 h1) (Lib.hid fun n size h => putL_size n size h)
set_option maxRecDepth 20000 in
set_option maxHeartbeats 400000 in
theorem put_cap_no (id : Int) (pa : Int) (ob : Int) (ow : Int) (ri : Int) (ba : Int) (de : Int) (ex : Int) (cu : Int) (rv : Bool) (w : World) (hv : capOk id pa ob ow ri ba de ex cu = false) :
    Calls Try.prog 29 #[.iface 62 (.agg #[.int .i64 id, .int .i64 pa, .int .i64 ob, .int .i64 ow, .int .i64 ri, .int .i64 ba, .int .i64 de, .int .i64 ex, .int .i64 cu, .bool rv])] w fun e w' => e = .returned (.tuple #[.string ⟨#[]⟩, .int .i64 1]) ∧ Below w.heap.size w w' := by
  have H := Lib.hid hv
  have hm := method_cap id pa ob ow ri ba de ex cu rv
  clear hv
  go_enter Try.func29, Try.ntmps29
  go_wp2_with fail
  refine (capRight_is _ _ _ _ _ _ _ _ _ _ false _ H.out).mono ?_
  rintro e w1 ⟨rfl, b1⟩
  go_wp2_with fail
  go_ret2
  exact ⟨rfl, b1⟩
set_option maxRecDepth 20000 in
set_option maxHeartbeats 400000 in
theorem put_cap_yes (id : Int) (pa : Int) (ob : Int) (ow : Int) (ri : Int) (ba : Int) (de : Int) (ex : Int) (cu : Int) (rv : Bool) (w : World) (hv : capOk id pa ob ow ri ba de ex cu = true) :
    Calls Try.prog 29 #[.iface 62 (.agg #[.int .i64 id, .int .i64 pa, .int .i64 ob, .int .i64 ow, .int .i64 ri, .int .i64 ba, .int .i64 de, .int .i64 ex, .int .i64 cu, .bool rv])] w fun e w' => e = .returned (.tuple #[.string (capB pa ob ow ri ba de ex cu rv), .int .i64 0]) ∧ Below w.heap.size w w' := by
  have H := Lib.hid hv
  have hm := method_cap id pa ob ow ri ba de ex cu rv
  have hw := fun w0 => wr_cap id pa ob ow ri ba de ex cu rv w0 hv
  have HW : Hid (∀ w0, Calls Try.prog 48 #[.iface 62 (.agg #[.int .i64 id, .int .i64 pa, .int .i64 ob, .int .i64 ow, .int .i64 ri, .int .i64 ba, .int .i64 de, .int .i64 ex, .int .i64 cu, .bool rv])] w0 fun e w' => e = .returned (.string (capB pa ob ow ri ba de ex cu rv)) ∧ Below w0.heap.size w0 w') := Lib.hid hw
  clear hv hw
  go_enter Try.func29, Try.ntmps29
  go_wp2_with fail
  refine (capRight_is _ _ _ _ _ _ _ _ _ _ true _ H.out).mono ?_
  rintro e w1 ⟨rfl, b1⟩
  go_wp2_with fail
  refine (HW.out _).mono ?_
  rintro e w2 ⟨rfl, b2⟩
  go_wp2_with fail
  go_ret2
  exact ⟨rfl, chain b1 b2⟩
/-- What put answers of a cap. -/
def capP (id : Int) (pa : Int) (ob : Int) (ow : Int) (ri : Int) (ba : Int) (de : Int) (ex : Int) (cu : Int) (rv : Bool) : ByteArray := if capOk id pa ob ow ri ba de ex cu = true then capB pa ob ow ri ba de ex cu rv else ⟨#[]⟩
theorem put_cap (id : Int) (pa : Int) (ob : Int) (ow : Int) (ri : Int) (ba : Int) (de : Int) (ex : Int) (cu : Int) (rv : Bool) (w : World) :
    Calls Try.prog 29 #[.iface 62 (.agg #[.int .i64 id, .int .i64 pa, .int .i64 ob, .int .i64 ow, .int .i64 ri, .int .i64 ba, .int .i64 de, .int .i64 ex, .int .i64 cu, .bool rv])] w fun e w' => e = .returned (.tuple #[.string (capP id pa ob ow ri ba de ex cu rv), .int .i64 (okE (capOk id pa ob ow ri ba de ex cu) 1)]) ∧ Below w.heap.size w w' := by
  cases h : capOk id pa ob ow ri ba de ex cu
  · have := put_cap_no id pa ob ow ri ba de ex cu rv w h
    simpa [capP, okE, h] using this
  · have := put_cap_yes id pa ob ow ri ba de ex cu rv w h
    simpa [capP, okE, h] using this
set_option maxRecDepth 20000 in
set_option maxHeartbeats 400000 in
theorem putCap_any (id : Int) (pa : Int) (ob : Int) (ow : Int) (ri : Int) (ba : Int) (de : Int) (ex : Int) (cu : Int) (rv : Bool) (w : World) :
    Calls Try.prog 10 #[.agg #[.int .i64 id, .int .i64 pa, .int .i64 ob, .int .i64 ow, .int .i64 ri, .int .i64 ba, .int .i64 de, .int .i64 ex, .int .i64 cu, .bool rv]] w fun e w' => e = .returned (.tuple #[.string (capP id pa ob ow ri ba de ex cu rv), .int .i64 (okE (capOk id pa ob ow ri ba de ex cu) 1)]) ∧ Below w.heap.size w w' := by
  go_enter Try.func10, Try.ntmps10
  go_wp2_with fail
  refine (put_cap _ _ _ _ _ _ _ _ _ _ _).mono ?_
  rintro e w1 ⟨rfl, b1⟩
  go_wp2_with fail
  go_ret2
  exact ⟨rfl, ((Below.refl _ _).alloc (Nat.le_refl _) _).trans (b1.mono (by simp))⟩
set_option maxRecDepth 20000 in
set_option maxHeartbeats 400000 in
theorem capRight_any (id : Int) (pa : Int) (ob : Int) (ow : Int) (ri : Int) (ba : Int) (de : Int) (ex : Int) (cu : Int) (rv : Bool) (w : World) :
    Calls Try.prog 14 #[.agg #[.int .i64 id, .int .i64 pa, .int .i64 ob, .int .i64 ow, .int .i64 ri, .int .i64 ba, .int .i64 de, .int .i64 ex, .int .i64 cu, .bool rv]] w fun e w' => e = .returned (.bool (capOk id pa ob ow ri ba de ex cu)) ∧ Below w.heap.size w w' := by
  go_enter Try.func14, Try.ntmps14
  go_wp2_with fail
  refine (capRight_is _ _ _ _ _ _ _ _ _ _ _ _ rfl).mono ?_
  rintro e w1 ⟨rfl, b1⟩
  go_wp2_with fail
  go_ret
  exact ⟨rfl, ((Below.refl _ _).alloc (Nat.le_refl _) _).trans (b1.mono (by simp))⟩
/-- wrote: is s what put makes of the cap? -/
def capW (id : Int) (pa : Int) (ob : Int) (ow : Int) (ri : Int) (ba : Int) (de : Int) (ex : Int) (cu : Int) (rv : Bool) (s : ByteArray) : Bool := capOk id pa ob ow ri ba de ex cu && decide (capB pa ob ow ri ba de ex cu rv = s)
set_option maxRecDepth 20000 in
set_option maxHeartbeats 800000 in
theorem wrote_cap (id : Int) (pa : Int) (ob : Int) (ow : Int) (ri : Int) (ba : Int) (de : Int) (ex : Int) (cu : Int) (rv : Bool) (s : ByteArray) (w : World) :
    Calls Try.prog 32 #[.iface 62 (.agg #[.int .i64 id, .int .i64 pa, .int .i64 ob, .int .i64 ow, .int .i64 ri, .int .i64 ba, .int .i64 de, .int .i64 ex, .int .i64 cu, .bool rv]), .string s] w fun e w' => e = .returned (.bool (capW id pa ob ow ri ba de ex cu rv s)) ∧ Below w.heap.size w w' := by
  cases hk : capOk id pa ob ow ri ba de ex cu
  · have F : Hid (capW id pa ob ow ri ba de ex cu rv s = false) := Lib.hid (by unfold capW; rw [hk]; rfl)
    have K := Lib.hid (put_cap_no id pa ob ow ri ba de ex cu rv w hk)
    clear hk
    go_enter Try.func32, Try.ntmps32
    go_wp2_with fail
    refine K.out.mono ?_
    rintro e w1 ⟨rfl, b1⟩
    go_wp2_with fail
    go_ret
    exact ⟨by rw [F.out]; rfl, b1⟩
  · have K := Lib.hid (put_cap_yes id pa ob ow ri ba de ex cu rv w hk)
    have F : Hid (capW id pa ob ow ri ba de ex cu rv s = ((capB pa ob ow ri ba de ex cu rv).toList == s.toList)) := Lib.hid (by
      unfold capW; rw [hk, list_beq, Bool.true_and])
    clear hk
    generalize capB pa ob ow ri ba de ex cu rv = x at *
    go_enter Try.func32, Try.ntmps32
    go_wp2_with fail
    refine K.out.mono ?_
    rintro e w1 ⟨rfl, b1⟩
    go_wp2_with fail
    go_ret
    exact ⟨by rw [F.out]; rfl, b1⟩
def tcap0 (s : ByteArray) : Int := takeN s 3
def tcap1 (s : ByteArray) : Int := takeN (takeR s 3) 3
def tcap2 (s : ByteArray) : Int := takeN (takeR (takeR s 3) 3) 3
def tcap3 (s : ByteArray) : Int := takeN (takeR (takeR (takeR s 3) 3) 3) 2
def tcap4 (s : ByteArray) : Int := takeN (takeR (takeR (takeR (takeR s 3) 3) 3) 2) 4
def tcap5 (s : ByteArray) : Int := takeN (takeR (takeR (takeR (takeR (takeR s 3) 3) 3) 2) 4) 1
def tcap6 (s : ByteArray) : Int := takeN (takeR (takeR (takeR (takeR (takeR (takeR s 3) 3) 3) 2) 4) 1) 4
def tcap7 (s : ByteArray) : Int := takeN (takeR (takeR (takeR (takeR (takeR (takeR (takeR s 3) 3) 3) 2) 4) 1) 4) 3
def tcap8 (s : ByteArray) : Int := takeN (takeR (takeR (takeR (takeR (takeR (takeR (takeR (takeR s 3) 3) 3) 2) 4) 1) 4) 3) 1
def tcapOk (id : Int) (s : ByteArray) : Bool := capW id (tcap0 s) (tcap1 s) (tcap2 s) (tcap3 s) (tcap4 s) (tcap5 s) (tcap6 s) (tcap7 s) (tcap8 s == 1) s
theorem size_cap : (Try.prog.info? 23).map (·.size) = some 10 := by kernel_rfl
set_option maxRecDepth 20000 in
set_option maxHeartbeats 1600000 in
theorem takeCap_no (id : Int) (s : ByteArray) (w : World) (hk : tcapOk id s = false) :
    Calls Try.prog 12 #[.int .i64 id, .string s] w fun e w' => e = .returned (.tuple #[.agg #[.int .i64 0, .int .i64 0, .int .i64 0, .int .i64 0, .int .i64 0, .int .i64 0, .int .i64 0, .int .i64 0, .int .i64 0, .bool false], .int .i64 2]) ∧ Below w.heap.size w w' := by
  have H := Lib.hid hk
  unfold tcapOk at H
  clear hk
  generalize h0 : tcap0 s = n0 at *
  generalize h1 : tcap1 s = n1 at *
  generalize h2 : tcap2 s = n2 at *
  generalize h3 : tcap3 s = n3 at *
  generalize h4 : tcap4 s = n4 at *
  generalize h5 : tcap5 s = n5 at *
  generalize h6 : tcap6 s = n6 at *
  generalize h7 : tcap7 s = n7 at *
  generalize h8 : tcap8 s = n8 at *
  have E0 : Hid (takeN s 3 = n0) := Lib.hid h0
  have E1 : Hid (takeN (takeR s 3) 3 = n1) := Lib.hid h1
  have E2 : Hid (takeN (takeR (takeR s 3) 3) 3 = n2) := Lib.hid h2
  have E3 : Hid (takeN (takeR (takeR (takeR s 3) 3) 3) 2 = n3) := Lib.hid h3
  have E4 : Hid (takeN (takeR (takeR (takeR (takeR s 3) 3) 3) 2) 4 = n4) := Lib.hid h4
  have E5 : Hid (takeN (takeR (takeR (takeR (takeR (takeR s 3) 3) 3) 2) 4) 1 = n5) := Lib.hid h5
  have E6 : Hid (takeN (takeR (takeR (takeR (takeR (takeR (takeR s 3) 3) 3) 2) 4) 1) 4 = n6) := Lib.hid h6
  have E7 : Hid (takeN (takeR (takeR (takeR (takeR (takeR (takeR (takeR s 3) 3) 3) 2) 4) 1) 4) 3 = n7) := Lib.hid h7
  have E8 : Hid (takeN (takeR (takeR (takeR (takeR (takeR (takeR (takeR (takeR s 3) 3) 3) 2) 4) 1) 4) 3) 1 = n8) := Lib.hid h8
  clear h0 h1 h2 h3 h4 h5 h6 h7 h8
  go_enter Try.func12, Try.ntmps12
  go_wp2_with fail
  refine (num_any _ s _ _ (heap_alloc2_new _ _ _) (by decide)).mono ?_
  rw [E0.out]
  rintro e w1 ⟨rfl, f1, b1⟩
  have F1 := Lib.hid f1
  have R1 : Hid (w1.heap[w.heap.size]? = some (.cells #[.int .i64 0, .int .i64 0, .int .i64 0, .int .i64 0, .int .i64 0, .int .i64 0, .int .i64 0, .int .i64 0, .int .i64 0, .bool false] 23)) := Lib.hid (by rw [b1.block _ (Nat.lt_succ_self _)]; exact heap_alloc2_old _ _ _)
  have B1 : Hid (Below w.heap.size w w1) := Lib.hid (((Below.refl _ _).alloc (Nat.le_refl _) _).alloc (by simp) _ |>.trans (b1.mono (by simp)))
  clear f1 b1
  go_wp2_with fail
  refine (num_any _ _ _ _ F1.out (by decide)).mono ?_
  rw [E1.out]
  rintro e w2 ⟨rfl, f2, b2⟩
  have F2 := Lib.hid f2
  have R2 : Hid (w2.heap[w.heap.size]? = some (.cells #[.int .i64 0, .int .i64 0, .int .i64 0, .int .i64 0, .int .i64 0, .int .i64 0, .int .i64 0, .int .i64 0, .int .i64 0, .bool false] 23)) := Lib.hid (by rw [b2.block _ (Nat.lt_succ_self _)]; exact R1.out)
  have B2 : Hid (Below w.heap.size w w2) := Lib.hid (B1.out.trans (b2.mono (by simp)))
  clear f2 b2 F1 R1 B1
  go_wp2_with fail
  refine (num_any _ _ _ _ F2.out (by decide)).mono ?_
  rw [E2.out]
  rintro e w3 ⟨rfl, f3, b3⟩
  have F3 := Lib.hid f3
  have R3 : Hid (w3.heap[w.heap.size]? = some (.cells #[.int .i64 0, .int .i64 0, .int .i64 0, .int .i64 0, .int .i64 0, .int .i64 0, .int .i64 0, .int .i64 0, .int .i64 0, .bool false] 23)) := Lib.hid (by rw [b3.block _ (Nat.lt_succ_self _)]; exact R2.out)
  have B3 : Hid (Below w.heap.size w w3) := Lib.hid (B2.out.trans (b3.mono (by simp)))
  clear f3 b3 F2 R2 B2
  go_wp2_with fail
  refine (num_any _ _ _ _ F3.out (by decide)).mono ?_
  rw [E3.out]
  rintro e w4 ⟨rfl, f4, b4⟩
  have F4 := Lib.hid f4
  have R4 : Hid (w4.heap[w.heap.size]? = some (.cells #[.int .i64 0, .int .i64 0, .int .i64 0, .int .i64 0, .int .i64 0, .int .i64 0, .int .i64 0, .int .i64 0, .int .i64 0, .bool false] 23)) := Lib.hid (by rw [b4.block _ (Nat.lt_succ_self _)]; exact R3.out)
  have B4 : Hid (Below w.heap.size w w4) := Lib.hid (B3.out.trans (b4.mono (by simp)))
  clear f4 b4 F3 R3 B3
  go_wp2_with fail
  refine (num_any _ _ _ _ F4.out (by decide)).mono ?_
  rw [E4.out]
  rintro e w5 ⟨rfl, f5, b5⟩
  have F5 := Lib.hid f5
  have R5 : Hid (w5.heap[w.heap.size]? = some (.cells #[.int .i64 0, .int .i64 0, .int .i64 0, .int .i64 0, .int .i64 0, .int .i64 0, .int .i64 0, .int .i64 0, .int .i64 0, .bool false] 23)) := Lib.hid (by rw [b5.block _ (Nat.lt_succ_self _)]; exact R4.out)
  have B5 : Hid (Below w.heap.size w w5) := Lib.hid (B4.out.trans (b5.mono (by simp)))
  clear f5 b5 F4 R4 B4
  go_wp2_with fail
  refine (num_any _ _ _ _ F5.out (by decide)).mono ?_
  rw [E5.out]
  rintro e w6 ⟨rfl, f6, b6⟩
  have F6 := Lib.hid f6
  have R6 : Hid (w6.heap[w.heap.size]? = some (.cells #[.int .i64 0, .int .i64 0, .int .i64 0, .int .i64 0, .int .i64 0, .int .i64 0, .int .i64 0, .int .i64 0, .int .i64 0, .bool false] 23)) := Lib.hid (by rw [b6.block _ (Nat.lt_succ_self _)]; exact R5.out)
  have B6 : Hid (Below w.heap.size w w6) := Lib.hid (B5.out.trans (b6.mono (by simp)))
  clear f6 b6 F5 R5 B5
  go_wp2_with fail
  refine (num_any _ _ _ _ F6.out (by decide)).mono ?_
  rw [E6.out]
  rintro e w7 ⟨rfl, f7, b7⟩
  have F7 := Lib.hid f7
  have R7 : Hid (w7.heap[w.heap.size]? = some (.cells #[.int .i64 0, .int .i64 0, .int .i64 0, .int .i64 0, .int .i64 0, .int .i64 0, .int .i64 0, .int .i64 0, .int .i64 0, .bool false] 23)) := Lib.hid (by rw [b7.block _ (Nat.lt_succ_self _)]; exact R6.out)
  have B7 : Hid (Below w.heap.size w w7) := Lib.hid (B6.out.trans (b7.mono (by simp)))
  clear f7 b7 F6 R6 B6
  go_wp2_with fail
  refine (num_any _ _ _ _ F7.out (by decide)).mono ?_
  rw [E7.out]
  rintro e w8 ⟨rfl, f8, b8⟩
  have F8 := Lib.hid f8
  have R8 : Hid (w8.heap[w.heap.size]? = some (.cells #[.int .i64 0, .int .i64 0, .int .i64 0, .int .i64 0, .int .i64 0, .int .i64 0, .int .i64 0, .int .i64 0, .int .i64 0, .bool false] 23)) := Lib.hid (by rw [b8.block _ (Nat.lt_succ_self _)]; exact R7.out)
  have B8 : Hid (Below w.heap.size w w8) := Lib.hid (B7.out.trans (b8.mono (by simp)))
  clear f8 b8 F7 R7 B7
  go_wp2_with fail
  refine (num_any _ _ _ _ F8.out (by decide)).mono ?_
  rw [E8.out]
  rintro e w9 ⟨rfl, f9, b9⟩
  have F9 := Lib.hid f9
  have R9 : Hid (w9.heap[w.heap.size]? = some (.cells #[.int .i64 0, .int .i64 0, .int .i64 0, .int .i64 0, .int .i64 0, .int .i64 0, .int .i64 0, .int .i64 0, .int .i64 0, .bool false] 23)) := Lib.hid (by rw [b9.block _ (Nat.lt_succ_self _)]; exact R8.out)
  have B9 : Hid (Below w.heap.size w w9) := Lib.hid (B8.out.trans (b9.mono (by simp)))
  clear f9 b9 F8 R8 B8
  go_wp2_with fail
  refine (wrote_cap _ _ _ _ _ _ _ _ _ _ _ _).mono ?_
  rw [H.out]
  rintro e wz ⟨rfl, bz⟩
  have hlt : w.heap.size < w9.heap.size := (Array.getElem?_eq_some_iff.1 R9.out).1
  have RZ : wz.heap[w.heap.size]? = some (.cells #[.int .i64 0, .int .i64 0, .int .i64 0, .int .i64 0, .int .i64 0, .int .i64 0, .int .i64 0, .int .i64 0, .int .i64 0, .bool false] 23) := by
    rw [bz.block _ (by simp; omega), Below.heap_alloc w9 _ _ hlt]; exact R9.out
  have BZ : Hid (Below w.heap.size w wz) := Lib.hid ((B9.out.alloc (Nat.le_of_lt hlt) _).trans (bz.mono (by simp; omega)))
  have c0 : wz.cell? ⟨w.heap.size, 0, none⟩ = some (.int .i64 0) := by rw [Go.Joins.cell_of_block RZ]; rfl
  have c1 : wz.cell? ⟨w.heap.size, 1, none⟩ = some (.int .i64 0) := by rw [Go.Joins.cell_of_block RZ]; rfl
  have c2 : wz.cell? ⟨w.heap.size, 2, none⟩ = some (.int .i64 0) := by rw [Go.Joins.cell_of_block RZ]; rfl
  have c3 : wz.cell? ⟨w.heap.size, 3, none⟩ = some (.int .i64 0) := by rw [Go.Joins.cell_of_block RZ]; rfl
  have c4 : wz.cell? ⟨w.heap.size, 4, none⟩ = some (.int .i64 0) := by rw [Go.Joins.cell_of_block RZ]; rfl
  have c5 : wz.cell? ⟨w.heap.size, 5, none⟩ = some (.int .i64 0) := by rw [Go.Joins.cell_of_block RZ]; rfl
  have c6 : wz.cell? ⟨w.heap.size, 6, none⟩ = some (.int .i64 0) := by rw [Go.Joins.cell_of_block RZ]; rfl
  have c7 : wz.cell? ⟨w.heap.size, 7, none⟩ = some (.int .i64 0) := by rw [Go.Joins.cell_of_block RZ]; rfl
  have c8 : wz.cell? ⟨w.heap.size, 8, none⟩ = some (.int .i64 0) := by rw [Go.Joins.cell_of_block RZ]; rfl
  have c9 : wz.cell? ⟨w.heap.size, 9, none⟩ = some (.bool false) := by rw [Go.Joins.cell_of_block RZ]; rfl
  have f0 := Go.Joins.unfrozen_of_block RZ 0
  have f1 := Go.Joins.unfrozen_of_block RZ 1
  have f2 := Go.Joins.unfrozen_of_block RZ 2
  have f3 := Go.Joins.unfrozen_of_block RZ 3
  have f4 := Go.Joins.unfrozen_of_block RZ 4
  have f5 := Go.Joins.unfrozen_of_block RZ 5
  have f6 := Go.Joins.unfrozen_of_block RZ 6
  have f7 := Go.Joins.unfrozen_of_block RZ 7
  have f8 := Go.Joins.unfrozen_of_block RZ 8
  have f9 := Go.Joins.unfrozen_of_block RZ 9
  have RX := Lib.hid (setN_heap w.heap.size 23 (0, 0) [.int .i64 0, .int .i64 0, .int .i64 0, .int .i64 0, .int .i64 0, .int .i64 0, .int .i64 0, .int .i64 0, .int .i64 0, .bool false] wz 0 _ RZ rfl)
  have BX := Lib.hid (setN_below w.heap.size (Nat.le_refl _) [.int .i64 0, .int .i64 0, .int .i64 0, .int .i64 0, .int .i64 0, .int .i64 0, .int .i64 0, .int .i64 0, .int .i64 0, .bool false] wz 0 BZ.out)
  clear bz R9 B9 F9 RZ BZ
  go_wp2_with fail
  exact bodyPost_ret (v := .tuple #[.agg #[.int .i64 0, .int .i64 0, .int .i64 0, .int .i64 0, .int .i64 0, .int .i64 0, .int .i64 0, .int .i64 0, .int .i64 0, .bool false], .int .i64 2]) (results_row_tmp Try.results12 _ _ w.heap.size 23 _ (0, 0) _ _ rfl rfl RX.out Try.underlying23 rfl size_cap) rfl ⟨rfl, BX.out⟩
set_option maxRecDepth 20000 in
set_option maxHeartbeats 1600000 in
theorem takeCap_yes (id : Int) (s : ByteArray) (w : World) (hk : tcapOk id s = true) :
    Calls Try.prog 12 #[.int .i64 id, .string s] w fun e w' => e = .returned (.tuple #[.agg #[.int .i64 id, .int .i64 (tcap0 s), .int .i64 (tcap1 s), .int .i64 (tcap2 s), .int .i64 (tcap3 s), .int .i64 (tcap4 s), .int .i64 (tcap5 s), .int .i64 (tcap6 s), .int .i64 (tcap7 s), .bool (tcap8 s == 1)], .int .i64 0]) ∧ Below w.heap.size w w' := by
  have H := Lib.hid hk
  unfold tcapOk at H
  clear hk
  generalize h0 : tcap0 s = n0 at *
  generalize h1 : tcap1 s = n1 at *
  generalize h2 : tcap2 s = n2 at *
  generalize h3 : tcap3 s = n3 at *
  generalize h4 : tcap4 s = n4 at *
  generalize h5 : tcap5 s = n5 at *
  generalize h6 : tcap6 s = n6 at *
  generalize h7 : tcap7 s = n7 at *
  generalize h8 : tcap8 s = n8 at *
  have E0 : Hid (takeN s 3 = n0) := Lib.hid h0
  have E1 : Hid (takeN (takeR s 3) 3 = n1) := Lib.hid h1
  have E2 : Hid (takeN (takeR (takeR s 3) 3) 3 = n2) := Lib.hid h2
  have E3 : Hid (takeN (takeR (takeR (takeR s 3) 3) 3) 2 = n3) := Lib.hid h3
  have E4 : Hid (takeN (takeR (takeR (takeR (takeR s 3) 3) 3) 2) 4 = n4) := Lib.hid h4
  have E5 : Hid (takeN (takeR (takeR (takeR (takeR (takeR s 3) 3) 3) 2) 4) 1 = n5) := Lib.hid h5
  have E6 : Hid (takeN (takeR (takeR (takeR (takeR (takeR (takeR s 3) 3) 3) 2) 4) 1) 4 = n6) := Lib.hid h6
  have E7 : Hid (takeN (takeR (takeR (takeR (takeR (takeR (takeR (takeR s 3) 3) 3) 2) 4) 1) 4) 3 = n7) := Lib.hid h7
  have E8 : Hid (takeN (takeR (takeR (takeR (takeR (takeR (takeR (takeR (takeR s 3) 3) 3) 2) 4) 1) 4) 3) 1 = n8) := Lib.hid h8
  clear h0 h1 h2 h3 h4 h5 h6 h7 h8
  go_enter Try.func12, Try.ntmps12
  go_wp2_with fail
  refine (num_any _ s _ _ (heap_alloc2_new _ _ _) (by decide)).mono ?_
  rw [E0.out]
  rintro e w1 ⟨rfl, f1, b1⟩
  have F1 := Lib.hid f1
  have R1 : Hid (w1.heap[w.heap.size]? = some (.cells #[.int .i64 0, .int .i64 0, .int .i64 0, .int .i64 0, .int .i64 0, .int .i64 0, .int .i64 0, .int .i64 0, .int .i64 0, .bool false] 23)) := Lib.hid (by rw [b1.block _ (Nat.lt_succ_self _)]; exact heap_alloc2_old _ _ _)
  have B1 : Hid (Below w.heap.size w w1) := Lib.hid (((Below.refl _ _).alloc (Nat.le_refl _) _).alloc (by simp) _ |>.trans (b1.mono (by simp)))
  clear f1 b1
  go_wp2_with fail
  refine (num_any _ _ _ _ F1.out (by decide)).mono ?_
  rw [E1.out]
  rintro e w2 ⟨rfl, f2, b2⟩
  have F2 := Lib.hid f2
  have R2 : Hid (w2.heap[w.heap.size]? = some (.cells #[.int .i64 0, .int .i64 0, .int .i64 0, .int .i64 0, .int .i64 0, .int .i64 0, .int .i64 0, .int .i64 0, .int .i64 0, .bool false] 23)) := Lib.hid (by rw [b2.block _ (Nat.lt_succ_self _)]; exact R1.out)
  have B2 : Hid (Below w.heap.size w w2) := Lib.hid (B1.out.trans (b2.mono (by simp)))
  clear f2 b2 F1 R1 B1
  go_wp2_with fail
  refine (num_any _ _ _ _ F2.out (by decide)).mono ?_
  rw [E2.out]
  rintro e w3 ⟨rfl, f3, b3⟩
  have F3 := Lib.hid f3
  have R3 : Hid (w3.heap[w.heap.size]? = some (.cells #[.int .i64 0, .int .i64 0, .int .i64 0, .int .i64 0, .int .i64 0, .int .i64 0, .int .i64 0, .int .i64 0, .int .i64 0, .bool false] 23)) := Lib.hid (by rw [b3.block _ (Nat.lt_succ_self _)]; exact R2.out)
  have B3 : Hid (Below w.heap.size w w3) := Lib.hid (B2.out.trans (b3.mono (by simp)))
  clear f3 b3 F2 R2 B2
  go_wp2_with fail
  refine (num_any _ _ _ _ F3.out (by decide)).mono ?_
  rw [E3.out]
  rintro e w4 ⟨rfl, f4, b4⟩
  have F4 := Lib.hid f4
  have R4 : Hid (w4.heap[w.heap.size]? = some (.cells #[.int .i64 0, .int .i64 0, .int .i64 0, .int .i64 0, .int .i64 0, .int .i64 0, .int .i64 0, .int .i64 0, .int .i64 0, .bool false] 23)) := Lib.hid (by rw [b4.block _ (Nat.lt_succ_self _)]; exact R3.out)
  have B4 : Hid (Below w.heap.size w w4) := Lib.hid (B3.out.trans (b4.mono (by simp)))
  clear f4 b4 F3 R3 B3
  go_wp2_with fail
  refine (num_any _ _ _ _ F4.out (by decide)).mono ?_
  rw [E4.out]
  rintro e w5 ⟨rfl, f5, b5⟩
  have F5 := Lib.hid f5
  have R5 : Hid (w5.heap[w.heap.size]? = some (.cells #[.int .i64 0, .int .i64 0, .int .i64 0, .int .i64 0, .int .i64 0, .int .i64 0, .int .i64 0, .int .i64 0, .int .i64 0, .bool false] 23)) := Lib.hid (by rw [b5.block _ (Nat.lt_succ_self _)]; exact R4.out)
  have B5 : Hid (Below w.heap.size w w5) := Lib.hid (B4.out.trans (b5.mono (by simp)))
  clear f5 b5 F4 R4 B4
  go_wp2_with fail
  refine (num_any _ _ _ _ F5.out (by decide)).mono ?_
  rw [E5.out]
  rintro e w6 ⟨rfl, f6, b6⟩
  have F6 := Lib.hid f6
  have R6 : Hid (w6.heap[w.heap.size]? = some (.cells #[.int .i64 0, .int .i64 0, .int .i64 0, .int .i64 0, .int .i64 0, .int .i64 0, .int .i64 0, .int .i64 0, .int .i64 0, .bool false] 23)) := Lib.hid (by rw [b6.block _ (Nat.lt_succ_self _)]; exact R5.out)
  have B6 : Hid (Below w.heap.size w w6) := Lib.hid (B5.out.trans (b6.mono (by simp)))
  clear f6 b6 F5 R5 B5
  go_wp2_with fail
  refine (num_any _ _ _ _ F6.out (by decide)).mono ?_
  rw [E6.out]
  rintro e w7 ⟨rfl, f7, b7⟩
  have F7 := Lib.hid f7
  have R7 : Hid (w7.heap[w.heap.size]? = some (.cells #[.int .i64 0, .int .i64 0, .int .i64 0, .int .i64 0, .int .i64 0, .int .i64 0, .int .i64 0, .int .i64 0, .int .i64 0, .bool false] 23)) := Lib.hid (by rw [b7.block _ (Nat.lt_succ_self _)]; exact R6.out)
  have B7 : Hid (Below w.heap.size w w7) := Lib.hid (B6.out.trans (b7.mono (by simp)))
  clear f7 b7 F6 R6 B6
  go_wp2_with fail
  refine (num_any _ _ _ _ F7.out (by decide)).mono ?_
  rw [E7.out]
  rintro e w8 ⟨rfl, f8, b8⟩
  have F8 := Lib.hid f8
  have R8 : Hid (w8.heap[w.heap.size]? = some (.cells #[.int .i64 0, .int .i64 0, .int .i64 0, .int .i64 0, .int .i64 0, .int .i64 0, .int .i64 0, .int .i64 0, .int .i64 0, .bool false] 23)) := Lib.hid (by rw [b8.block _ (Nat.lt_succ_self _)]; exact R7.out)
  have B8 : Hid (Below w.heap.size w w8) := Lib.hid (B7.out.trans (b8.mono (by simp)))
  clear f8 b8 F7 R7 B7
  go_wp2_with fail
  refine (num_any _ _ _ _ F8.out (by decide)).mono ?_
  rw [E8.out]
  rintro e w9 ⟨rfl, f9, b9⟩
  have F9 := Lib.hid f9
  have R9 : Hid (w9.heap[w.heap.size]? = some (.cells #[.int .i64 0, .int .i64 0, .int .i64 0, .int .i64 0, .int .i64 0, .int .i64 0, .int .i64 0, .int .i64 0, .int .i64 0, .bool false] 23)) := Lib.hid (by rw [b9.block _ (Nat.lt_succ_self _)]; exact R8.out)
  have B9 : Hid (Below w.heap.size w w9) := Lib.hid (B8.out.trans (b9.mono (by simp)))
  clear f9 b9 F8 R8 B8
  go_wp2_with fail
  refine (wrote_cap _ _ _ _ _ _ _ _ _ _ _ _).mono ?_
  rw [H.out]
  rintro e wz ⟨rfl, bz⟩
  have hlt : w.heap.size < w9.heap.size := (Array.getElem?_eq_some_iff.1 R9.out).1
  have X4 : Hid (wz.heap[w9.heap.size]? = some (.cells #[.int .i64 id, .int .i64 n0, .int .i64 n1, .int .i64 n2, .int .i64 n3, .int .i64 n4, .int .i64 n5, .int .i64 n6, .int .i64 n7, .bool (n8 == 1)] 23)) := Lib.hid (by rw [bz.block _ (by simp)]; exact heap_alloc_new _ _)
  have d0 : wz.cell? ⟨w9.heap.size, 0, none⟩ = some (.int .i64 id) := by rw [Go.Joins.cell_of_block X4.out]; rfl
  have d1 : wz.cell? ⟨w9.heap.size, 1, none⟩ = some (.int .i64 n0) := by rw [Go.Joins.cell_of_block X4.out]; rfl
  have d2 : wz.cell? ⟨w9.heap.size, 2, none⟩ = some (.int .i64 n1) := by rw [Go.Joins.cell_of_block X4.out]; rfl
  have d3 : wz.cell? ⟨w9.heap.size, 3, none⟩ = some (.int .i64 n2) := by rw [Go.Joins.cell_of_block X4.out]; rfl
  have d4 : wz.cell? ⟨w9.heap.size, 4, none⟩ = some (.int .i64 n3) := by rw [Go.Joins.cell_of_block X4.out]; rfl
  have d5 : wz.cell? ⟨w9.heap.size, 5, none⟩ = some (.int .i64 n4) := by rw [Go.Joins.cell_of_block X4.out]; rfl
  have d6 : wz.cell? ⟨w9.heap.size, 6, none⟩ = some (.int .i64 n5) := by rw [Go.Joins.cell_of_block X4.out]; rfl
  have d7 : wz.cell? ⟨w9.heap.size, 7, none⟩ = some (.int .i64 n6) := by rw [Go.Joins.cell_of_block X4.out]; rfl
  have d8 : wz.cell? ⟨w9.heap.size, 8, none⟩ = some (.int .i64 n7) := by rw [Go.Joins.cell_of_block X4.out]; rfl
  have d9 : wz.cell? ⟨w9.heap.size, 9, none⟩ = some (.bool (n8 == 1)) := by rw [Go.Joins.cell_of_block X4.out]; rfl
  have RZ : wz.heap[w.heap.size]? = some (.cells #[.int .i64 0, .int .i64 0, .int .i64 0, .int .i64 0, .int .i64 0, .int .i64 0, .int .i64 0, .int .i64 0, .int .i64 0, .bool false] 23) := by
    rw [bz.block _ (by simp; omega), Below.heap_alloc w9 _ _ hlt]; exact R9.out
  have BZ : Hid (Below w.heap.size w wz) := Lib.hid ((B9.out.alloc (Nat.le_of_lt hlt) _).trans (bz.mono (by simp; omega)))
  have c0 : wz.cell? ⟨w.heap.size, 0, none⟩ = some (.int .i64 0) := by rw [Go.Joins.cell_of_block RZ]; rfl
  have c1 : wz.cell? ⟨w.heap.size, 1, none⟩ = some (.int .i64 0) := by rw [Go.Joins.cell_of_block RZ]; rfl
  have c2 : wz.cell? ⟨w.heap.size, 2, none⟩ = some (.int .i64 0) := by rw [Go.Joins.cell_of_block RZ]; rfl
  have c3 : wz.cell? ⟨w.heap.size, 3, none⟩ = some (.int .i64 0) := by rw [Go.Joins.cell_of_block RZ]; rfl
  have c4 : wz.cell? ⟨w.heap.size, 4, none⟩ = some (.int .i64 0) := by rw [Go.Joins.cell_of_block RZ]; rfl
  have c5 : wz.cell? ⟨w.heap.size, 5, none⟩ = some (.int .i64 0) := by rw [Go.Joins.cell_of_block RZ]; rfl
  have c6 : wz.cell? ⟨w.heap.size, 6, none⟩ = some (.int .i64 0) := by rw [Go.Joins.cell_of_block RZ]; rfl
  have c7 : wz.cell? ⟨w.heap.size, 7, none⟩ = some (.int .i64 0) := by rw [Go.Joins.cell_of_block RZ]; rfl
  have c8 : wz.cell? ⟨w.heap.size, 8, none⟩ = some (.int .i64 0) := by rw [Go.Joins.cell_of_block RZ]; rfl
  have c9 : wz.cell? ⟨w.heap.size, 9, none⟩ = some (.bool false) := by rw [Go.Joins.cell_of_block RZ]; rfl
  have f0 := Go.Joins.unfrozen_of_block RZ 0
  have f1 := Go.Joins.unfrozen_of_block RZ 1
  have f2 := Go.Joins.unfrozen_of_block RZ 2
  have f3 := Go.Joins.unfrozen_of_block RZ 3
  have f4 := Go.Joins.unfrozen_of_block RZ 4
  have f5 := Go.Joins.unfrozen_of_block RZ 5
  have f6 := Go.Joins.unfrozen_of_block RZ 6
  have f7 := Go.Joins.unfrozen_of_block RZ 7
  have f8 := Go.Joins.unfrozen_of_block RZ 8
  have f9 := Go.Joins.unfrozen_of_block RZ 9
  have RX := Lib.hid (setN_heap w.heap.size 23 (0, 0) [.int .i64 id, .int .i64 n0, .int .i64 n1, .int .i64 n2, .int .i64 n3, .int .i64 n4, .int .i64 n5, .int .i64 n6, .int .i64 n7, .bool (n8 == 1)] wz 0 _ RZ rfl)
  have BX := Lib.hid (setN_below w.heap.size (Nat.le_refl _) [.int .i64 id, .int .i64 n0, .int .i64 n1, .int .i64 n2, .int .i64 n3, .int .i64 n4, .int .i64 n5, .int .i64 n6, .int .i64 n7, .bool (n8 == 1)] wz 0 BZ.out)
  clear bz R9 B9 F9 RZ BZ X4
  go_wp2_with fail
  exact bodyPost_ret (v := .tuple #[.agg #[.int .i64 id, .int .i64 n0, .int .i64 n1, .int .i64 n2, .int .i64 n3, .int .i64 n4, .int .i64 n5, .int .i64 n6, .int .i64 n7, .bool (n8 == 1)], .int .i64 0]) (results_row_tmp Try.results12 _ _ w.heap.size 23 _ (0, 0) _ _ rfl rfl RX.out Try.underlying23 rfl size_cap) rfl ⟨rfl, BX.out⟩
/-- What TakeCap answers. -/
def tcapV (id : Int) (s : ByteArray) : Value := if tcapOk id s = true then .agg #[.int .i64 id, .int .i64 (tcap0 s), .int .i64 (tcap1 s), .int .i64 (tcap2 s), .int .i64 (tcap3 s), .int .i64 (tcap4 s), .int .i64 (tcap5 s), .int .i64 (tcap6 s), .int .i64 (tcap7 s), .bool (tcap8 s == 1)] else .agg #[.int .i64 0, .int .i64 0, .int .i64 0, .int .i64 0, .int .i64 0, .int .i64 0, .int .i64 0, .int .i64 0, .int .i64 0, .bool false]
theorem takeCap_any (id : Int) (s : ByteArray) (w : World) :
    Calls Try.prog 12 #[.int .i64 id, .string s] w fun e w' => e = .returned (.tuple #[tcapV id s, .int .i64 (okE (tcapOk id s) 2)]) ∧ Below w.heap.size w w' := by
  cases h : tcapOk id s
  · have := takeCap_no id s w h
    simpa [tcapV, okE, h] using this
  · have := takeCap_yes id s w h
    simpa [tcapV, okE, h] using this
end Go.Proofs.Ytlbnakoaflladaa
